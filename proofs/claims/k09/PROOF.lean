import PyProof.Rows.All
import Wide.All
import OpenK.AllK
import Wide.FinOn
import Lean
import PyProof.EqAt
import PyProof.EqKinds
import PyProof.TupleCall
import PyProof.ZipIter
import PyProof.TupleIter
import PyProof.CompUse
import KE.KRevIter
import KE.KIntText
import PyProof.FString
import PyProof.Rows.StrNews2
import PyProof.Rows.StrSplitCount
import PyProof.Rows.StrClose3
import KE.IntTextText
import PyProof.StrLawsTight
import PyProof.StationsW
import PyProof.PassesOwn
import PyProof.ExcInit
import PyProof.ExcBaseAll.ValueError
import PyProof.InstStoreFacts
import KE.KIsNot
import PyProof.ExcArgs
import PyProof.RulesAs
import KE.KEqDict
import PyProof.NsDelKeeps
import KE.KListMore
import PyProof.ReprRoads
import PyProof.ReprLen
import PyProof.MeetsStr3
import PyProof.StrOps2
import PyProof.Rows.InDataRows
import PySem.Challenge.RW_foldlog_k09_refusals_apart
set_option maxHeartbeats 4000000
set_option Elab.async false
set_option linter.all false
set_option maxRecDepth 100000
namespace L2
open PySem PySem.Spec PyProof.Rows
noncomputable abbrev Key := Sum Int Str
noncomputable def keyIs : Key → Value → Bool
  | .inl k, v => Value.isInt k v
  | .inr x, v => Value.isStrOf x v
noncomputable def keyH (w : World) : Key → Int
  | .inl k => hashInt k
  | .inr x => hashStr w x
theorem keyIs_shape : ∀ {k : Key} {v : Value}, keyIs k v = true → (∃ i t, k = Sum.inl i ∧ v = Value.int i t) ∨ (∃ x t, k = Sum.inr x ∧ v = Value.str x t)
  | .inl i, v, h => by
    obtain ⟨t, e⟩ := Value.isInt_shape (k := i) (v := v) h
    exact .inl ⟨i, t, rfl, e⟩
  | .inr x, v, h => by
    obtain ⟨t, e⟩ := Value.isStrOf_shape (x := x) (v := v) h
    exact .inr ⟨x, t, rfl, e⟩
theorem keyIs_int (i : Int) (t : Tok) : keyIs (.inl i) (.int i t) = true := by simp [keyIs, Value.isInt]
theorem keyIs_str (x : Str) (t : Tok) : keyIs (.inr x) (.str x t) = true := by simp [keyIs, Value.isStrOf]
theorem key_ll (a b : Int) : decide ((Sum.inl a : Key) = Sum.inl b) = (a == b) := by
  by_cases e : a = b
  · subst e; simp
  · have h : ¬ (Sum.inl a : Key) = Sum.inl b := fun q => e (Sum.inl.inj q)
    rw [decide_eq_false h]
    exact (beq_eq_false_iff_ne.mpr e).symm
theorem key_rr (a b : Str) : decide ((Sum.inr a : Key) = Sum.inr b) = decide (a = b) := by
  by_cases e : a = b
  · subst e; simp
  · have h : ¬ (Sum.inr a : Key) = Sum.inr b := fun q => e (Sum.inr.inj q)
    rw [decide_eq_false h, decide_eq_false e]
theorem key_lr (a : Int) (b : Str) : decide ((Sum.inl a : Key) = Sum.inr b) = false := decide_eq_false (fun q => nomatch q)
theorem key_rl (a : Str) (b : Int) : decide ((Sum.inr a : Key) = Sum.inl b) = false := decide_eq_false (fun q => nomatch q)
noncomputable def mixKind (prog : Program) (w : World) : PySem.KeyKind prog w Key where
  is := keyIs
  hash := keyH w
  inj := fun v a b ha hb => by
    rcases keyIs_shape ha with ⟨i, t, rfl, rfl⟩ | ⟨x, t, rfl, rfl⟩
    · rcases keyIs_shape hb with ⟨j, u, rfl, e⟩ | ⟨y, u, rfl, e⟩
      · injection e with e1 _; rw [e1]
      · exact nomatch e
    · rcases keyIs_shape hb with ⟨j, u, rfl, e⟩ | ⟨y, u, rfl, e⟩
      · exact nomatch e
      · injection e with e1 _; rw [e1]
  byValue := fun k v h => by
    rcases keyIs_shape h with ⟨i, t, rfl, rfl⟩ | ⟨x, t, rfl, rfl⟩ <;> rfl
  pyHash := fun hv h => by
    rcases keyIs_shape hv with ⟨i, t, rfl, rfl⟩ | ⟨x, t, rfl, rfl⟩
    · exact wpAny_pyHash_int h
    · exact wpAny_pyHash_str h
  eqBool := fun hu hv h => by
    rcases keyIs_shape hu with ⟨i, t, rfl, rfl⟩ | ⟨x, t, rfl, rfl⟩
    · rcases keyIs_shape hv with ⟨j, u, rfl, rfl⟩ | ⟨y, u, rfl, rfl⟩
      · rw [key_ll] at h; exact wpAny_eqBool_int h
      · rw [key_lr] at h; exact SeqAt.EqAt.int_str i t y u _ _ _ _ h
    · rcases keyIs_shape hv with ⟨j, u, rfl, rfl⟩ | ⟨y, u, rfl, rfl⟩
      · rw [key_rl] at h; exact SeqAt.EqAt.str_int x t j u _ _ _ _ h
      · rw [key_rr] at h; exact wpAny_eqBool_str h
  «strs» := fun k x t v h => by
    rcases keyIs_shape h with ⟨i, u, rfl, e⟩ | ⟨y, u, rfl, e⟩
    · exact nomatch e
    · injection e with e1 _
      subst e1
      cases v <;> rfl
theorem mixKind_int (prog : Program) (w : World) (i : Int) (t : Tok) : (mixKind prog w).is (.inl i) (.int i t) = true := keyIs_int i t
theorem mixKind_str (prog : Program) (w : World) (x : Str) (t : Tok) : (mixKind prog w).is (.inr x) (.str x t) = true := keyIs_str x t
end L2
namespace L2
open PySem PySem.Spec PyProof.Rows
inductive V where
  | non | bl (b : Bool) | int (i : Int) | str (x : Str) | byt (b : Array UInt8) | flt (b : UInt64) | ref (a : Addr) | ty (n : String)
  deriving DecidableEq
noncomputable def RelV : V → Value → Prop
  | .non, u => u = Value.none
  | .bl b, u => u = Value.bool b
  | .int i, u => ∃ t, u = Value.int i t
  | .str x, u => ∃ t, u = Value.str x t
  | .byt b, u => ∃ t, u = Value.bytes b t
  | .flt b, u => ∃ t, u = Value.float b t
  | .ref a, u => u = Value.ref a
  | .ty n, u => u = Value.type n
noncomputable abbrev Vals : List V → List Value → Prop := Paired RelV
theorem Vals.length {xs : List V} {us : List Value} (r : Vals xs us) : xs.length = us.length := Paired.length r
theorem Vals.get : ∀ {xs : List V} {us : List Value} {i : Nat} {x : V}, Vals xs us → xs[i]? = some x → ∃ u, us[i]? = some u ∧ RelV x u
  | _, _, _, _, .nil, e => by simp at e
  | _, _, 0, _, .cons r _, e => by simp at e; subst e; exact ⟨_, rfl, r⟩
  | _, _, i + 1, x, .cons _ t, e => by
    obtain ⟨u, h1, h2⟩ := Vals.get (i := i) (x := x) t (by simpa using e)
    exact ⟨u, by simpa using h1, h2⟩
theorem Vals.set {x : V} {u : Value} (r : RelV x u) : ∀ {xs : List V} {us : List Value} (i : Nat), Vals xs us → Vals (xs.set i x) (us.set i u)
  | _, _, _, .nil => .nil
  | _, _, 0, .cons _ t => .cons r t
  | _, _, i + 1, .cons q t => .cons q (Vals.set r i t)
theorem Vals.append : ∀ {xs ys : List V} {us ws : List Value}, Vals xs us → Vals ys ws → Vals (xs ++ ys) (us ++ ws)
  | _, _, _, _, .nil, s => s
  | _, _, _, _, .cons r t, s => .cons r (Vals.append t s)
theorem Vals.take : ∀ {xs : List V} {us : List Value} (n : Nat), Vals xs us → Vals (xs.take n) (us.take n)
  | _, _, 0, _ => .nil
  | _, _, _ + 1, .nil => .nil
  | _, _, n + 1, .cons r t => .cons r (Vals.take n t)
theorem Vals.drop : ∀ {xs : List V} {us : List Value} (n : Nat), Vals xs us → Vals (xs.drop n) (us.drop n)
  | _, _, 0, r => r
  | _, _, _ + 1, .nil => .nil
  | _, _, n + 1, .cons _ t => Vals.drop n t
noncomputable def RelO : Option V → Option Value → Prop
  | some v, some u => RelV v u
  | none, none => True
  | _, _ => False
noncomputable def KV {κ : Type} : List (κ × V) → List (κ × Value) → Prop := Paired fun (p : κ × V) (q : κ × Value) => p.1 = q.1 ∧ RelV p.2 q.2
noncomputable def kV : Key → V
  | .inl i => .int i
  | .inr x => .str x
inductive HO where
    | lst (xs : List V)
    | tup (xs : List V)
    | dK (kvs : List (Key × V)) | dT (kvs : List (List Key × V))
    | set (S : Int → Bool) (n : Nat)
    | ins (C dx : Addr) (fs : List (Str × V))
    | own (x : Addr)
    | xd (fs : List (Str × V))
    | met (f x : Addr)
    | rng (lo hi : Int)
    | frz (o : Obj) (u : HO)
    | tbl (ps : Array Value)
    | ext (φ : Heap → Prop)
noncomputable abbrev Hp := Addr → Option HO
noncomputable def upd (H : Hp) (a : Addr) (o : HO) : Hp := fun b => if b = a then some o else H b
theorem upd_same {H : Hp} {a : Addr} {o : HO} : upd H a o a = some o := by unfold upd; rw [if_pos rfl]
theorem upd_ne {H : Hp} {a b : Addr} {o : HO} (h : b ≠ a) : upd H a o b = H b := by unfold upd; rw [if_neg h]
theorem upd_upd {H : Hp} {a : Addr} {o u : HO} : upd (upd H a o) a u = upd H a u := by
  funext b; unfold upd; split <;> rfl
theorem ne_of {H : Hp} {a b : Addr} {o u : HO} (h : H a = some o) (h' : H b = some u) (d : o ≠ u) : a ≠ b := by
  intro e; subst e; rw [h] at h'; exact d (Option.some.inj h')
theorem ne_of_none {H : Hp} {a b : Addr} {o : HO} (h : H a = some o) (h' : H b = none) : a ≠ b := by
  intro e; subst e; rw [h] at h'; cases h'
section
variable (P : Program) (w : World)
noncomputable def ObjOk (H : Hp) (h : Heap) (a : Addr) : HO → Prop
  | .lst xs => xs.length ≤ sizeLine ∧ ∃ (its : List Value) (n : Nat), Vals xs its ∧ h.get? a = some { cls := .type "list", data := .seq its.toArray n }
  | .tup xs => xs.length ≤ sizeLine ∧ ∃ its : List Value, Vals xs its ∧ IsTup h a its.toArray
  | .dK kvs => kvs.length ≤ sizeLine ∧ (a == sysModules) = false ∧ ∃ vs, KV kvs vs ∧ h.DictOf (mixKind P w) a vs
  | .dT kvs => kvs.length ≤ sizeLine ∧ (a == sysModules) = false ∧ ∃ xs : List (List Key × Addr × Value),
      Paired (fun (p : List Key × V) (q : List Key × Addr × Value) => p.1 = q.1 ∧ H q.2.1 = some (.tup (p.1.map kV)) ∧ RelV p.2 q.2.2) kvs xs ∧
      ∃ o es ep, h.get? a = some o ∧ o.ExactDict ∧ o.data = .dict es ep ∧ es.toList = xs.map (entryOfKey (tupleKind (mixKind P w))) ∧ (xs.map (·.1)).Nodup
  | .set S n => h.SetOf (intKind P w) a S n
  | .ins C dx fs => H dx = some (.own a) ∧ fs.length ≤ 1000 ∧ dx ≠ a ∧ h.get? a = some (PySem.W.instObj C dx) ∧
      ∃ mA, h.Ns1 dx mA ∧ (∀ f, RelO (fs.lookup f) (mA f)) ∧ PySem.Within mA (fs.map (·.1))
  | .own _ => ∃ o, h.get? a = some o
  | .xd fs => ∃ mA, h.Ns1 a mA ∧ ∀ f, RelO (fs.lookup f) (mA f)
  | .rng lo hi => ∃ t u v, h.get? a = some { cls := .type "range", data := .fields #[.int lo t, .int hi u, .int 1 v] }
  | .frz o u => h.get? a = some o ∧ ObjOk H h a u
  | .tbl ps => h.get? a = some { cls := .none, data := .fields ps }
  | .met f x => h.get? a = some (PySem.W.methodObj (.ref f) (.ref x))
  | .ext φ => φ h ∧ (∃ o, h.get? a = some o) ∧ ∀ h1 h2 : Heap, φ h1 → (∀ o, h1.get? a = some o → h2.get? a = some o) → φ h2
noncomputable def HOk (H : Hp) (h : Heap) : Prop := ∀ a o, H a = some o → ObjOk P w H h a o
end
section
variable {P : Program} {w : World} {H H' : Hp} {h h' : Heap} {a : Addr} {o : HO}
theorem ObjOk.lt (x : ObjOk P w H h a o) : a < h.objs.size := by
  cases o with
  | lst xs => obtain ⟨_, _, _, _, e⟩ := x; exact Heap.lt_size e
  | tup xs => obtain ⟨_, _, _, p⟩ := x; exact p.lt
  | dK kvs => obtain ⟨_, _, _, _, o, _, _, e, _⟩ := x; exact Heap.lt_size e
  | dT kvs => obtain ⟨_, _, _, _, o, _, _, e, _⟩ := x; exact Heap.lt_size e
  | set S n => obtain ⟨o, _, _, _, e, _⟩ := x; exact Heap.lt_size e
  | ins C dx fs => obtain ⟨_, _, _, e, _⟩ := x; exact Heap.lt_size e
  | own y => obtain ⟨_, e⟩ := x; exact Heap.lt_size e
  | xd fs => obtain ⟨_, ⟨_, _, _, e, _⟩, _⟩ := x; exact Heap.lt_size e
  | rng lo hi => obtain ⟨_, _, _, e⟩ := x; exact Heap.lt_size e
  | frz ob u => obtain ⟨e, _⟩ := x; exact Heap.lt_size e
  | tbl ps => exact Heap.lt_size (show h.get? a = some _ from x)
  | met f y => exact Heap.lt_size (show h.get? a = some _ from x)
  | ext φ => obtain ⟨_, ⟨_, e⟩, _⟩ := x; exact Heap.lt_size e
theorem Paired.mapP {α β : Type} {F G : α → β → Prop} : ∀ {l₁ : List α} {l₂ : List β}, Paired F l₁ l₂ → (∀ a b, F a b → G a b) → Paired G l₁ l₂
  | _, _, .nil, _ => .nil
  | _, _, .cons r t, f => .cons (f _ _ r) (Paired.mapP t f)
theorem ObjOk.stay (x : ObjOk P w H h a o) (k : ∀ b u, (b = a ∨ H b = some (.own a)) → h.get? b = some u → h'.get? b = some u)
    (ho : ∀ b, H b = some (.own a) → H' b = some (.own a)) (ht : ∀ b xs, H b = some (.tup xs) → H' b = some (.tup xs)) : ObjOk P w H' h' a o := by
  induction o with
  | lst xs => obtain ⟨z, its, n, r, e⟩ := x; exact ⟨z, its, n, r, k _ _ (.inl rfl) e⟩
  | tup xs => obtain ⟨z, its, r, ob, e, c⟩ := x; exact ⟨z, its, r, ob, k _ _ (.inl rfl) e, c⟩
  | dK kvs => obtain ⟨z, y, vs, r, ob, es, ep, e, c⟩ := x; exact ⟨z, y, vs, r, ob, es, ep, k _ _ (.inl rfl) e, c⟩
  | dT kvs =>
    obtain ⟨z, y, xs, r, ob, es, ep, e, c⟩ := x
    exact ⟨z, y, xs, Paired.mapP r fun p q z => ⟨z.1, ht _ _ z.2.1, z.2.2⟩, ob, es, ep, k _ _ (.inl rfl) e, c⟩
  | set S n => obtain ⟨ob, es, ep, t, e, c⟩ := x; exact ⟨ob, es, ep, t, k _ _ (.inl rfl) e, c⟩
  | ins C dx fs =>
    obtain ⟨d, z, ne, e, mA, ⟨od, es, ep, e2, c⟩, r⟩ := x
    exact ⟨ho _ d, z, ne, k _ _ (.inl rfl) e, mA, ⟨od, es, ep, k _ _ (.inr d) e2, c⟩, r⟩
  | own y => obtain ⟨ob, e⟩ := x; exact ⟨ob, k _ _ (.inl rfl) e⟩
  | xd fs => obtain ⟨mA, ⟨od, es, ep, e, c⟩, r⟩ := x; exact ⟨mA, ⟨od, es, ep, k _ _ (.inl rfl) e, c⟩, r⟩
  | rng lo hi => obtain ⟨t, u, v, e⟩ := x; exact ⟨t, u, v, k _ _ (.inl rfl) e⟩
  | frz ob u ih => obtain ⟨e, q⟩ := x; exact ⟨k _ _ (.inl rfl) e, ih q⟩
  | tbl ps =>
    have e : h.get? a = some { cls := .none, data := .fields ps } := x
    show h'.get? a = some { cls := .none, data := .fields ps }
    exact k a _ (.inl rfl) e
  | met f y =>
    have e : h.get? a = some (PySem.W.methodObj (.ref f) (.ref y)) := x
    show h'.get? a = some (PySem.W.methodObj (.ref f) (.ref y))
    exact k a _ (.inl rfl) e
  | ext φ => obtain ⟨p, ⟨o, e⟩, st⟩ := x; exact ⟨st _ _ p fun o q => k _ _ (.inl rfl) q, ⟨o, k _ _ (.inl rfl) e⟩, st⟩
theorem HOk.lt (x : HOk P w H h) (e : H a = some o) : a < h.objs.size := (x a o e).lt
theorem HOk.fresh (x : HOk P w H h) (e : h.objs.size ≤ a) : H a = none := by
  cases q : H a with
  | none => rfl
  | some u => exact absurd (Nat.lt_of_lt_of_le (x.lt q) e) (Nat.lt_irrefl _)
theorem HOk.kept (x : HOk P w H h) (k : ∀ b u, h.get? b = some u → h'.get? b = some u) : HOk P w H h' := fun a o e =>
  (x a o e).stay (fun b u _ q => k b u q) (fun _ q => q) fun _ _ q => q
theorem HOk.laid (x : HOk P w H h) (k : ∀ b u, h.get? b = some u → h'.get? b = some u) (hp : h.objs.size ≤ a) (new : ObjOk P w (upd H a o) h' a o) : HOk P w (upd H a o) h' := fun b u e => by
  have hn := x.fresh hp
  by_cases hb : b = a
  · subst hb; rw [upd_same] at e; cases e; exact new
  · rw [upd_ne hb] at e
    exact (x b u e).stay (fun c v _ q => k c v q) (fun c q => by rw [upd_ne (ne_of_none q hn)]; exact q) fun c xs q => by rw [upd_ne (ne_of_none q hn)]; exact q
end
noncomputable def Rd (H : Hp) (a : Addr) (u : HO) : Prop := H a = some u ∨ ∃ o, H a = some (.frz o u)
theorem Rd.ok {P : Program} {w : World} {H : Hp} {h : Heap} {a : Addr} {u : HO} (r : Rd H a u) (x : HOk P w H h) : ObjOk P w H h a u := by
  rcases r with r | ⟨o, r⟩
  · exact x a u r
  · obtain ⟨_, q⟩ := x a _ r
    exact q
noncomputable def Mut : Option HO → Prop
  | some (.lst _) => True
  | some (.dK _) => True
  | some (.dT _) => True
  | some (.set _ _) => True
  | some (.ins _ _ _) => True
  | some (.ext _) => True
  | _ => False
section
variable {P : Program} {w : World} {H : Hp} {h h' : Heap} {x e : Addr} {o' : HO}
theorem HOk.write (ok : HOk P w H h) (mu : Mut (H x)) (he : e = x ∨ H e = some (.own x)) (k : ∀ b u, b ≠ e → h.get? b = some u → h'.get? b = some u) (heo : ∃ u, h'.get? e = some u)
    (new : ObjOk P w (upd H x o') h' x o') : HOk P w (upd H x o') h' := fun b u q => by
  have nown : ∀ c y, H c = some (.own y) → c ≠ x := fun c y r z => by subst z; rw [r] at mu; exact mu
  have ntup : ∀ c xs, H c = some (.tup xs) → c ≠ x := fun c xs r z => by subst z; rw [r] at mu; exact mu
  by_cases hb : b = x
  · subst hb; rw [upd_same] at q; cases q; exact new
  · rw [upd_ne hb] at q
    by_cases hbe : b = e
    · have q' : H b = some (.own x) := by
        rcases he with z | z
        · exact absurd (hbe.trans z) hb
        · rw [hbe]; exact z
      rw [q] at q'; cases q'
      obtain ⟨v, hv⟩ := heo
      exact ⟨v, by rw [hbe]; exact hv⟩
    · refine (ok b u q).stay (fun c v hc r => k c v ?_ r) (fun c r => by rw [upd_ne (nown c b r)]; exact r) fun c xs r => by rw [upd_ne (ntup c xs r)]; exact r
      rcases hc with rfl | hc
      · exact hbe
      · rintro rfl
        rcases he with z | z
        · exact nown c b hc z
        · rw [hc] at z; cases z; exact hb rfl
end
structure Un (fs ex : List Addr) (H H' : Hp) (h h' : Heap) : Prop where
  keep : ∀ b o, h.get? b = some o → H b = none → b ∉ fs → b ∉ ex → h'.get? b = some o
  slot : ∀ b o, h.get? b = some o → H b = none → b ∈ fs → b ∉ ex → ∃ sl, h'.get? b = some { o with slots := sl }
  free : ∀ b o, h.get? b = some o → H b = none → b ∉ ex → H' b = none
  there : ∀ b o, h.get? b = some o → b ∉ ex → ∃ o', h'.get? b = some o'
  tups : ∀ b xs, H b = some (.tup xs) → H' b = some (.tup xs)
  frzs : ∀ b o u, H b = some (.frz o u) → H' b = some (.frz o u)
  tbls : ∀ b ps, H b = some (.tbl ps) → ∃ more, H' b = some (.tbl (ps ++ more))
section
variable {fs fs' ex ex' : List Addr} {H H1 H2 : Hp} {h h1 h2 h' : Heap} {a x e : Addr} {o : HO}
theorem Un.any (u : Un fs ex H H1 h h1) {b : Addr} {ob : Obj} (q : h.get? b = some ob) (n : H b = none) (hx : b ∉ ex) : ∃ sl, h1.get? b = some { ob with slots := sl } := by
  by_cases hb : b ∈ fs
  · exact u.slot b ob q n hb hx
  · exact ⟨ob.slots, u.keep b ob q n hb hx⟩
theorem Un.kept (k : ∀ b u, h.get? b = some u → h'.get? b = some u) : Un fs ex H H h h' :=
  ⟨fun b ob q _ _ _ => k b ob q, fun b ob q _ _ _ => ⟨ob.slots, k b ob q⟩, fun _ _ _ n _ => n, fun b ob q _ => ⟨ob, k b ob q⟩, fun _ _ q => q, fun _ _ _ q => q, fun _ ps q => ⟨#[], by rw [q]; simp⟩⟩
theorem Un.refl : Un fs ex H H h h := Un.kept fun _ _ q => q
theorem Un.laid (k : ∀ b u, h.get? b = some u → h'.get? b = some u) (hp : h.objs.size ≤ a) (hn : H a = none) : Un fs ex H (upd H a o) h h' where
  keep := fun b u q _ _ _ => k b u q
  slot := fun b u q _ _ _ => ⟨u.slots, k b u q⟩
  free := fun b u q n _ => by rw [upd_ne (Nat.ne_of_lt (Nat.lt_of_lt_of_le (Heap.lt_size q) hp))]; exact n
  there := fun b u q _ => ⟨u, k b u q⟩
  tups := fun b xs q => by rw [upd_ne (ne_of_none q hn)]; exact q
  frzs := fun b u xs q => by rw [upd_ne (ne_of_none q hn)]; exact q
  tbls := fun b ps q => ⟨#[], by rw [upd_ne (ne_of_none q hn), q]; simp⟩
theorem Un.write (mu : Mut (H x)) (he : e = x ∨ H e = some (.own x)) (k : ∀ b u, b ≠ e → h.get? b = some u → h'.get? b = some u) (heo : ∃ u, h'.get? e = some u) : Un fs ex H (upd H x o) h h' := by
  have hx : ∀ b, H b = none → b ≠ x := fun b n z => by subst z; rw [n] at mu; exact mu
  have hb : ∀ b, H b = none → b ≠ e := fun b n z => by
    subst z
    rcases he with r | r
    · exact hx b n r
    · rw [n] at r; cases r
  have hm : ∀ b u, H b = some u → ¬ Mut (some u) → b ≠ x := fun b u q nm z => by subst z; rw [q] at mu; exact nm mu
  refine ⟨fun b u q n _ _ => k b u (hb b n) q, fun b u q n _ _ => ⟨u.slots, k b u (hb b n) q⟩, fun b u q n _ => by rw [upd_ne (hx b n)]; exact n, fun b u q _ => ?_,
    fun b xs q => by rw [upd_ne (hm b _ q fun z => z)]; exact q, fun b u xs q => by rw [upd_ne (hm b _ q fun z => z)]; exact q, fun b ps q => ⟨#[], by rw [upd_ne (hm b _ q fun z => z), q]; simp⟩⟩
  by_cases hbe : b = e
  · subst hbe; exact heo
  · exact ⟨u, k b u hbe q⟩
end
noncomputable def trk (h : Heap) (H : Hp) : List Addr := (List.range h.objs.size).filter fun a => (H a).isSome
noncomputable def hidT (h : Heap) (H : Hp) : Heap := PySem.W.hideAll h (trk h H)
theorem hidT_size (h : Heap) (H : Hp) : (hidT h H).objs.size = h.objs.size := PySem.W.hideAll_size _ _
theorem hidT_get {h : Heap} {H : Hp} {b : Addr} {o : Obj} (e : h.get? b = some o) (n : H b = none) : (hidT h H).get? b = some o :=
  PySem.W.hideAll_get _ e fun hm => by
    have q : (H b).isSome = true := (List.mem_filter.mp hm).2
    rw [n] at q; simp at q
theorem of_hidT {h : Heap} {H : Hp} {b : Addr} {o : Obj} (e : (hidT h H).get? b = some o) : h.get? b = some o ∧ H b = none := by
  have e' : h.get? b = some o := PySem.W.of_hideAll (trk h H) e
  refine ⟨e', ?_⟩
  cases q : H b with
  | none => rfl
  | some x =>
    have hm : b ∈ trk h H := List.mem_filter.mpr ⟨List.mem_range.mpr (Heap.lt_size e'), by simp [q]⟩
    have z : (hidT h H).get? b = none := PySem.W.hideAll_none (trk h H) hm
    rw [z] at e; cases e
end L2
namespace L2
open PySem PySem.Spec PyProof.Rows
structure Mod (K : PySem.W.Frag) (mg : Str → Option Value) (base : Heap) : Prop where
  kin : K.In base
  glob : base.Ns mainGlobals mg
  blt : ∃ mb, base.Ns builtinsNs mb ∧ ∀ x : Str, x ≠ "__name__" → mb x = bootBuiltins x
  nolimit : base.NoLimit
structure Cx where
  prog : Program
  w : World
  K : PySem.W.Frag
  mg : Str → Option Value
  base : Heap
  A : Around
  N : List Str
  s₀ : Shared
  H₀ : Hp
  env : Env
  outer : List Env
  stack : List Env
  ex : List Addr
  fn : Str → Bool
  calm : Bool
  pn : List (Addr × Obj)
  xe : Value → Shared → Prop
noncomputable def frs (l : List Env) : List Addr := l.filterMap (·.frame)
noncomputable abbrev Cx.fs (X : Cx) : List Addr := frs X.outer
noncomputable def Vis (sc : Scope) (x : Str) : Prop := sc.names.lookup x = some .local ∨ sc.names.lookup x = some .cell ∨ sc.names.lookup x = some .free
noncomputable def Loc (sc : Scope) (x : Str) : Prop := sc.names.lookup x = some .local ∨ sc.names.lookup x = some .cell
noncomputable def Look (env : Env) (h : Heap) (m : Str → Option Value) (x : Str) (u : Value) : Prop :=
  (env.kindOf x = some .local ∧ m x = some u) ∨ ((env.kindOf x = some .cell ∨ env.kindOf x = some .free) ∧ ∃ c, env.cells.lookup x = some c ∧ h.IsCell c (some u))
structure Cx.Ok (X : Cx) : Prop where
  mod : Mod X.K X.mg X.base
  kind : X.env.scope.kind = .function
  glob : X.env.globals = mainGlobals
  blt : X.env.builtins = builtinsNs
  above : X.s₀.heap.objs.size ≤ X.env.locals
  inj : ∀ x y c, X.env.cells.lookup x = some c → X.env.cells.lookup y = some c → x = y
  has : ∀ x, (X.env.kindOf x = some .cell ∨ X.env.kindOf x = some .free) → ∃ c, X.env.cells.lookup x = some c
  cab : ∀ x c, X.fn x = true → X.env.cells.lookup x = some c → X.s₀.heap.objs.size ≤ c
  hd : X.calm = true → X.A.handled = none
  frames : X.A.frames = some X.stack
  stk : X.stack = X.outer ∨ (X.stack = X.env :: X.outer ∧ X.env.frame = some X.env.locals)
  exf : ∀ b ∈ X.ex, b ≠ X.env.locals ∧ ∀ x c, X.env.cells.lookup x = some c → c ≠ b
  bs : ∀ b o, X.base.get? b = some o → X.s₀.heap.get? b = some o ∧ X.H₀ b = none
  bsz : X.base.objs.size ≤ X.s₀.heap.objs.size
  noex : ∀ b o, X.base.get? b = some o → b ∉ X.ex
  exfs : ∀ b ∈ X.ex, b ∉ X.fs
  funs : X.s₀.heap.FunFrames X.base X.outer
  frf : ∀ b ∈ X.fs, X.H₀ b = none
structure Inv (X : Cx) (pins : List (Addr × Obj)) (σ : List (Option V)) (H : Hp) (s : Shared) : Prop where
  ok : X.Ok
  os : s.os = X.s₀.os
  bare : AllBare s.gens
  base : Un X.fs X.ex X.H₀ H X.s₀.heap s.heap
  loc : ∃ m, s.heap.Ns X.env.locals m ∧ ∀ (i : Nat) (x : Str) (v : V), X.N[i]? = some x → σ[i]? = some (some v) → Vis X.env.scope x → ∃ u, RelV v u ∧ Look X.env s.heap m x u
  cell : ∀ x c, X.env.cells.lookup x = some c → ∃ v, s.heap.IsCell c v
  free : H X.env.locals = none
  freeC : ∀ x c, X.env.cells.lookup x = some c → H c = none
  pin : ∀ p ∈ X.pn ++ pins, s.heap.get? p.1 = some p.2 ∧ H p.1 = none ∧ p.1 ≠ X.env.locals ∧ p.1 ∉ X.fs ∧ ∀ v, p.2.data ≠ .cell v
  hok : HOk X.prog X.w H s.heap
  len : σ.length = X.N.length
section
variable {X : Cx} {pins : List (Addr × Obj)} {σ : List (Option V)} {H H' : Hp} {s : Shared} {h' : Heap}
theorem Cx.Ok.nofr (ok : X.Ok) {b : Addr} {o : Obj} (e : X.base.get? b = some o) : b ∉ X.fs := fun hb => by
  have := (ok.funs.mem hb).1
  rw [e] at this; cases this
theorem Inv.bs (I : Inv X pins σ H s) : ∀ b o, X.base.get? b = some o → s.heap.get? b = some o ∧ H b = none := fun b o e =>
  ⟨I.base.keep b o (I.ok.bs b o e).1 (I.ok.bs b o e).2 (I.ok.nofr e) (I.ok.noex b o e), I.base.free b o (I.ok.bs b o e).1 (I.ok.bs b o e).2 (I.ok.noex b o e)⟩
theorem Inv.bk (I : Inv X pins σ H s) : ∀ b o, X.base.get? b = some o → s.heap.get? b = some o := fun b o e => (I.bs b o e).1
theorem Inv.mod (I : Inv X pins σ H s) : Mod X.K X.mg X.base := I.ok.mod
theorem Inv.kIn (I : Inv X pins σ H s) : X.K.In s.heap := I.ok.mod.kin.keeps I.bk
theorem Inv.fr (I : Inv X pins σ H s) : ∃ m, Fr X.base X.env.locals s.heap m :=
  let ⟨m, hn, _⟩ := I.loc
  ⟨m, hn, I.bk, Nat.le_trans I.ok.bsz I.ok.above⟩
theorem Inv.lt (I : Inv X pins σ H s) : X.env.locals < s.heap.objs.size := let ⟨_, hn, _⟩ := I.loc; hn.lt
theorem Inv.sz (I : Inv X pins σ H s) : X.s₀.heap.objs.size ≤ s.heap.objs.size := Nat.le_trans I.ok.above (Nat.le_of_lt I.lt)
theorem Inv.nofs (I : Inv X pins σ H s) {a : Addr} (h : s.heap.objs.size ≤ a) : a ∉ X.fs := fun hb => by
  obtain ⟨_, o, ho, _⟩ := I.ok.funs.mem hb
  exact absurd (Nat.lt_of_lt_of_le (Heap.lt_size ho) (Nat.le_trans I.sz h)) (Nat.lt_irrefl _)
theorem Inv.cne (I : Inv X pins σ H s) : ∀ x c, X.env.cells.lookup x = some c → c ≠ X.env.locals := fun x c e z => by
  obtain ⟨v, o, ho, hd⟩ := I.cell x c e
  obtain ⟨m, ⟨o', es, ep, ho', hd', _⟩, _⟩ := I.loc
  rw [z, ho'] at ho; cases ho; rw [hd'] at hd; cases hd
theorem Inv.funs (I : Inv X pins σ H s) : s.heap.FunFrames X.base X.outer := by
  have all : ∀ (l : List Env), (∀ b ∈ frs l, b ∈ X.fs) → X.s₀.heap.FunFrames X.base l → s.heap.FunFrames X.base l := by
    intro l
    induction l with
    | nil => intro _ _; trivial
    | cons env r ih =>
      intro hs hl
      obtain ⟨hk, ⟨L, o, hf, hn, ho, hd⟩, hr⟩ := hl
      have hL : L ∈ X.fs := hs L (by unfold frs; rw [List.filterMap_cons, hf]; exact List.mem_cons_self)
      obtain ⟨sl, e⟩ := I.base.slot L o ho (I.ok.frf L hL) hL fun z => I.ok.exfs L z hL
      exact ⟨hk, ⟨L, _, hf, hn, e, hd⟩, ih (fun b hb => hs b (by unfold frs; rw [List.filterMap_cons, hf]; exact List.mem_cons_of_mem _ hb)) hr⟩
  exact all X.outer (fun _ hb => hb) I.ok.funs
theorem Inv.stack (I : Inv X pins σ H s) : s.heap.FunFrames X.base X.stack := by
  rcases I.ok.stk with e | ⟨e, hf⟩
  · rw [e]; exact I.funs
  · rw [e]
    obtain ⟨m, hn, _⟩ := I.loc
    refine .cons (by rw [I.ok.kind]; decide) hf hn ?_ I.funs
    exact Heap.get?_none_of_le (Nat.le_trans I.ok.bsz I.ok.above)
theorem Inv.stkSub (I : Inv X pins σ H s) : ∀ b ∈ frs X.stack, b ∈ X.env.locals :: X.fs := fun b hb => by
  rcases I.ok.stk with e | ⟨e, hf⟩
  · rw [e] at hb; exact List.mem_cons_of_mem _ hb
  · rw [e] at hb
    unfold frs at hb
    rw [List.filterMap_cons, hf] at hb
    exact hb
theorem Inv.stkFree (I : Inv X pins σ H s) : ∀ b ∈ frs X.stack, H b = none := fun b hb => by
  rcases List.mem_cons.mp (I.stkSub b hb) with e | hb
  · rw [e]; exact I.free
  · obtain ⟨_, o, ho, _⟩ := I.ok.funs.mem hb
    exact I.base.free b o ho (I.ok.frf b hb) fun z => I.ok.exfs b z hb
theorem Inv.step {g' : Array GenState} {t' : Nat} {d' : Drawn} {ch : List Addr} (I : Inv X pins σ H s)
    (hch : ∀ b ∈ ch, (b ∈ X.ex ∨ X.s₀.heap.objs.size ≤ b) ∧ b ≠ X.env.locals ∧ (∀ x c, X.env.cells.lookup x = some c → c ≠ b) ∧ ∀ p ∈ X.pn ++ pins, p.1 ≠ b)
    (keep : ∀ b o, b ≠ X.env.locals → b ∉ X.fs → b ∉ ch → s.heap.get? b = some o → H b = none → h'.get? b = some o)
    (slot : ∀ b o, b ≠ X.env.locals → b ∈ X.fs → b ∉ ch → s.heap.get? b = some o → H b = none → ∃ sl, h'.get? b = some { o with slots := sl }) (free : ∀ b o, b ∉ ch → s.heap.get? b = some o → H b = none → H' b = none)
    (there : ∀ b o, b ∉ ch → s.heap.get? b = some o → ∃ o', h'.get? b = some o')
    (tups : ∀ b xs, H b = some (.tup xs) → H' b = some (.tup xs)) (frzs : ∀ b o u, H b = some (.frz o u) → H' b = some (.frz o u)) (tbls : ∀ b ps, H b = some (.tbl ps) → ∃ more, H' b = some (.tbl (ps ++ more)))
    (ns : ∀ m, s.heap.Ns X.env.locals m → h'.Ns X.env.locals m) (hok : HOk X.prog X.w H' h') (hg : AllBare g') :
    Inv X pins σ H' { s with heap := h', gens := g', drawn := d', toks := t' } := by
  have neL : ∀ b o, X.s₀.heap.get? b = some o → b ≠ X.env.locals := fun b o e => Nat.ne_of_lt (Nat.lt_of_lt_of_le (Heap.lt_size e) I.ok.above)
  have neC : ∀ b o, X.s₀.heap.get? b = some o → b ∉ X.ex → b ∉ ch := fun b o e hx hb => by
    rcases (hch b hb).1 with z | z
    · exact hx z
    · exact absurd (Nat.lt_of_lt_of_le (Heap.lt_size e) z) (Nat.lt_irrefl _)
  have cellK : ∀ x c, X.env.cells.lookup x = some c → ∀ v, s.heap.IsCell c v → h'.IsCell c v := fun x c e v ⟨o, ho, hd⟩ => by
    have nch : c ∉ ch := fun z => (hch c z).2.2.1 x c e rfl
    by_cases hc : c ∈ X.fs
    · obtain ⟨sl, q⟩ := slot c o (I.cne x c e) hc nch ho (I.freeC x c e)
      exact ⟨_, q, hd⟩
    · exact ⟨o, keep c o (I.cne x c e) hc nch ho (I.freeC x c e), hd⟩
  refine ⟨I.ok, I.os, hg, ⟨fun b o e n hb hx => ?_, fun b o e n hb hx => ?_, fun b o e n hx => ?_, fun b o e hx => ?_, fun b xs e => tups b xs (I.base.tups b xs e), fun b o xs e => frzs b o xs (I.base.frzs b o xs e), fun b ps e => ?_⟩, ?_, fun x c e => ?_, ?_, fun x c e => ?_, fun p hp => ?_, hok, I.len⟩
  · exact keep b o (neL b o e) hb (neC b o e hx) (I.base.keep b o e n hb hx) (I.base.free b o e n hx)
  · obtain ⟨sl, e1⟩ := I.base.slot b o e n hb hx
    obtain ⟨sl', e2⟩ := slot b _ (neL b o e) hb (neC b o e hx) e1 (I.base.free b o e n hx)
    exact ⟨sl', e2⟩
  · obtain ⟨o', e1⟩ := I.base.there b o e hx
    exact free b o' (neC b o e hx) e1 (I.base.free b o e n hx)
  · obtain ⟨o', e1⟩ := I.base.there b o e hx
    exact there b o' (neC b o e hx) e1
  · obtain ⟨m1, e1⟩ := I.base.tbls b ps e
    obtain ⟨m2, e2⟩ := tbls b _ e1
    exact ⟨m1 ++ m2, by rw [e2, Array.append_assoc]⟩
  · obtain ⟨m, hn, hl⟩ := I.loc
    refine ⟨m, ns m hn, fun i x v e1 e2 e3 => ?_⟩
    obtain ⟨u, r, l⟩ := hl i x v e1 e2 e3
    refine ⟨u, r, ?_⟩
    rcases l with l | ⟨k, c, e, z⟩
    · exact .inl l
    · exact .inr ⟨k, c, e, cellK x c e _ z⟩
  · obtain ⟨v, z⟩ := I.cell x c e
    exact ⟨v, cellK x c e v z⟩
  · obtain ⟨m, ⟨o, _, _, ho, _⟩, _⟩ := I.loc
    exact free _ o (fun z => (hch _ z).2.1 rfl) ho I.free
  · obtain ⟨v, o, ho, hd⟩ := I.cell x c e
    exact free c o (fun z => (hch c z).2.2.1 x c e rfl) ho (I.freeC x c e)
  · obtain ⟨e, n, ne, nf, d⟩ := I.pin p hp
    have nch : p.1 ∉ ch := fun z => (hch p.1 z).2.2.2 p hp rfl
    exact ⟨keep p.1 p.2 ne nf nch e n, free p.1 p.2 nch e n, ne, nf, d⟩
theorem Inv.un {t' : Nat} (I : Inv X pins σ H s) (u : Un X.fs [] H H' s.heap h') (hok : HOk X.prog X.w H' h') : Inv X pins σ H' { s with heap := h', toks := t' } := by
  obtain ⟨m, ⟨o, es, ep, ho, r⟩, _⟩ := id I.loc
  obtain ⟨sl, hL⟩ := u.any ho I.free (by simp)
  exact I.step (g' := s.gens) (d' := s.drawn) (ch := []) (fun _ z => nomatch z) (fun b o _ hb _ e n => u.keep b o e n hb (by simp)) (fun b o _ hb _ e n => u.slot b o e n hb (by simp)) (fun b o _ e n => u.free b o e n (by simp)) (fun b o _ e => u.there b o e (by simp)) u.tups u.frzs u.tbls (fun m' hm => by
    obtain ⟨o', es', ep', ho', r'⟩ := hm
    rw [ho] at ho'; cases ho'
    exact ⟨_, es', ep', hL, r'⟩) hok I.bare
theorem Inv.call {g' : Array GenState} {t' : Nat} {d' : Drawn} {ch : List Addr} (I : Inv X pins σ H s) (u : Un (frs X.stack) ch H H' s.heap h') (hok : HOk X.prog X.w H' h') (hg : AllBare g')
    (hch : ∀ b ∈ ch, (b ∈ X.ex ∨ X.s₀.heap.objs.size ≤ b) ∧ b ≠ X.env.locals ∧ (∀ x c, X.env.cells.lookup x = some c → c ≠ b) ∧ ∀ p ∈ X.pn ++ pins, p.1 ≠ b) :
    Inv X pins σ H' { s with heap := h', gens := g', drawn := d', toks := t' } := by
  obtain ⟨m, ⟨o, es, ep, ho, r⟩, _⟩ := id I.loc
  obtain ⟨sl, hL⟩ := u.any ho I.free fun z => (hch _ z).2.1 rfl
  exact I.step (ch := ch) hch (fun b o hL hb hc e n => u.keep b o e n (fun z => (List.mem_cons.mp (I.stkSub b z)).elim hL hb) hc) (fun b o _ _ hc e n => u.any e n hc) (fun b o hc e n => u.free b o e n hc) (fun b o hc e => u.there b o e hc) u.tups u.frzs u.tbls (fun m' hm => by
    obtain ⟨o', es', ep', ho', r'⟩ := hm
    rw [ho] at ho'; cases ho'
    exact ⟨_, es', ep', hL, r'⟩) hok hg
theorem Inv.turned {t' : Nat} {it : Addr} (I : Inv X pins σ H s) (k : ∀ b o, b ≠ it → s.heap.get? b = some o → h'.get? b = some o) (hn : H it = none) (hL : it ≠ X.env.locals)
    (h1 : it ∈ X.ex ∨ X.s₀.heap.objs.size ≤ it) (h2 : ∀ x c, X.env.cells.lookup x = some c → c ≠ it) (h3 : ∀ p ∈ X.pn ++ pins, p.1 ≠ it) : Inv X pins σ H { s with heap := h', toks := t' } := by
  have nit : ∀ b u, H b = some u → b ≠ it := fun b u e z => by rw [z, hn] at e; cases e
  refine I.step (g' := s.gens) (d' := s.drawn) (ch := [it]) (fun b hb => ?_) (fun b o _ _ hc e _ => k b o (fun z => hc (by simp [z])) e) (fun b o _ _ hc e _ => ⟨o.slots, k b o (fun z => hc (by simp [z])) e⟩) (fun _ _ _ _ n => n)
    (fun b o hc e => ⟨o, k b o (fun z => hc (by simp [z])) e⟩) (fun _ _ e => e) (fun _ _ _ e => e) (fun b ps e => ⟨#[], by rw [e]; simp⟩) (fun m hm => ?_) (fun b u e => ?_) I.bare
  · have e : b = it := by simpa using hb
    subst e
    exact ⟨h1, hL, h2, h3⟩
  · obtain ⟨o, es, ep, ho, r⟩ := hm
    exact ⟨o, es, ep, k _ o (Ne.symm hL) ho, r⟩
  · refine (I.hok b u e).stay (fun c v hc q => k c v ?_ q) (fun _ q => q) fun _ _ q => q
    rcases hc with z | z
    · rw [z]; exact nit b u e
    · exact nit c _ z
theorem Inv.tok (I : Inv X pins σ H s) (t : Nat) : Inv X pins σ H { s with toks := t } := I.un (h' := s.heap) (t' := t) Un.refl I.hok
theorem Inv.kept {t' : Nat} (I : Inv X pins σ H s) (k : ∀ b u, s.heap.get? b = some u → h'.get? b = some u) : Inv X pins σ H { s with heap := h', toks := t' } := I.un (Un.kept k) (I.hok.kept k)
theorem Inv.laid {a : Addr} {o : HO} {t' : Nat} (I : Inv X pins σ H s) (k : ∀ b u, s.heap.get? b = some u → h'.get? b = some u) (hp : s.heap.objs.size ≤ a) (new : ObjOk X.prog X.w (upd H a o) h' a o) :
    Inv X pins σ (upd H a o) { s with heap := h', toks := t' } := I.un (Un.laid k hp (I.hok.fresh hp)) (I.hok.laid k hp new)
theorem Inv.write {x e : Addr} {o : HO} {t' : Nat} (I : Inv X pins σ H s) (mu : Mut (H x)) (he : e = x ∨ H e = some (.own x)) (k : ∀ b u, b ≠ e → s.heap.get? b = some u → h'.get? b = some u) (heo : ∃ u, h'.get? e = some u)
    (new : ObjOk X.prog X.w (upd H x o) h' x o) : Inv X pins σ (upd H x o) { s with heap := h', toks := t' } := I.un (Un.write mu he k heo) (I.hok.write mu he k heo new)
theorem Inv.pins_of {pins' : List (Addr × Obj)} (I : Inv X pins σ H s) (h : ∀ p ∈ pins', s.heap.get? p.1 = some p.2 ∧ H p.1 = none ∧ p.1 ≠ X.env.locals ∧ p.1 ∉ X.fs ∧ ∀ v, p.2.data ≠ .cell v) : Inv X pins' σ H s :=
  ⟨I.ok, I.os, I.bare, I.base, I.loc, I.cell, I.free, I.freeC, fun p hp => (List.mem_append.mp hp).elim (fun z => I.pin p (List.mem_append_left _ z)) (h p), I.hok, I.len⟩
theorem nodup_ix {N : List Str} (hN : N.Nodup) {i j : Nat} {x : Str} (a : N[i]? = some x) (b : N[j]? = some x) : i = j := by
  obtain ⟨h1, e1⟩ := List.getElem?_eq_some_iff.mp a
  obtain ⟨h2, e2⟩ := List.getElem?_eq_some_iff.mp b
  exact (List.getElem_inj hN).mp (e1.trans e2.symm)
theorem store_ok2 {M : Model} {A : Around} {E : Value → Shared → Prop} {i : Nat} {x : Str} {v : V} {u : Value} {Q : Unit → Shared → Prop} (I : Inv X pins σ H s) (hN : X.N.Nodup) (hi : X.N[i]? = some x) (hx : Loc X.env.scope x) (r : RelV v u)
    (h : ∀ s', Inv X pins (σ.set i (some v)) H s' → (∃ a, Heap.SameBut a s.heap s'.heap ∧ (a = X.env.locals ∨ X.env.cells.lookup x = some a)) → Q () s') (hf : X.fn x = true ∨ X.env.scope.names.lookup x = some .local := by first | exact .inl rfl | exact .inr rfl | assumption) : wpAny M A (storeName X.env x u) Q E s := by
  obtain ⟨m, hn, hl⟩ := id I.loc
  have hcls : (X.env.scope.kind == .class || (X.env.scope.kind == .module && X.env.locals != X.env.globals)) = false := by rw [I.ok.kind]; rfl
  have hiσ : i < σ.length := by rw [I.len]; exact (List.getElem?_eq_some_iff.mp hi).1
  have cne := I.cne
  have tracked : ∀ {a : Addr} {h' : Heap}, (∃ o, s.heap.get? a = some o ∧ H a = none) → Heap.SameBut a s.heap h' → HOk X.prog X.w H h' := fun {a h'} ha hs b ob e => by
    obtain ⟨_, _, hfree⟩ := ha
    refine (I.hok b ob e).stay (fun c w' hc q => (hs.2 c ?_).trans q) (fun _ q => q) fun _ _ q => q
    rintro rfl
    rcases hc with rfl | hc
    · rw [hfree] at e; cases e
    · rw [hfree] at hc; cases hc
  rcases hx with hk | hk
  · refine wpAny_storeName_local hk hn (fun h' hn' hs => ?_) hcls
    obtain ⟨oL, _, _, hoL, _⟩ := id hn
    refine h _ ⟨I.ok, I.os, I.bare, ⟨fun b o e n hb hx => ?_, fun b o e n hb hx => ?_, I.base.free, fun b o e hx => ?_, I.base.tups, I.base.frzs, I.base.tbls⟩, ⟨_, hn', fun j y v' e1 e2 e3 => ?_⟩, fun y c e => ?_, I.free, I.freeC, fun p hp => ?_, tracked ⟨oL, hoL, I.free⟩ hs, by simpa using I.len⟩ ⟨_, hs, .inl rfl⟩
    · exact (hs.2 b (Nat.ne_of_lt (Nat.lt_of_lt_of_le (Heap.lt_size e) I.ok.above))).trans (I.base.keep b o e n hb hx)
    · obtain ⟨sl, e1⟩ := I.base.slot b o e n hb hx
      exact ⟨sl, (hs.2 b (Nat.ne_of_lt (Nat.lt_of_lt_of_le (Heap.lt_size e) I.ok.above))).trans e1⟩
    · obtain ⟨o', e1⟩ := I.base.there b o e hx
      exact ⟨o', (hs.2 b (Nat.ne_of_lt (Nat.lt_of_lt_of_le (Heap.lt_size e) I.ok.above))).trans e1⟩
    · by_cases hj : j = i
      · subst hj
        rw [hi] at e1; cases e1
        rw [List.getElem?_set_self hiσ] at e2
        cases e2
        exact ⟨u, r, .inl ⟨hk, by simp⟩⟩
      · rw [List.getElem?_set_ne (Ne.symm hj)] at e2
        obtain ⟨u', r', q⟩ := hl j y v' e1 e2 e3
        refine ⟨u', r', ?_⟩
        rcases q with ⟨k, e⟩ | ⟨k, c, e, z⟩
        · refine .inl ⟨k, ?_⟩
          have : y ≠ x := fun e => hj (nodup_ix hN e1 (e ▸ hi))
          simp [this, e]
        · exact .inr ⟨k, c, e, z.sameBut hs (cne y c e)⟩
    · obtain ⟨w', z⟩ := I.cell y c e
      exact ⟨w', z.sameBut hs (cne y c e)⟩
    · obtain ⟨e, n, ne, nf, d⟩ := I.pin p hp
      exact ⟨(hs.2 p.1 ne).trans e, n, ne, nf, d⟩
  · have hfn : X.fn x = true := by
      rcases hf with z | z
      · exact z
      · rw [z] at hk; cases hk
    obtain ⟨c, hc⟩ := I.ok.has x (.inl hk)
    obtain ⟨w', z⟩ := I.cell x c hc
    refine wpAny_storeName_cell I.ok.kind hk hc z (fun h' hc' hs => ?_)
    obtain ⟨oc, hoc, hocd⟩ := id z
    refine h { s with heap := h' } ⟨I.ok, I.os, I.bare, ⟨fun b o e n hb hx => ?_, fun b o e n hb hx => ?_, I.base.free, fun b o e hx => ?_, I.base.tups, I.base.frzs, I.base.tbls⟩, ⟨m, hn.sameBut hs (Ne.symm (cne x c hc)), fun j y v' e1 e2 e3 => ?_⟩, fun y c' e => ?_, I.free, I.freeC, fun p hp => ?_, tracked ⟨oc, hoc, I.freeC x c hc⟩ hs, by simpa using I.len⟩ ⟨c, hs, .inr hc⟩
    · exact (hs.2 b (Nat.ne_of_lt (Nat.lt_of_lt_of_le (Heap.lt_size e) (I.ok.cab x c hfn hc)))).trans (I.base.keep b o e n hb hx)
    · obtain ⟨sl, e1⟩ := I.base.slot b o e n hb hx
      exact ⟨sl, (hs.2 b (Nat.ne_of_lt (Nat.lt_of_lt_of_le (Heap.lt_size e) (I.ok.cab x c hfn hc)))).trans e1⟩
    · obtain ⟨o', e1⟩ := I.base.there b o e hx
      exact ⟨o', (hs.2 b (Nat.ne_of_lt (Nat.lt_of_lt_of_le (Heap.lt_size e) (I.ok.cab x c hfn hc)))).trans e1⟩
    · by_cases hj : j = i
      · subst hj
        rw [hi] at e1; cases e1
        rw [List.getElem?_set_self hiσ] at e2
        cases e2
        exact ⟨u, r, .inr ⟨.inl hk, c, hc, hc'⟩⟩
      · rw [List.getElem?_set_ne (Ne.symm hj)] at e2
        obtain ⟨u', r', q⟩ := hl j y v' e1 e2 e3
        refine ⟨u', r', ?_⟩
        rcases q with q | ⟨k, c', e, z'⟩
        · exact .inl q
        · refine .inr ⟨k, c', e, z'.sameBut hs ?_⟩
          rintro rfl
          exact hj (nodup_ix hN e1 (I.ok.inj _ _ _ e hc ▸ hi))
    · by_cases hcc : c' = c
      · subst hcc; exact ⟨_, hc'⟩
      · obtain ⟨w2, z2⟩ := I.cell y c' e
        exact ⟨w2, z2.sameBut hs hcc⟩
    · obtain ⟨e, n, ne, nf, d⟩ := I.pin p hp
      refine ⟨(hs.2 p.1 ?_).trans e, n, ne, nf, d⟩
      intro q
      rw [q, hoc] at e
      have q' : oc = p.2 := Option.some.inj e
      exact d w' (by rw [← q']; exact hocd)
theorem store_ok {M : Model} {A : Around} {E : Value → Shared → Prop} {i : Nat} {x : Str} {v : V} {u : Value} {Q : Unit → Shared → Prop} (I : Inv X pins σ H s) (hN : X.N.Nodup) (hi : X.N[i]? = some x) (hx : Loc X.env.scope x) (r : RelV v u)
    (h : ∀ s', Inv X pins (σ.set i (some v)) H s' → Q () s') (hf : X.fn x = true ∨ X.env.scope.names.lookup x = some .local := by first | exact .inl rfl | exact .inr rfl | assumption) : wpAny M A (storeName X.env x u) Q E s :=
  store_ok2 I hN hi hx r (fun s' I' _ => h s' I') hf
theorem Inv.call' {s' : Shared} {ch : List Addr} (I : Inv X pins σ H s) (ho : s'.os = s.os) (u : Un (frs X.stack) ch H H' s.heap s'.heap) (hok : HOk X.prog X.w H' s'.heap) (hg : AllBare s'.gens)
    (hch : ∀ b ∈ ch, (b ∈ X.ex ∨ X.s₀.heap.objs.size ≤ b) ∧ b ≠ X.env.locals ∧ (∀ x c, X.env.cells.lookup x = some c → c ≠ b) ∧ ∀ p ∈ X.pn ++ pins, p.1 ≠ b) : Inv X pins σ H' s' := by
  obtain ⟨h', g', d', t', o'⟩ := s'
  have e : o' = s.os := ho
  subst e
  exact I.call (g' := g') (t' := t') (d' := d') u hok hg hch
end
noncomputable abbrev XK := Value → Option Addr → Hp → Prop
noncomputable abbrev St := List (Option V)
noncomputable abbrev VK := V → Hp → Prop
noncomputable abbrev TE := St → Hp → VK → Prop
noncomputable abbrev TT := St → Hp → (Bool → Hp → Prop) → Prop
noncomputable abbrev TA := St → Hp → (List V → Hp → Prop) → Prop
structure Ends where
  nx : St → Hp → Prop
  rt : VK
  bk : St → Hp → Prop := fun _ _ => False
  ct : St → Hp → Prop := fun _ _ => False
noncomputable abbrev TS := Ends → St → Hp → Prop
inductive EP_P (X : Cx) (pins : List (Addr × Obj)) (σ : St) (Q : VK) (u : Value) (s' : Shared) : Prop
  | mk (v H' : _) (h1 : Inv X pins σ H' s') (h2 : RelV v u) (h3 : Q v H') : EP_P X pins σ Q u s'
noncomputable def EP (X : Cx) (pins : List (Addr × Obj)) (σ : St) (Q : VK) (u : Value) (s' : Shared) : Prop := EP_P X pins σ Q u s'
noncomputable def TP (X : Cx) (pins : List (Addr × Obj)) (σ : St) (Q : Bool → Hp → Prop) (b : Bool) (s' : Shared) : Prop := ∃ H', Inv X pins σ H' s' ∧ Q b H'
inductive AP_P (X : Cx) (pins : List (Addr × Obj)) (σ : St) (Q : List V → Hp → Prop) (us : List Value) (s' : Shared) : Prop
  | mk (vs H' : _) (h1 : Inv X pins σ H' s') (h2 : Vals vs us) (h3 : Q vs H') : AP_P X pins σ Q us s'
noncomputable def AP (X : Cx) (pins : List (Addr × Obj)) (σ : St) (Q : List V → Hp → Prop) (us : List Value) (s' : Shared) : Prop := AP_P X pins σ Q us s'
noncomputable def SP (X : Cx) (pins : List (Addr × Obj)) (D : Ends) (f : Flow) (s' : Shared) : Prop :=
  match f with
  | .next => ∃ σ' H', Inv X pins σ' H' s' ∧ D.nx σ' H'
  | .brk => ∃ σ' H', Inv X pins σ' H' s' ∧ D.bk σ' H'
  | .cont => ∃ σ' H', Inv X pins σ' H' s' ∧ D.ct σ' H'
  | .ret u => ∃ v σ' H', Inv X pins σ' H' s' ∧ RelV v u ∧ D.rt v H'
noncomputable def PE (X : Cx) (e : Expr) (t : TE) : Prop :=
  ∀ (pins : List (Addr × Obj)) (s : Shared) (σ : St) (H : Hp) (Q : VK), Inv X pins σ H s → t σ H Q → wpAny (model X.prog X.w) X.A (eval e X.env) (EP X pins σ Q) X.xe s
noncomputable def PT (X : Cx) (e : Expr) (t : TT) : Prop :=
  ∀ (pins : List (Addr × Obj)) (s : Shared) (σ : St) (H : Hp) (Q : Bool → Hp → Prop), Inv X pins σ H s → t σ H Q → wpAny (model X.prog X.w) X.A (isTrue e X.env (eval e X.env)) (TP X pins σ Q) X.xe s
noncomputable def PW (X : Cx) (e : Expr) (t : TT) : Prop :=
  ∀ (whole : Sem Value) (pins : List (Addr × Obj)) (s : Shared) (σ : St) (H : Hp) (Q : Bool → Hp → Prop), Inv X pins σ H s → t σ H Q → wpAny (model X.prog X.w) X.A (isTrue e X.env whole) (TP X pins σ Q) X.xe s
theorem PW.pt {X : Cx} {e : Expr} {t : TT} (h : PW X e t) : PT X e t := h _
noncomputable def PA (X : Cx) (es : List Expr) (t : TA) : Prop :=
  ∀ (pos : Pos) (pins : List (Addr × Obj)) (s : Shared) (σ : St) (H : Hp) (Q : List V → Hp → Prop), Inv X pins σ H s → t σ H Q → wpAny (model X.prog X.w) X.A (spliced (backTo pos (starEach es X.env))) (AP X pins σ Q) X.xe s
noncomputable def PS (X : Cx) (st : Stmt) (t : TS) : Prop :=
  ∀ (pins : List (Addr × Obj)) (s : Shared) (σ : St) (H : Hp) (D : Ends), Inv X pins σ H s → t D σ H → wpAny (model X.prog X.w) X.A (exec st X.env) (SP X pins D) X.xe s
noncomputable def PSs (X : Cx) (st : List Stmt) (t : TS) : Prop :=
  ∀ (pins : List (Addr × Obj)) (s : Shared) (σ : St) (H : Hp) (D : Ends), Inv X pins σ H s → t D σ H → wpAny (model X.prog X.w) X.A (execs st X.env) (SP X pins D) X.xe s
theorem thn {α : Type} {t : Sem α} {Q Q' : α → Shared → Prop} {M : Model} {A : Around} {E : Value → Shared → Prop} {s : Shared} (h : wpAny M A t Q E s) (hQ : ∀ a s, Q a s → Q' a s) : wpAny M A t Q' E s := wpAny_mono h hQ fun _ _ x => x
end L2
namespace L2
open PySem PySem.Spec PyProof.Rows
section
variable {X : Cx}
inductive tVar_P (i : Nat) (σ : St) (H : Hp) (Q : VK) : Prop
  | mk (v : _) (h1 : σ[i]? = some (some v)) (h2 : Q v H) : tVar_P i σ H Q
noncomputable def tVar (i : Nat) : TE := fun σ H Q => tVar_P i σ H Q
noncomputable def tC (v : V) : TE := fun _ H Q => Q v H
theorem pe_var {i : Nat} {x : Str} {pos : Pos} (hN : X.N[i]? = some x) (hv : Vis X.env.scope x) (hd : (x == ("__debug__" : Str)) = false := by decide) (hcd : (x == ("__classdict__" : Str)) = false := by decide) : PE X (.Name x pos) (tVar i) := by
  intro pins s σ H Q I h
  obtain ⟨v, e, h⟩ := h
  obtain ⟨m, hn, hl⟩ := I.loc
  obtain ⟨u, r, l⟩ := hl i x v hN e hv
  have fin : EP X pins σ Q u s := ⟨v, H, I, r, h⟩
  rcases l with ⟨hk, hm⟩ | ⟨hk, c, hc, hcell⟩
  · exact wpAny_Name (wpAny_loadName_local I.ok.kind hk hn hm fin) hd
  · rcases hk with hk | hk
    · exact wpAny_Name (wpAny_loadName_cell I.ok.kind hk hc hcell fin) hd
    · exact wpAny_Name (wpAny_loadName_free I.ok.kind hk hc hcell fin hcd) hd
theorem pe_int {i j pos} : PE X (.Constant (.int i) j pos) (tC (.int i)) := fun _ _ _ H _ I h => wpAny_Constant_int ⟨.int i, H, I.tok _, ⟨_, rfl⟩, h⟩
theorem pe_bl {b j pos} : PE X (.Constant (.bool b) j pos) (tC (.bl b)) := fun _ _ _ H _ I h => Constant_bool ⟨.bl b, H, I, rfl, h⟩
theorem pe_non {j pos} : PE X (.Constant .none j pos) (tC .non) := fun _ _ _ H _ I h => Constant_none ⟨.non, H, I, rfl, h⟩
theorem pe_str {x j pos} : PE X (.Constant (.str x) j pos) (tC (.str x)) := fun _ _ _ H _ I h => Calls.Constant_str ⟨.str x, H, I.tok _, ⟨_, rfl⟩, h⟩
noncomputable def Gl (X : Cx) (x : Str) : Prop := X.env.kindOf x = some .globalImplicit
theorem ld_glob {E : Value → Shared → Prop} {pins : List (Addr × Obj)} {s : Shared} {σ : St} {H : Hp} {x : Str} {u : Value} {pos : Pos} {Q : Value → Shared → Prop} (I : Inv X pins σ H s) (hg : Gl X x) (hm : X.mg x = some u) (h : Q u s)
    (hd : (x == ("__debug__" : Str)) = false := by decide) : wpAny (model X.prog X.w) X.A (eval (.Name x pos) X.env) Q E s :=
  Calls.Name_function_global I.ok.kind hg (Calls.loadGlobal_global (by rw [I.ok.glob]; exact I.mod.glob.keeps I.bk) hm h) hd
theorem ld_blt {E : Value → Shared → Prop} {pins : List (Addr × Obj)} {s : Shared} {σ : St} {H : Hp} {x : Str} {u : Value} {pos : Pos} {Q : Value → Shared → Prop} (I : Inv X pins σ H s) (hg : Gl X x) (hm : X.mg x = none) (hv : bootBuiltins x = some u) (h : Q u s)
    (hn : x ≠ "__name__" := by decide) (hd : (x == ("__debug__" : Str)) = false := by decide) : wpAny (model X.prog X.w) X.A (eval (.Name x pos) X.env) Q E s := by
  obtain ⟨mb, h1, h2⟩ := I.mod.blt
  exact Calls.Name_function_global I.ok.kind hg (Calls.loadGlobal_builtin (by rw [I.ok.glob]; exact I.mod.glob.keeps I.bk) hm (by rw [I.ok.blt]; exact h1.keeps I.bk) ((h2 x hn).trans hv) h) hd
theorem pe_glob {x : Str} {v : V} {u : Value} {pos : Pos} (hg : Gl X x) (hm : X.mg x = some u) (r : RelV v u) (hd : (x == ("__debug__" : Str)) = false := by decide) : PE X (.Name x pos) (tC v) :=
  fun _ _ _ H _ I h => ld_glob I hg hm ⟨v, H, I, r, h⟩ hd
theorem pe_bltn {x : Str} {v : V} {u : Value} {pos : Pos} (hg : Gl X x) (hm : X.mg x = none) (hv : bootBuiltins x = some u) (r : RelV v u) (hn : x ≠ "__name__" := by decide) (hd : (x == ("__debug__" : Str)) = false := by decide) : PE X (.Name x pos) (tC v) :=
  fun _ _ _ H _ I h => ld_blt I hg hm hv ⟨v, H, I, r, h⟩ hn hd
variable {a b : Expr} {ta tb : TE} {pos : Pos}
inductive tB_P (Q : (Bool → Hp → Prop)) (x : V) (H1 : Hp) : Prop
  | mk (c : _) (h1 : x = .bl c) (h2 : Q c H1) : tB_P Q x H1
noncomputable def tB (t : TE) : TT := fun σ H Q => t σ H fun x H1 => tB_P Q x H1
theorem pt_val {e : Expr} {t : TE} (h : PE X e t) (he : ∀ whole, isTrue e X.env whole = (do let v ← whole; standAt e.pos; holding [v] (truthy v)) := by intro _; rfl) : PT X e (tB t) := by
  intro pins s σ H Q I hw
  refine isTrue_plain (thn (h pins s σ H _ I hw) fun v s1 zz_ => ?_) (he _)
  obtain ⟨x, H1, I1, r1, q1⟩ := zz_
  obtain ⟨d, rfl, q⟩ := q1
  cases r1
  exact wpAny_truthy_bool ⟨H1, I1, q⟩
variable {tA tB' : TT} {rest : List Expr}
noncomputable def tOr (t u : TT) : TT := fun σ H Q => t σ H fun c H1 => if c = true then Q true H1 else u σ H1 Q
noncomputable def tNot (t : TT) : TT := fun σ H Q => t σ H fun c H1 => Q (!c) H1
theorem pw_or1 (ha : PT X a tA) : PW X (.BoolOp .Or [a] pos) tA := by
  intro wh pins s σ H Q I h
  refine isTrue_or (thn (ha pins s σ H Q I h) fun c s1 e => ?_)
  cases c with
  | false => exact isTrue_or_nil e
  | true => exact e
theorem pw_or (ha : PT X a tA) (hb : PW X (.BoolOp .Or (b :: rest) pos) tB') : PW X (.BoolOp .Or (a :: b :: rest) pos) (tOr tA tB') := by
  intro wh pins s σ H Q I h
  refine isTrue_or (thn (ha pins s σ H _ I h) fun c s1 zz_ => ?_)
  obtain ⟨H1, I1, q1⟩ := zz_
  cases c with
  | true => exact ⟨H1, I1, q1⟩
  | false => exact hb wh pins s1 σ H1 Q I1 q1
theorem pt_not (ha : PT X a tA) : PT X (.UnaryOp .Not a pos) (tNot tA) := by
  intro pins s σ H Q I h
  exact isTrue_not (ha pins s σ H (fun c H1 => Q (!c) H1) I h)
end
end L2
namespace L2
open PySem PySem.Spec PyProof.Rows
noncomputable def SqL (K : PySem.W.Frag) (H : Hp) (a : Addr) (xs : List V) : Prop :=
  Rd H a (.lst xs) ∨
    ∃ (o : Obj) (its : Array Value) (n : Nat), K.lookup a = some o ∧ o.cls = .type "list" ∧ o.dict = none ∧ o.data = .seq its n ∧ its.size ≤ sizeLine ∧ Vals xs its.toList
noncomputable def SqT (K : PySem.W.Frag) (H : Hp) (a : Addr) (xs : List V) : Prop :=
  Rd H a (.tup xs) ∨
    ∃ (o : Obj) (its : Array Value) (n : Nat), K.lookup a = some o ∧ o.cls = .type "tuple" ∧ o.data = .seq its n ∧ its.size ≤ sizeLine ∧ Vals xs its.toList
section
variable {X : Cx} {pins : List (Addr × Obj)} {σ : St} {H : Hp} {s : Shared} {a : Addr} {xs ys : List V}
theorem SqL.of {K : PySem.W.Frag} (h : H a = some (.lst xs)) : SqL K H a xs := .inl (.inl h)
theorem Inv.list (I : Inv X pins σ H s) (h : SqL X.K H a xs) : ∃ its : List Value, Vals xs its ∧ PlainL s.heap a its.toArray ∧ xs.length ≤ sizeLine := by
  rcases h with h | ⟨o, its, n, hk, hc, hd, hs, hz, r⟩
  · obtain ⟨z, its, n, r, e⟩ := h.ok I.hok
    exact ⟨its, r, ⟨_, n, e, rfl, rfl, rfl⟩, z⟩
  · refine ⟨its.toList, r, ⟨o, n, I.kIn a o hk, hc, hd, by simpa using hs⟩, ?_⟩
    have e := r.length
    simp only [Array.length_toList] at e
    omega
theorem Inv.tuple (I : Inv X pins σ H s) (h : SqT X.K H a xs) : ∃ its : List Value, Vals xs its ∧ IsTup s.heap a its.toArray ∧ xs.length ≤ sizeLine := by
  rcases h with h | ⟨o, its, n, hk, hc, hs, hz, r⟩
  · obtain ⟨z, its, r, p⟩ := h.ok I.hok
    exact ⟨its, r, p, z⟩
  · refine ⟨its.toList, r, ⟨o, I.kIn a o hk, hc, n, by simpa using hs⟩, ?_⟩
    have e := r.length
    simp only [Array.length_toList] at e
    omega
end
noncomputable abbrev Cx.wish (X : Cx) (E : Value → Shared → Prop) : Cx := { X with xe := E }
noncomputable abbrev Cx.nox (X : Cx) : Cx := X.wish fun _ _ => False
theorem Cx.Ok.wish {X : Cx} (ok : X.Ok) (E : Value → Shared → Prop) : (X.wish E).Ok :=
  ⟨ok.mod, ok.kind, ok.glob, ok.blt, ok.above, ok.inj, ok.has, ok.cab, ok.hd, ok.frames, ok.stk, ok.exf, ok.bs, ok.bsz, ok.noex, ok.exfs, ok.funs, ok.frf⟩
theorem Cx.Ok.unwish {X : Cx} {E : Value → Shared → Prop} (ok : (X.wish E).Ok) : X.Ok :=
  ⟨ok.mod, ok.kind, ok.glob, ok.blt, ok.above, ok.inj, ok.has, ok.cab, ok.hd, ok.frames, ok.stk, ok.exf, ok.bs, ok.bsz, ok.noex, ok.exfs, ok.funs, ok.frf⟩
section
variable {X : Cx} {pins : List (Addr × Obj)} {σ : St} {H : Hp} {s : Shared} {E : Value → Shared → Prop}
theorem Inv.wish (I : Inv X pins σ H s) (E : Value → Shared → Prop) : Inv (X.wish E) pins σ H s := ⟨I.ok.wish E, I.os, I.bare, I.base, I.loc, I.cell, I.free, I.freeC, I.pin, I.hok, I.len⟩
theorem Inv.unwish (I : Inv (X.wish E) pins σ H s) : Inv X pins σ H s := ⟨I.ok.unwish, I.os, I.bare, I.base, I.loc, I.cell, I.free, I.freeC, I.pin, I.hok, I.len⟩
theorem SP.unwish {D : Ends} {f : Flow} {s' : Shared} (h : SP (X.wish E) pins D f s') : SP X pins D f s' := by
  cases f with
  | next => obtain ⟨σ', H', I, q⟩ := h; exact ⟨σ', H', I.unwish, q⟩
  | brk => obtain ⟨σ', H', I, q⟩ := h; exact ⟨σ', H', I.unwish, q⟩
  | cont => obtain ⟨σ', H', I, q⟩ := h; exact ⟨σ', H', I.unwish, q⟩
  | ret u => obtain ⟨v, σ', H', I, r, q⟩ := h; exact ⟨v, σ', H', I.unwish, r, q⟩
theorem PSs.nox {st : List Stmt} {t : TS} (h : PSs X.nox st t) : PSs X st t := fun pins s σ H D I hw =>
  wpAny_mono (h pins s σ H D (I.wish _) hw) (fun _ _ q => q.unwish) fun _ _ z => False.elim z
end
section
variable {X : Cx} {st : Stmt} {rest : List Stmt} {t u : TS} {e : Expr} {te : TE} {pos : Pos}
noncomputable def tNext : TS := fun D σ H => D.nx σ H
noncomputable def tSeq (t u : TS) : TS := fun D σ H => t { D with nx := u D } σ H
theorem pss_nil : PSs X [] tNext := fun _ _ σ H _ I h => wpAny_execs_nil ⟨σ, H, I, h⟩
theorem pss_cons (h1 : PS X st t) (h2 : PSs X rest u) : PSs X (st :: rest) (tSeq t u) := by
  intro pins s σ H D I h
  refine wpAny_execs_cons (thn (h1 pins s σ H { D with nx := u D } I h) fun f s1 q => ?_)
  cases f with
  | next =>
    obtain ⟨σ', H', I', q⟩ := q
    exact h2 pins s1 σ' H' D I' q
  | ret v => exact q
  | brk => exact q
  | cont => exact q
theorem pss_one (h1 : PS X st t) : PSs X [st] t := by
  intro pins s σ H D I h
  refine wpAny_execs_cons (thn (h1 pins s σ H D I h) fun f s1 q => ?_)
  cases f with
  | next => exact wpAny_execs_nil q
  | ret v => exact q
  | brk => exact q
  | cont => exact q
theorem Inv.quiet {pins : List (Addr × Obj)} {σ : St} {H : Hp} {s : Shared} (I : Inv X pins σ H s) : interactive X.env = false := by simp [interactive, I.ok.kind]
noncomputable def tDrop (te : TE) : TS := fun D σ H => te σ H fun _ H1 => D.nx σ H1
theorem ps_expr (he : PE X e te) (hs : swapsWith e none pos.line X.env = pure false := by rfl) : PS X (.Expr e pos) (tDrop te) := by
  intro pins s σ H D I h
  exact wpAny_Expr_any (thn (he pins s σ H _ I h) fun v s1 ⟨x, H1, I1, r1, q1⟩ => ⟨σ, H1, I1, q1⟩) I.quiet hs
noncomputable def tRet (te : TE) : TS := fun D σ H => te σ H D.rt
theorem ps_ret (he : PE X e te) : PS X (.Return (some e) pos) (tRet te) := by
  intro pins s σ H D I h
  exact wpAny_Return_some (thn (he pins s σ H _ I h) fun v s1 ⟨x, H1, I1, r1, q1⟩ => ⟨x, σ, H1, I1, r1, q1⟩)
noncomputable def tIfS (c : TT) (t u : TS) : TS := fun D σ H => c σ H fun b H1 => if b = true then t D σ H1 else u D σ H1
theorem ps_if {c : Expr} {a b : List Stmt} {tc : TT} (hc : PT X c tc) (ha : PSs X a t) (hb : PSs X b u) : PS X (.If c a b pos) (tIfS tc t u) := by
  intro pins s σ H D I h
  refine wpAny_If (thn (hc pins s σ H _ I h) fun d s1 zz_ => ?_)
  obtain ⟨H1, I1, q1⟩ := zz_
  cases d with
  | true => exact ha pins s1 σ H1 D I1 q1
  | false => exact hb pins s1 σ H1 D I1 q1
end
noncomputable abbrev TG := V → St → Hp → (St → Hp → Prop) → Prop
noncomputable def PG (X : Cx) (target : Expr) (t : TG) : Prop :=
  ∀ (pins : List (Addr × Obj)) (s : Shared) (σ : St) (H : Hp) (v : V) (u : Value) (Q : St → Hp → Prop), Inv X pins σ H s → RelV v u → t v σ H Q →
    wpAny (model X.prog X.w) X.A (assign target X.env u) (fun _ s' => ∃ σ' H', Inv X pins σ' H' s' ∧ Q σ' H') X.xe s
noncomputable abbrev TSet := V → V → V → Hp → (Hp → Prop) → Prop
noncomputable def PSet (X : Cx) (t : TSet) : Prop :=
  ∀ (pins : List (Addr × Obj)) (s : Shared) (σ : St) (H : Hp) (o i v : V) (ov iv u : Value) (Q : Hp → Prop), Inv X pins σ H s → RelV o ov → RelV i iv → RelV v u → t o i v H Q →
    wpAny (model X.prog X.w) X.A (setItem ov iv u) (fun _ s' => ∃ H', Inv X pins σ H' s' ∧ Q H') X.xe s
section
variable {X : Cx} {pos : Pos}
noncomputable def gName (i : Nat) : TG := fun v σ H Q => Q (σ.set i (some v)) H
theorem pg_name {i : Nat} {x : Str} (hN : X.N.Nodup) (hi : X.N[i]? = some x) (hx : Loc X.env.scope x) (hf : X.fn x = true ∨ X.env.scope.names.lookup x = some .local := by first | exact .inl rfl | exact .inr rfl | assumption) : PG X (.Name x pos) (gName i) := by
  intro pins s σ H v u Q I r h
  exact wpAny_assign_Name (store_ok I hN hi hx r (fun s' I' => ⟨_, H, I', h⟩) hf)
noncomputable def gSub (to ti : TE) (t : TSet) : TG := fun v σ H Q => to σ H fun o H1 => ti σ H1 fun i H2 => t o i v H2 fun H3 => Q σ H3
theorem pg_sub {o i : Expr} {to ti : TE} {t : TSet} (ho : PE X o to) (hi : PE X i ti) (hs : PSet X t)
    (ha : ∀ v, assign (.Subscript o i pos) X.env v = (do
      let ov ← holding [v] (eval o X.env)
      let iv ← holding [v, ov] (eval i X.env)
      standAt pos
      holding [v, ov, iv] (setItem ov iv v)
      release [v, ov, iv] []) := by intro _; rfl) : PG X (.Subscript o i pos) (gSub to ti t) := by
  intro pins s σ H v u Q I r h
  rw [ha]
  refine wpAny_bind (wpAny_holding (thn (ho pins s σ H _ I h) fun ov s1 zz_ => ?_))
  obtain ⟨x, H1, I1, r1, q1⟩ := zz_
  refine wpAny_bind (wpAny_holding (thn (hi pins s1 σ H1 _ I1 q1) fun iv s2 zz_ => ?_))
  obtain ⟨y, H2, I2, r2, q2⟩ := zz_
  refine wpAny_bind (wpAny_standAt (wpAny_bind (wpAny_holding (thn (hs pins s2 σ H2 x y v ov iv u _ I2 r1 r2 r q2) fun _ s3 zz_ => ?_))))
  obtain ⟨H3, I3, q3⟩ := zz_
  exact wpAny_release ⟨σ, H3, I3, q3⟩
noncomputable def tAsg (te : TE) (g : TG) : TS := fun D σ H => te σ H fun x H1 => g x σ H1 D.nx
theorem ps_asg {tg e : Expr} {te : TE} {g : TG} (he : PE X e te) (hg : PG X tg g) (hs : swapsWithSole [tg] e pos.line X.env = pure false := by rfl) (hw : swappedStores [tg] e X.env = pure none := by rfl)
    (h1 : (assignEach [tg] X.env).map (·.2) = [assign tg X.env] := by rfl) : PS X (.Assign [tg] e pos) (tAsg te g) := by
  intro pins s σ H D I h
  refine wpAny_Assign_stores (thn (he pins s σ H _ I h) fun v s1 zz_ => ?_) hs hw
  obtain ⟨x, H1, I1, r1, q1⟩ := zz_
  rw [h1]
  exact thn (hg pins s1 σ H1 x v _ I1 r1 q1) fun _ s2 q => q
theorem ps_set {i : Nat} {x : Str} {e : Expr} {te : TE} {pos' : Pos} (hN : X.N.Nodup) (hi : X.N[i]? = some x) (hx : Loc X.env.scope x) (he : PE X e te) (hs : swapsWith e (some (.Name x pos')) pos.line X.env = pure false := by rfl) (hf : X.fn x = true ∨ X.env.scope.names.lookup x = some .local := by first | exact .inl rfl | exact .inr rfl | assumption) :
    PS X (.Assign [.Name x pos'] e pos) (tAsg te (gName i)) := by
  intro pins s σ H D I h
  refine wpAny_Assign_Name (thn (he pins s σ H _ I h) fun v s1 zz_ => ?_) hs
  obtain ⟨y, H1, I1, r1, q1⟩ := zz_
  exact store_ok I1 hN hi hx r1 (fun s2 I2 => ⟨_, H1, I2, q1⟩) hf
end
section
variable {X : Cx} {pos : Pos}
end
structure It where
  go : Nat → Hp → Prop
  yld : Nat → Hp → V → Hp → Prop
  stop : Nat → Hp → Prop
noncomputable def FpOk (X : Cx) (pins : List (Addr × Obj)) (H : Hp) (b : Addr) : Prop :=
  H b = none ∧ b ≠ X.env.locals ∧ b ∉ X.fs ∧ (b ∈ X.ex ∨ X.s₀.heap.objs.size ≤ b) ∧ (∀ x c, X.env.cells.lookup x = some c → c ≠ b) ∧ ∀ p ∈ X.pn ++ pins, p.1 ≠ b
theorem Inv.fpOk {X : Cx} {pins : List (Addr × Obj)} {σ : St} {H H' : Hp} {s : Shared} {b : Addr} (I : Inv X pins σ H s) (hb : s.heap.objs.size ≤ b) (hn : H' b = none) : FpOk X pins H' b := by
  refine ⟨hn, Nat.ne_of_gt (Nat.lt_of_lt_of_le I.lt hb), I.nofs hb, .inr (Nat.le_trans I.sz hb), fun x c e z => ?_, fun p hp z => ?_⟩
  · obtain ⟨v, q⟩ := I.cell x c e
    exact absurd (Nat.lt_of_lt_of_le q.lt (by rw [z]; exact hb)) (Nat.lt_irrefl _)
  · exact absurd (Nat.lt_of_lt_of_le (Heap.lt_size (I.pin p hp).1) (by rw [z]; exact hb)) (Nat.lt_irrefl _)
structure Turn (P : Program) (w : World) (K : PySem.W.Frag) (tg : Expr) (J : It) (fp : List Addr) (it : Addr) (tn : Nat → Heap → Prop) : Prop where
  mem : it ∈ fp
  obj : ∀ i h, tn i h → ∀ b ∈ fp, ∃ o, h.get? b = some o ∧ ∀ v, o.data ≠ .cell v
  keep : ∀ i h h', tn i h → (∀ b ∈ fp, ∀ o, h.get? b = some o → h'.get? b = some o) → tn i h'
  item : ∀ (X : Cx), X.prog = P → X.w = w → X.K = K → X.calm = true → ∀ (i : Nat) (pins : List (Addr × Obj)) (s : Shared) (σ : St) (H : Hp) (E : Value → Shared → Prop), Inv X pins σ H s → (∀ b ∈ fp, FpOk X pins H b) → tn i s.heap → J.go i H →
    wpAny (model P w) X.A (pyNext (.ref it)) (fun r s1 => ∃ u, r = some u ∧
      wpAny (model P w) X.A (letOwnedTupleGo tg (.ref it) u) (fun _ s2 => ∃ x H', Inv X pins σ H' s2 ∧ RelV x u ∧ J.yld i H x H' ∧ tn (i + 1) s2.heap ∧ ∀ b ∈ fp, H' b = none) E s1) E s
  done : ∀ (X : Cx), X.prog = P → X.w = w → X.K = K → X.calm = true → ∀ (i : Nat) (pins : List (Addr × Obj)) (s : Shared) (σ : St) (H : Hp) (E : Value → Shared → Prop), Inv X pins σ H s → (∀ b ∈ fp, FpOk X pins H b) → tn i s.heap → J.stop i H →
    wpAny (model P w) X.A (pyNext (.ref it)) (fun r s1 => r = none ∧ Inv X pins σ H s1) E s
  self : ∀ (A : Around) (i : Nat) (s : Shared) (Q : Value → Shared → Prop) (E : Value → Shared → Prop), tn i s.heap → Q (.ref it) s → wpAny (model P w) A (pyIter (.ref it)) Q E s
noncomputable abbrev TI := St → Hp → (It → Hp → Prop) → Prop
noncomputable def PIE (X : Cx) (pins : List (Addr × Obj)) (σ : St) (tg : Expr) (R : It → Hp → Prop) (itv : Value) (s2 : Shared) : Prop :=
  ∃ (it : Addr) (fp : List Addr) (tn : Nat → Heap → Prop) (J : It) (H' : Hp), itv = .ref it ∧ Inv X pins σ H' s2 ∧ Turn X.prog X.w X.K tg J fp it tn ∧ tn 0 s2.heap ∧ (∀ b ∈ fp, FpOk X pins H' b) ∧ R J H'
noncomputable def PI (X : Cx) (tg iter : Expr) (wi : TI) : Prop :=
  ∀ (pins : List (Addr × Obj)) (s : Shared) (σ : St) (H : Hp) (R : It → Hp → Prop), Inv X pins σ H s → wi σ H R →
    wpAny (model X.prog X.w) X.A (eval iter X.env) (fun v s1 => wpAny (model X.prog X.w) X.A (pyIter v) (PIE X pins σ tg R) X.xe s1) X.xe s
theorem go_of {M : Model} {A : Around} {E : Value → Shared → Prop} {s : Shared} {tg : Expr} {it : Addr} {u : Value} {o : Obj} {n : String} {vs : Array Value} {Q : Unit → Shared → Prop} (ho : s.heap.get? it = some o) (hc : o.cls = .type n) (hd : o.data = .fields vs)
    (hn : ["enumerate", "zip", "dict_itemiterator", "dict_reverseitemiterator", "odict_iterator", "itertools.zip_longest", "itertools.pairwise"].contains n = false) (hQ : Q () s) : wpAny M A (letOwnedTupleGo tg (.ref it) u) Q E s := by
  unfold letOwnedTupleGo
  cases tg <;> first
    | exact wpAny_pure hQ
    | (cases u <;> first
        | exact wpAny_pure hQ
        | (refine wpAny_bind (wpAny_load ho ?_)
           rw [hc, hd]
           show wpAny M A (if (["enumerate", "zip", "dict_itemiterator", "dict_reverseitemiterator", "odict_iterator", "itertools.zip_longest", "itertools.pairwise"].contains n && vs[0]? == some (rawInt _)) = true then _ else _) Q E s
           rw [if_neg (by intro h; rw [hn, Bool.false_and] at h; cases h)]
           exact wpAny_pure hQ))
noncomputable def Itr (lo : Int) (n : Nat) : It := ⟨fun i _ => i < n, fun i H x H' => H' = H ∧ x = .int (lo + i), fun i _ => n ≤ i⟩
theorem turn_range {P : Program} {w : World} {K : PySem.W.Frag} {tg : Expr} (it : Addr) (lo : Int) (n : Nat) : Turn P w K tg (Itr lo n) [it] it (fun i h => IsRangeIter h it (lo + (i : Nat) * 1) ((n : Int) - (i : Nat)) 1) where
  mem := by simp
  obj := fun i h st b hb => by
    have e : b = it := by simpa using hb
    subst e
    exact ⟨_, st, fun v z => by
      have z' : Data.fields _ = Data.cell v := z
      cases z'⟩
  keep := fun i h h' st k => k it (by simp) _ st
  item := by
    intro X hP hw hK hc i pins s σ H E I hf st hg
    subst hP hw hK
    obtain ⟨f0, f1, f2, f3, f4, f5⟩ := hf it (by simp)
    have W := Walks.range (prog := X.prog) (w := X.w) (I.ok.hd hc) it lo 1 n
    refine W.item i s _ _ hg st fun v h' tk hv st' kk => ?_
    obtain ⟨t, rfl⟩ := hv
    have I1 : Inv X pins σ H { s with heap := h', toks := tk } := I.turned (fun b o hb e => kk b o (by simpa using hb) e) f0 f1 f3 f4 f5
    refine ⟨_, rfl, go_of (s := { s with heap := h', toks := tk }) (n := "range_iterator") st' rfl rfl (by decide) ⟨.int (lo + i), H, I1, ⟨t, ?_⟩, ⟨rfl, rfl⟩, st', fun b hb => (hf b hb).1⟩⟩
    rw [Int.mul_one]
  done := by
    intro X hP hw hK hc i pins s σ H E I hf st hg
    subst hP hw hK
    obtain ⟨f0, f1, f2, f3, f4, f5⟩ := hf it (by simp)
    exact wpAny_pyNext_range_end (I.ok.hd hc) st (by have : n ≤ i := hg; omega) fun h' eb => ⟨rfl, I.turned (t' := s.toks) (fun b o hb e => eb b o hb e) f0 f1 f3 f4 f5⟩
  self := fun _ _ _ _ _ st h => wpAny_pyIter_rangeiter st h
end L2
namespace L2
open PySem PySem.Spec PyProof.Rows
section
variable {X : Cx} {tg : Expr}
theorem range_it {pins : List (Addr × Obj)} {σ : St} {H : Hp} {s : Shared} {R : It → Hp → Prop} {E : Value → Shared → Prop} {lo hi : Int} {t u v : Tok} {tk : Nat} (I : Inv X pins σ H s) (h1 : -(2 ^ 62) ≤ lo) (h2 : lo < 2 ^ 62) (h3 : -(2 ^ 62) ≤ hi) (h4 : hi < 2 ^ 62)
    (q : R (Itr lo (hi - lo).toNat) H) : wpAny (model X.prog X.w) X.A (pyIter (.ref s.heap.objs.size)) (PIE X pins σ tg R) E { s with heap := s.heap.push { cls := .type "range", data := .fields #[.int lo t, .int hi u, .int 1 v] }, toks := tk } := by
  refine wpAny_pyIter_range (IsRange.new ..) (small_one h1 h2 h3 h4) ?_
  have I1 : Inv X pins σ H { s with heap := s.heap.push { cls := .type "range", data := .fields #[.int lo t, .int hi u, .int 1 v] }, toks := tk } := I.kept fun b o e => Heap.get?_push_of_some _ e
  refine ⟨(s.heap.push { cls := .type "range", data := .fields #[.int lo t, .int hi u, .int 1 v] }).objs.size, [(s.heap.push { cls := .type "range", data := .fields #[.int lo t, .int hi u, .int 1 v] }).objs.size], _, _, H, rfl,
    I1.kept (t' := tk) fun b o e => Heap.get?_push_of_some _ e, turn_range _ lo (hi - lo).toNat, ?_, fun b hb => ?_, q⟩
  · have e1 : lo + ((0 : Nat) : Int) * 1 = lo := by simp
    have e2 : (((hi - lo).toNat : Nat) : Int) - ((0 : Nat) : Int) = Builtin.Range.rangeSize lo hi 1 := by rw [rangeSize_one]; split <;> omega
    show IsRangeIter _ _ (lo + ((0 : Nat) : Int) * 1) ((((hi - lo).toNat : Nat) : Int) - ((0 : Nat) : Int)) 1
    rw [e1, e2]
    exact Heap.get?_push_size _ rfl
  · have e : b = (s.heap.push { cls := .type "range", data := .fields #[.int lo t, .int hi u, .int 1 v] }).objs.size := by simpa using hb
    subst e
    exact I1.fpOk (Nat.le_refl _) (I1.hok.fresh (Nat.le_refl _))
inductive iRng1_P (R : (It → Hp → Prop)) (vs : List V) (H1 : Hp) : Prop
  | mk (j : Int) (h1 : vs = [.int j]) (h2 : -(2 ^ 62) ≤ j) (h3 : j < 2 ^ 62) (h4 : R (Itr 0 j.toNat) H1) : iRng1_P R vs H1
noncomputable def iRng1 (ta : TA) : TI := fun σ H R => ta σ H fun vs H1 => iRng1_P R vs H1
theorem pi_range1 {a : Expr} {ta : TA} {p pos : Pos} (hg : Gl X "range") (hm : X.mg "range" = none) (ha : PA X [a] ta) (hs : starEach [a] X.env = [(false, eval a X.env)] := by rfl) : PI X tg (.Call (.Name "range" p) [a] [] pos) (iRng1 ta) := by
  intro pins s σ H R I h
  refine Call_ (ld_blt I hg hm boot_range (PyProof.Rows.callWith_type1 (thn (ha pos pins s σ H _ I h) fun us s1 zz_ => ?_) hs rfl))
  obtain ⟨vs, H1, I1, r1, q1⟩ := zz_
  obtain ⟨j, e, q1, q2, q⟩ := q1
  subst e
  cases r1 with
  | cons r rr =>
    cases rr
    obtain ⟨t, rfl⟩ := r
    exact call_range_1 (range_it I1 (by omega) (by omega) q1 q2 (by simpa using q))
noncomputable def tFor (wi : TI) (g : TG) (tb : TS) : TS := fun D σ H => wi σ H fun J H1 => ∃ W : Nat → Nat → St → Hp → Prop, (∃ m, W 0 m σ H1) ∧ ∀ i m σ H, W i m σ H →
  (J.stop i H ∧ D.nx σ H) ∨ (J.go i H ∧ ∃ N : St → Hp → Prop, (∀ σ' H', N σ' H' → ∃ m', m' < m ∧ W (i + 1) m' σ' H') ∧ ∀ x H', J.yld i H x H' → g x σ H' fun σ2 H2 => tb { D with nx := N, ct := N, bk := D.nx } σ2 H2)
noncomputable def pinsAt (fp : List Addr) (h : Heap) : List (Addr × Obj) := fp.filterMap fun b => (h.get? b).map fun o => (b, o)
theorem mem_pinsAt {fp : List Addr} {h : Heap} {b : Addr} {o : Obj} (hb : b ∈ fp) (e : h.get? b = some o) : (b, o) ∈ pinsAt fp h := List.mem_filterMap.mpr ⟨b, hb, by rw [e]; rfl⟩
theorem of_pinsAt {fp : List Addr} {h : Heap} {p : Addr × Obj} (hp : p ∈ pinsAt fp h) : p.1 ∈ fp ∧ h.get? p.1 = some p.2 := by
  obtain ⟨b, hb, e⟩ := List.mem_filterMap.mp hp
  cases q : h.get? b with
  | none => rw [q] at e; cases e
  | some o =>
    rw [q] at e
    have e' : (b, o) = p := Option.some.inj e
    subst e'
    exact ⟨hb, q⟩
theorem Inv.pinned {pins : List (Addr × Obj)} {σ : St} {H : Hp} {s : Shared} {fp : List Addr} (I : Inv X pins σ H s) (hf : ∀ b ∈ fp, FpOk X pins H b) (ho : ∀ b ∈ fp, ∃ o, s.heap.get? b = some o ∧ ∀ v, o.data ≠ .cell v) : Inv X (pins ++ pinsAt fp s.heap) σ H s :=
  I.pins_of fun p hp => (List.mem_append.mp hp).elim (fun z => I.pin p (List.mem_append_right _ z)) fun z => by
    obtain ⟨hb, e⟩ := of_pinsAt z
    obtain ⟨f0, f1, f2, _⟩ := hf p.1 hb
    obtain ⟨o, e', d⟩ := ho p.1 hb
    rw [e] at e'; cases e'
    exact ⟨e, f0, f1, f2, d⟩
theorem Inv.unpinned {pins pl : List (Addr × Obj)} {σ : St} {H : Hp} {s : Shared} (I : Inv X (pins ++ pl) σ H s) : Inv X pins σ H s := I.pins_of fun p hp => I.pin p (List.mem_append_right _ (List.mem_append_left _ hp))
theorem ps_for {iter : Expr} {body : List Stmt} {wi : TI} {g : TG} {tb : TS} {pos : Pos} (hp : PassesOwn (model X.prog X.w) X.A X.env X.xe) (hc : X.calm = true) (hi : PI X tg iter wi) (hg : PG X tg g) (hb : PSs X body tb)
    (hs : ∀ x, foldedSetIterable iter X.env x = pure x := by intro _; rfl) : PS X (.For tg iter body [] pos) (tFor wi g tb) := by
  intro pins s σ H D I h
  refine wpAny_For (thn (hi pins s σ H _ I h) fun v s1 h1 => thn h1 fun itv s2 h2 => ?_) hs
  obtain ⟨it, fp, tn, J, H2, e, I2, T, st2, f2, W, ⟨m0, w0⟩, turn⟩ := h2
  subst e
  -- what stays true of the iterator's objects through the loop
  have stat : ∀ {H' : Hp}, (∀ b ∈ fp, H' b = none) → ∀ b ∈ fp, FpOk X pins H' b := fun hn b hb => ⟨hn b hb, (f2 b hb).2⟩
  refine codeAny_forLoop_any (fun n s' => ∃ i σ' H', Inv X pins σ' H' s' ∧ tn i s'.heap ∧ (∀ b ∈ fp, H' b = none) ∧ W i n σ' H') ?_ m0 ⟨0, σ, H2, I2, st2, fun b hb => (f2 b hb).1, w0⟩
  rintro n s3 ⟨i, σ3, H3, I3, st3, fr3, w3⟩
  rcases turn i n σ3 H3 w3 with ⟨stop, qn⟩ | ⟨go, N, hN, step⟩
  · refine wpAny_passesOwn hp (thn (T.done X rfl rfl rfl hc i pins s3 σ3 H3 X.xe I3 (stat fr3) st3 stop) fun r s4 ⟨hr, I4⟩ => ?_)
    subst hr
    exact wpAny_execs_nil ⟨σ3, H3, I4, qn⟩
  · refine wpAny_passesOwn hp (thn (T.item X rfl rfl rfl hc i pins s3 σ3 H3 X.xe I3 (stat fr3) st3 go) fun r s4 ⟨u, hr, h4⟩ => ?_)
    subst hr
    refine wpAny_passesOwn hp (thn h4 fun _ s5 zz_ => ?_)
    obtain ⟨x, H5, I5, r5, y5, st5, fr5⟩ := zz_
    have I5' := I5.pinned (stat fr5) (T.obj _ _ st5)
    refine wpAny_passesOwn hp (thn (hg _ s5 σ3 H5 x u _ I5' r5 (step x H5 y5)) fun _ s6 zz_ => ?_)
    obtain ⟨σ6, H6, I6, q6⟩ := zz_
    refine wpAny_passesOwn hp (thn (hb _ s6 σ6 H6 _ I6 q6) fun f s7 q7 => ?_)
    have again : ∀ {σ7 : St} {H7 : Hp}, Inv X (pins ++ pinsAt fp s5.heap) σ7 H7 s7 → N σ7 H7 → ∃ m, m < n ∧ ∃ i σ' H', Inv X pins σ' H' s7 ∧ tn i s7.heap ∧ (∀ b ∈ fp, H' b = none) ∧ W i m σ' H' := fun {σ7 H7} I7 n7 => by
      obtain ⟨m', hm, w7⟩ := hN σ7 H7 n7
      refine ⟨m', hm, i + 1, σ7, H7, I7.unpinned, T.keep _ _ _ st5 fun b hb o e => (I7.pin (b, o) (List.mem_append_right _ (List.mem_append_right _ (mem_pinsAt hb e)))).1, fun b hb => ?_, w7⟩
      obtain ⟨o, e, d⟩ := T.obj _ _ st5 b hb
      exact (I7.pin (b, o) (List.mem_append_right _ (List.mem_append_right _ (mem_pinsAt hb e)))).2.1
    cases f with
    | next => obtain ⟨σ7, H7, I7, n7⟩ := q7; exact again I7 n7
    | cont => obtain ⟨σ7, H7, I7, n7⟩ := q7; exact again I7 n7
    | brk => obtain ⟨σ7, H7, I7, q7⟩ := q7; exact ⟨σ7, H7, I7.unpinned, q7⟩
    | ret v => obtain ⟨x7, σ7, H7, I7, r7, q7⟩ := q7; exact ⟨x7, σ7, H7, I7.unpinned, r7, q7⟩
end
theorem for_range {lo : Int} {n : Nat} {g : TG} {tb : TS} {D : Ends} {σ : St} {H : Hp} (Pv : Nat → St → Hp → Prop) (h0 : Pv 0 σ H)
    (hs : ∀ i σ H, i < n → Pv i σ H → g (.int (lo + i)) σ H fun σ2 H2 => tb { D with nx := Pv (i + 1), ct := Pv (i + 1), bk := D.nx } σ2 H2) (hd : ∀ σ H, Pv n σ H → D.nx σ H) :
    ∃ W : Nat → Nat → St → Hp → Prop, (∃ m, W 0 m σ H) ∧ ∀ i m σ H, W i m σ H →
      ((Itr lo n).stop i H ∧ D.nx σ H) ∨ ((Itr lo n).go i H ∧ ∃ N : St → Hp → Prop, (∀ σ' H', N σ' H' → ∃ m', m' < m ∧ W (i + 1) m' σ' H') ∧ ∀ x H', (Itr lo n).yld i H x H' → g x σ H' fun σ2 H2 => tb { D with nx := N, ct := N, bk := D.nx } σ2 H2) := by
  refine ⟨fun i m σ H => m = n - i ∧ i ≤ n ∧ Pv i σ H, ⟨n, by simp, Nat.zero_le _, h0⟩, ?_⟩
  rintro i m σ H ⟨rfl, hi, p⟩
  by_cases hlt : i < n
  · refine .inr ⟨hlt, Pv (i + 1), fun σ' H' p' => ⟨n - (i + 1), by omega, rfl, hlt, p'⟩, fun x H' y => ?_⟩
    obtain ⟨e, y⟩ := y
    subst e y
    exact hs i σ _ hlt p
  · have e : i = n := by omega
    subst e
    exact .inl ⟨Nat.le_refl _, hd σ H p⟩
end L2
namespace L2
open PySem PySem.Spec PyProof.Rows
noncomputable abbrev R2 := V → V → Hp → VK → Prop
noncomputable def OpR (X : Cx) (f : Value → Value → Sem Value) (r : R2) : Prop :=
  ∀ (pins : List (Addr × Obj)) (s : Shared) (σ : St) (H : Hp) (x y : V) (v u : Value) (Q : VK), Inv X pins σ H s → RelV x v → RelV y u → r x y H Q →
    wpAny (model X.prog X.w) X.A (f v u) (EP X pins σ Q) X.xe s
noncomputable def UnR (X : Cx) (f : Value → Sem Value) (r : V → Hp → VK → Prop) : Prop :=
  ∀ (pins : List (Addr × Obj)) (s : Shared) (σ : St) (H : Hp) (x : V) (v : Value) (Q : VK), Inv X pins σ H s → RelV x v → r x H Q →
    wpAny (model X.prog X.w) X.A (f v) (EP X pins σ Q) X.xe s
noncomputable def CallR (X : Cx) (f : Value) (r : List V → Hp → VK → Prop) : Prop :=
  ∀ (pins : List (Addr × Obj)) (s : Shared) (σ : St) (H : Hp) (xs : List V) (us : List Value) (Q : VK), Inv X pins σ H s → Vals xs us → r xs H Q →
    wpAny (model X.prog X.w) X.A (call f us) (EP X pins σ Q) X.xe s
noncomputable def tOp (r : R2) (ta tb : TE) : TE := fun σ H Q => ta σ H fun x H1 => tb σ H1 fun y H2 => r x y H2 Q
noncomputable def tUn (r : V → Hp → VK → Prop) (ta : TE) : TE := fun σ H Q => ta σ H fun x H1 => r x H1 Q
inductive rI_P (C : Int → Int → Prop) (g : Int → Int → V) (x : V) (y : V) (H : Hp) (Q : VK) : Prop
  | mk (i j : _) (h1 : x = .int i) (h2 : y = .int j) (h3 : C i j) (h4 : Q (g i j) H) : rI_P C g x y H Q
noncomputable def rI (C : Int → Int → Prop) (g : Int → Int → V) : R2 := fun x y H Q => rI_P C g x y H Q
inductive rI0_P (g : Int → Int → V) (x : V) (y : V) (H : Hp) (Q : VK) : Prop
  | mk (i j : _) (h1 : x = .int i) (h2 : y = .int j) (h3 : Q (g i j) H) : rI0_P g x y H Q
noncomputable def rI0 (g : Int → Int → V) : R2 := fun x y H Q => rI0_P g x y H Q
inductive rU_P (g : Int → V) (x : V) (H : Hp) (Q : VK) : Prop
  | mk (i : _) (h1 : x = .int i) (h2 : Q (g i) H) : rU_P g x H Q
noncomputable def rU (g : Int → V) : V → Hp → VK → Prop := fun x H Q => rU_P g x H Q
section
variable {X : Cx} {a b c : Expr} {ta tb tc : TE} {pos : Pos}
theorem binT (ha : PE X a ta) (hb : PE X b tb) {pins : List (Addr × Obj)} {s : Shared} {σ : St} {H : Hp} {R : V → V → Hp → Prop} (I : Inv X pins σ H s)
    (h : ta σ H fun x H1 => tb σ H1 fun y H2 => R x y H2) {Q : Value → Shared → Prop} {f : Value → Value → Sem Value}
    (hf : ∀ v u s2 x y H2, Inv X pins σ H2 s2 → RelV x v → RelV y u → R x y H2 → wpAny (model X.prog X.w) X.A (f v u) Q X.xe s2) :
    wpAny (model X.prog X.w) X.A (eval a X.env) (fun v s₁ => wpAny (model X.prog X.w) X.A (eval b X.env) (fun u s₂ => wpAny (model X.prog X.w) X.A (f v u) Q X.xe s₂) X.xe s₁) X.xe s := by
  refine thn (ha pins s σ H _ I h) fun v s1 zz_ => ?_
  obtain ⟨x, H1, I1, r1, q1⟩ := zz_
  refine thn (hb pins s1 σ H1 _ I1 q1) fun u s2 zz_ => ?_
  obtain ⟨y, H2, I2, r2, q2⟩ := zz_
  exact hf v u s2 x y H2 I2 r1 r2 q2
theorem pe_op {op : Operator} {r : R2} (ho : OpR X (binaryOp op) r) (ha : PE X a ta) (hb : PE X b tb) : PE X (.BinOp a op b pos) (tOp r ta tb) := by
  intro pins s σ H Q I h
  exact wpAny_BinOp (binT ha hb I h fun v u s2 x y H2 I2 rx ry q => ho pins s2 σ H2 x y v u Q I2 rx ry q)
theorem pe_un {op : UnaryOp} {r : V → Hp → VK → Prop} (ho : UnR X (unaryOp op) r) (ha : PE X a ta) : PE X (.UnaryOp op a pos) (tUn r ta) := by
  intro pins s σ H Q I h
  exact UnaryOp_ (thn (ha pins s σ H _ I h) fun v s1 ⟨x, H1, I1, r1, q1⟩ => ho pins s1 σ H1 x v Q I1 r1 q1)
theorem opI {f : Value → Value → Sem Value} {C : Int → Int → Prop} {g : Int → Int → Int}
    (rule : ∀ (i j : Int) (t u : Tok) (s : Shared) (Q : Value → Shared → Prop) (E : Value → Shared → Prop), C i j → Q (.int (g i j) s.toks) { s with toks := s.toks + 1 } → wpAny (model X.prog X.w) X.A (f (.int i t) (.int j u)) Q E s) :
    OpR X f (rI C fun i j => .int (g i j)) := by
  intro pins s σ H x y v u Q I rx ry h
  obtain ⟨i, j, rfl, rfl, hc, q⟩ := h
  obtain ⟨t, rfl⟩ := rx
  obtain ⟨t', rfl⟩ := ry
  exact rule i j t t' s _ _ hc ⟨.int (g i j), H, I.tok _, ⟨_, rfl⟩, q⟩
theorem opI0 {f : Value → Value → Sem Value} {g : Int → Int → Int}
    (rule : ∀ (i j : Int) (t u : Tok) (s : Shared) (Q : Value → Shared → Prop) (E : Value → Shared → Prop), Q (.int (g i j) s.toks) { s with toks := s.toks + 1 } → wpAny (model X.prog X.w) X.A (f (.int i t) (.int j u)) Q E s) :
    OpR X f (rI0 fun i j => .int (g i j)) := by
  intro pins s σ H x y v u Q I rx ry h
  obtain ⟨i, j, rfl, rfl, q⟩ := h
  obtain ⟨t, rfl⟩ := rx
  obtain ⟨t', rfl⟩ := ry
  exact rule i j t t' s _ _ ⟨.int (g i j), H, I.tok _, ⟨_, rfl⟩, q⟩
theorem opB0 {f : Value → Value → Sem Value} {g : Int → Int → Bool}
    (rule : ∀ (i j : Int) (t u : Tok) (s : Shared) (Q : Value → Shared → Prop) (E : Value → Shared → Prop), Q (.bool (g i j)) s → wpAny (model X.prog X.w) X.A (f (.int i t) (.int j u)) Q E s) :
    OpR X f (rI0 fun i j => .bl (g i j)) := by
  intro pins s σ H x y v u Q I rx ry h
  obtain ⟨i, j, rfl, rfl, q⟩ := h
  obtain ⟨t, rfl⟩ := rx
  obtain ⟨t', rfl⟩ := ry
  exact rule i j t t' s _ _ ⟨.bl (g i j), H, I, rfl, q⟩
noncomputable def CPow (i j : Int) : Prop := 0 ≤ j ∧ j ≤ 1000000 ∧ i.natAbs < 2 ^ 64
noncomputable def CMul (i j : Int) : Prop := (-(2 ^ 64) < i ∧ i < 2 ^ 64) ∨ (-(2 ^ 64) < j ∧ j < 2 ^ 64)
theorem CMul.ok {i j : Int} (h : CMul i j) : IntMulOk i j := by
  rcases h with ⟨h1, h2⟩ | ⟨h1, h2⟩
  · exact .of_left (intBits_le_64 h1 h2)
  · exact .of_right (intBits_le_64 h1 h2)
theorem op_add : OpR X (binaryOp .Add) (rI0 fun i j => .int (i + j)) := opI0 fun _ _ _ _ _ _ _ q => add_int q
theorem op_sub : OpR X (binaryOp .Sub) (rI0 fun i j => .int (i - j)) := opI0 fun _ _ _ _ _ _ _ q => sub_int q
theorem op_mul : OpR X (binaryOp .Mult) (rI CMul fun i j => .int (i * j)) := opI fun _ _ _ _ _ _ _ hc q => mul_int q hc.ok
theorem op_mod : OpR X (binaryOp .Mod) (rI (fun _ j => 0 < j) fun i j => .int (i % j)) := opI fun i j _ _ _ _ _ hc q => by
  have h1 : (0 : Int) < j := hc
  exact mod_int' (by omega) (by rw [Int.fmod_eq_emod_of_nonneg i (by omega)]; exact q)
theorem op_pow : OpR X (binaryOp .Pow) (rI CPow fun i j => .int (i ^ j.toNat)) := opI fun _ _ _ _ _ _ _ hc q => pow_int_small hc.1 hc.2.1 hc.2.2 q
theorem unI {f : Value → Sem Value} {g : Int → Int}
    (rule : ∀ (i : Int) (t : Tok) (s : Shared) (Q : Value → Shared → Prop) (E : Value → Shared → Prop), Q (.int (g i) s.toks) { s with toks := s.toks + 1 } → wpAny (model X.prog X.w) X.A (f (.int i t)) Q E s) :
    UnR X f (rU fun i => .int (g i)) := by
  intro pins s σ H x v Q I rx h
  obtain ⟨i, rfl, q⟩ := h
  obtain ⟨t, rfl⟩ := rx
  exact rule i t s _ _ ⟨.int (g i), H, I.tok _, ⟨_, rfl⟩, q⟩
theorem un_neg : UnR X (unaryOp .USub) (rU fun i => .int (-i)) := unI fun _ _ _ _ _ q => neg_int q
end
noncomputable def scal : V → V → Bool
  | .non, .non => true | .non, .int _ => true | .int _, .non => true | .non, .bl _ => true | .bl _, .non => true | .non, .str _ => true | .str _, .non => true
  | .int _, .int _ => true | .bl _, .bl _ => true | .str _, .str _ => true | .byt _, .byt _ => true
  | .int _, .str _ => true | .str _, .int _ => true | .bl _, .str _ => true | .str _, .bl _ => true
  | _, _ => false
noncomputable def rEq : R2 := fun x y H Q => scal x y = true ∧ Q (.bl (decide (x = y))) H
noncomputable def rNe : R2 := fun x y H Q => scal x y = true ∧ Q (.bl (!decide (x = y))) H
theorem dec_int {i j : Int} : decide (V.int i = V.int j) = (i == j) := by
  rw [Bool.eq_iff_iff]
  simp
theorem dec_bl {i j : Bool} : decide (V.bl i = V.bl j) = (i == j) := by
  rw [Bool.eq_iff_iff]
  simp
theorem dec_str {i j : Str} : decide (V.str i = V.str j) = (i == j) := by
  rw [Bool.eq_iff_iff]
  simp
theorem dec_byt {i j : Array UInt8} : decide (V.byt i = V.byt j) = (i.toList == j.toList) := by
  rw [Bool.eq_iff_iff]
  cases i
  cases j
  simp
section
variable {X : Cx} {a b c : Expr} {ta tb tc : TE} {pos : Pos}
theorem fin_bl {pins : List (Addr × Obj)} {σ : St} {H : Hp} {s : Shared} {Q : VK} {k k' : Bool} (I : Inv X pins σ H s) (q : Q (.bl k) H) (e : k = k') : EP X pins σ Q (.bool k') s := by
  subst e
  exact ⟨.bl k, H, I, rfl, q⟩
theorem op_eq : OpR X (compareOp .Eq) rEq := by
  intro pins s σ H x y v u Q I rx ry h
  obtain ⟨hs, q⟩ := h
  cases x with
  | non =>
    cases rx
    cases y with
    | non => cases ry; exact PySem.EqNone.eq_none_none (fin_bl I q (by simp))
    | bl j => cases ry; exact PySem.EqNone.eq_none_bool (fin_bl I q (by simp))
    | int j => obtain ⟨t', rfl⟩ := ry; exact PySem.EqNone.eq_none_int (fin_bl I q (by simp))
    | str j => obtain ⟨t', rfl⟩ := ry; exact PySem.EqNone.eq_none_str (fin_bl I q (by simp))
    | _ => exact absurd (show false = true from hs) Bool.false_ne_true
  | bl i =>
    cases rx
    cases y with
    | non => cases ry; exact PySem.EqNone.eq_bool_none (fin_bl I q (by simp))
    | bl j => cases ry; exact eq_bool (fin_bl I q dec_bl)
    | str j => obtain ⟨t', rfl⟩ := ry; exact PySem.EqMixed.eq_bool_str (fin_bl I q (by simp))
    | _ => exact absurd (show false = true from hs) Bool.false_ne_true
  | int i =>
    obtain ⟨t, rfl⟩ := rx
    cases y with
    | non => cases ry; exact PySem.EqNone.eq_int_none (fin_bl I q (by simp))
    | int j => obtain ⟨t', rfl⟩ := ry; exact eq_int (fin_bl I q dec_int)
    | str j => obtain ⟨t', rfl⟩ := ry; exact PySem.EqMixed.eq_int_str (fin_bl I q (by simp))
    | _ => exact absurd (show false = true from hs) Bool.false_ne_true
  | str i =>
    obtain ⟨t, rfl⟩ := rx
    cases y with
    | non => cases ry; exact PySem.EqNone.eq_str_none (fin_bl I q (by simp))
    | bl j => cases ry; exact PySem.EqMixed.eq_str_bool (fin_bl I q (by simp))
    | int j => obtain ⟨t', rfl⟩ := ry; exact PySem.EqMixed.eq_str_int (fin_bl I q (by simp))
    | str j => obtain ⟨t', rfl⟩ := ry; exact eq_str (fin_bl I q dec_str)
    | _ => exact absurd (show false = true from hs) Bool.false_ne_true
  | byt i =>
    obtain ⟨t, rfl⟩ := rx
    cases y with
    | byt j => obtain ⟨t', rfl⟩ := ry; exact PySem.W.eq_bytes (fin_bl I q dec_byt)
    | _ => exact absurd (show false = true from hs) Bool.false_ne_true
  | _ => cases y <;> exact absurd (show false = true from hs) Bool.false_ne_true
theorem op_ne : OpR X (compareOp .NotEq) rNe := by
  intro pins s σ H x y v u Q I rx ry h
  obtain ⟨hs, q⟩ := h
  cases x with
  | non =>
    cases rx
    cases y with
    | non => cases ry; exact PySem.EqNone.ne_none_none (fin_bl I q (by simp))
    | bl j => cases ry; exact PySem.EqNone.ne_none_bool (fin_bl I q (by simp))
    | int j => obtain ⟨t', rfl⟩ := ry; exact PySem.EqNone.ne_none_int (fin_bl I q (by simp))
    | str j => obtain ⟨t', rfl⟩ := ry; exact PySem.EqNone.ne_none_str (fin_bl I q (by simp))
    | _ => exact absurd (show false = true from hs) Bool.false_ne_true
  | bl i =>
    cases rx
    cases y with
    | non => cases ry; exact PySem.EqNone.ne_bool_none (fin_bl I q (by simp))
    | bl j => cases ry; exact ne_bool (fin_bl I q (congrArg not dec_bl))
    | str j => obtain ⟨t', rfl⟩ := ry; exact PySem.EqMixed.ne_bool_str (fin_bl I q (by simp))
    | _ => exact absurd (show false = true from hs) Bool.false_ne_true
  | int i =>
    obtain ⟨t, rfl⟩ := rx
    cases y with
    | non => cases ry; exact PySem.EqNone.ne_int_none (fin_bl I q (by simp))
    | int j => obtain ⟨t', rfl⟩ := ry; exact ne_int (fin_bl I q (congrArg not dec_int))
    | str j => obtain ⟨t', rfl⟩ := ry; exact PySem.EqMixed.ne_int_str (fin_bl I q (by simp))
    | _ => exact absurd (show false = true from hs) Bool.false_ne_true
  | str i =>
    obtain ⟨t, rfl⟩ := rx
    cases y with
    | non => cases ry; exact PySem.EqNone.ne_str_none (fin_bl I q (by simp))
    | bl j => cases ry; exact PySem.EqMixed.ne_str_bool (fin_bl I q (by simp))
    | int j => obtain ⟨t', rfl⟩ := ry; exact PySem.EqMixed.ne_str_int (fin_bl I q (by simp))
    | str j => obtain ⟨t', rfl⟩ := ry; exact ne_str (fin_bl I q (congrArg not dec_str))
    | _ => exact absurd (show false = true from hs) Bool.false_ne_true
  | byt i =>
    obtain ⟨t, rfl⟩ := rx
    cases y with
    | byt j => obtain ⟨t', rfl⟩ := ry; exact PySem.W.ne_bytes (fin_bl I q (congrArg not dec_byt))
    | _ => exact absurd (show false = true from hs) Bool.false_ne_true
  | _ => cases y <;> exact absurd (show false = true from hs) Bool.false_ne_true
theorem op_lt : OpR X (compareOp .Lt) (rI0 fun i j => .bl (decide (i < j))) := opB0 fun _ _ _ _ _ _ _ q => lt_int q
theorem op_gt : OpR X (compareOp .Gt) (rI0 fun i j => .bl (decide (j < i))) := opB0 fun _ _ _ _ _ _ _ q => gt_int q
theorem OpR.or {f : Value → Value → Sem Value} {r r' : R2} (h : OpR X f r) (h' : OpR X f r') : OpR X f (fun x y H Q => r x y H Q ∨ r' x y H Q) := by
  intro pins s σ H x y v u Q I rx ry q
  rcases q with q | q
  · exact h pins s σ H x y v u Q I rx ry q
  · exact h' pins s σ H x y v u Q I rx ry q
theorem nomark (b : Expr) {op : CmpOp} (h : op ≠ .In := by decide) (h2 : op ≠ .NotIn := by decide) : behindInMarks op b = false := by
  have e1 : (op == CmpOp.In) = false := by cases op <;> first | rfl | exact absurd rfl h
  have e2 : (op == CmpOp.NotIn) = false := by cases op <;> first | rfl | exact absurd rfl h2
  cases b <;> simp [behindInMarks, e1, e2]
theorem pe_cmpR {op : CmpOp} {r : R2} (ho : OpR X (compareOp op) r) (ha : PE X a ta) (hb : PE X b tb) (hm : behindInMarks op b = false) : PE X (.Compare a [op] [b] pos) (tOp r ta tb) := by
  intro pins s σ H Q I h
  exact wpAny_Compare1 (binT ha hb I h fun v u s2 x y H2 I2 rx ry q => ho pins s2 σ H2 x y v u Q I2 rx ry q) hm
inductive tTest_P (Q : (Bool → Hp → Prop)) (x : V) (H' : Hp) : Prop
  | mk (k : _) (h1 : x = .bl k) (h2 : Q k H') : tTest_P Q x H'
noncomputable def tTest (t : TE) : TT := fun σ H Q => t σ H fun x H' => tTest_P Q x H'
theorem pt_cmpR {op : CmpOp} {r : R2} (ho : OpR X (compareOp op) r) (ha : PE X a ta) (hb : PE X b tb) (hm : behindInMarks op b = false) : PT X (.Compare a [op] [b] pos) (tTest (tOp r ta tb)) := by
  intro pins s σ H Q I h
  refine wpAny_isTrue_Compare1 (thn (ha pins s σ H _ I h) fun v s1 ⟨x, H1, I1, r1, q1⟩ => thn (hb pins s1 σ H1 _ I1 q1) fun u s2 ⟨y, H2, I2, r2, q2⟩ =>
    thn (ho pins s2 σ H2 x y v u _ I2 r1 r2 q2) fun c s3 ⟨z, H3, I3, r3, k, e, q3⟩ => ?_) hm
  subst e
  cases r3
  exact wpAny_truthy_bool ⟨H3, I3, q3⟩
theorem line63 : (sizeLine : Nat) < 2 ^ 63 := by rw [sizeLine_eq]; decide
theorem op_add_str : OpR X (binaryOp .Add) (fun x y H Q => ∃ i j, x = .str i ∧ y = .str j ∧ i.length + j.length ≤ sizeLine ∧ Q (.str (i ++ j)) H) := by
  intro pins s σ H x y v u Q I rx ry h
  obtain ⟨i, j, rfl, rfl, hz, q⟩ := h
  obtain ⟨t, rfl⟩ := rx
  obtain ⟨t', rfl⟩ := ry
  exact add_str (fun t' tk => ⟨.str (i ++ j), H, I.tok _, ⟨_, rfl⟩, q⟩) hz
theorem vals1 {x : V} {us : List Value} (r : Vals [x] us) : ∃ u, us = [u] ∧ RelV x u := by
  cases r with
  | cons r1 r2 => cases r2; exact ⟨_, rfl, r1⟩
theorem vals2 {x y : V} {us : List Value} (r : Vals [x, y] us) : ∃ u w', us = [u, w'] ∧ RelV x u ∧ RelV y w' := by
  cases r with
  | cons r1 r2 =>
    cases r2 with
    | cons r3 r4 => cases r4; exact ⟨_, _, rfl, r1, r3⟩
theorem call_abs : CallR X (.builtin "abs") (fun xs H Q => ∃ i, xs = [.int i] ∧ Q (.int (if i < 0 then -i else i)) H) := by
  intro pins s σ H xs us Q I r h
  obtain ⟨i, rfl, q⟩ := h
  obtain ⟨u, rfl, t, rfl⟩ := vals1 r
  exact call_abs_int fun u tk => ⟨.int (if i < 0 then -i else i), H, I.tok _, ⟨_, rfl⟩, q⟩
theorem call_max2 (hc : X.calm = true) : CallR X (.builtin "max") (fun xs H Q => ∃ i j, xs = [.int i, .int j] ∧ Q (.int (if j > i then j else i)) H) := by
  intro pins s σ H xs us Q I r h
  obtain ⟨i, j, rfl, q⟩ := h
  obtain ⟨u, w', rfl, ⟨t, rfl⟩, ⟨t', rfl⟩⟩ := vals2 r
  refine max_two_ints (I.ok.hd hc) fun h' tk k => ⟨_, H, I.kept k, ?_, q⟩
  by_cases hj : j > i
  · rw [if_pos hj, if_pos hj]; exact ⟨_, rfl⟩
  · rw [if_neg hj, if_neg hj]; exact ⟨_, rfl⟩
theorem call_min2 (hc : X.calm = true) : CallR X (.builtin "min") (fun xs H Q => ∃ i j, xs = [.int i, .int j] ∧ Q (.int (if j < i then j else i)) H) := by
  intro pins s σ H xs us Q I r h
  obtain ⟨i, j, rfl, q⟩ := h
  obtain ⟨u, w', rfl, ⟨t, rfl⟩, ⟨t', rfl⟩⟩ := vals2 r
  refine min_two_ints (I.ok.hd hc) fun h' tk k => ⟨_, H, I.kept k, ?_, q⟩
  by_cases hj : j < i
  · rw [if_pos hj, if_pos hj]; exact ⟨_, rfl⟩
  · rw [if_neg hj, if_neg hj]; exact ⟨_, rfl⟩
noncomputable def LenV (K : PySem.W.Frag) (x : V) (H : Hp) (n : Nat) : Prop :=
  match x with
  | .str y => y.length ≤ sizeLine ∧ n = y.length
  | .byt y => y.size ≤ sizeLine ∧ n = y.size
  | .ref p => (∃ xs, SqL K H p xs ∧ n = xs.length) ∨ ∃ xs, SqT K H p xs ∧ n = xs.length
  | _ => False
theorem call_len : CallR X (.builtin "len") (fun xs H Q => ∃ x n, xs = [x] ∧ LenV X.K x H n ∧ Q (.int n) H) := by
  intro pins s σ H xs us Q I r h
  obtain ⟨x, n, rfl, e, q⟩ := h
  obtain ⟨u, rfl, rx⟩ := vals1 r
  have hl := line63
  have hs : sizeLine = 16777216 := sizeLine_eq
  cases x with
  | str y =>
    obtain ⟨t, rfl⟩ := rx
    obtain ⟨hy, e'⟩ : y.length ≤ sizeLine ∧ n = y.length := e
    subst e'
    exact len_str (by omega) ⟨.int _, H, I.tok _, ⟨_, rfl⟩, q⟩
  | byt y =>
    obtain ⟨t, rfl⟩ := rx
    obtain ⟨hy, e'⟩ : y.size ≤ sizeLine ∧ n = y.size := e
    subst e'
    exact PySem.W.len_bytes (by omega) ⟨.int _, H, I.tok _, ⟨_, rfl⟩, q⟩
  | ref p =>
    cases rx
    have e' : (∃ xs, SqL X.K H p xs ∧ n = xs.length) ∨ ∃ xs, SqT X.K H p xs ∧ n = xs.length := e
    rcases e' with ⟨xs, hx, e'⟩ | ⟨xs, hx, e'⟩
    · subst e'
      obtain ⟨its, r', pl, hz⟩ := I.list hx
      have hlen := r'.length
      exact Calls.call_len_list pl.isList (by simp only [List.size_toArray]; omega) ⟨.int xs.length, H, I.tok _, ⟨_, by simp only [List.size_toArray]; rw [hlen]⟩, q⟩
    · subst e'
      obtain ⟨its, r', pl, hz⟩ := I.tuple hx
      have hlen := r'.length
      exact len_tuple pl (by simp only [List.size_toArray]; omega) ⟨.int xs.length, H, I.tok _, ⟨_, by simp only [List.size_toArray]; rw [hlen]⟩, q⟩
  | _ => exact (show False from e).elim
end
end L2
namespace L2
open PySem PySem.Spec PyProof.Rows
theorem lookIn_ns {h : Heap} {dx : Addr} {mA : Str → Option Value} (n : h.Ns1 dx mA) : ∃ od, h.get? dx = some od ∧ ∀ name, PySem.W.lookIn name od = some (mA name) := by
  obtain ⟨o, es, ep, ho, hd, hk, _, hm⟩ := n
  refine ⟨o, ho, fun name => ?_⟩
  have e := hm name
  unfold nsFind findBy at e
  rw [← Array.find?_toList] at e
  unfold PySem.W.lookIn
  rw [hd]
  dsimp only
  split
  · rename_i y q
    rw [q] at e
    exact congrArg some e
  · rename_i q
    rw [q] at e
    have a : es.toList.any (·.refKey) = false := by
      rw [List.any_eq_false]
      intro y hy
      obtain ⟨z, t, hkey⟩ := hk y (Array.mem_toList_iff.mp hy)
      simp [DictEntry.refKey, hkey]
    have a' : ¬ es.toList.any (·.refKey) = true := by rw [a]; exact Bool.false_ne_true
    rw [if_neg a']
    exact congrArg some e
section
variable {prog : Program} {w : World} {A : Around} {E : Value → Shared → Prop} {s : Shared} {K : PySem.W.Frag} {x dx C f : Addr} {mA : Str → Option Value} {name : Str} {v : Value}
end
theorem RelO.some_of {v : V} {o : Option Value} (r : RelO (some v) o) : ∃ u, o = some u ∧ RelV v u := by
  cases o with
  | none => exact (show False from r).elim
  | some u => exact ⟨u, rfl, r⟩
theorem handed_of {v : V} {u : Value} (r : RelV v u) : PySem.W.handedIn u = true := by
  cases v with
  | non => cases (show u = Value.none from r); rfl
  | bl b => cases (show u = Value.bool b from r); rfl
  | int i => obtain ⟨t, e⟩ := (show ∃ t, u = Value.int i t from r); cases e; rfl
  | str x => obtain ⟨t, e⟩ := (show ∃ t, u = Value.str x t from r); cases e; rfl
  | byt b => obtain ⟨t, e⟩ := (show ∃ t, u = Value.bytes b t from r); cases e; rfl
  | flt b => obtain ⟨t, e⟩ := (show ∃ t, u = Value.float b t from r); cases e; rfl
  | ref a => cases (show u = Value.ref a from r); rfl
  | ty n => cases (show u = Value.type n from r); rfl
section
variable {P : Program} {w : World} {H H' : Hp} {h h' : Heap} {a C dx : Addr} {fs fs' : List (Str × V)}
end
noncomputable def NoAttr (K : PySem.W.Frag) (C : Addr) (f : Str) : Prop := PySem.W.findIn K (.ref C) f = some none
structure Meth (K : PySem.W.Frag) (C : Addr) (m : Str) (f : Addr) : Prop where
  at_ : PySem.W.findIn K (.ref C) m = some (some (.ref f))
  fn : PySem.W.isFn K (.ref f) = true
  kp : PySem.W.keepIn K (.ref f) = true
section
variable {X : Cx} {pins : List (Addr × Obj)} {σ : St} {H : Hp} {s : Shared} {a C dx : Addr} {fs : List (Str × V)} {f : Str} {v : V} {A : Around} {E : Value → Shared → Prop}
theorem attr_of {prog : Program} {w : World} {env : Env} {e : Expr} {f : Str} {pos : Pos} {s : Shared} {Q : Value → Shared → Prop} (hb : attributeBase e f env (eval e env) = eval e env)
    (h : wpAny (model prog w) A (eval e env) (fun o s₁ => wpAny (model prog w) A (getAttr o f true) Q E s₁) E s) : wpAny (model prog w) A (eval (.Attribute e f pos) env) Q E s :=
  Attribute_any_ h (by rw [arm_eval_Attribute, hb])
end
section
variable {X : Cx} {o e value : Expr} {f : Str} {pos pos' tpos : Pos} {ta tv : TE}
end
section
variable {X : Cx} {pins : List (Addr × Obj)} {σ : St} {H : Hp} {s : Shared} {A : Around} {E : Value → Shared → Prop} {Q : Value → Shared → Prop} {c : Value} {b : Bool}
end
end L2
namespace L2
open PySem PySem.Spec PyProof.Rows
structure Room (k : Nat) (A : Around) : Prop where
  hd : A.handled = none
  dp : A.depth + 3 * k + 5 < recursionLimit
  un : A.units + 16 * k + 200 < cLine
  gd : A.guards = some []
theorem Room.mono {j k : Nat} {A : Around} (r : Room k A) (h : j ≤ k) : Room j A := ⟨r.hd, by have := r.dp; omega, by have := r.un; omega, r.gd⟩
theorem Room.deeper {k : Nat} {A : Around} (r : Room (k + 1) A) (env : Env) : Room k (A.deeper env) :=
  ⟨r.hd, by have := r.dp; show A.depth + 1 + 3 * k + 5 < _; omega, by have := r.un; show A.units + 3 + 16 * k + 200 < _; omega, r.gd⟩
theorem make_depth {A : Around} {C : Addr} {us : List Value} {kw : List (Str × Value)} : (A.under (.builtin "type.__call__" ⟨.ref C :: us, kw⟩)).depth = A.depth + 1 := by
  first | rfl | simp [Around.under, Code.weight, Code.isCreation, Code.isGuard, Code.isCaller, Code.frames, Code.isFrame, guardIds]
theorem make_units {A : Around} {C : Addr} {us : List Value} {kw : List (Str × Value)} : (A.under (.builtin "type.__call__" ⟨.ref C :: us, kw⟩)).units = A.units + 1 := by
  first | rfl | simp [Around.under, Code.cUnits, Code.frames, Code.isFrame]
theorem Room.make {k : Nat} {A : Around} (r : Room (k + 1) A) (C : Addr) (us : List Value) (kw : List (Str × Value)) : Room k (A.under (.builtin "type.__call__" ⟨.ref C :: us, kw⟩)) :=
  ⟨r.hd, by have := r.dp; rw [make_depth]; omega, by have := r.un; rw [make_units]; omega, r.gd⟩
theorem Room.depth {k : Nat} {A : Around} (r : Room k A) : A.depth < recursionLimit := by have := r.dp; omega
theorem Room.units {k : Nat} {A : Around} (r : Room k A) : A.units + 64 < cLine := by have := r.un; omega
noncomputable def tNil : TA := fun _ H Q => Q [] H
noncomputable def tCons (ta : TE) (tr : TA) : TA := fun σ H Q => ta σ H fun x H1 => tr σ H1 fun xs H2 => Q (x :: xs) H2
section
variable {X : Cx} {e : Expr} {es : List Expr} {te : TE} {t : TA} {pos : Pos}
theorem pa_nil : PA X [] tNil := fun _ _ _ _ H Q I h => Calls.spliced_nil ⟨[], H, I, .nil, h⟩
theorem pa_cons (ha : PE X e te) (hr : PA X es t) (hs : starEach (e :: es) X.env = (false, eval e X.env) :: starEach es X.env := by rfl) : PA X (e :: es) (tCons te t) := by
  intro pos pins s σ H Q I h
  rw [hs]
  show wpAny _ _ (spliced ((false, eval e X.env) :: backTo pos (starEach es X.env))) _ _ s
  refine Calls.spliced_cons (thn (ha pins s σ H _ I h) fun u s1 zz_ => ?_)
  obtain ⟨x, H1, I1, r1, q1⟩ := zz_
  exact thn (hr pos pins s1 σ H1 _ I1 q1) fun us s2 ⟨xs, H2, I2, r2, q2⟩ => ⟨x :: xs, H2, I2, .cons r1 r2, q2⟩
noncomputable def tTup (t : TA) : TE := fun σ H Q => t σ H fun xs H1 => xs.length ≤ sizeLine ∧ ∀ p, H1 p = none → Q (.ref p) (upd H1 p (.tup xs))
noncomputable def tLst (t : TA) : TE := fun σ H Q => t σ H fun xs H1 => xs.length ≤ sizeLine ∧ ∀ p, H1 p = none → Q (.ref p) (upd H1 p (.lst xs))
theorem pe_tup {x1} (h : PA X es t) : PE X (.Tuple es x1 pos) (tTup t) := by
  intro pins s σ H Q I hq
  refine wpAny_Tuple_spliced (thn (h pos pins s σ H _ I hq) fun us s1 ⟨xs, H1, I1, r, z, q⟩ => ⟨by rw [← r.length]; exact z, ?_⟩)
  have hf : H1 s1.heap.objs.size = none := I1.hok.fresh (Nat.le_refl _)
  refine ⟨.ref s1.heap.objs.size, upd H1 s1.heap.objs.size (.tup xs), I1.laid (t' := s1.toks) (fun b u e => Heap.get?_push_of_some _ e) (Nat.le_refl _) ?_, rfl, q _ hf⟩
  exact ⟨z, us, r, ⟨_, Heap.get?_push_size _ rfl, rfl, _, rfl⟩⟩
theorem pe_lst (h : PA X es t) : PE X (.List es pos) (tLst t) := by
  intro pins s σ H Q I hq
  refine wpAny_List_spliced (thn (h pos pins s σ H _ I hq) fun us s1 ⟨xs, H1, I1, r, z, q⟩ => ⟨by rw [← r.length]; exact z, ?_⟩)
  have hf : H1 s1.heap.objs.size = none := I1.hok.fresh (Nat.le_refl _)
  refine ⟨.ref s1.heap.objs.size, upd H1 s1.heap.objs.size (.lst xs), I1.laid (t' := s1.toks) (fun b u e => Heap.get?_push_of_some _ e) (Nat.le_refl _) ?_, rfl, q _ hf⟩
  exact ⟨z, us, 0, r, Heap.get?_push_size _ rfl⟩
end
noncomputable abbrev Sp := List V → Hp → VK → XK → Prop
noncomputable abbrev CXT := List Env → Hp → Shared → XK → Value → Shared → Prop
structure Env0 (P : Program) (w : World) (K : PySem.W.Frag) (mg : Str → Option Value) (base : Heap) (A : Around) (outer : List Env) (s : Shared) (H : Hp) : Prop where
  frames : A.frames = some outer
  mod : Mod K mg base
  bs : ∀ b o, base.get? b = some o → s.heap.get? b = some o ∧ H b = none
  bsz : base.objs.size ≤ s.heap.objs.size
  funs : s.heap.FunFrames base outer
  frf : ∀ b ∈ frs outer, H b = none
  hok : HOk P w H s.heap
  bare : AllBare s.gens
noncomputable def CE (outer : List Env) (P : Program) (w : World) (H : Hp) (s : Shared) (Q : VK) (u : Value) (s' : Shared) : Prop :=
  ∃ v H', s'.os = s.os ∧ AllBare s'.gens ∧ Un (frs outer) [] H H' s.heap s'.heap ∧ HOk P w H' s'.heap ∧ RelV v u ∧ Q v H'
noncomputable def CR (CX : CXT) (outer : List Env) (P : Program) (w : World) (H : Hp) (s : Shared) (Q : VK) (E : XK) (r : Result) (s' : Shared) : Prop :=
  match r with
  | .ok (.ret u) => CE outer P w H s Q u s'
  | .ok _ => False
  | .error e => CX outer H s E e s'
structure FnOk (P : Program) (w : World) (K : PySem.W.Frag) (mg : Str → Option Value) (base : Heap) (CX : CXT) (k : Nat) (f : Addr) (fd : FuncData) (ps : List Str) (sp : Sp) : Prop where
  len : ∀ vs H Q E, sp vs H Q E → vs.length = ps.length
  run : ∀ (A : Around) (outer : List Env) (s : Shared) (H : Hp) (args : Args) (us : List Value) (vs : List V) (Q : VK) (E : XK), Room k A → Env0 P w K mg base A outer s H → BindsTo s fd args (ps.zip us) → Vals vs us → sp vs H Q E →
    codeAny (model P w) A (.call (.ref f) args) (CR CX outer P w H s Q E) s
theorem Env0.make {P : Program} {w : World} {K : PySem.W.Frag} {mg : Str → Option Value} {base : Heap} {A : Around} {outer : List Env} {s : Shared} {H : Hp} (e : Env0 P w K mg base A outer s H) (C : Addr) (us : List Value) (kw : List (Str × Value)) :
    Env0 P w K mg base (A.under (.builtin "type.__call__" ⟨.ref C :: us, kw⟩)) outer s H := ⟨by first | exact e.frames | (simpa [Around.under, Code.envs, Code.isFrame, pushEnvs] using e.frames), e.mod, e.bs, e.bsz, e.funs, e.frf, e.hok, e.bare⟩
section
variable {X : Cx} {pins : List (Addr × Obj)} {σ : St} {H : Hp} {s s' : Shared}
theorem Inv.env0 (I : Inv X pins σ H s) : Env0 X.prog X.w X.K X.mg X.base X.A X.stack s H :=
  ⟨I.ok.frames, I.ok.mod, I.bs, Nat.le_trans I.ok.bsz I.sz, I.stack, I.stkFree, I.hok, I.bare⟩
theorem Inv.after {Q : VK} {u : Value} (I : Inv X pins σ H s) (h : CE X.stack X.prog X.w H s Q u s') : EP X pins σ Q u s' := by
  obtain ⟨v, H', os, bare, un, hok, r, q⟩ := h
  obtain ⟨hh, g, d, t, os'⟩ := s'
  obtain rfl : os' = s.os := os
  exact ⟨v, H', I.call (h' := hh) (g' := g) (d' := d) (t' := t) (ch := []) un hok bare (fun b z => absurd z (by simp)), r, q⟩
end
noncomputable def tCall (sp : Sp) (dvs : List V) (E : XK) (t : TA) : TE := fun σ H Q => t σ H fun vs H1 => sp (vs ++ dvs) H1 Q E
noncomputable def Binds (K : PySem.W.Frag) (fd : FuncData) (ps : List Str) (ds : List Value) : Prop :=
  ∀ (s : Shared) (us : List Value), K.In s.heap → (us ++ ds).length = ps.length → BindsTo s fd ⟨us, []⟩ (ps.zip (us ++ ds))
theorem Binds.all {K : PySem.W.Frag} {fd : FuncData} {ps : List Str} (h : ∀ us : List Value, us.length = ps.length → bindArgs fd ⟨us, []⟩ = pure (ps.zip us)) : Binds K fd ps [] := fun s us _ hl => by
  rw [List.append_nil] at hl ⊢
  exact .of_eq (h us hl)
noncomputable def Passes (CX : CXT) (X : Cx) (E : XK) : Prop := ∀ (pins : List (Addr × Obj)) (σ : St) (H : Hp) (s : Shared) (e : Value) (s' : Shared), Inv X pins σ H s → CX X.stack H s E e s' → X.xe e s'
section
variable {X : Cx} {CX : CXT} {k : Nat} {f C : Addr} {fd : FuncData} {ps : List Str} {sp : Sp} {dvs : List V} {ds : List Value} {E : XK} {x m : Str} {p pos apos : Pos} {e o : Expr} {es : List Expr} {ta : TE} {t : TA}
theorem run_fn {pins : List (Addr × Obj)} {σ : St} {H : Hp} {s : Shared} {Q : VK} {us : List Value} {vs : List V} (F : FnOk X.prog X.w X.K X.mg X.base CX k f fd ps sp) (hr : Room k X.A) (hb : Binds X.K fd ps ds) (hd : Vals dvs ds) (hx : Passes CX X E)
    (I : Inv X pins σ H s) (r : Vals vs us) (h : sp (vs ++ dvs) H Q E) : wpAny (model X.prog X.w) X.A (call (.ref f) us) (EP X pins σ Q) X.xe s := by
  have r2 : Vals (vs ++ dvs) (us ++ ds) := r.append hd
  have hl : (us ++ ds).length = ps.length := by rw [← r2.length]; exact F.len _ _ _ _ h
  refine wpAny_call (codeAny_mono (F.run X.A X.stack s H ⟨us, []⟩ (us ++ ds) (vs ++ dvs) Q E hr I.env0 (hb s us I.kIn hl) r2 h) fun r s' hq => ?_)
  cases r with
  | error e => exact hx pins σ H s e s' I hq
  | ok fl =>
    cases fl with
    | ret u => exact I.after hq
    | next => exact False.elim hq
    | brk => exact False.elim hq
    | cont => exact False.elim hq
theorem pe_call (F : FnOk X.prog X.w X.K X.mg X.base CX k f fd ps sp) (hr : Room k X.A) (hg : Gl X x) (hm : X.mg x = some (.ref f)) (hk : PySem.W.keepIn X.K (.ref f) = true) (hb : Binds X.K fd ps ds) (hd : Vals dvs ds) (hx : Passes CX X E)
    (ha : PA X (e :: es) t) (hdb : (x == ("__debug__" : Str)) = false := by decide) (he : starEach (e :: es) X.env = (false, eval e X.env) :: starEach es X.env := by rfl) (hpl : (backTo pos (starEach es X.env)).any (·.1) = false := by rfl) :
    PE X (.Call (.Name x p) (e :: es) [] pos) (tCall sp dvs E t) := by
  intro pins s σ H Q I h
  refine wpAny_Call_Name_kw (ld_glob I hg hm ?_ hdb)
  refine PySem.W.callWith_K (h₀ := X.base) I.ok.mod.kin hk (thn (ha pos pins s σ H _ I h) fun us s1 ⟨vs, H1, I1, r, q⟩ => ⟨I1.kIn, ?_⟩) he hpl
  exact run_fn F hr hb hd hx I1 r q
end
section
variable {X : Cx} {CX : CXT} {k : Nat} {f C : Addr} {fd : FuncData} {ps ks : List Str} {sp : Sp} {E : XK} {x m : Str} {p pos apos kpos : Pos} {e o : Expr} {es : List Expr} {kws : List Keyword} {te ta : TE} {t tk : TA} {nm : Option Str}
variable {g : List Value → List Value → List Value} {gV : List V → List V → List V}
end
structure FnScope (N P : List Str) (sc : Scope) : Prop where
  kind : sc.kind = .function
  co : sc.isCoroutine = false
  gen : sc.isGenerator = false
  nd : N.Nodup
  pre : N.take P.length = P
  par : ∀ x ∈ P, sc.names.lookup x = some .local ∨ sc.names.lookup x = some .cell
  nofree : ∀ y ∈ sc.names, y.2 ≠ .free
theorem bindL_out {kindOf : Str → Option NameKind} {x : Str} : ∀ {binds : List (Str × Value)} {m : Str → Option Value}, (∀ v, (x, v) ∉ binds) → bindL kindOf binds m x = m x
  | [], _, _ => rfl
  | (n, v) :: r, m, h => by
    unfold bindL
    rw [bindL_out fun w hw => h w (List.mem_cons_of_mem _ hw)]
    split
    · have : x ≠ n := by rintro rfl; exact h v List.mem_cons_self
      simp [this]
    · rfl
theorem bindC_out {kindOf : Str → Option NameKind} {x : Str} : ∀ {binds : List (Str × Value)} {m : Str → Option Value}, (∀ v, (x, v) ∉ binds) → bindC kindOf binds m x = m x
  | [], _, _ => rfl
  | (n, v) :: r, m, h => by
    unfold bindC
    rw [bindC_out fun w hw => h w (List.mem_cons_of_mem _ hw)]
    split
    · rfl
    · have : x ≠ n := by rintro rfl; exact h v List.mem_cons_self
      simp [this]
theorem bindL_get {kindOf : Str → Option NameKind} {x : Str} {v : Value} : ∀ {P : List Str} {vs : List Value} {i : Nat} {m : Str → Option Value}, P.Nodup → P[i]? = some x → vs[i]? = some v → kindOf x = some .local →
    bindL kindOf (P.zip vs) m x = some v
  | [], _, _, _, _, h, _, _ => by simp at h
  | _ :: _, [], _, _, _, _, h, _ => by simp at h
  | p :: P, w :: vs, 0, m, nd, h1, h2, hk => by
    simp at h1 h2; subst h1; subst h2
    show bindL kindOf ((p, w) :: P.zip vs) m p = _
    unfold bindL
    rw [bindL_out fun v hv => (List.nodup_cons.mp nd).1 (List.of_mem_zip hv).1, if_pos hk]
    simp
  | p :: P, w :: vs, i + 1, m, nd, h1, h2, hk => by
    show bindL kindOf ((p, w) :: P.zip vs) m x = _
    unfold bindL
    exact bindL_get (i := i) (List.nodup_cons.mp nd).2 (by simpa using h1) (by simpa using h2) hk
theorem bindC_get {kindOf : Str → Option NameKind} {x : Str} {v : Value} : ∀ {P : List Str} {vs : List Value} {i : Nat} {m : Str → Option Value}, P.Nodup → P[i]? = some x → vs[i]? = some v → kindOf x ≠ some .local →
    bindC kindOf (P.zip vs) m x = some v
  | [], _, _, _, _, h, _, _ => by simp at h
  | _ :: _, [], _, _, _, _, h, _ => by simp at h
  | p :: P, w :: vs, 0, m, nd, h1, h2, hk => by
    simp at h1 h2; subst h1; subst h2
    show bindC kindOf ((p, w) :: P.zip vs) m p = _
    unfold bindC
    rw [bindC_out fun v hv => (List.nodup_cons.mp nd).1 (List.of_mem_zip hv).1, if_neg hk]
    simp
  | p :: P, w :: vs, i + 1, m, nd, h1, h2, hk => by
    show bindC kindOf ((p, w) :: P.zip vs) m x = _
    unfold bindC
    exact bindC_get (i := i) (List.nodup_cons.mp nd).2 (by simpa using h1) (by simpa using h2) hk
noncomputable def start (N : List Str) (vs : List V) : St := vs.map some ++ List.replicate (N.length - vs.length) none
noncomputable def cxOf (CX : CXT) (P : Program) (w : World) (K : PySem.W.Frag) (mg : Str → Option Value) (base : Heap) (N : List Str) (qual : Str) (scope : Scope) (f : Addr) (cd : Value) (A : Around) (outer : List Env) (s : Shared) (H : Hp) (E : XK) : Cx where
  prog := P
  w := w
  K := K
  mg := mg
  base := base
  A := A.deeper (envOfC qual scope s.heap.objs.size f cd)
  N := N
  s₀ := s
  H₀ := H
  env := envOfC qual scope s.heap.objs.size f cd
  outer := outer
  stack := envOfC qual scope s.heap.objs.size f cd :: outer
  ex := []
  calm := true
  fn := fun _ => true
  pn := []
  xe := fun e s' => wpAny (model P w) (A.deeper (envOfC qual scope s.heap.objs.size f cd)) (leaving (envOfC qual scope s.heap.objs.size f cd) e) (fun _ s'' => CX outer H s E e s'') (fun e' s'' => CX outer H s E e' s'') s'
theorem cell_has {sc : Scope} {n : Nat} {x : Str} (h : sc.names.lookup x = some .cell) : ∃ c, (cellsFrom n sc.names []).lookup x = some c := by
  have q := PySem.W.cellsFrom_some sc.names n [] (.inl h)
  exact Option.isSome_iff_exists.mp q
theorem inv_start {CX : CXT} {P : Program} {w : World} {K : PySem.W.Frag} {mg : Str → Option Value} {base : Heap} {N ps : List Str} {qual : Str} {scope : Scope} {f : Addr} {cd : Value} {A : Around} {outer : List Env} {s s1 : Shared} {H : Hp} {E : XK} {us : List Value} {vs : List V}
    (S : FnScope N ps scope) (hd : A.handled = none) (e0 : Env0 P w K mg base A outer s H) (hl : vs.length = ps.length) (r : Vals vs us)
    (x : InCallC s s.heap.objs.size (bindL (envOfC qual scope s.heap.objs.size f cd).kindOf (ps.zip us) fun _ => none) (cellsFrom (s.heap.objs.size + 1) scope.names []) (bindC (envOfC qual scope s.heap.objs.size f cd).kindOf (ps.zip us) fun _ => none) s1) :
    Inv (cxOf CX P w K mg base N qual scope f cd A outer s H E) [] (start N vs) H s1 := by
  have hpl : ps.length ≤ N.length := by have := congrArg List.length S.pre; rw [List.length_take] at this; omega
  obtain ⟨h1, tk, rfl, hk⟩ := x.done
  have noA : ∀ b : Addr, b ∉ (cxOf CX P w K mg base N qual scope f cd A outer s H E).ex := fun b z => absurd (show b ∈ ([] : List Addr) from z) (by simp)
  refine ⟨⟨e0.mod, S.kind, rfl, rfl, Nat.le_refl _, fun y z c h1 h2 => ?_, fun y hy => ?_, fun y c _ h => ?_, fun _ => hd, Around.frames_deeper e0.frames, .inr ⟨rfl, rfl⟩, fun b z => absurd z (noA b), e0.bs, e0.bsz, fun b _ _ => noA b, fun b z => absurd z (noA b), e0.funs, e0.frf⟩,
    rfl, e0.bare, Un.kept hk, ⟨_, x.toInCall.ns, fun i y v h1 h2 h3 => ?_⟩, fun y c h => ⟨_, x.cell y c h⟩, e0.hok.fresh (Nat.le_refl _), fun y c h => ?_, fun p hp => absurd (show p ∈ ([] : List (Addr × Obj)) from hp) (by simp), e0.hok.kept hk, ?_⟩
  · exact name_of_addr x.apart (PySem.mem_of_lookup h1) (PySem.mem_of_lookup h2)
  · have hy : scope.names.lookup y = some .cell ∨ scope.names.lookup y = some .free := hy
    rcases hy with hy | hy
    · exact cell_has hy
    · exact absurd rfl (S.nofree _ (PySem.mem_of_lookup hy))
  · exact Nat.le_of_lt (x.above y c (PySem.mem_of_lookup h))
  · have hi : i < vs.length := by
      unfold start at h2
      by_cases hi : i < vs.length
      · exact hi
      · rw [List.getElem?_append_right (by simpa using hi)] at h2
        rw [List.getElem?_replicate] at h2
        split at h2 <;> cases h2
    have ha : vs[i]? = some v := by
      unfold start at h2
      rw [List.getElem?_append_left (by simpa using hi), List.getElem?_map] at h2
      cases e : vs[i]? with
      | none => rw [e] at h2; cases h2
      | some a => rw [e] at h2; cases h2; rfl
    obtain ⟨u, hu, rv⟩ := r.get ha
    have hp : ps[i]? = some y := by
      rw [← S.pre, List.getElem?_take_of_lt (by omega)]; exact h1
    have ndP : ps.Nodup := by rw [← S.pre]; exact S.nd.sublist (List.take_sublist _ _)
    refine ⟨u, rv, ?_⟩
    rcases S.par y (List.mem_of_getElem? hp) with k | k
    · exact .inl ⟨k, bindL_get ndP hp hu k⟩
    · obtain ⟨c, e⟩ := cell_has (n := s.heap.objs.size + 1) k
      refine .inr ⟨.inl k, c, e, ?_⟩
      have q := x.cell y c e
      rw [bindC_get ndP hp hu (by show scope.names.lookup y ≠ _; rw [k]; decide)] at q
      exact q
  · exact e0.hok.fresh (Nat.le_of_lt (x.above y c (PySem.mem_of_lookup h)))
  · unfold start
    show _ = N.length
    rw [List.length_append, List.length_map, List.length_replicate]
    omega
theorem fn_of {CX : CXT} {P : Program} {w : World} {K : PySem.W.Frag} {mg : Str → Option Value} {base : Heap} {k : Nat} {f : Addr} {name qual : Str} {params : Arguments} {body : List Stmt} {scope : Scope} {dV kV doc pm cdv ct oc : Value} {an od : Option Addr}
    {osl : Array (Option Value)} {N ps : List Str} {sp : Sp} (lk : K.lookup f = some ⟨oc, od, .func (PySem.W.fnOf name qual params body scope dV kV doc pm an cdv ct), osl⟩) (hcd : PySem.W.codeIn K cdv qual = true) (S : FnScope N ps scope)
    (len : ∀ vs H Q E, sp vs H Q E → vs.length = ps.length)
    (hbody : ∀ (A : Around) (outer : List Env) (s : Shared) (H : Hp) (vs : List V) (Q : VK) (E : XK), Room k (A.deeper (envOfC qual scope s.heap.objs.size f cdv)) → sp vs H Q E →
      ∃ t, PSs (cxOf CX P w K mg base N qual scope f cdv A outer s H E) body t ∧ t { nx := fun _ H' => Q .non H', rt := Q } (start N vs) H) :
    FnOk P w K mg base CX (k + 1) f (PySem.W.fnOf name qual params body scope dV kV doc pm an cdv ct) ps sp := by
  refine ⟨len, fun A outer s H args us vs Q E hr e0 hb r hsp => ?_⟩
  have hl := len _ _ _ _ hsp
  have KX : K.In s.heap := e0.mod.kin.keeps fun b o e => (e0.bs b o e).1
  have lim : s.heap.NoLimit := e0.mod.nolimit.keeps fun b o e => (e0.bs b o e).1
  have hkind : ∀ y ∈ ps.zip us, scope.names.lookup y.1 = some .local ∨ (scope.names.lookup y.1 = some .cell ∧ ((cellsFrom (s.heap.objs.size + 1) scope.names []).lookup y.1).isSome = true) := fun ⟨n, v⟩ hy => by
    rcases S.par n (List.of_mem_zip hy).1 with q | q
    · exact .inl q
    · exact .inr ⟨q, PySem.W.cellsFrom_some _ _ _ (.inl q)⟩
  refine codeAny_call_function hr.depth (KX _ _ lk) rfl S.co S.gen rfl (PySem.W.codeRec_of KX hcd) (hb _ _ _ _ ?_)
  refine wpAny_newFunctionEnv_cells S.kind hkind fun env he s1 x => ?_
  subst he
  refine ⟨lim.keeps x.toInCall.keep, codeAny_func ?_⟩
  obtain ⟨t, ht, hq⟩ := hbody A outer s H vs Q E (hr.deeper _) hsp
  have I : Inv (cxOf CX P w K mg base N qual scope f cdv A outer s H E) [] (start N vs) H s1 := inv_start S hr.hd e0 hl r x
  refine wpAny_mono (ht [] s1 (start N vs) H _ I hq) (fun fl s' hs => ?_) fun e s' hs => hs
  have fin : ∀ {σ' : St} {H' : Hp} {v : V} {u : Value}, Inv (cxOf CX P w K mg base N qual scope f cdv A outer s H E) [] σ' H' s' → RelV v u → Q v H' → CE outer P w H s Q u s' :=
    fun {σ' H' v u} J rv q => ⟨v, H', J.os, J.bare, J.base, J.hok, rv, q⟩
  cases fl with
  | ret u =>
    obtain ⟨v, σ', H', J, rv, q⟩ := hs
    exact fin J rv q
  | next =>
    obtain ⟨σ', H', J, q⟩ := hs
    exact fin (v := V.non) (u := Value.none) J rfl q
  | brk =>
    obtain ⟨_, _, _, q⟩ := hs
    exact False.elim q
  | cont =>
    obtain ⟨_, _, _, q⟩ := hs
    exact False.elim q
end L2
namespace L2
open PySem PySem.Spec PyProof.Rows
section
variable {X : Cx} {x : Str} {p pos : Pos} {e : Expr} {es : List Expr} {t : TA} {id T : String} {r : List V → Hp → VK → Prop}
noncomputable def tCB (r : List V → Hp → VK → Prop) (t : TA) : TE := fun σ H Q => t σ H fun vs H1 => r vs H1 Q
theorem pe_callB (hc : CallR X (.builtin id) r) (hg : Gl X x) (hm : X.mg x = none) (hv : bootBuiltins x = some (.builtin id)) (ha : PA X (e :: es) t) (hn : x ≠ "__name__" := by decide) (hdb : (x == ("__debug__" : Str)) = false := by decide)
    (he : starEach (e :: es) X.env = (false, eval e X.env) :: starEach es X.env := by rfl) (hpl : (backTo pos (starEach es X.env)).any (·.1) = false := by rfl) : PE X (.Call (.Name x p) (e :: es) [] pos) (tCB r t) := by
  intro pins s σ H Q I h
  refine wpAny_Call_Name_kw (ld_blt I hg hm hv ?_ hn hdb)
  exact PyProof.Rows.callWith_builtin1 (thn (ha pos pins s σ H _ I h) fun us s1 ⟨vs, H1, I1, r1, q1⟩ => hc pins s1 σ H1 vs us Q I1 r1 q1) he hpl
end
end L2
namespace HT
open PySem PyProof.Rows
section
open PySem.SeqAt
open PySem.AutoSeq1 (wpAny_loadPart')
open PySem.MeetsSeq PySem.MeetsSeq2 PySem.MeetsSeq3
end
section
variable {prog : Program} {w : World} {A : Around} {E : Value → Shared → Prop} {s : Shared}
noncomputable def sIx (n d : Nat) : Option Int → Nat
  | none => d
  | some v => if v < 0 then (v + (n : Int)).toNat else min v.toNat n
end
end HT
namespace L2
open PySem PySem.Spec PyProof.Rows
noncomputable abbrev TO := St → Hp → (Option Int → Hp → Prop) → Prop
noncomputable def PO (X : Cx) (e : Option Expr) (t : TO) : Prop :=
  ∀ (pins : List (Addr × Obj)) (s : Shared) (σ : St) (H : Hp) (Q : Option Int → Hp → Prop), Inv X pins σ H s → t σ H Q →
    wpAny (model X.prog X.w) X.A (evalPart e X.env) (fun u s' => ∃ o H', Inv X pins σ H' s' ∧ IsPart u o ∧ Q o H') X.xe s
noncomputable def tNoPart : TO := fun _ H Q => Q none H
inductive tPart_P (Q : (Option Int → Hp → Prop)) (x : V) (H1 : Hp) : Prop
  | mk (i : _) (h1 : x = .int i) (h2 : Q (some i) H1) : tPart_P Q x H1
noncomputable def tPart (t : TE) : TO := fun σ H Q => t σ H fun x H1 => tPart_P Q x H1
section
variable {X : Cx} {e : Expr} {te : TE} {lo hi : Option Expr} {tl th : TO} {pos p2 : Pos}
theorem po_none : PO X none tNoPart := by
  intro pins s σ H Q I h
  rw [evalPart_none]
  exact wpAny_pure ⟨none, H, I, .none, h⟩
theorem po_some (h : PE X e te) : PO X (some e) (tPart te) := by
  intro pins s σ H Q I hw
  rw [evalPart_some]
  refine thn (h pins s σ H _ I hw) fun u s1 zz_ => ?_
  obtain ⟨x, H1, I1, r1, q1⟩ := zz_
  obtain ⟨i, rfl, q⟩ := q1
  obtain ⟨t, rfl⟩ := r1
  exact ⟨some i, H1, I1, .int i t, q⟩
noncomputable def SlR (X : Cx) (r : V → Option Int → Option Int → Hp → VK → Prop) : Prop :=
  ∀ (pins : List (Addr × Obj)) (s : Shared) (σ : St) (H : Hp) (x : V) (v vl vu : Value) (lo hi : Option Int) (sl : Addr) (Q : VK), Inv X pins σ H s → RelV x v → s.heap.IsSliceOf sl vl vu .none → IsPart vl lo → IsPart vu hi → r x lo hi H Q →
    ∃ T id, typeLookup (.type T) "__getitem__" = pure (some (.builtin id)) ∧ s.TypeIs v T ∧ wpAny (model X.prog X.w) X.A (getItem v (.ref sl)) (EP X pins σ Q) X.xe s
theorem SlR.or {r r' : V → Option Int → Option Int → Hp → VK → Prop} (h : SlR X r) (h' : SlR X r') : SlR X (fun x lo hi H Q => r x lo hi H Q ∨ r' x lo hi H Q) := by
  intro pins s σ H x v vl vu lo hi sl Q I rx hs pl pu q
  rcases q with q | q
  · exact h pins s σ H x v vl vu lo hi sl Q I rx hs pl pu q
  · exact h' pins s σ H x v vl vu lo hi sl Q I rx hs pl pu q
noncomputable def tSl (r : V → Option Int → Option Int → Hp → VK → Prop) (te : TE) (tl th : TO) : TE := fun σ H Q => te σ H fun x H1 => tl σ H1 fun l H2 => th σ H2 fun u H3 => r x l u H3 Q
theorem pe_slice {r : V → Option Int → Option Int → Hp → VK → Prop} (hr : SlR X r) (he : PE X e te) (hl : PO X lo tl) (hu : PO X hi th) : PE X (.Subscript e (.Slice lo hi none p2) pos) (tSl r te tl th) := by
  intro pins s σ H Q I h
  refine Subscript_ (thn (he pins s σ H _ I h) fun v s1 zz_ => ?_)
  obtain ⟨x, H1, I1, r1, q1⟩ := zz_
  refine wpAny_Slice (thn (hl pins s1 σ H1 _ I1 q1) fun vl s2 ⟨l, H2, I2, pl, q2⟩ => thn (hu pins s2 σ H2 _ I2 q2) fun vu s3 zz_ => ?_)
  obtain ⟨u, H3, I3, pu, q3⟩ := zz_
  rw [evalPart_none]
  refine wpAny_pure ?_
  have I4 : Inv X pins σ H3 { s3 with heap := s3.heap.push { cls := .type "slice", data := .fields #[vl, vu, .none] } } := I3.kept (t' := s3.toks) fun b ob q => Heap.get?_push_of_some _ q
  obtain ⟨T, id, hT, ht, hg⟩ := hr pins { s3 with heap := s3.heap.push { cls := .type "slice", data := .fields #[vl, vu, .none] } } σ H3 x v vl vu l u s3.heap.objs.size Q I4 r1 (Heap.IsSliceOf.new ..) pl pu q3
  show wpAny (model X.prog X.w) X.A (subscriptTail e (.Slice lo hi none p2) v (.ref s3.heap.objs.size)) (EP X pins σ Q) X.xe { s3 with heap := s3.heap.push { cls := .type "slice", data := .fields #[vl, vu, .none] } }
  exact tail_any (ops := [.ref s3.heap.objs.size, v]) ht hT hg (by with_unfolding_all rfl)
noncomputable def cutV (xs : List V) (lo hi : Option Int) : List V := (xs.drop (HT.sIx xs.length 0 lo)).take (HT.sIx xs.length xs.length hi - HT.sIx xs.length 0 lo)
theorem cutV_length (xs : List V) (lo hi : Option Int) : (cutV xs lo hi).length ≤ xs.length := by
  unfold cutV
  refine Nat.le_trans (List.length_take_le' _ _) ?_
  rw [List.length_drop]
  exact Nat.sub_le _ _
end
end L2
namespace L2
open PySem PySem.Spec PyProof.Rows
noncomputable def ixN (n : Nat) (i : Int) : Option Nat := if 0 ≤ i then (if i < n then some i.toNat else none) else if -(n : Int) ≤ i then some (i + n).toNat else none
noncomputable def atI {α : Type} (xs : List α) (i : Int) : Option α := (ixN xs.length i).bind fun j => xs[j]?
theorem ixN_seq {n : Nat} {i : Int} {j : Nat} (h : ixN n i = some j) : seqIndex? i n = some j ∧ j < n ∧ -(n : Int) ≤ i ∧ i < n := by
  unfold ixN at h
  by_cases h0 : 0 ≤ i
  · rw [if_pos h0] at h
    by_cases h1 : i < n
    · rw [if_pos h1] at h
      have e : i.toNat = j := Option.some.inj h
      exact ⟨by rw [seqIndex_of h0 h1, e], by omega, by omega, h1⟩
    · rw [if_neg h1] at h; cases h
  · rw [if_neg h0] at h
    by_cases h1 : -(n : Int) ≤ i
    · rw [if_pos h1] at h
      have e : (i + n).toNat = j := Option.some.inj h
      exact ⟨by rw [seqIndex_neg (by omega) h1, e], by omega, h1, by omega⟩
    · rw [if_neg h1] at h; cases h
theorem atI_get {α : Type} {xs : List α} {i : Int} {v : α} (h : atI xs i = some v) : ∃ j, seqIndex? i xs.length = some j ∧ xs[j]? = some v ∧ j < xs.length ∧ -(xs.length : Int) ≤ i ∧ i < xs.length := by
  unfold atI at h
  cases e : ixN xs.length i with
  | none => rw [e] at h; cases h
  | some j =>
    rw [e] at h
    obtain ⟨h1, h2, h3, h4⟩ := ixN_seq e
    exact ⟨j, h1, h, h2, h3, h4⟩
theorem atI_nat {α : Type} {xs : List α} {j : Nat} {v : α} (h : xs[j]? = some v) : atI xs (j : Int) = some v := by
  have hj : j < xs.length := (List.getElem?_eq_some_iff.mp h).1
  have e : ixN xs.length (j : Int) = some j := by
    unfold ixN
    rw [if_pos (by omega), if_pos (by omega)]; simp
  unfold atI; rw [e]; exact h
noncomputable def PlainIx (b : Expr) : Prop := ∀ o i, subscripted b false o i = operate [o, i] (getItem o i)
noncomputable def IxR (X : Cx) (r : R2) : Prop :=
  ∀ (value slice : Expr) (pins : List (Addr × Obj)) (s : Shared) (σ : St) (H : Hp) (x y : V) (v u : Value) (Q : VK), Inv X pins σ H s → RelV x v → RelV y u → r x y H Q →
    subscripted slice false v u = operate [v, u] (getItem v u) → wpAny (model X.prog X.w) X.A (subscriptTail value slice v u) (EP X pins σ Q) X.xe s
noncomputable def MtR (X : Cx) (id : String) (r : V → List V → Hp → VK → Prop) : Prop :=
  ∀ (pins : List (Addr × Obj)) (s : Shared) (σ : St) (H : Hp) (x : V) (xs : List V) (v : Value) (us : List Value) (Q : VK), Inv X pins σ H s → RelV x v → Vals xs us → r x xs H Q →
    wpAny (model X.prog X.w) X.A (call (.builtin id) (v :: us)) (EP X pins σ Q) X.xe s
section
variable {X : Cx} {a b : Expr} {ta tb : TE} {pos : Pos}
theorem IxR.or {r r' : R2} (h : IxR X r) (h' : IxR X r') : IxR X (fun x y H Q => r x y H Q ∨ r' x y H Q) := by
  intro value slice pins s σ H x y v u Q I rx ry q hs
  rcases q with q | q
  · exact h value slice pins s σ H x y v u Q I rx ry q hs
  · exact h' value slice pins s σ H x y v u Q I rx ry q hs
theorem pe_ix {r : R2} (hr : IxR X r) (ha : PE X a ta) (hb : PE X b tb) (hs : PlainIx b) : PE X (.Subscript a b pos) (tOp r ta tb) := by
  intro pins s σ H Q I h
  exact Subscript_ (binT ha hb I h fun v u s2 x y H2 I2 rx ry q => hr a b pins s2 σ H2 x y v u Q I2 rx ry q (hs _ _))
inductive rIxL_P (K : PySem.W.Frag) (x : V) (y : V) (H : Hp) (Q : VK) : Prop
  | mk (p xs i v : _) (h1 : x = .ref p) (h2 : y = .int i) (h3 : SqL K H p xs) (h4 : atI xs i = some v) (h5 : Q v H) : rIxL_P K x y H Q
noncomputable def rIxL (K : PySem.W.Frag) : R2 := fun x y H Q => rIxL_P K x y H Q
inductive rIxT_P (K : PySem.W.Frag) (x : V) (y : V) (H : Hp) (Q : VK) : Prop
  | mk (p xs i v : _) (h1 : x = .ref p) (h2 : y = .int i) (h3 : SqT K H p xs) (h4 : atI xs i = some v) (h5 : Q v H) : rIxT_P K x y H Q
noncomputable def rIxT (K : PySem.W.Frag) : R2 := fun x y H Q => rIxT_P K x y H Q
noncomputable def rIxS : R2 := fun x y H Q => ∃ z i c, x = .str z ∧ y = .int i ∧ z.length ≤ sizeLine ∧ atI z.cps.toList i = some c ∧ Q (.str ⟨#[c]⟩) H
theorem ix_list : IxR X (rIxL X.K) := by
  intro value slice pins s σ H x y v u Q I rx ry h hs
  obtain ⟨p, xs, i, z, rfl, rfl, hq, he, q⟩ := h
  cases rx
  obtain ⟨t, rfl⟩ := ry
  obtain ⟨its, r, pl, hz⟩ := I.list hq
  obtain ⟨j, h1, h2, h3, h4, h5⟩ := atI_get he
  obtain ⟨w, ew, rw'⟩ := r.get h2
  have hl := r.length
  have hn := line63
  have fin : EP X pins σ Q w s := ⟨z, H, I, rw', q⟩
  by_cases h0 : 0 ≤ i
  · have hj : i.toNat = j := by
      rw [seqIndex_of h0 h5] at h1
      exact Option.some.inj h1
    exact item_listR pl.isList h0 (by omega) (by rw [hj]; simpa using ew) fin hs
  · have hj : (i + (its.toArray.size : Int)).toNat = j := by
      rw [seqIndex_neg (by omega) h4] at h1
      rw [List.size_toArray, ← hl]
      exact Option.some.inj h1
    exact subscriptTail_builtinR (x := w) pl.isList.typeIs slot_list_getitem.lookup
      (wpAny_getItem_list_neg (Q := fun r s' => r = w ∧ EP X pins σ Q r s') pl.isList (by omega) (by rw [List.size_toArray] <;> omega) (by omega) (by rw [hj]; simpa using ew) ⟨rfl, fin⟩) hs
theorem ix_tup : IxR X (rIxT X.K) := by
  intro value slice pins s σ H x y v u Q I rx ry h hs
  obtain ⟨p, xs, i, z, rfl, rfl, hq, he, q⟩ := h
  cases rx
  obtain ⟨t, rfl⟩ := ry
  obtain ⟨its, r, pl, hz⟩ := I.tuple hq
  obtain ⟨j, h1, h2, h3, h4, h5⟩ := atI_get he
  obtain ⟨w, ew, rw'⟩ := r.get h2
  have hl := r.length
  have hn := line63
  have fin : EP X pins σ Q w s := ⟨z, H, I, rw', q⟩
  exact subscriptTail_builtinR (x := w) pl.typeIs slot_tuple_getitem.lookup
    (getItem_tuple (j := j) (Q := fun r s' => r = w ∧ EP X pins σ Q r s') pl (by omega) (by omega) (by rw [List.size_toArray, ← hl]; exact h1) (by simpa using ew) ⟨rfl, fin⟩) hs
theorem ix_str : IxR X rIxS := by
  intro value slice pins s σ H x y v u Q I rx ry h hs
  obtain ⟨z, i, c, rfl, rfl, hz, he, q⟩ := h
  obtain ⟨t, rfl⟩ := rx
  obtain ⟨t', rfl⟩ := ry
  obtain ⟨j, h1, h2, h3, h4, h5⟩ := atI_get he
  have hl : z.cps.toList.length = z.length := by simp [Str.length]
  rw [hl] at h1 h4 h5
  have hn := line63
  exact tail_any (typeIs_str s z t) slot_str_getitem.lookup (getItem_str (c := c) (by
    have e1 : decide (i < -(2 ^ 63 : Int)) = false := decide_eq_false (by omega)
    have e2 : decide (i ≥ 2 ^ 63) = false := decide_eq_false (by omega)
    rw [e1, e2, Bool.or_false]) (by rw [h1]; simpa using h2) ⟨.str ⟨#[c]⟩, H, I.tok _, ⟨_, rfl⟩, q⟩) hs
noncomputable def rIx (K : PySem.W.Frag) : R2 := fun x y H Q => rIxL K x y H Q ∨ rIxT K x y H Q ∨ rIxS x y H Q
theorem ix_seq : IxR X (rIx X.K) := ix_list.or (ix_tup.or ix_str)
theorem mapSeq_set (its : List Value) (n j : Nat) (u : Value) : Obj.mapSeq (·.setIfInBounds j u) { cls := .type "list", data := .seq its.toArray n } = { cls := .type "list", data := .seq (its.set j u).toArray n } := by
  simp [Obj.mapSeq]
theorem Inv.lst {pins : List (Addr × Obj)} {σ : St} {H : Hp} {s : Shared} {p : Addr} {xs : List V} (I : Inv X pins σ H s) (h : H p = some (.lst xs)) :
    ∃ (its : List Value) (n : Nat), Vals xs its ∧ s.heap.get? p = some { cls := .type "list", data := .seq its.toArray n } ∧ xs.length ≤ sizeLine := by
  obtain ⟨z, its, n, r, e⟩ := I.hok p _ h
  exact ⟨its, n, r, e, z⟩
theorem Inv.lstUpd {pins : List (Addr × Obj)} {σ : St} {H : Hp} {s : Shared} {p : Addr} {xs ys : List V} {its its' : List Value} {n n' : Nat} {f : Obj → Obj} (I : Inv X pins σ H s) (h : H p = some (.lst xs))
    (ho : s.heap.get? p = some { cls := .type "list", data := .seq its.toArray n }) (hf : f { cls := .type "list", data := .seq its.toArray n } = { cls := .type "list", data := .seq its'.toArray n' }) (r : Vals ys its') (hz : ys.length ≤ sizeLine) (t : Nat) :
    Inv X pins σ (upd H p (.lst ys)) { s with heap := s.heap.update p f, toks := t } := by
  have e : (s.heap.update p f).get? p = some { cls := .type "list", data := .seq its'.toArray n' } := by
    rw [Heap.get?_update_self f ho (by rw [hf] <;> rfl), hf]
  refine I.write (x := p) (e := p) (by rw [h]; trivial) (.inl rfl) (fun b u hb q => (Heap.get?_update_other _ _ (Ne.symm hb)).trans q) ⟨_, e⟩ ?_
  exact ⟨hz, its', n', r, e⟩
inductive rSetL_P (o : V) (i : V) (v : V) (H : Hp) (Q : (Hp → Prop)) : Prop
  | mk (p xs k j : _) (h1 : o = .ref p) (h2 : i = .int k) (h3 : H p = some (.lst xs)) (h4 : ixN xs.length k = some j) (h5 : Q (upd H p (.lst (xs.set j v)))) : rSetL_P o i v H Q
noncomputable def rSetL : V → V → V → Hp → (Hp → Prop) → Prop := fun o i v H Q => rSetL_P o i v H Q
theorem set_list : PSet X rSetL := by
  intro pins s σ H o i v ov iv u Q I ro ri rv h
  obtain ⟨p, xs, k, j, rfl, rfl, hp, hj, q⟩ := h
  cases ro
  obtain ⟨t, rfl⟩ := ri
  obtain ⟨its, n, r, ho, hz⟩ := I.lst hp
  obtain ⟨h1, h2, h3, h4⟩ := ixN_seq hj
  have hl := r.length
  have hn := line63
  have I' : Inv X pins σ (upd H p (.lst (xs.set j v))) { s with heap := s.heap.update p (Obj.mapSeq (·.setIfInBounds j u)) } :=
    I.lstUpd hp ho (mapSeq_set its n j u) (r.set rv j) (by rw [List.length_set]; exact hz) s.toks
  by_cases h0 : 0 ≤ k
  · have hk : k.toNat = j := by
      rw [seqIndex_of h0 h4] at h1
      exact Option.some.inj h1
    exact PySem.W.ki_setAt ho h0 (by omega) (by rw [List.size_toArray, ← hl]; exact h4) (by rw [hk]; exact ⟨_, I', q⟩)
  · have hk : (k + (its.toArray.size : Int)).toNat = j := by
      rw [seqIndex_neg (by omega) h3] at h1
      rw [List.size_toArray, ← hl]
      exact Option.some.inj h1
    exact PySem.W.ki_setBack ho (by omega) (by rw [List.size_toArray, ← hl]; exact h3) (by omega) (by rw [hk]; exact ⟨_, I', q⟩)
theorem tn_ (n : Nat) : ((-1 : Int) + (n : Int)).toNat = n - 1 := by
  rw [Int.add_comm]; exact Int.toNat_sub n 1
theorem sb_one (i : Int) (n : Nat) : max 0 (min (if i < 0 then i + (n : Int) else i) (n : Int)) = ((if i < 0 then (i + (n : Int)).toNat else min i.toNat n : Nat) : Int) := by
  by_cases h : i < 0
  · have h' : i + (n : Int) ≤ n := by have := Int.add_le_add_right (Int.le_of_lt h) n; rwa [Int.zero_add] at this
    rw [if_pos h, if_pos h, Int.min_eq_left h', Int.ofNat_toNat, Int.max_comm]
  · obtain ⟨k, rfl⟩ := Int.eq_ofNat_of_zero_le (Int.not_lt.mp h)
    rw [if_neg h, if_neg h, Int.toNat_natCast]
    rcases Nat.le_total k n with g | g
    · rw [Nat.min_eq_left g, Int.min_eq_left (Int.ofNat_le.mpr g), Int.max_eq_right (Int.natCast_nonneg _)]
    · rw [Nat.min_eq_right g, Int.min_eq_right (Int.ofNat_le.mpr g), Int.max_eq_right (Int.natCast_nonneg _)]
theorem slice_bounds (lo hi : Option Int) (n : Nat) : (sliceBounds lo hi none n).1 = ((HT.sIx n 0 lo : Nat) : Int) ∧ (sliceBounds lo hi none n).2.1 = ((HT.sIx n n hi : Nat) : Int) ∧ (sliceBounds lo hi none n).2.2 = 1 := by
  refine ⟨?_, ?_, rfl⟩
  · cases lo with
    | none => simp [sliceBounds, HT.sIx]
    | some i =>
      simp only [sliceBounds, HT.sIx, Option.getD_none, show (1 : Int) > 0 by decide, if_true]
      exact sb_one i n
  · cases hi with
    | none => simp [sliceBounds, HT.sIx]
    | some i =>
      simp only [sliceBounds, HT.sIx, Option.getD_none, show (1 : Int) > 0 by decide, if_true]
      exact sb_one i n
theorem slicePick_cut (its : List Value) (lo hi : Option Int) : slicePick its.toArray lo hi none = ((its.drop (HT.sIx its.length 0 lo)).take (HT.sIx its.length its.length hi - HT.sIx its.length 0 lo)).toArray := by
  obtain ⟨h1, h2, h3⟩ := slice_bounds lo hi its.toArray.size
  unfold slicePick
  rw [h1, h2, h3]
  simp only [sliceRange_one, pick_run, List.size_toArray] <;> rfl
inductive rSlL_P (K : PySem.W.Frag) (x : V) (lo : Option Int) (hi : Option Int) (H : Hp) (Q : VK) : Prop
  | mk (a xs : _) (h1 : x = .ref a) (h2 : SqL K H a xs) (h3 : ∀ p, H p = none → Q (.ref p) (upd H p (.lst (cutV xs lo hi)))) : rSlL_P K x lo hi H Q
noncomputable def rSlL (K : PySem.W.Frag) : V → Option Int → Option Int → Hp → VK → Prop := fun x lo hi H Q => rSlL_P K x lo hi H Q
theorem sl_list : SlR X (rSlL X.K) := by
  intro pins s σ H x v vl vu lo hi sl Q I rx hs pl pu h
  obtain ⟨a, xs, rfl, hx, q⟩ := h
  cases rx
  obtain ⟨its, r, ht, hz⟩ := I.list hx
  have hlen := r.length
  refine ⟨"list", _, slot_list_getitem.lookup, ht.isList.typeIs, ?_⟩
  refine wpAny_getItem_list_slice ht.isList hs pl pu .none (by simp) ?_ (by rw [List.size_toArray] <;> omega)
  rw [slicePick_cut, ← hlen]
  refine ⟨.ref s.heap.objs.size, _, I.laid (t' := s.toks) (o := .lst (cutV xs lo hi)) (fun b ob q => Heap.get?_push_of_some _ q) (Nat.le_refl _) ?_, rfl, q _ (I.hok.fresh (Nat.le_refl _))⟩
  exact ⟨Nat.le_trans (cutV_length xs lo hi) hz, _, 0, (r.drop (HT.sIx xs.length 0 lo)).take (HT.sIx xs.length xs.length hi - HT.sIx xs.length 0 lo), Heap.get?_push_size _ rfl⟩
noncomputable def tyV (K : PySem.W.Frag) (T : String) (x : V) (H : Hp) : Prop := match x with
  | .str _ => T = "str"
  | .int _ => T = "int"
  | .ref p => (T = "list" ∧ ∃ xs, SqL K H p xs) ∨ (T = "tuple" ∧ ∃ o, K.lookup p = some o ∧ o.cls = .type "tuple" ∧ o.dict = none) ∨
      (T = "dict" ∧ ((∃ kvs, H p = some (.dK kvs)) ∨ ∃ kvs, H p = some (.dT kvs))) ∨ (T = "set" ∧ ∃ S n, H p = some (.set S n))
  | _ => False
theorem tyV_is {pins : List (Addr × Obj)} {σ : St} {H : Hp} {s : Shared} {T : String} {x : V} {v : Value} (I : Inv X pins σ H s) (r : RelV x v) (ty : tyV X.K T x H) :
    s.TypeIs v T ∧ ∀ a, v = .ref a → ∃ ob, s.heap.get? a = some ob ∧ ob.dict = none := by
  cases x with
  | str z =>
    obtain ⟨t, rfl⟩ := r
    cases (show T = "str" from ty)
    exact ⟨typeIs_str s z t, fun _ e => nomatch e⟩
  | int i =>
    obtain ⟨t, rfl⟩ := r
    cases (show T = "int" from ty)
    exact ⟨typeIs_int s i t, fun _ e => nomatch e⟩
  | ref p =>
    cases r
    rcases ty with ⟨rfl, xs, hq⟩ | ⟨rfl, o, hk, hc, hd⟩ | ⟨rfl, hk⟩ | ⟨rfl, S, n, hk⟩
    · obtain ⟨its, _, pl, _⟩ := I.list hq
      refine ⟨pl.isList.typeIs, fun a e => ?_⟩
      cases e
      obtain ⟨o, n, e, c, hd, _⟩ := pl
      exact ⟨o, e, hd⟩
    · refine ⟨⟨o, I.kIn p o hk, hc⟩, fun a e => ?_⟩
      cases e
      exact ⟨o, I.kIn _ o hk, hd⟩
    · have z : ∃ o, s.heap.get? p = some o ∧ o.ExactDict := by
        rcases hk with ⟨kvs, hk⟩ | ⟨kvs, hk⟩
        · obtain ⟨_, _, _, _, o, _, _, e, ex, _⟩ := I.hok p _ hk
          exact ⟨o, e, ex⟩
        · obtain ⟨_, _, _, _, o, _, _, e, ex, _⟩ := I.hok p _ hk
          exact ⟨o, e, ex⟩
      obtain ⟨o, e, ex⟩ := z
      refine ⟨⟨o, e, ex.1⟩, fun a e2 => ?_⟩
      cases e2
      exact ⟨o, e, ex.2.1⟩
    · obtain ⟨o, _, _, _, e, ex, _⟩ := I.hok p _ hk
      refine ⟨⟨o, e, ex.1⟩, fun a e2 => ?_⟩
      cases e2
      exact ⟨o, e, ex.2.1⟩
  | _ => exact False.elim ty
noncomputable def tBM (K : PySem.W.Frag) (T : String) (r : V → List V → Hp → VK → Prop) (to : TE) (t : TA) : TE := fun σ H Q => to σ H fun x H1 => tyV K T x H1 ∧ t σ H1 fun xs H2 => r x xs H2 Q
variable {o e : Expr} {es : List Expr} {to : TE} {t : TA} {name : Str} {apos cpos : Pos} {T id : String} {r : V → List V → Hp → VK → Prop}
theorem pe_bm (pa : PlainAttrs T) (slot : Slot T name id) (hty : typeOf (.builtin id) = pure (.type "method_descriptor")) (hm : MtR X id r) (ho : PE X o to) (ha : PA X (e :: es) t)
    (hbase : attributeBase o name X.env (eval o X.env) = eval o X.env := by rfl)
    (hfew : ((backTo cpos (starEach (e :: es) X.env)).all (fun x => !x.1) && (backToKw cpos (keywordEach [] X.env)).all (fun x => x.1.isSome)
      && decide ((e :: es).length + ([] : List Keyword).length + (if ([] : List Keyword).isEmpty then 0 else 1) < 30)) = true := by rfl)
    (hline : (apos.endLine == cpos.line) = true := by rfl) (hs : starEach (e :: es) X.env = (false, eval e X.env) :: starEach es X.env := by rfl) (hplain : (backTo cpos (starEach es X.env)).any (·.1) = false := by rfl) :
    PE X (.Call (.Attribute o name apos) (e :: es) [] cpos) (tBM X.K T r to t) := by
  intro pins s σ H Q I h
  refine wpAny_Call_method_late hbase hfew hline rfl (thn (ho pins s σ H _ I h) fun v s1 zz_ => ?_)
  obtain ⟨x, H1, I1, r1, ty, q1⟩ := zz_
  obtain ⟨h1, h2⟩ := tyV_is I1 r1 ty
  refine ⟨T, id, pa, slot, hty, h1, h2, ?_⟩
  have hA := ha cpos pins s1 σ H1 _ I1 q1
  rw [hs] at hA ⊢
  refine Calls.callWith_builtin (by show (false || (backTo cpos (starEach es X.env)).any (·.1)) = false; rw [hplain] <;> rfl) (Calls.evalArgs_plain ?_)
  exact thn hA fun us s2 ⟨vs, H2, I2, r2, q2⟩ => hm pins s2 σ H2 x vs v us Q I2 r1 r2 q2
end
end L2
namespace L2
open PySem PySem.Spec PyProof.Rows
noncomputable def MtM (X : Cx) (id : String) (r : V → List V → Hp → VK → Prop) : Prop :=
  ∀ (pins : List (Addr × Obj)) (s : Shared) (σ : St) (H : Hp) (x : V) (xs : List V) (v : Value) (us : List Value) (Q : VK), Inv X pins σ H s → RelV x v → Vals xs us → r x xs H Q →
    wpAny (model X.prog X.w) X.A (call (.builtin id) (v :: us)) (EP X pins σ Q) X.xe s
theorem Vals.one {x : V} {us : List Value} (h : Vals [x] us) : ∃ u, us = [u] ∧ RelV x u := by
  cases h with
  | cons r t => cases t; exact ⟨_, rfl, r⟩
section
variable {X : Cx} {pins : List (Addr × Obj)} {σ : St} {H : Hp} {s : Shared} {l b : Addr} {xs ys zs : List V}
theorem Inv.lset {its its' : List Value} {n : Nat} {f : Array Value → Array Value} {t' : Nat} (I : Inv X pins σ H s) (hH : H l = some (.lst xs))
    (e : s.heap.get? l = some { cls := .type "list", data := .seq its.toArray n }) (hf : f its.toArray = its'.toArray) (hv : Vals ys its') (hz : ys.length ≤ sizeLine) :
    Inv X pins σ (upd H l (.lst ys)) { s with heap := s.heap.update l (Obj.mapSeq f), toks := t' } := by
  have q := PySem.IsL.update e f
  rw [hf] at q
  refine I.write (x := l) (e := l) (by rw [hH]; exact trivial) (.inl rfl) (fun b' u hb hu => (Heap.get?_update_other s.heap (Obj.mapSeq f) (Ne.symm hb)).trans hu) ⟨_, q⟩ ?_
  exact ⟨hz, its', _, hv, q⟩
theorem Inv.lnew {its : List Value} {t' : Nat} (I : Inv X pins σ H s) (hv : Vals ys its) (hz : ys.length ≤ sizeLine) :
    Inv X pins σ (upd H s.heap.objs.size (.lst ys)) { s with heap := s.heap.push { cls := .type "list", data := .seq its.toArray }, toks := t' } :=
  I.laid (fun _ _ q => Heap.get?_push_of_some _ q) (Nat.le_refl _) ⟨hz, its, 0, hv, Heap.get?_push_size _ rfl⟩
theorem Inv.fresh (I : Inv X pins σ H s) : H s.heap.objs.size = none := I.hok.fresh (Nat.le_refl _)
theorem Inv.lstM (I : Inv X pins σ H s) (hH : H l = some (.lst xs)) : xs.length ≤ sizeLine ∧ ∃ (its : List Value) (n : Nat), Vals xs its ∧ xs.length = its.length ∧ s.heap.get? l = some { cls := .type "list", data := .seq its.toArray n } := by
  obtain ⟨z, its, n, r, e⟩ := I.hok l _ hH
  exact ⟨z, its, n, r, r.length, e⟩
end
section
variable {X : Cx}
inductive rAppend_P (x : V) (vs : List V) (H : Hp) (Q : VK) : Prop
  | mk (l xs y : _) (h1 : x = .ref l) (h2 : vs = [y]) (h3 : H l = some (.lst xs)) (h4 : xs.length < sizeLine) (h5 : Q .non (upd H l (.lst (xs ++ [y])))) : rAppend_P x vs H Q
noncomputable def rAppend : V → List V → Hp → VK → Prop := fun x vs H Q => rAppend_P x vs H Q
theorem mt_append : MtM X "list.append" rAppend := by
  intro pins s σ H x vs v us Q I rx rv h
  obtain ⟨l, xs, y, rfl, rfl, hH, hz, q⟩ := h
  cases rx
  obtain ⟨u, rfl, ru⟩ := rv.one
  obtain ⟨z, its, n, r, hl, e⟩ := I.lstM hH
  refine call_meets F.slot_list_append ⟨_, e, rfl⟩ F.entry_list_append (F.args_list_append_2 _ _) (PySem.list_append l its.toArray n u (by rw [List.size_toArray]; omega)) ⟨e, ?_⟩
  refine ⟨.non, _, I.lset (its' := its ++ [u]) hH e (by simp) (r.append (.cons ru .nil)) ?_, rfl, q⟩
  rw [List.length_append, List.length_singleton]
  omega
inductive rCat_P (x : V) (y : V) (H : Hp) (Q : VK) : Prop
  | mk (l b xs zs : _) (h1 : x = .ref l) (h2 : y = .ref b) (h3 : H l = some (.lst xs)) (h4 : H b = some (.lst zs)) (h5 : xs.length + zs.length ≤ sizeLine) (h6 : ∀ p, H p = none → Q (.ref p) (upd H p (.lst (xs ++ zs)))) : rCat_P x y H Q
noncomputable def rCat : R2 := fun x y H Q => rCat_P x y H Q
theorem op_cat : OpR X (binaryOp .Add) rCat := by
  intro pins s σ H x y v u Q I rx ry h
  obtain ⟨l, b, xs, zs, rfl, rfl, hH, hB, hz, q⟩ := h
  cases rx
  cases ry
  obtain ⟨z, its, n, r, hl, e⟩ := I.lstM hH
  obtain ⟨z2, its2, n2, r2, hl2, e2⟩ := I.lstM hB
  refine PySem.P.add_list e e2 ?_ (by rw [List.size_toArray, List.size_toArray]; omega)
  have ea : its.toArray ++ its2.toArray = (its ++ its2).toArray := by simp
  rw [ea]
  exact ⟨.ref _, _, I.lnew (t' := s.toks) (r.append r2) (by rw [List.length_append]; omega), rfl, q _ I.fresh⟩
end
section
variable {prog : Program} {w : World} {A : Around} {E : Value → Shared → Prop} {s : Shared}
end
section
variable {X : Cx}
end
end L2
namespace L2
open PySem PySem.Spec PyProof.Rows
section
variable {κ : Type} [DecidableEq κ]
noncomputable def valV (kvs : List (κ × V)) (k : κ) : Option V := (kvs.find? fun kv => decide (kv.1 = k)).map (·.2)
noncomputable def putK (kvs : List (κ × V)) (k : κ) (v : V) : List (κ × V) :=
  if (kvs.any fun kv => decide (kv.1 = k)) = true then kvs.map (fun kv => if kv.1 = k then (kv.1, v) else kv) else kvs ++ [(k, v)]
theorem valV_pos {p : κ × V} {r : List (κ × V)} {k : κ} (e : p.1 = k) : valV (p :: r) k = some p.2 := by simp [valV, List.find?_cons, e]
theorem valV_neg {p : κ × V} {r : List (κ × V)} {k : κ} (e : ¬ p.1 = k) : valV (p :: r) k = valV r k := by simp [valV, List.find?_cons, e]
theorem valV_any (k : κ) : ∀ kvs : List (κ × V), (kvs.any fun kv => decide (kv.1 = k)) = (valV kvs k).isSome
  | [] => rfl
  | p :: r => by
    rw [List.any_cons]
    by_cases e : p.1 = k
    · simp only [valV_pos e, decide_eq_true e, Bool.true_or, Option.isSome_some]
    · rw [valV_neg e, decide_eq_false e, Bool.false_or]; exact valV_any k r
theorem length_putK (kvs : List (κ × V)) (k : κ) (v : V) : (putK kvs k v).length ≤ kvs.length + 1 := by
  unfold putK
  split
  · rw [List.length_map]; omega
  · rw [List.length_append, List.length_cons, List.length_nil]; omega
theorem RelO.isSome_eq {o : Option V} {u : Option Value} (r : RelO o u) : o.isSome = u.isSome := by
  cases o with
  | none => cases u with
    | none => rfl
    | some _ => exact (show False from r).elim
  | some _ => cases u with
    | none => exact (show False from r).elim
    | some _ => rfl
theorem KV.val {kvs : List (κ × V)} {vs : List (κ × Value)} (r : KV kvs vs) (k : κ) : RelO (valV kvs k) (valueAt vs k) := by
  unfold KV at r
  induction r with
  | nil => exact True.intro
  | @cons p q ps qs h t ih =>
    obtain ⟨h1, h2⟩ := h
    by_cases e : p.1 = k
    · have e' : q.1 = k := h1.symm.trans e
      have b : valueAt (q :: qs) k = some q.2 := by simp [valueAt, List.find?_cons, e']
      rw [valV_pos e, b]; exact h2
    · have e' : ¬ q.1 = k := fun z => e (h1.trans z)
      have b : valueAt (q :: qs) k = valueAt qs k := by simp [valueAt, List.find?_cons, e']
      rw [valV_neg e, b]; exact ih
theorem KV.any {kvs : List (κ × V)} {vs : List (κ × Value)} (r : KV kvs vs) (k : κ) : (kvs.any fun kv => decide (kv.1 = k)) = vs.any fun kv => decide (kv.1 = k) := by
  unfold KV at r
  induction r with
  | nil => rfl
  | cons h t ih => rw [List.any_cons, List.any_cons, ih, h.1]
theorem KV.repl {kvs : List (κ × V)} {vs : List (κ × Value)} (r : KV kvs vs) (k : κ) {y : V} {u : Value} (ry : RelV y u) :
    KV (kvs.map fun kv => if kv.1 = k then (kv.1, y) else kv) (vs.map fun kv => if kv.1 = k then (kv.1, u) else kv) := by
  unfold KV at r ⊢
  induction r with
  | nil => exact .nil
  | @cons p q ps qs h t ih =>
    rw [List.map_cons, List.map_cons]
    refine .cons ?_ ih
    obtain ⟨h1, h2⟩ := h
    by_cases e : p.1 = k
    · rw [if_pos e, if_pos (h1.symm.trans e)]; exact ⟨h1, ry⟩
    · rw [if_neg e, if_neg (fun z => e (h1.trans z))]; exact ⟨h1, h2⟩
theorem KV.put {kvs : List (κ × V)} {vs : List (κ × Value)} (r : KV kvs vs) (k : κ) {y : V} {u : Value} (ry : RelV y u) : KV (putK kvs k y) (stored vs k u) := by
  unfold putK stored
  rw [r.any k]
  by_cases e : (vs.any fun kv => decide (kv.1 = k)) = true
  · rw [if_pos e, if_pos e]; exact r.repl k ry
  · rw [if_neg e, if_neg e]; exact Paired.snoc r ⟨rfl, ry⟩
theorem KV.length {kvs : List (κ × V)} {vs : List (κ × Value)} (r : KV kvs vs) : kvs.length = vs.length := Paired.length r
end
theorem kV_is {P : Program} {w : World} {k : Key} {u : Value} (r : RelV (kV k) u) : (mixKind P w).is k u = true := by
  cases k with
  | inl i => obtain ⟨t, e⟩ := (show ∃ t, u = Value.int i t from r); subst e; exact mixKind_int P w i t
  | inr x => obtain ⟨t, e⟩ := (show ∃ t, u = Value.str x t from r); subst e; exact mixKind_str P w x t
theorem items_are {P : Program} {w : World} : ∀ {ks : List Key} {us : List Value}, Vals (ks.map kV) us → ItemsAre (mixKind P w) ks us
  | [], _, r => by rw [List.map_nil] at r; cases r; exact .nil
  | k :: ks, _, r => by
    rw [List.map_cons] at r
    cases r with
    | cons h t => exact .cons (kV_is h) (items_are t)
noncomputable abbrev KT (H : Hp) : List (List Key × V) → List (List Key × Addr × Value) → Prop := Paired fun p q => p.1 = q.1 ∧ H q.2.1 = some (.tup (p.1.map kV)) ∧ RelV p.2 q.2.2
theorem KT.val {H : Hp} {kvs : List (List Key × V)} {xs : List (List Key × Addr × Value)} (r : KT H kvs xs) (k : List Key) : RelO (valV kvs k) ((atKey xs k).map (·.2)) := by
  induction r with
  | nil => exact True.intro
  | @cons p q ps qs h t ih =>
    obtain ⟨h1, _, h2⟩ := h
    by_cases e : p.1 = k
    · have e' : q.1 = k := h1.symm.trans e
      have b : atKey (q :: qs) k = some q.2 := by simp [atKey, List.find?_cons, e']
      rw [valV_pos e, b]; exact h2
    · have e' : ¬ q.1 = k := fun z => e (h1.trans z)
      have b : atKey (q :: qs) k = atKey qs k := by simp [atKey, List.find?_cons, e']
      rw [valV_neg e, b]; exact ih
theorem KT.repl {H : Hp} {kvs : List (List Key × V)} {xs : List (List Key × Addr × Value)} (r : KT H kvs xs) (k : List Key) {y : V} {u : Value} (ry : RelV y u) :
    KT H (kvs.map fun kv => if kv.1 = k then (kv.1, y) else kv) (xs.map (putAt k u)) := by
  induction r with
  | nil => exact .nil
  | @cons p q ps qs h t ih =>
    rw [List.map_cons, List.map_cons]
    refine .cons ?_ ih
    obtain ⟨h1, h2, h3⟩ := h
    unfold putAt
    by_cases e : p.1 = k
    · rw [if_pos e, if_pos (h1.symm.trans e)]; exact ⟨h1, h2, ry⟩
    · rw [if_neg e, if_neg (fun z => e (h1.trans z))]; exact ⟨h1, h2, h3⟩
theorem KT.put {H : Hp} {kvs : List (List Key × V)} {xs : List (List Key × Addr × Value)} (r : KT H kvs xs) (k : List Key) {b : Addr} {y : V} {u : Value} (hb : H b = some (.tup (k.map kV))) (ry : RelV y u) :
    KT H (putK kvs k y) (storedH xs k b u) := by
  have e : (kvs.any fun kv => decide (kv.1 = k)) = (atKey xs k).isSome := by
    rw [valV_any, (r.val k).isSome_eq, Option.isSome_map]
  unfold putK storedH
  rw [e]
  by_cases q : (atKey xs k).isSome = true
  · rw [if_pos q, if_pos q]; exact r.repl k ry
  · rw [if_neg q, if_neg q]; exact Paired.snoc r ⟨rfl, hb, ry⟩
theorem KT.keeps {H H' : Hp} {kvs : List (List Key × V)} {xs : List (List Key × Addr × Value)} (r : KT H kvs xs) (ht : ∀ b ys, H b = some (.tup ys) → H' b = some (.tup ys)) : KT H' kvs xs :=
  Paired.mapP r fun _ _ z => ⟨z.1, ht _ _ z.2.1, z.2.2⟩
section
variable {P : Program} {w : World} {H : Hp} {h : Heap} {a : Addr}
theorem rd_of {u : HO} (ok : HOk P w H h) (e : Rd H a u) : ObjOk P w H h a u := e.ok ok
theorem dk_rd {kvs : List (Key × V)} (ok : HOk P w H h) (e : Rd H a (.dK kvs)) : kvs.length ≤ sizeLine ∧ (a == sysModules) = false ∧ ∃ vs, KV kvs vs ∧ h.DictOf (mixKind P w) a vs :=
  show ObjOk P w H h a (.dK kvs) from rd_of ok e
theorem dk_of {kvs : List (Key × V)} (ok : HOk P w H h) (e : H a = some (.dK kvs)) : kvs.length ≤ sizeLine ∧ (a == sysModules) = false ∧ ∃ vs, KV kvs vs ∧ h.DictOf (mixKind P w) a vs := dk_rd ok (.inl e)
theorem key_of {ks : List Key} (ok : HOk P w H h) (e : H a = some (.tup (ks.map kV))) : (tupleKind (mixKind P w)).is h ks a := by
  obtain ⟨_, its, r, o, h1, h2, n, h3⟩ := (show ObjOk P w H h a (.tup (ks.map kV)) from ok a _ e)
  exact ⟨o, its.toArray, n, h1, h2, h3, by simpa using items_are r⟩
theorem dt_rd {kvs : List (List Key × V)} (ok : HOk P w H h) (e : Rd H a (.dT kvs)) : kvs.length ≤ sizeLine ∧ (a == sysModules) = false ∧
    ∃ xs, KT H kvs xs ∧ h.DictOfH (tupleKind (mixKind P w)) a xs := by
  obtain ⟨z, y, xs, r, o, es, ep, h1, h2, h3, h4, h5⟩ := (show ObjOk P w H h a (.dT kvs) from rd_of ok e)
  refine ⟨z, y, xs, r, o, es, ep, h1, h2, h3, h4, fun x hx => ?_, h5⟩
  have all : ∀ {l : List (List Key × V)} {m : List (List Key × Addr × Value)}, KT H l m → ∀ x ∈ m, (tupleKind (mixKind P w)).is h x.1 x.2.1 := by
    intro l m q
    induction q with
    | nil => intro x hx; exact nomatch hx
    | @cons p q ps qs hq t ih =>
      intro x hx
      rcases List.mem_cons.mp hx with e | hx
      · subst e
        exact key_of ok (by rw [← hq.1]; exact hq.2.1)
      · exact ih x hx
  exact all r x hx
theorem dt_of {kvs : List (List Key × V)} (ok : HOk P w H h) (e : H a = some (.dT kvs)) : kvs.length ≤ sizeLine ∧ (a == sysModules) = false ∧
    ∃ xs, KT H kvs xs ∧ h.DictOfH (tupleKind (mixKind P w)) a xs := dt_rd ok (.inl e)
end
noncomputable def DGet (H : Hp) (a : Addr) (y : V) (r : Option V) : Prop :=
  (∃ kvs k, Rd H a (.dK kvs) ∧ y = kV k ∧ r = valV kvs k) ∨ ∃ kvs k b, Rd H a (.dT kvs) ∧ y = .ref b ∧ H b = some (.tup (k.map kV)) ∧ r = valV kvs k
noncomputable def DPut (H : Hp) (a : Addr) (y v : V) (H' : Hp) : Prop :=
  (∃ kvs k, H a = some (.dK kvs) ∧ y = kV k ∧ kvs.length < sizeLine ∧ H' = upd H a (.dK (putK kvs k v))) ∨
  ∃ kvs k b, H a = some (.dT kvs) ∧ y = .ref b ∧ H b = some (.tup (k.map kV)) ∧ kvs.length < sizeLine ∧ H' = upd H a (.dT (putK kvs k v))
theorem DGet.k {H : Hp} {a : Addr} {kvs : List (Key × V)} {k : Key} (e : H a = some (.dK kvs)) : DGet H a (kV k) (valV kvs k) := .inl ⟨kvs, k, .inl e, rfl, rfl⟩
theorem DPut.k {H : Hp} {a : Addr} {kvs : List (Key × V)} {k : Key} {v : V} (e : H a = some (.dK kvs)) (hl : kvs.length < sizeLine) : DPut H a (kV k) v (upd H a (.dK (putK kvs k v))) := .inl ⟨kvs, k, e, rfl, hl, rfl⟩
section
variable {X : Cx} {pins : List (Addr × Obj)} {σ : St} {H : Hp} {s : Shared} {a : Addr} {y v : V} {u r : Value} {o : Option V} {A : Around} {E : Value → Shared → Prop}
theorem Inv.big (I : Inv X pins σ H s) : sysModules < s.heap.objs.size := by
  have h : mainGlobals < s.heap.objs.size := (I.mod.glob.keeps I.bk).lt
  exact Nat.lt_trans (by decide) h
theorem d_getItem {Q : Value → Shared → Prop} (hu : A.units + 1 < cLine) (I : Inv X pins σ H s) (g : DGet H a y (some v)) (ry : RelV y u) (h : ∀ w' s', Inv X pins σ H s' → RelV v w' → Q w' s') :
    wpAny (model X.prog X.w) A (getItem (.ref a) u) Q E s := by
  rcases g with ⟨kvs, k, e, ey, l⟩ | ⟨kvs, k, b, e, ey, eb, l⟩
  · subst ey
    obtain ⟨z, hd, vs, rel, dd⟩ := dk_rd I.hok e
    obtain ⟨w', hw, rw'⟩ := RelO.some_of (v := v) (o := valueAt vs k) (by rw [l]; exact rel.val k)
    exact wpAny_getItem_of (kV_is ry) dd.mapOf hw (h w' _ (I.tok _) rw')
  · subst ey
    cases (show u = Value.ref b from ry)
    obtain ⟨z, hd, xs, rel, dd⟩ := dt_rd I.hok e
    obtain ⟨w', hw, rw'⟩ := RelO.some_of (v := v) (o := (atKey xs k).map (·.2)) (by rw [l]; exact rel.val k)
    obtain ⟨p, hp, hp2⟩ := Option.map_eq_some_iff.mp hw
    refine wpAny_getItem_heap (tupleKind_room_in1 hu) (key_of I.hok eb) dd hp ?_
    rw [hp2]
    exact h w' _ (I.tok _) rw'
theorem d_write {h' : Heap} {t' : Nat} {ob : HO} (I : Inv X pins σ H s) (mu : Mut (H a)) (hs : Heap.SameBut a s.heap h') (he : ∃ q, h'.get? a = some q) (new : ObjOk X.prog X.w (upd H a ob) h' a ob) :
    Inv X pins σ (upd H a ob) { s with heap := h', toks := t' } :=
  I.write (x := a) (e := a) mu (.inl rfl) (fun b q hb z => (hs.2 b hb).trans z) he new
theorem dk_new {P : Program} {w : World} {H' : Hp} {h' : Heap} {kvs : List (Key × V)} {vs : List (Key × Value)} (z : kvs.length ≤ sizeLine) (hd : (a == sysModules) = false) (rel : KV kvs vs) (dd : h'.DictOf (mixKind P w) a vs) :
    ObjOk P w H' h' a (.dK kvs) := ⟨z, hd, vs, rel, dd⟩
theorem d_setItem {H' : Hp} {Q : Unit → Shared → Prop} (hu : A.units + 1 < cLine) (I : Inv X pins σ H s) (g : DPut H a y v H') (ry : RelV y u) (rv : RelV v r) (h : ∀ s', Inv X pins σ H' s' → Q () s') :
    wpAny (model X.prog X.w) A (setItem (.ref a) u r) Q E s := by
  rcases g with ⟨kvs, k, e, ey, l, eH⟩ | ⟨kvs, k, b, e, ey, eb, l, eH⟩
  · subst ey eH
    obtain ⟨z, hd, vs, rel, dd⟩ := dk_of I.hok e
    have hz : vs.length ≤ sizeLine := by rw [← rel.length]; exact z
    have hl : (putK kvs k v).length ≤ sizeLine := by have := length_putK kvs k v; omega
    refine wpAny_setItem_pairs (hsz := hz) (kV_is ry) dd fun h' dd' hs => h _ ?_
    have he : ∃ q, h'.get? a = some q := let ⟨q, _, _, hq, _⟩ := dd'; ⟨q, hq⟩
    exact d_write I (by rw [e]; exact True.intro) hs he (dk_new hl hd (rel.put k rv) dd')
  · subst ey eH
    cases (show u = Value.ref b from ry)
    obtain ⟨z, hd, xs, rel, dd⟩ := dt_of I.hok e
    have hz : xs.length ≤ sizeLine := by rw [← Paired.length rel]; exact z
    have hl : (putK kvs k v).length ≤ sizeLine := by have := length_putK kvs k v; omega
    refine wpAny_setItem_heap (hsz := hz) (tupleKind_room_in1 hu) (key_of I.hok eb) dd fun h' dd' hs => h _ ?_
    obtain ⟨q, es, ep, hq, h2, h3, h4, _, h5⟩ := dd'
    refine d_write I (by rw [e]; exact True.intro) hs ⟨q, hq⟩ ⟨hl, hd, _, (rel.put k eb rv).keeps fun c ys ec => ?_, q, es, ep, hq, h2, h3, h4, h5⟩
    rw [upd_ne (ne_of ec e (fun z => nomatch z))]
    exact ec
end
section
variable {X : Cx} {pins : List (Addr × Obj)} {σ : St} {H : Hp} {s : Shared} {a : Addr} {kvs : List (Key × V)} {k : Key} {u : Value} {A : Around} {E : Value → Shared → Prop}
end
noncomputable def NoSl (i : Expr) : Prop := ∀ ov iv, subscripted i false ov iv = operate [ov, iv] (getItem ov iv)
theorem subD_of {prog : Program} {w : World} {A : Around} {E : Value → Shared → Prop} {s : Shared} {env : Env} {value slice : Expr} {pos : Pos} {T id : String} {Q : Value → Shared → Prop}
    (hl : typeLookup (.type T) "__getitem__" = pure (some (.builtin id))) (hs : NoSl slice)
    (h : wpAny (model prog w) A (eval value env) (fun o s₁ => wpAny (model prog w) A (eval slice env) (fun i s₂ => s₂.TypeIs o T ∧ wpAny (model prog w) A (getItem o i) Q E s₂) E s₁) E s) :
    wpAny (model prog w) A (eval (.Subscript value slice pos) env) Q E s := by
  refine Subscript_ (wpAny_mono h (fun o s₁ h₁ => wpAny_mono h₁ (fun i s₂ h₂ => ?_) fun _ _ x => x) fun _ _ x => x)
  obtain ⟨hT, h₂⟩ := h₂
  unfold subscriptTail
  refine wpAny_bind ?_
  rw [getitemInPython_of_ne hT.not_modules]
  refine wpAny_bind (wpAny_specialOf hT hl ?_)
  have fin : wpAny (model prog w) A (subscripted slice false o i) (fun r s₃ => wpAny (model prog w) A (letTemporaryGo value o r >>= fun _ => pure r) Q E s₃) E s₂ := by
    rw [hs o i]
    exact wpAny_operating (wpAny_mono h₂ (fun r s₃ h₃ => wpAny_bind (wpAny_letTemporaryGo (wpAny_pure h₃))) fun _ _ x => x)
  first
    | exact wpAny_pure (wpAny_bind fin)
    | exact wpAny_bind (wpAny_pure (wpAny_bind fin))
    | exact wpAny_bind fin
theorem dict_typeIs {X : Cx} {pins : List (Addr × Obj)} {σ : St} {H : Hp} {s : Shared} {a : Addr} {y : V} {o : Option V} (I : Inv X pins σ H s) (g : DGet H a y o) : s.TypeIs (.ref a) "dict" := by
  rcases g with ⟨kvs, k, e, _, _⟩ | ⟨kvs, k, b, e, _, _, _⟩
  · obtain ⟨_, _, vs, _, dd⟩ := dk_rd I.hok e
    exact dd.typeIs
  · obtain ⟨_, _, xs, _, dd⟩ := dt_rd I.hok e
    exact dd.typeIs
noncomputable def tDGet (td ty : TE) : TE := fun σ H Q => td σ H fun x H1 => ty σ H1 fun y H2 => ∃ a v, x = .ref a ∧ DGet H2 a y (some v) ∧ Q v H2
noncomputable def sDPut (td ty tv : TE) : TS := fun D σ H => tv σ H fun v H1 => td σ H1 fun x H2 => ty σ H2 fun y H3 => ∃ a H4, x = .ref a ∧ DPut H3 a y v H4 ∧ D.nx σ H4
section
variable {X : Cx} {o i e value : Expr} {pos pos' tpos : Pos} {td ty tv : TE}
theorem pe_dget (hu : X.A.units + 1 < cLine) (ho : PE X o td) (hi : PE X i ty) (hs : NoSl i) : PE X (.Subscript o i pos) (tDGet td ty) := by
  intro pins s σ H Q I h
  refine subD_of PySem.F.slot_dict_getitem.lookup hs (thn (ho pins s σ H _ I h) fun u s1 ⟨x, H1, I1, rx, q1⟩ => thn (hi pins s1 σ H1 _ I1 q1) fun iv s2 zz_ => ?_)
  obtain ⟨y, H2, I2, ry, a, v, ex, g, q2⟩ := zz_
  subst ex
  obtain rfl : u = Value.ref a := rx
  exact ⟨dict_typeIs I2 g, d_getItem hu I2 g ry fun w' s3 I3 rw' => ⟨v, H2, I3, rw', q2⟩⟩
theorem ps_dput (hu : X.A.units + 1 < cLine) (ho : PE X o td) (hi : PE X i ty) (hv : PE X value tv) (hs : swapsWith value (some (.Subscript o i pos')) pos.line X.env = pure false) :
    PS X (.Assign [.Subscript o i pos'] value pos) (sDPut td ty tv) := by
  intro pins s σ H D I h
  refine wpAny_Assign_Subscript (thn (hv pins s σ H _ I h) fun r s1 ⟨v, H1, I1, rv, q1⟩ => thn (ho pins s1 σ H1 _ I1 q1) fun u s2 ⟨x, H2, I2, rx, q2⟩ => thn (hi pins s2 σ H2 _ I2 q2) fun iv s3 zz_ => ?_) hs
  obtain ⟨y, H3, I3, ry, a, H4, ex, g, q3⟩ := zz_
  subst ex
  obtain rfl : u = Value.ref a := rx
  exact d_setItem hu I3 g ry rv fun s4 I4 => ⟨σ, H4, I4, q3⟩
end
theorem dk_empty {P : Program} {w : World} {H : Hp} (h : Heap) (hb : sysModules < h.objs.size) : ObjOk P w H (h.push { cls := .type "dict", data := .dict #[] }) h.objs.size (.dK []) :=
  ⟨Nat.zero_le _, beq_eq_false_iff_ne.mpr (Ne.symm (Nat.ne_of_lt hb)), [], .nil, Heap.DictOf.new h⟩
section
variable {X : Cx} {pos : Pos}
end
noncomputable def tPairs : List (TE × TE) → St → Hp → (List (V × V) → Hp → Prop) → Prop
  | [], _, H, Q => Q [] H
  | (tk, tv) :: r, σ, H, Q => tk σ H fun x H1 => tv σ H1 fun y H2 => tPairs r σ H2 fun ps H3 => Q ((x, y) :: ps) H3
noncomputable abbrev VV : List (V × V) → List (Value × Value) → Prop := Paired fun p q => RelV p.1 q.1 ∧ RelV p.2 q.2
noncomputable def PPs (X : Cx) (pos : Pos) (keys : List (Option Expr)) (values : List Expr) (trs : List (TE × TE)) : Prop :=
  ∀ (pins : List (Addr × Obj)) (s : Shared) (σ : St) (H : Hp) (Q : List (V × V) → Hp → Prop), Inv X pins σ H s → tPairs trs σ H Q →
    wpAny (model X.prog X.w) X.A (evalPairs (pairTrees keys values X.env pos)) (fun vs s' => ∃ ps H', Inv X pins σ H' s' ∧ VV ps vs ∧ Q ps H') X.xe s
theorem pps_nil {X : Cx} {pos : Pos} : PPs X pos [] [] [] := fun pins s σ H Q I h => pairTrees_nil_walk ⟨[], H, I, .nil, h⟩
theorem pps_cons {X : Cx} {pos : Pos} {k v : Expr} {ks : List (Option Expr)} {vs : List Expr} {tk tv : TE} {trs : List (TE × TE)} (hk : PE X k tk) (hv : PE X v tv) (hr : PPs X pos ks vs trs) :
    PPs X pos (some k :: ks) (v :: vs) ((tk, tv) :: trs) := fun pins s σ H Q I h =>
  pairTrees_cons_walk (thn (hk pins s σ H _ I h) fun u s1 ⟨x, H1, I1, rx, q1⟩ => thn (hv pins s1 σ H1 _ I1 q1) fun w2 s2 ⟨y, H2, I2, ry, q2⟩ =>
    thn (hr pins s2 σ H2 _ I2 q2) fun ws s3 ⟨ps, H3, I3, rel, q3⟩ => ⟨(x, y) :: ps, H3, I3, .cons ⟨rx, ry⟩ rel, q3⟩)
noncomputable def mergeK (kvs more : List (Key × V)) : List (Key × V) := more.foldl (fun acc kv => putK acc kv.1 kv.2) kvs
theorem KV.merge : ∀ {more : List (Key × V)} {rs : List (Key × Value)} {kvs : List (Key × V)} {vs : List (Key × Value)}, KV more rs → KV kvs vs → KV (mergeK kvs more) (merged vs rs) := by
  intro more rs kvs vs r
  unfold KV at r
  induction r generalizing kvs vs with
  | nil => intro q; exact q
  | @cons p q ps qs h t ih =>
    intro r0
    have e : KV (putK kvs p.1 p.2) (stored vs q.1 q.2) := by
      have := r0.put p.1 h.2
      rw [← h.1]; exact this
    exact ih e
theorem length_mergeK : ∀ (more kvs : List (Key × V)), (mergeK kvs more).length ≤ kvs.length + more.length
  | [], kvs => by show kvs.length ≤ kvs.length + 0; omega
  | p :: r, kvs => by
    have h1 := length_mergeK r (putK kvs p.1 p.2)
    have h2 := length_putK kvs p.1 p.2
    show (mergeK (putK kvs p.1 p.2) r).length ≤ _
    rw [List.length_cons]; omega
theorem carries_of {P : Program} {w : World} : ∀ {kvs : List (Key × V)} {ws : List (Value × Value)}, VV (kvs.map fun kv => (kV kv.1, kv.2)) ws → ∃ rs, Carries (mixKind P w) ws rs ∧ KV kvs rs
  | [], _, r => by rw [List.map_nil] at r; cases r; exact ⟨[], True.intro, .nil⟩
  | p :: kvs, _, r => by
    rw [List.map_cons] at r
    cases r with
    | @cons a b as bs h t =>
      obtain ⟨rs, c, q⟩ := carries_of (P := P) (w := w) t
      obtain ⟨b1, b2⟩ := b
      exact ⟨(p.1, b2) :: rs, ⟨kV_is h.1, rfl, c⟩, .cons ⟨rfl, h.2⟩ q⟩
noncomputable def tDisp (trs : List (TE × TE)) : TE := fun σ H Q => ∀ p, H p = none → tPairs trs σ (upd H p (.dK [])) fun ps H2 => H2 p = some (.dK []) ∧ ∃ kvs : List (Key × V), ps = kvs.map (fun kv => (kV kv.1, kv.2)) ∧ kvs.length ≤ 15 ∧ Q (.ref p) (upd H2 p (.dK (mergeK [] kvs)))
theorem pe_disp {X : Cx} {pos : Pos} {keys : List (Option Expr)} {values : List Expr} {trs : List (TE × TE)} (h : PPs X pos keys values trs) (hall : keys.all (·.isSome) = true) (hl : keys.length = values.length) (h0 : keys ≠ [])
    (h15 : keys.length ≤ 15) : PE X (.Dict keys values pos) (tDisp trs) := by
  intro pins s σ H Q I q
  have hn := I.hok.fresh (Nat.le_refl s.heap.objs.size)
  have I1 := I.laid (a := s.heap.objs.size) (o := .dK []) (h' := s.heap.push { cls := .type "dict", data := .dict #[] }) (t' := s.toks) (fun _ _ q => Heap.get?_push_of_some _ q) (Nat.le_refl _) (dk_empty s.heap I.big)
  refine wpAny_Dict_walk (knd := mixKind X.prog X.w) hall hl h0 h15 (thn (h pins _ σ _ _ I1 (q _ hn)) fun ws s2 zz_ => ?_)
  obtain ⟨ps, H2, I2, rel, e, kvs, ep, lk, q2⟩ := zz_
  subst ep
  obtain ⟨rs, c, rk⟩ := carries_of (P := X.prog) (w := X.w) rel
  obtain ⟨z, hd, vs0, r0, dd⟩ := dk_of I2.hok e
  cases r0
  refine ⟨rs, c, dd, fun h' dd' hs => ⟨.ref s.heap.objs.size, _, ?_, rfl, q2⟩⟩
  have hz : (mergeK [] kvs).length ≤ sizeLine := by
    have h1 := length_mergeK kvs []
    rw [List.length_nil] at h1
    rw [sizeLine_eq]; omega
  have he : ∃ q, h'.get? s.heap.objs.size = some q := let ⟨q, _, _, hq, _⟩ := dd'; ⟨q, hq⟩
  exact d_write I2 (by rw [e]; exact True.intro) hs he (dk_new hz hd (rk.merge .nil) dd')
section
variable {X : Cx} {pins : List (Addr × Obj)} {σ : St} {H : Hp} {s : Shared} {a : Addr} {y d : V} {u r : Value} {o : Option V} {A : Around} {E : Value → Shared → Prop}
end
section
variable {X : Cx} {o e f : Expr} {apos cpos : Pos} {td ty tx : TE}
end
section
variable {X : Cx} {pins : List (Addr × Obj)} {σ : St} {H : Hp} {s : Shared} {a : Addr} {kvs : List (Key × V)} {A : Around} {E : Value → Shared → Prop}
end
section
variable {X : Cx} {pins : List (Addr × Obj)} {σ : St} {H : Hp} {s : Shared} {a : Addr} {y : V} {u : Value} {A : Around} {E : Value → Shared → Prop}
end
end L2
namespace Att
open PySem PySem.W PySem.Calls PyProof.Rows
theorem ints_of_wellAll {P : Params} {h : Heap} : ∀ (ns : List Int) (vs : List Value), WellAll P h vs (ns.map WData.int) → IntsAre vs ns := by
  intro ns
  induction ns with
  | nil =>
    intro vs w
    rw [List.map_nil] at w
    cases w
    exact .nil
  | cons n ns ih =>
    intro vs w
    rw [List.map_cons] at w
    cases w with
    | cons a b =>
      cases a
      exact .cons _ _ (ih _ b)
theorem script_of {l : OpenLaw} {n : Nat} (hn : l.most = some n) {P : Params} {h : Heap} {args : List WData} {vals : List Value}
    (hpre : l.row.toRowW.claim.pre args = true) (hwl : WellAll P h vals args) :
    ∃ a vs ns, vals = [Value.ref a] ∧ args = [WData.list (ns.map WData.int)] ∧ h.get? a = some { cls := .type "list", data := .seq vs.toArray } ∧ IntsAre vs ns ∧ ns.length ≤ n := by
  have hsh : WShape.hasAll [] args [.list .int] = true := (pre_splitW hpre).1
  have hc : l.pre.holds [] { args := args } = true := (pre_splitW hpre).2
  obtain ⟨d, r, rfl, h1, h2⟩ := hasAllW_cons hsh
  obtain rfl := hasAllW_nil h2
  obtain ⟨xs, rfl, h3⟩ := hasW_list h1
  obtain ⟨ns, rfl⟩ := items_int h3
  have hlen : ns.length ≤ n := by
    unfold OpenLaw.pre at hc
    have h4 : (WTm.not (.lt (.lit (.int (n : Int))) (.len (.arg 0)))).holds [] { args := [.list (ns.map .int)] } = true := by
      have h4 := (holds_andW hc).1
      rw [hn] at h4
      exact h4
    have h5 := condW_of h4 (w_not (w_lt w_lit (w_len_list (w_arg rfl))))
    rw [List.length_map] at h5
    refine Nat.le_of_not_lt fun q => ?_
    have q' : (n : Int) < ((ns.length : Nat) : Int) := by omega
    first
      | (rw [decide_eq_true q'] at h5; exact absurd h5 (by decide))
      | (simp at h5; omega)
  cases hwl with
  | cons w1 w2 =>
    cases w2
    cases w1 with
    | list ho hall => exact ⟨_, _, ns, rfl, rfl, ho, ints_of_wellAll ns _ hall, hlen⟩
theorem post_true (l : OpenLaw) (args : List WData) : l.row.toRowW.claim.post args (.bool true) args = true :=
  postW_of (r := l.row.toRowW) (X := (true == true))
    (show WShape.has [] (.bool true) .bool = true by first | rfl | decide | simp [WShape.has, WShape.arms, WShape.armsAll])
    (show (WTm.eq .res (.lit (.bool true))).value [] { args := args, res := some (.bool true), after := args } = some (.bool (true == true)) from w_eq_bool (w_res rfl) w_lit) rfl
theorem attach_call {l : OpenLaw} {n : Nat} {q : Program} {loose : List Str} {XP : (Str → Option Value) → Heap → Prop} {YP : World → Heap → Prop} {d : DefRec}
    (hn : l.most = some n) (hdf : d.params.defaults = [])
    (call : ∀ (w : World) (s₀ s₁ : Shared) (mg mb : Str → Option Value) (fa : Addr) (o : Obj) (pm cd doc : Value) (a : Addr) (vs : List Value) (ns : List Int),
      Ground q loose [] XP w s₀ mg mb s₁.heap → YP w s₁.heap →
      s₁.heap.get? fa = some o → o.data = .func (docDef d.name d.params d.body d.scope pm cd doc) → s₁.heap.CodeRec cd d.name → mg d.name = some (.ref fa) →
      s₁.heap.get? a = some { cls := .type "list", data := .seq vs.toArray } → IntsAre vs ns → ns.length ≤ n → s₁.gens = #[] →
      codeAny (model l.prog w) callerA (.call (.ref fa) ⟨[.ref a], []⟩) (fun r s' => r = .ok (.ret (.bool true)) ∧ OldK s₁.heap s'.heap ∧ s'.os = s₁.os ∧ AllBare s'.gens) s₁) :
    WalkO q loose XP YP l.row.toRowW d [] (fun f vs => PySem.call f vs) := by
  intro w s₀ s₁ mg mb G Y fa o pm cd doc dV kV ho hd hcd hD hmg hg args vals as hpre hlay hrd hwl hlo
  obtain rfl : dV = .none := Dflts.none hD hdf
  obtain rfl : kV = .none := Dflts.noKw hD
  obtain ⟨a, vs, ns, rfl, rfl, hobj, hints, hlen⟩ := script_of hn hpre hwl
  refine enter_call (codeAny_mono (call w s₀ s₁ mg mb fa o pm cd doc a vs ns G Y ho (fd_plain hd) hcd hmg hobj hints hlen hg) fun r s' hq => ?_)
  obtain ⟨rfl, h2, h3, h4⟩ := hq
  exact ⟨.inl ⟨.bool true, .bool true, [], rfl, fun _ => rfl, .bool true, post_true l _, fun _ => ⟨List.Pairwise.nil, fun _ hm => (nomatch hm)⟩⟩, h2, h3, h4⟩
section
variable {prog : Program} {w : World} {A : Around} {E : Value → Shared → Prop} {s : Shared} {K : Frag}
end
end Att
namespace L2
open PySem PySem.Spec PyProof.Rows
theorem vals_ints : ∀ {vs : List Value} {ns : List Int}, IntsAre vs ns → Vals (ns.map V.int) vs
  | _, _, .nil => .nil
  | _, _, .cons n t h => .cons ⟨t, rfl⟩ (vals_ints h)
noncomputable def Only (H : Hp) : Prop := ∀ b, H b = none ∨ ∃ o xs, H b = some (.frz o (.lst xs))
theorem law_call {P : Program} {w : World} {K : PySem.W.Frag} {mg mb : Str → Option Value} {CX : CXT} {k : Nat} {fa a : Addr} {fd : FuncData} {x : Str} {sp : Sp} {s₁ : Shared} {vs : List Value} {ns : List Int}
    (KX : K.In s₁.heap) (hns : s₁.heap.Ns mainGlobals mg) (hb : s₁.heap.Ns builtinsNs mb) (hbb : ∀ x : Str, x ≠ "__name__" → mb x = bootBuiltins x) (hlim : s₁.heap.NoLimit) (hg : s₁.gens = #[])
    (ha : s₁.heap.get? a = some { cls := .type "list", data := .seq vs.toArray }) (hi : IntsAre vs ns) (hl : ns.length ≤ sizeLine) (hr : Room k callerA)
    (F : ∀ base : Heap, K.In base → base.Ns mainGlobals mg → FnOk P w K mg base CX k fa fd [x] sp) (hbind : ∀ (s : Shared) (u : Value), BindsTo s fd ⟨[u], []⟩ [(x, u)])
    (hsp : ∀ H : Hp, Only H → SqL K H a (ns.map V.int) → sp [.ref a] H (fun v _ => v = .bl true) fun _ _ _ => False)
    (hCX : ∀ H e s', CX [] H s₁ (fun _ _ _ => False) e s' → False) :
    codeAny (model P w) callerA (.call (.ref fa) ⟨[.ref a], []⟩) (fun r s' => r = .ok (.ret (.bool true)) ∧ OldK s₁.heap s'.heap ∧ s'.os = s₁.os ∧ AllBare s'.gens) s₁ := by
  have rv := vals_ints hi
  have lenV := hi.length
  -- from an abstract heap in which nothing but the script may be tracked
  have core : ∀ H : Hp, Only H → SqL K H a (ns.map V.int) → HOk P w H s₁.heap → (∀ b, H b ≠ none → b = a) → (H a ≠ none → K.lookup a = none) →
      codeAny (model P w) callerA (.call (.ref fa) ⟨[.ref a], []⟩) (fun r s' => r = .ok (.ret (.bool true)) ∧ OldK s₁.heap s'.heap ∧ s'.os = s₁.os ∧ AllBare s'.gens) s₁ := by
    intro H hO hS hok hA hK
    have base_of : ∀ {b : Addr} {o : Obj}, s₁.heap.get? b = some o → H b = none → (hidT s₁.heap H).get? b = some o := fun e n => hidT_get e n
    have noA : ∀ {b : Addr} {o : Obj} {es : Array DictEntry} {ep : Nat}, s₁.heap.get? b = some o → o.data = .dict es ep → H b = none := fun {b o es ep} e d => by
      cases q : H b with
      | none => rfl
      | some u =>
        have e' : b = a := hA b (by rw [q]; simp)
        subst e'
        rw [ha] at e; cases e
        have d' : Data.seq vs.toArray _ = Data.dict es ep := d
        cases d'
    have nsK : ∀ {b : Addr} {m : Str → Option Value}, s₁.heap.Ns b m → (hidT s₁.heap H).Ns b m := fun {b m} ⟨o, es, ep, e, d, r⟩ => ⟨o, es, ep, base_of e (noA e d), d, r⟩
    have hKb : K.In (hidT s₁.heap H) := fun b o e => base_of (KX b o e) (by
      cases q : H b with
      | none => rfl
      | some u =>
        have e' : b = a := hA b (by rw [q]; simp)
        subst e'
        rw [hK (by rw [q]; simp)] at e; cases e)
    have hM : Mod K mg (hidT s₁.heap H) := ⟨hKb, nsK hns, ⟨mb, nsK hb, hbb⟩, let ⟨mc, h1, h2⟩ := hlim; ⟨mc, nsK h1, h2⟩⟩
    have e0 : Env0 P w K mg (hidT s₁.heap H) callerA [] s₁ H := ⟨rfl, hM, fun b o e => of_hidT e, Nat.le_of_eq (hidT_size _ _), trivial, fun b hb => absurd (show b ∈ ([] : List Addr) from hb) (by simp), hok, .of_eq hg⟩
    refine codeAny_mono ((F _ hKb (nsK hns)).run callerA [] s₁ H ⟨[.ref a], []⟩ [.ref a] [.ref a] _ _ hr e0 (hbind s₁ (.ref a)) (.cons rfl .nil) (hsp H hO hS)) fun r s' h => ?_
    cases r with
    | error e => exact (hCX H e s' h).elim
    | ok fl =>
      cases fl with
      | next => exact False.elim h
      | brk => exact False.elim h
      | cont => exact False.elim h
      | ret u =>
        obtain ⟨v, H', os, bare, un, hok', r', q⟩ := h
        have q' : v = .bl true := q
        subst q'
        obtain rfl : u = Value.bool true := r'
        refine ⟨rfl, OldK.of_keep fun b o e => ?_, os, bare⟩
        cases q : H b with
        | none => exact un.keep b o e q (by intro z; exact absurd (show b ∈ ([] : List Addr) from z) (by simp)) (by simp)
        | some u =>
          rcases hO b with z | ⟨ob, xs, z⟩
          · rw [q] at z; cases z
          · have z2 := un.frzs b ob _ z
            obtain ⟨e1, _⟩ := hok b _ z
            obtain ⟨e2, _⟩ := hok' b _ z2
            rw [e] at e1; cases e1
            exact e2
  cases hk : K.lookup a with
  | some o =>
    -- the script is one of the module's own objects
    have e := KX a o hk
    rw [ha] at e
    cases e
    refine core (fun _ => none) (fun _ => .inl rfl) (.inr ⟨_, vs.toArray, _, hk, rfl, rfl, rfl, by rw [List.size_toArray, lenV]; exact hl, by simpa using rv⟩) (fun b u z => by have z' : (none : Option HO) = some u := z; cases z') (fun b z => absurd rfl z) fun z => absurd rfl z
  | none =>
    refine core (fun b => if b = a then some (.frz { cls := .type "list", data := .seq vs.toArray } (.lst (ns.map V.int))) else none) (fun b => ?_) (.inl (.inr ⟨{ cls := .type "list", data := .seq vs.toArray }, if_pos rfl⟩)) (fun b u z => ?_) (fun b z => ?_) fun _ => hk
    · by_cases hb : b = a
      · exact .inr ⟨_, _, if_pos hb⟩
      · exact .inl (if_neg hb)
    · by_cases hb : b = a
      · have z' := (if_pos hb).symm.trans z
        cases z'
        subst hb
        exact ⟨ha, by rw [List.length_map]; exact hl, vs, _, rv, ha⟩
      · have z' := (if_neg hb).symm.trans z
        cases z'
    · by_cases hb : b = a
      · exact hb
      · exact absurd (if_neg hb) z
end L2
namespace L2
open PySem PySem.Spec PyProof.Rows
theorem walk_of {l : PySem.W.OpenLaw} {n k : Nat} {q : Program} {loose : List Str} {XP : (Str → Option Value) → Heap → Prop} {YP : World → Heap → Prop} {d : DefRec} {K : Params → PySem.W.Frag} {CX : World → CXT} {sp : World → Sp} {x : Str}
    (hn : l.most = some n) (hn2 : n ≤ sizeLine) (hdf : d.params.defaults = []) (hr : Room k callerA)
    (hY : ∀ (w : World) (h : Heap), YP w h → (K w.params).In h)
    (F : ∀ (w : World) (mg : Str → Option Value) (fa : Addr) (h : Heap), (K w.params).In h → h.Ns mainGlobals mg → mg d.name = some (.ref fa) →
      ∃ fd : FuncData, (∀ (s : Shared) (u : Value), BindsTo s fd ⟨[u], []⟩ [(x, u)]) ∧
        ∀ base : Heap, (K w.params).In base → base.Ns mainGlobals mg → FnOk l.prog w (K w.params) mg base (CX w) k fa fd [x] (sp w))
    (hsp : ∀ (w : World) (H : Hp) (a : Addr) (ns : List Int), ns.length ≤ n → Only H → SqL (K w.params) H a (ns.map V.int) → sp w [.ref a] H (fun v _ => v = .bl true) fun _ _ _ => False)
    (hCX : ∀ (w : World) (H : Hp) (s : Shared) (e : Value) (s' : Shared), CX w [] H s (fun _ _ _ => False) e s' → False) :
    PySem.W.WalkO q loose XP YP l.row.toRowW d [] (fun f vs => PySem.call f vs) := by
  refine Att.attach_call hn hdf fun w s₀ s₁ mg mb fa o pm cd doc a vs ns G Y ho hd hcd hmg hobj hints hlen hg => ?_
  have KX := hY w _ Y
  obtain ⟨fd, hb, hF⟩ := F w mg fa _ KX G.T.g hmg
  exact law_call KX G.T.g G.T.b G.T.builtins G.T.nolimit hg hobj hints (Nat.le_trans hlen hn2) hr hF hb (fun H hO hS => hsp w H a ns hlen hO hS) fun H e s' => hCX w H s₁ e s'
end L2
namespace L2
open PySem PySem.Spec PyProof.Rows
noncomputable def inClass (s : Stmt) (j : Nat) : Stmt := match s with
  | .ClassDef _ _ _ body _ _ _ _ _ _ _ => body.getD j (.Pass ⟨0, 0, 0, 0⟩)
  | _ => .Pass ⟨0, 0, 0, 0⟩
noncomputable def defArgs (s : Stmt) : Arguments := match s with
  | .FunctionDef _ a _ _ _ _ _ _ _ _ => a
  | _ => { posonlyargs := [], args := [], vararg := none, kwonlyargs := [], kw_defaults := [], kwarg := none, defaults := [] }
noncomputable def defBody (s : Stmt) : List Stmt := match s with
  | .FunctionDef _ _ b _ _ _ _ _ _ _ => b
  | _ => []
noncomputable def defScope (s : Stmt) : Scope := match s with
  | .FunctionDef _ _ _ _ _ _ sc _ _ _ => sc
  | _ => { kind := .function, names := [], isGenerator := false, isCoroutine := false }
noncomputable abbrev CX0 : CXT := fun _ _ _ _ _ _ => False
noncomputable abbrev E0 : XK := fun _ _ _ => False
theorem pass0 {X : Cx} : Passes CX0 X E0 := fun _ _ _ _ _ _ _ h => h.elim
structure Fun (K : PySem.W.Frag) (x qual : Str) (st : Stmt) (f : Addr) (fd : FuncData) : Prop where
  ex : ∃ (oc : Value) (od : Option Addr) (kV doc pm : Value) (an : Option Addr) (cdv ct : Value) (osl : Array (Option Value)),
    fd = PySem.W.fnOf x qual (defArgs st) (defBody st) (defScope st) .none kV doc pm an cdv ct ∧ K.lookup f = some ⟨oc, od, .func fd, osl⟩ ∧ PySem.W.codeIn K cdv qual = true
  kp : PySem.W.keepIn K (.ref f) = true
section
variable {P : Program} {w : World} {K : PySem.W.Frag} {mg : Str → Option Value} {base : Heap}
theorem Fun.ok {x qual : Str} {st : Stmt} {f : Addr} {fd : FuncData} {N ps : List Str} {k : Nat} {sp : Sp} (F : Fun K x qual st f fd) (S : FnScope N ps (defScope st)) (len : ∀ vs H Q E, sp vs H Q E → vs.length = ps.length)
    (hbody : ∀ (cdv : Value) (A : Around) (outer : List Env) (s : Shared) (H : Hp) (vs : List V) (Q : VK) (E : XK), Room k (A.deeper (envOfC qual (defScope st) s.heap.objs.size f cdv)) → sp vs H Q E →
      ∃ t, PSs (cxOf CX0 P w K mg base N qual (defScope st) f cdv A outer s H E).nox (defBody st) t ∧ t { nx := fun _ H' => Q .non H', rt := Q } (start N vs) H) : FnOk P w K mg base CX0 (k + 1) f fd ps sp := by
  obtain ⟨oc, od, kV, doc, pm, an, cdv, ct, osl, rfl, lk, hcd⟩ := F.ex
  refine fn_of lk hcd S len fun A outer s H vs Q E hr hsp => ?_
  obtain ⟨t, h, q⟩ := hbody cdv A outer s H vs Q E hr hsp
  exact ⟨t, h.nox, q⟩
theorem Fun.binds {x qual : Str} {st : Stmt} {f : Addr} {fd : FuncData} {ps : List Str} (F : Fun K x qual st f fd)
    (h : ∀ (kV doc pm : Value) (an : Option Addr) (cdv ct : Value) (us : List Value), us.length = ps.length → bindArgs (PySem.W.fnOf x qual (defArgs st) (defBody st) (defScope st) .none kV doc pm an cdv ct) ⟨us, []⟩ = pure (ps.zip us)) : Binds K fd ps [] := by
  obtain ⟨oc, od, kV, doc, pm, an, cdv, ct, osl, rfl, lk, hcd⟩ := F.ex
  exact .all (h kV doc pm an cdv ct)
theorem fun_mk {x qual : Str} {st : Stmt} {f : Addr} {oc : Value} {od an : Option Addr} {osl : Array (Option Value)} {kV doc pm cdv ct : Value} (l : K.lookup f = some ⟨oc, od, .func (PySem.W.fnOf x qual (defArgs st) (defBody st) (defScope st) .none kV doc pm an cdv ct), osl⟩)
    (c : PySem.W.codeIn K cdv qual = true) (k : PySem.W.keepIn K (.ref f) = true) : Fun K x qual st f (PySem.W.fnOf x qual (defArgs st) (defBody st) (defScope st) .none kV doc pm an cdv ct) := ⟨⟨oc, od, kV, doc, pm, an, cdv, ct, osl, rfl, l, c⟩, k⟩
end
theorem hu_of {A : Around} {k : Nat} (hr : Room k A) : A.units + 1 < cLine := Nat.lt_of_le_of_lt (Nat.add_le_add_left (by decide : 1 ≤ 64) _) hr.units
theorem small1000 {n : Nat} (h : n ≤ 1000) : n < sizeLine := Nat.lt_of_le_of_lt h (by decide)
section
variable {X : Cx}
theorem pv (i : Nat) {x : Str} {pos : Pos} (hN : X.N[i]? = some x := by rfl) (hv : Vis X.env.scope x := by first | exact Or.inl rfl | exact Or.inr (Or.inl rfl) | exact Or.inr (Or.inr rfl)) (hd : (x == ("__debug__" : Str)) = false := by decide)
    (hcd : (x == ("__classdict__" : Str)) = false := by decide) : PE X (.Name x pos) (tVar i) := pe_var hN hv hd hcd
end
theorem iteF {A B : Prop} (h : B) : if false = true then A else B := by
  rw [if_neg Bool.false_ne_true]
  exact h
theorem iteT {A B : Prop} (h : A) : if true = true then A else B := by
  rw [if_pos rfl]
  exact h
noncomputable def Same (H H' : Hp) : Prop := ∀ b o, H b = some o → H' b = some o
theorem Same.refl (H : Hp) : Same H H := fun _ _ h => h
theorem Same.trans {H H1 H2 : Hp} (a : Same H H1) (b : Same H1 H2) : Same H H2 := fun c o h => b c o (a c o h)
theorem Same.seq {K : PySem.W.Frag} {H H' : Hp} {a : Addr} {xs : List V} (e : Same H H') (h : SqL K H a xs) : SqL K H' a xs := by
  rcases h with (h | ⟨o, h⟩) | h
  · exact .inl (.inl (e _ _ h))
  · exact .inl (.inr ⟨o, e _ _ h⟩)
  · exact .inr h
section
variable {κ : Type} [DecidableEq κ]
end
end L2
set_option Elab.async false
set_option linter.all false
set_option maxRecDepth 100000
namespace L2
open PySem PySem.Spec PyProof.Rows
section
variable {X : Cx} {pins : List (Addr × Obj)} {σ : St} {H : Hp} {s : Shared} {h' : Heap}
theorem Inv.turnL {ch : List Addr} {t' : Nat} (I : Inv X pins σ H s) (k : ∀ b u, b ∉ ch → s.heap.get? b = some u → h'.get? b = some u) (hf : ∀ b ∈ ch, FpOk X pins H b) :
    Inv X pins σ H { s with heap := h', toks := t' } := by
  refine I.step (g' := s.gens) (d' := s.drawn) (ch := ch) (fun b hb => ?_) (fun b u _ _ hc e _ => k b u hc e) (fun b u _ _ hc e _ => ⟨u.slots, k b u hc e⟩)
    (fun b u _ e n => n) (fun b u hc e => ⟨u, k b u hc e⟩) (fun b xs e => e) (fun b u v e => e) (fun b ps e => ⟨#[], by rw [e]; simp⟩) (fun m hm => ?_) (fun b u e => ?_) I.bare
  · obtain ⟨_, f1, _, f3, f4, f5⟩ := hf b hb
    exact ⟨f3, f1, f4, f5⟩
  · obtain ⟨ob, es, ep, ho, r⟩ := hm
    exact ⟨ob, es, ep, k _ ob (fun z => (hf _ z).2.1 rfl) ho, r⟩
  · refine (I.hok b u e).stay (fun c v hc q => k c v ?_ q) (fun c q => q) fun c xs q => q
    intro z
    have zz := (hf c z).1
    rcases hc with rfl | hc
    · rw [e] at zz; cases zz
    · rw [hc] at zz; cases zz
end
section
variable {X : Cx}
end
section
variable {X : Cx}
end
section
variable {X : Cx}
end
mutual
inductive DV (H : Hp) : V → PyData → Prop
  | non : DV H .non .none
  | bl (b) : DV H (.bl b) (.bool b)
  | int (i) : DV H (.int i) (.int i)
  | str (x) : DV H (.str x) (.str x)
  | lst {a xs ds} : Rd H a (.lst xs) → DVs H xs ds → DV H (.ref a) (.list ds)
  | tup {a xs ds} : Rd H a (.tup xs) → DVs H xs ds → DV H (.ref a) (.tuple ds)
inductive DVs (H : Hp) : List V → List PyData → Prop
  | nil : DVs H [] []
  | cons {x xs d ds} : DV H x d → DVs H xs ds → DVs H (x :: xs) (d :: ds)
end
theorem Rd.same {H H' : Hp} (e : Same H H') {a : Addr} {u : HO} (r : Rd H a u) : Rd H' a u := by
  rcases r with r | ⟨o, r⟩
  · exact .inl (e _ _ r)
  · exact .inr ⟨o, e _ _ r⟩
mutual
theorem DV.same {H H' : Hp} (e : Same H H') : ∀ {v : V} {d : PyData}, DV H v d → DV H' v d
  | _, _, .non => .non
  | _, _, .bl b => .bl b
  | _, _, .int i => .int i
  | _, _, .str x => .str x
  | _, _, .lst r q => .lst (r.same e) (DVs.same e q)
  | _, _, .tup r q => .tup (r.same e) (DVs.same e q)
theorem DVs.same {H H' : Hp} (e : Same H H') : ∀ {v : List V} {d : List PyData}, DVs H v d → DVs H' v d
  | _, _, .nil => .nil
  | _, _, .cons a b => .cons (DV.same e a) (DVs.same e b)
end
section
variable {P : Program} {w : World} {H : Hp} {h : Heap}
mutual
theorem DV.reads (ok : HOk P w H h) : ∀ {v : V} {d : PyData} {u : Value}, DV H v d → RelV v u → ∃ as, Reads h u d as
  | _, _, u, .non, r => by cases (show u = Value.none from r); exact ⟨_, .none⟩
  | _, _, u, .bl b, r => by cases (show u = Value.bool b from r); exact ⟨_, .bool b⟩
  | _, _, u, .int i, r => by obtain ⟨t, q⟩ := (show ∃ t, u = Value.int i t from r); cases q; exact ⟨_, .int i t⟩
  | _, _, u, .str x, r => by obtain ⟨t, q⟩ := (show ∃ t, u = Value.str x t from r); cases q; exact ⟨_, .str x t⟩
  | _, _, u, .lst (a := a) rd q, r => by
    cases (show u = Value.ref a from r)
    obtain ⟨_, its, n, rv, e⟩ := rd.ok ok
    obtain ⟨as, z⟩ := DVs.reads ok q rv
    exact ⟨_, .list e rfl rfl z⟩
  | _, _, u, .tup (a := a) rd q, r => by
    cases (show u = Value.ref a from r)
    obtain ⟨_, its, rv, ob, e, c, n, d⟩ := rd.ok ok
    obtain ⟨as, z⟩ := DVs.reads ok q rv
    exact ⟨_, .tuple e c d z⟩
theorem DVs.reads (ok : HOk P w H h) : ∀ {vs : List V} {ds : List PyData} {us : List Value}, DVs H vs ds → Vals vs us → ∃ as, ReadsAll h us ds as
  | _, _, _, .nil, .nil => ⟨_, .nil⟩
  | _, _, _, .cons a b, .cons r t => by
    obtain ⟨as, z⟩ := DV.reads ok a r
    obtain ⟨bs, y⟩ := DVs.reads ok b t
    exact ⟨_, .cons z y⟩
end
end
section
variable {X : Cx}
inductive rEqD_P (x : V) (y : V) (H : Hp) (Q : VK) : Prop
  | mk (d e : _) (h1 : DV H x d) (h2 : DV H y e) (h3 : SeqAt.shaped d = true) (h4 : SeqAt.shaped e = true) (h5 : Q (.bl (PyData.eqv d e)) H) : rEqD_P x y H Q
noncomputable def rEqD : R2 := fun x y H Q => rEqD_P x y H Q
inductive rNeD_P (x : V) (y : V) (H : Hp) (Q : VK) : Prop
  | mk (d e : _) (h1 : DV H x d) (h2 : DV H y e) (h3 : SeqAt.shaped d = true) (h4 : SeqAt.shaped e = true) (h5 : Q (.bl (!PyData.eqv d e)) H) : rNeD_P x y H Q
noncomputable def rNeD : R2 := fun x y H Q => rNeD_P x y H Q
theorem op_eqD (hu : X.A.units + 64 < cLine) : OpR X (compareOp .Eq) rEqD := by
  intro pins s σ H x y v u Q I rx ry h
  obtain ⟨d, e, hd, he, sd, se, q⟩ := h
  obtain ⟨as, ra⟩ := hd.reads I.hok rx
  obtain ⟨bs, rb⟩ := he.reads I.hok ry
  exact eq_dataH ra rb sd se hu ⟨.bl _, H, I, rfl, q⟩
theorem op_neD (hu : X.A.units + 64 < cLine) : OpR X (compareOp .NotEq) rNeD := by
  intro pins s σ H x y v u Q I rx ry h
  obtain ⟨d, e, hd, he, sd, se, q⟩ := h
  obtain ⟨as, ra⟩ := hd.reads I.hok rx
  obtain ⟨bs, rb⟩ := he.reads I.hok ry
  exact ne_dataH ra rb sd se hu ⟨.bl _, H, I, rfl, q⟩
end
section
variable {X : Cx}
end
section
variable {X : Cx}
noncomputable def rAddU : R2 := fun x y H Q => rI0 (fun i j => .int (i + j)) x y H Q ∨ rCat x y H Q ∨ ∃ i j, x = .str i ∧ y = .str j ∧ i.length + j.length ≤ sizeLine ∧ Q (.str (i ++ j)) H
theorem uAdd : OpR X (binaryOp .Add) rAddU := op_add.or (op_cat.or op_add_str)
noncomputable def rEqU : R2 := fun x y H Q => rEq x y H Q ∨ rEqD x y H Q
noncomputable def rNeU : R2 := fun x y H Q => rNe x y H Q ∨ rNeD x y H Q
theorem uEq (hU : X.A.units + 64 < cLine) : OpR X (compareOp .Eq) rEqU := op_eq.or (op_eqD hU)
theorem uNe (hU : X.A.units + 64 < cLine) : OpR X (compareOp .NotEq) rNeU := op_ne.or (op_neD hU)
end
theorem boot_len' : bootBuiltins "len" = some (.builtin "len") := by decide +kernel
theorem boot_max' : bootBuiltins "max" = some (.builtin "max") := by decide +kernel
theorem boot_min' : bootBuiltins "min" = some (.builtin "min") := by decide +kernel
theorem boot_abs' : bootBuiltins "abs" = some (.builtin "abs") := by decide +kernel
theorem boot_isinstance' : bootBuiltins "isinstance" = some (.builtin "isinstance") := by decide +kernel
structure Df (K : PySem.W.Frag) (mg : Str → Option Value) (x : Str) (st : Stmt) (ps : List Str) (f : Addr) (fd : FuncData) : Prop where
  F : Fun K x x st f fd
  b : Binds K fd ps []
  m : mg x = some (.ref f)
  k : PySem.W.keepIn K (.ref f) = true
theorem Same.new {H : Hp} {p : Addr} (o : HO) (h : H p = none) : Same H (upd H p o) := fun b u e => by rw [upd_ne (ne_of_none e h)]; exact e
noncomputable def But (p : Addr) (H H' : Hp) : Prop := ∀ b o, H b = some o → b ≠ p → H' b = some o
theorem But.refl (p : Addr) (H : Hp) : But p H H := fun _ _ h _ => h
theorem But.trans {p : Addr} {H H1 H2 : Hp} (a : But p H H1) (b : But p H1 H2) : But p H H2 := fun c o h n => b c o (a c o h n) n
theorem But.new {p : Addr} {H H1 : Hp} (s : But p H H1) {q : Addr} (o : HO) (h : H1 q = none) : But p H (upd H1 q o) := fun b u e n => by
  have z := s b u e n
  rw [upd_ne (ne_of_none z h)]; exact z
theorem But.put {p : Addr} {H H1 : Hp} (s : But p H H1) (o : HO) : But p H (upd H1 p o) := fun b u e n => by rw [upd_ne n]; exact s b u e n
theorem But.same {p : Addr} {H H1 H2 : Hp} (a : But p H H1) (b : Same H1 H2) : But p H H2 := fun c o h n => b c o (a c o h n)
theorem small60 {n : Nat} (h : n ≤ 1000) : n ≤ sizeLine := Nat.le_of_lt (small1000 h)
theorem iteD {c A B : Prop} [Decidable c] (h1 : c → A) (h2 : ¬ c → B) : if (decide c) = true then A else B := by
  by_cases h : c
  · rw [decide_eq_true h]; exact iteT (h1 h)
  · rw [decide_eq_false h]; exact iteF (h2 h)
theorem iteND {c A B : Prop} [Decidable c] (h1 : ¬ c → A) (h2 : c → B) : if (!decide c) = true then A else B := by
  by_cases h : c
  · rw [decide_eq_true h]; exact iteF (h2 h)
  · rw [decide_eq_false h]; exact iteT (h1 h)
end L2
set_option Elab.async false
set_option linter.all false
set_option maxRecDepth 100000
namespace L2
open PySem PySem.Spec PyProof.Rows
section
variable {prog : Program} {w : World} {A : Around} {R : Result → Shared → Prop} {s : Shared}
noncomputable abbrev noE : Value → Shared → Prop := fun _ _ => False
theorem compLoop_go {elt target iter : Expr} {ifs : List Expr} {scope : Scope} {pos : Pos} {it acc : Value} {env : Env} (I : Nat → Shared → Prop)
    (turn : ∀ n s, I n s → wpAny (model prog w) A (pyNext it) (fun r s₁ => match r with
      | none => R (.ok .next) s₁
      | some v => wpAny (model prog w) A (letOwnedTupleGo target it v) (fun _ s₀ => wpAny (model prog w) A (assign target env v) (fun _ s₂ =>
          wpAny (model prog w) A (forIn ifs true fun c r => if r = true then do let ok ← isTrue c env (eval c env); pure (ForInStep.yield ok) else pure (ForInStep.yield r)) (fun ok s₃ =>
            if ok = true then wpAny (model prog w) A (eval elt env) (fun x s₄ =>
              wpAny (model prog w) A (call (.builtin "list.append") [acc, x]) (fun _ s₅ => ∃ m, m < n ∧ I m s₅) noE s₄) noE s₃
            else ∃ m, m < n ∧ I m s₃) noE s₂) noE s₀) noE s₁) noE s)
    (n : Nat) (h : I n s) :
    codeAny (model prog w) A (.compLoop (.ListComp elt [⟨target, iter, ifs, 0⟩] scope pos) 0 it acc env) R s := by
  refine codeAny_loop rfl I (fun n s hI => ?_) n h
  show wpAny _ A ((compTurn (.ListComp elt [⟨target, iter, ifs, 0⟩] scope pos) 0 it acc env).onRaise (fun x => do noteFrame x env; theTreesLotGoes x)) _ _ s
  refine wpAny_noted ?_
  rw [compTurn_list]
  refine wpAny_bind (wpAny_standAt (wpAny_bind (wpAny_mono (turn n s hI) (fun r s₁ h₁ => ?_) fun _ _ h' => h'.elim)))
  cases r with
  | none => exact wpAny_pure h₁
  | some v =>
    refine wpAny_bind (wpAny_mono h₁ (fun _ s₀ h₀ => ?_) fun _ _ h' => h'.elim)
    refine wpAny_bind (wpAny_mono h₀ (fun _ s₂ h₂ => wpAny_bind (wpAny_mono h₂ (fun ok s₃ h₃ => ?_) fun _ _ h' => h'.elim)) fun _ _ h' => h'.elim)
    cases ok with
    | false => exact wpAny_pure ⟨rfl, h₃⟩
    | true =>
      exact wpAny_bind (wpAny_bind (wpAny_mono h₃ (fun x s₄ h₄ => wpAny_bind (wpAny_mono h₄ (fun _ s₅ h₅ => wpAny_pure (wpAny_pure ⟨rfl, h₅⟩)) fun _ _ h' => h'.elim)) fun _ _ h' => h'.elim))
end
noncomputable def compCx (X : Cx) (scope : Scope) (N : List Str) (cl : List (Str × Addr)) (C : Addr) (s₀ : Shared) (H₀ : Hp) (ex : List Addr) (pn : List (Addr × Obj)) : Cx where
  prog := X.prog
  w := X.w
  K := X.K
  mg := X.mg
  base := X.base
  A := X.A
  N := N
  s₀ := s₀
  H₀ := H₀
  env := compEnvC scope cl C X.env
  outer := X.stack
  stack := X.stack
  ex := ex
  fn := fun x => !(cl.lookup x).isSome
  calm := X.calm
  pn := pn
  xe := noE
noncomputable def st0 (js : List (Option Nat)) (σ : St) : St := js.map fun o => o.bind fun j => (σ[j]?).join
noncomputable def PTs (X : Cx) (ifs : List Expr) (t : TT) : Prop :=
  ∀ (pins : List (Addr × Obj)) (s : Shared) (σ : St) (H : Hp) (Q : Bool → Hp → Prop), Inv X pins σ H s → t σ H Q →
    wpAny (model X.prog X.w) X.A (forIn ifs true fun c r => if r = true then do let ok ← isTrue c X.env (eval c X.env); pure (ForInStep.yield ok) else pure (ForInStep.yield r)) (TP X pins σ Q) X.xe s
noncomputable def tYes : TT := fun _ H Q => Q true H
theorem pts_nil {X : Cx} : PTs X [] tYes := fun _ _ _ H _ I h => wpAny_tests_nil ⟨H, I, h⟩
noncomputable def compGoal (J : It) (g : TG) (tt : TT) (te : TE) (D : Addr) (Q : VK) (σ0 : St) (H0 : Hp) : Prop :=
  ∃ W : Nat → Nat → St → Hp → Prop, (∃ m, W 0 m σ0 H0) ∧ ∀ i m σ' H', W i m σ' H' →
    (J.stop i H' ∧ Q (.ref D) H') ∨ (J.go i H' ∧ ∃ N : St → Hp → Prop, (∀ σ2 H2, N σ2 H2 → ∃ m', m' < m ∧ W (i + 1) m' σ2 H2) ∧
      ∀ x H2, J.yld i H' x H2 → g x σ' H2 fun σ3 H3 => tt σ3 H3 fun ok H4 => if ok = true then te σ3 H4 fun y H5 => ∃ ys, H5 D = some (.lst ys) ∧ ys.length < sizeLine ∧ N σ3 (upd H5 D (.lst (ys ++ [y]))) else N σ3 H4)
noncomputable def tComp (wi : TI) (g : TG) (tt : TT) (te : TE) (js : List (Option Nat)) : TE := fun σ H Q => wi σ H fun J H1 => ∀ D, H1 D = none → compGoal J g tt te D Q (st0 js σ) (upd H1 D (.lst []))
structure CompOk (X : Cx) (scope : Scope) (N : List Str) (cl : List (Str × Addr)) (js : List (Option Nat)) : Prop where
  clos : closureFor scope X.env = pure cl
  sub : ∀ x c, cl.lookup x = some c → X.env.cells.lookup x = some c
  all : ∀ x, ((relabel scope X.env).names.lookup x = some .cell ∨ (relabel scope X.env).names.lookup x = some .free) → ∃ c, cl.lookup x = some c
  cell : ∀ y ∈ scope.names, y.2 ≠ .cell
  kind : scope.kind = .function
  names : ∀ y ∈ scope.names, y.2 = .local → scope.names.lookup y.1 = some .local
  len : js.length = N.length
  fr : ∀ (i j : Nat) (x : Str), js[i]? = some (some j) → N[i]? = some x → X.N[j]? = some x ∧ X.env.kindOf x = some .cell ∧ ((relabel scope X.env).names.lookup x = some .cell ∨ (relabel scope X.env).names.lookup x = some .free)
section
variable {X : Cx}
theorem st0_get {js : List (Option Nat)} {σ : St} {i : Nat} {v : V} (h : (st0 js σ)[i]? = some (some v)) : ∃ j, js[i]? = some (some j) ∧ σ[j]? = some (some v) := by
  unfold st0 at h
  rw [List.getElem?_map] at h
  cases e : js[i]? with
  | none => rw [e] at h; cases h
  | some o =>
    rw [e] at h
    cases o with
    | none => cases h
    | some j =>
      refine ⟨j, rfl, ?_⟩
      have h' : (σ[j]?).join = some v := by simpa using h
      cases e2 : σ[j]? with
      | none => rw [e2] at h'; cases h'
      | some o2 => rw [e2] at h'; cases o2 with
        | none => cases h'
        | some u => rw [show u = v by simpa using h']
theorem comp_ok {pins : List (Addr × Obj)} {σ : St} {H : Hp} {s : Shared} {scope : Scope} {N : List Str} {cl : List (Str × Addr)} {js : List (Option Nat)} {C : Addr} {fp : List Addr} (k : CompOk X scope N cl js) (I : Inv X pins σ H s)
    (hf : ∀ b ∈ fp, FpOk X pins H b) (hfl : ∀ b ∈ fp, b < s.heap.objs.size) (hC : s.heap.objs.size ≤ C) : (compCx X scope N cl C s H fp (X.pn ++ pins)).Ok where
  mod := I.ok.mod
  kind := k.kind
  glob := I.ok.glob
  blt := I.ok.blt
  above := hC
  inj := fun x y c h1 h2 => I.ok.inj x y c (k.sub _ _ h1) (k.sub _ _ h2)
  has := fun x h => k.all x h
  cab := fun x c h1 h2 => by
    have h1' : (!(cl.lookup x).isSome) = true := h1
    have h2' : cl.lookup x = some c := h2
    rw [h2'] at h1'; cases h1'
  hd := I.ok.hd
  frames := I.ok.frames
  stk := .inl rfl
  exf := fun b hb => ⟨Nat.ne_of_lt (Nat.lt_of_lt_of_le (hfl b hb) hC), fun x c h => (hf b hb).2.2.2.2.1 x c (k.sub _ _ h)⟩
  bs := I.bs
  bsz := Nat.le_trans I.ok.bsz I.sz
  noex := fun b o e hb => by
    rcases (hf b hb).2.2.2.1 with z | z
    · exact I.ok.noex b o e z
    · exact absurd (Nat.lt_of_lt_of_le (Heap.lt_size e) (Nat.le_trans I.ok.bsz z)) (Nat.lt_irrefl _)
  exfs := fun b hb z => by
    rcases List.mem_cons.mp (I.stkSub b z) with e | e
    · exact (hf b hb).2.1 e
    · exact (hf b hb).2.2.1 e
  funs := I.stack
  frf := I.stkFree
theorem comp_inv {pins : List (Addr × Obj)} {σ : St} {H : Hp} {s : Shared} {h1 : Heap} {t' : Nat} {scope : Scope} {N : List Str} {cl : List (Str × Addr)} {js : List (Option Nat)} {C D : Addr} {fp : List Addr} {m : Str → Option Value} (k : CompOk X scope N cl js) (I : Inv X pins σ H s)
    (hf : ∀ b ∈ fp, FpOk X pins H b) (hfl : ∀ b ∈ fp, b < s.heap.objs.size) (hD : s.heap.objs.size ≤ D) (hC : s.heap.objs.size ≤ C) (hDC : D ≠ C)
    (hn : h1.Ns C m) (hl : h1.get? D = some { cls := .type "list", data := .seq ([] : List Value).toArray }) (hk : ∀ b o, s.heap.get? b = some o → h1.get? b = some o) :
    Inv (compCx X scope N cl C s H fp (X.pn ++ pins)) [] (st0 js σ) (upd H D (.lst [])) { s with heap := h1, toks := t' } := by
  have fD : H D = none := I.hok.fresh hD
  have fC : H C = none := I.hok.fresh hC
  have nC : ∀ b, b < s.heap.objs.size → b ≠ C := fun b hb => Nat.ne_of_lt (Nat.lt_of_lt_of_le hb hC)
  refine ⟨comp_ok k I hf hfl hC, rfl, I.bare, ?_, ?_, ?_, ?_, ?_, ?_, ?_, ?_⟩
  · exact (Un.laid (fs := frs X.stack) (ex := fp) (o := .lst []) hk hD fD)
  · refine ⟨m, hn, fun i x v e1 e2 e3 => ?_⟩
    obtain ⟨j, f1, f2⟩ := st0_get e2
    obtain ⟨g1, g2, g3⟩ := k.fr i j x f1 e1
    obtain ⟨m', hn', hl'⟩ := I.loc
    obtain ⟨u, ru, lk⟩ := hl' j x v g1 f2 (.inr (.inl g2))
    refine ⟨u, ru, .inr ⟨g3, ?_⟩⟩
    obtain ⟨c, hc⟩ := k.all x g3
    rcases lk with ⟨z, _⟩ | ⟨_, c', hc', ic⟩
    · rw [g2] at z; cases z
    · have e := k.sub _ _ hc
      rw [hc'] at e; cases e
      obtain ⟨o, ho, hd⟩ := ic
      exact ⟨c, hc, o, hk _ _ ho, hd⟩
  · intro x c h
    obtain ⟨v, o, ho, hd⟩ := I.cell x c (k.sub _ _ h)
    exact ⟨v, o, hk _ _ ho, hd⟩
  · show (upd H D (.lst [])) C = none
    rw [upd_ne hDC.symm]; exact fC
  · intro x c h
    obtain ⟨v, o, ho, hd⟩ := I.cell x c (k.sub _ _ h)
    rw [upd_ne (Nat.ne_of_lt (Nat.lt_of_lt_of_le (Heap.lt_size ho) hD))]
    exact I.freeC x c (k.sub _ _ h)
  · intro p hp
    have hp' : p ∈ X.pn ++ pins := by simpa [compCx] using hp
    obtain ⟨e, n, ne, nf, d⟩ := I.pin p hp'
    have lt := Heap.lt_size e
    refine ⟨hk _ _ e, by rw [upd_ne (Nat.ne_of_lt (Nat.lt_of_lt_of_le lt hD))]; exact n, nC _ lt, fun z => ?_, d⟩
    rcases List.mem_cons.mp (I.stkSub _ z) with e | e
    · exact ne e
    · exact nf e
  · exact I.hok.laid hk hD ⟨Nat.zero_le _, [], 0, .nil, hl⟩
  · show (st0 js σ).length = N.length
    unfold st0
    rw [List.length_map]; exact k.len
theorem pe_comp {elt iter tg : Expr} {ifs : List Expr} {scope : Scope} {pos : Pos} {wi : TI} {g : TG} {tt : TT} {te : TE} {N : List Str} {cl : List (Str × Addr)} {js : List (Option Nat)} (hc : X.calm = true) (k : CompOk X scope N cl js) (hi : PI X tg iter wi)
    (hg : ∀ C s₀ H₀ ex pn, PG (compCx X scope N cl C s₀ H₀ ex pn) tg g) (ht : ∀ C s₀ H₀ ex pn, PTs (compCx X scope N cl C s₀ H₀ ex pn) ifs tt) (he : ∀ C s₀ H₀ ex pn, PE (compCx X scope N cl C s₀ H₀ ex pn) elt te)
    (hs : ∀ x, foldedSetIterable iter X.env x = pure x := by intro _; rfl) :
    PE X (.ListComp elt [⟨tg, iter, ifs, 0⟩] scope pos) (tComp wi g tt te js) := by
  intro pins s σ H Q I h
  rw [eval_ListComp]
  refine wpAny_comprehension_free (use := none) rfl hs k.clos k.kind k.names ?_
  refine thn (hi pins s σ H _ I h) fun v s1 h1 => thn h1 fun itv s2 h2 => ?_
  obtain ⟨it, fp, tn, J, H2, e, I2, T, st2, f2, hD⟩ := h2
  subst e
  refine wpAny_newObj_type (wpAny_newFunctionEnv k.cell (by intro y hy; simp at hy) (fun h₁ hns₁ hsb₁ => ?_) k.kind)
  dsimp only at hns₁ hsb₁ ⊢
  generalize hH2 : s2.heap.push { cls := .type "list", dict := none, data := .seq ([] : List Value).toArray } = P2 at hns₁ hsb₁ ⊢
  have hC : P2.objs.size = s2.heap.objs.size + 1 := by rw [← hH2, Heap.size_push]
  have hDC : s2.heap.objs.size ≠ P2.objs.size := by rw [hC]; exact Nat.ne_of_lt (Nat.lt_succ_self _)
  have hCle : s2.heap.objs.size ≤ P2.objs.size := by rw [hC]; exact Nat.le_succ _
  have old : ∀ b o, s2.heap.get? b = some o → h₁.get? b = some o := fun b o e => hsb₁.extBut b o (Nat.ne_of_lt (Nat.lt_of_lt_of_le (Heap.lt_size e) hCle)) (Heap.get?_push_of_some _ (hH2 ▸ Heap.get?_push_of_some _ e))
  have hacc : h₁.get? s2.heap.objs.size = some { cls := .type "list", data := .seq ([] : List Value).toArray } := hsb₁.extBut _ _ hDC (Heap.get?_push_of_some _ (hH2 ▸ Heap.get?_push_size _ rfl))
  have hfl : ∀ b ∈ fp, b < s2.heap.objs.size := fun b hb => by
    obtain ⟨o, e, _⟩ := T.obj _ _ st2 b hb
    exact Heap.lt_size e
  have fD : H2 s2.heap.objs.size = none := I2.hok.fresh (Nat.le_refl _)
  obtain ⟨W, ⟨m0, w0⟩, turn⟩ := hD _ fD
  have IX : Inv (compCx X scope N cl P2.objs.size s2 H2 fp (X.pn ++ pins)) [] (st0 js σ) (upd H2 s2.heap.objs.size (.lst [])) { s2 with heap := h₁, toks := s2.toks + ([] : List (Str × Value)).length } :=
    comp_inv k I2 f2 hfl (Nat.le_refl _) hCle hDC hns₁ hacc old
  have hg' := hg P2.objs.size s2 H2 fp (X.pn ++ pins)
  have ht' := ht P2.objs.size s2 H2 fp (X.pn ++ pins)
  have he' := he P2.objs.size s2 H2 fp (X.pn ++ pins)
  have stat : ∀ {H' : Hp}, (∀ b ∈ fp, H' b = none) → ∀ b ∈ fp, FpOk (compCx X scope N cl P2.objs.size s2 H2 fp (X.pn ++ pins)) [] H' b := fun hn b hb => by
    obtain ⟨g0, g1, g2, g3, g4, g5⟩ := f2 b hb
    refine ⟨hn b hb, Nat.ne_of_lt (Nat.lt_of_lt_of_le (hfl b hb) hCle), fun z => ?_, .inl hb, fun x c h => g4 x c (k.sub _ _ h), fun p hp => g5 p (by simpa [compCx] using hp)⟩
    rcases List.mem_cons.mp (I2.stkSub b z) with e | e
    · exact g1 e
    · exact g2 e
  have loop : ∀ s₃ : Shared, s₃ = { s2 with heap := h₁, toks := s2.toks + ([] : List (Str × Value)).length } →
      codeAny (model X.prog X.w) X.A (.compLoop (.ListComp elt [⟨tg, iter, ifs, 0⟩] scope pos) 0 (.ref it) (.ref s2.heap.objs.size) (compEnvC scope cl P2.objs.size X.env))
        (compPost (model X.prog X.w) X.A X.xe none (EP X pins σ Q) (.ref s2.heap.objs.size) P2.objs.size) s₃ := by
    rintro s₃ rfl
    refine compLoop_go (fun n s' => ∃ i σ' H', Inv (compCx X scope N cl P2.objs.size s2 H2 fp (X.pn ++ pins)) [] σ' H' s' ∧ tn i s'.heap ∧ (∀ b ∈ fp, H' b = none) ∧ W i n σ' H') ?_ m0
      ⟨0, st0 js σ, _, IX, T.keep _ _ _ st2 (fun b hb o e => old b o e), fun b hb => by rw [upd_ne (Nat.ne_of_lt (hfl b hb))]; exact (f2 b hb).1, w0⟩
    rintro n s3 ⟨i, σ3, H3, I3, st3, fr3, w3⟩
    rcases turn i n σ3 H3 w3 with ⟨stop, qn⟩ | ⟨go, N2, hN, step⟩
    · refine thn (T.done (compCx X scope N cl P2.objs.size s2 H2 fp (X.pn ++ pins)) rfl rfl rfl hc i [] s3 σ3 H3 noE I3 (stat fr3) st3 stop) fun r s4 ⟨hr, I4⟩ => ?_
      subst hr
      obtain ⟨m4, hn4, _⟩ := id I4.loc
      refine ⟨m4, hn4, fun h' hsb => ⟨.ref s2.heap.objs.size, H3, ?_, rfl, qn⟩⟩
      have u4 : Un (frs X.stack) fp H2 H3 s2.heap s4.heap := I4.base
      have ltC : ∀ b o, s2.heap.get? b = some o → b ≠ P2.objs.size := fun b o e => Nat.ne_of_lt (Nat.lt_of_lt_of_le (Heap.lt_size e) hCle)
      have u5 : Un (frs X.stack) fp H2 H3 s2.heap h' :=
        { keep := fun b o e n hb hx => hsb.extBut b o (ltC b o e) (u4.keep b o e n hb hx)
          slot := fun b o e n hb hx => by
            obtain ⟨sl, q⟩ := u4.slot b o e n hb hx
            exact ⟨sl, hsb.extBut b _ (ltC b o e) q⟩
          free := u4.free
          there := fun b o e hx => by
            obtain ⟨o', q⟩ := u4.there b o e hx
            exact ⟨o', hsb.extBut b _ (ltC b o e) q⟩
          tups := u4.tups
          frzs := u4.frzs
          tbls := u4.tbls }
      have fC : H3 P2.objs.size = none := I4.free
      have hok5 : HOk X.prog X.w H3 h' := fun b u e => (I4.hok b u e).stay (fun c v hc' q => hsb.extBut c v (fun z => by
        rcases hc' with y | y
        · rw [y] at z; rw [z, fC] at e; cases e
        · rw [z, fC] at y; cases y) q) (fun _ q => q) fun _ _ q => q
      exact I2.call' (s' := { s4 with heap := h' }) I4.os u5 hok5 I4.bare fun b hb => by
        obtain ⟨g0, g1, g2, g3, g4, g5⟩ := f2 b hb
        exact ⟨g3, g1, g4, g5⟩
    · refine thn (T.item (compCx X scope N cl P2.objs.size s2 H2 fp (X.pn ++ pins)) rfl rfl rfl hc i [] s3 σ3 H3 noE I3 (stat fr3) st3 go) fun r s4 ⟨u, hr, h4⟩ => ?_
      subst hr
      refine thn h4 fun _ s5 zz_ => ?_
      obtain ⟨x, H5, I5, r5, y5, st5, fr5⟩ := zz_
      have I5' := I5.pinned (stat fr5) (T.obj _ _ st5)
      refine thn (hg' _ s5 σ3 H5 x u _ I5' r5 (step x H5 y5)) fun _ s6 zz_ => ?_
      obtain ⟨σ6, H6, I6, q6⟩ := zz_
      refine thn (ht' _ s6 σ6 H6 _ I6 q6) fun ok s7 zz_ => ?_
      obtain ⟨H7, I7, q7⟩ := zz_
      have again : ∀ {s8 : Shared} {σ8 : St} {H8 : Hp}, Inv (compCx X scope N cl P2.objs.size s2 H2 fp (X.pn ++ pins)) ([] ++ pinsAt fp s5.heap) σ8 H8 s8 → N2 σ8 H8 →
          ∃ m, m < n ∧ ∃ i σ' H', Inv (compCx X scope N cl P2.objs.size s2 H2 fp (X.pn ++ pins)) [] σ' H' s8 ∧ tn i s8.heap ∧ (∀ b ∈ fp, H' b = none) ∧ W i m σ' H' := fun {s8 σ8 H8} I8 n8 => by
        obtain ⟨m', hm, w8⟩ := hN σ8 H8 n8
        refine ⟨m', hm, i + 1, σ8, H8, I8.unpinned, T.keep _ _ _ st5 fun b hb o e => (I8.pin (b, o) (List.mem_append_right _ (List.mem_append_right _ (mem_pinsAt hb e)))).1, fun b hb => ?_, w8⟩
        obtain ⟨o, e, d⟩ := T.obj _ _ st5 b hb
        exact (I8.pin (b, o) (List.mem_append_right _ (List.mem_append_right _ (mem_pinsAt hb e)))).2.1
      cases ok with
      | false => exact again I7 (by simpa using q7)
      | true =>
        have q7' : te σ6 H7 fun y H5 => ∃ ys, H5 s2.heap.objs.size = some (.lst ys) ∧ ys.length < sizeLine ∧ N2 σ6 (upd H5 s2.heap.objs.size (.lst (ys ++ [y]))) := by simpa using q7
        refine thn (he' _ s7 σ6 H7 _ I7 q7') fun xv s8 zz_ => ?_
        obtain ⟨y, H8, I8, r8, ys, hy, hlen, n8⟩ := zz_
        refine thn (mt_append (X := compCx X scope N cl P2.objs.size s2 H2 fp (X.pn ++ pins)) _ s8 σ6 H8 (.ref s2.heap.objs.size) [y] (.ref s2.heap.objs.size) [xv] (fun _ H9 => N2 σ6 H9) I8 rfl (.cons r8 .nil) ⟨_, ys, y, rfl, rfl, hy, hlen, n8⟩) fun _ s9 ⟨_, H9, I9, _, n9⟩ => again I9 n9
  exact codeAny_compStart_list (loop _ rfl) (T.self _ 0 _ _ _ (T.keep _ _ _ st2 (fun b hb o e => old b o e)) (loop _ rfl))
end
end L2
set_option Elab.async false
set_option linter.all false
set_option maxRecDepth 100000
namespace L2
open PySem PySem.Spec PyProof.Rows
section
variable {X : Cx} {tg : Expr}
end
theorem comp_range {lo : Int} {n : Nat} {g : TG} {tt : TT} {te : TE} {D : Addr} {Q : VK} {σ : St} {H : Hp} (Pv : Nat → St → Hp → Prop) (h0 : Pv 0 σ H)
    (hs : ∀ i σ H, i < n → Pv i σ H → g (.int (lo + i)) σ H fun σ3 H3 => tt σ3 H3 fun ok H4 => if ok = true then te σ3 H4 fun y H5 => ∃ ys, H5 D = some (.lst ys) ∧ ys.length < sizeLine ∧ Pv (i + 1) σ3 (upd H5 D (.lst (ys ++ [y]))) else Pv (i + 1) σ3 H4)
    (hd : ∀ σ H, Pv n σ H → Q (.ref D) H) :
    compGoal (Itr lo n) g tt te D Q σ H := by
  refine ⟨fun i m σ H => m = n - i ∧ i ≤ n ∧ Pv i σ H, ⟨n, by simp, Nat.zero_le _, h0⟩, ?_⟩
  rintro i m σ H ⟨rfl, hi, p⟩
  by_cases hlt : i < n
  · refine .inr ⟨hlt, Pv (i + 1), fun σ' H' p' => ⟨n - (i + 1), by omega, rfl, hlt, p'⟩, fun v H' y => ?_⟩
    obtain ⟨rfl, rfl⟩ := y
    exact hs i σ _ hlt p
  · have e : i = n := by omega
    subst e
    exact .inl ⟨Nat.le_refl _, hd σ H p⟩
section
variable {X : Cx}
end
section
variable {X : Cx}
noncomputable def rSlS : V → Option Int → Option Int → Hp → VK → Prop := fun x lo hi H Q => ∃ z, x = .str z ∧ z.length ≤ sizeLine ∧ Q (.str (Txt.slice z lo hi)) H
theorem sl_str : SlR X rSlS := by
  intro pins s σ H x v vl vu lo hi sl Q I rx hs pl pu h
  obtain ⟨z, rfl, hz, q⟩ := h
  obtain ⟨t, rfl⟩ := rx
  refine ⟨"str", _, F.slot_str_getitem.lookup, typeIs_str _ _ _, ?_⟩
  have fin : ∀ t' k, EP X pins σ Q (.str (Txt.slice z lo hi) t') { s with toks := k } := fun t' k => ⟨.str _, H, I.tok k, ⟨_, rfl⟩, q⟩
  obtain ⟨o, e1, e2, e3⟩ := hs
  cases pl with
  | none =>
    cases pu with
    | none => exact wpAny_getItem_str_slice (l := none) (u := none) (st := none) ⟨o, e1, e2, e3⟩ rfl (post_val_or_str ⟨Nat.le_trans (Txt.slice_le z _ _) hz, fin⟩)
    | int j u => exact wpAny_getItem_str_slice (l := none) (u := some (j, u)) (st := none) ⟨o, e1, e2, e3⟩ rfl (post_val_or_str ⟨Nat.le_trans (Txt.slice_le z _ _) hz, fin⟩)
  | int i ui =>
    cases pu with
    | none => exact wpAny_getItem_str_slice (l := some (i, ui)) (u := none) (st := none) ⟨o, e1, e2, e3⟩ rfl (post_val_or_str ⟨Nat.le_trans (Txt.slice_le z _ _) hz, fin⟩)
    | int j u => exact wpAny_getItem_str_slice (l := some (i, ui)) (u := some (j, u)) (st := none) ⟨o, e1, e2, e3⟩ rfl (post_val_or_str ⟨Nat.le_trans (Txt.slice_le z _ _) hz, fin⟩)
theorem uSl : SlR X (fun x lo hi H Q => rSlL X.K x lo hi H Q ∨ rSlS x lo hi H Q) := sl_list.or sl_str
end
end L2
set_option Elab.async false
set_option linter.all false
set_option maxRecDepth 100000
namespace L2
open PySem PySem.Spec PyProof.Rows
noncomputable def compCl (cells : List (Str × Addr)) : List (Str × NameKind) → List (Str × Addr) → List (Str × Addr)
  | [], acc => acc
  | (n, k) :: r, acc => compCl cells r (if k == .free then (n, (cells.lookup n).getD 0) :: acc else acc)
noncomputable def clStep (env : Env) (x : Str × NameKind) (cs : List (Str × Addr)) : Sem (ForInStep (List (Str × Addr))) := match x with
  | (name, kind) => if (kind == NameKind.free) = true then (do let a ← cellOf env name; pure (ForInStep.yield ((name, a) :: cs))) else pure (ForInStep.yield cs)
theorem clStep_eq {env : Env} {n : Str} {k : NameKind} {acc : List (Str × Addr)} (h : k = .free → ∃ c, env.cells.lookup n = some c) :
    clStep env (n, k) acc = pure (ForInStep.yield (if k == .free then (n, (env.cells.lookup n).getD 0) :: acc else acc)) := by
  by_cases hk : k = .free
  · subst hk
    obtain ⟨c, hc⟩ := h rfl
    show (do let a ← cellOf env n; pure (ForInStep.yield ((n, a) :: acc))) = (pure (ForInStep.yield ((n, (env.cells.lookup n).getD 0) :: acc)) : Sem _)
    unfold cellOf
    rw [hc]
    rfl
  · cases k <;> first | exact absurd rfl hk | rfl
theorem closure_go {env : Env} : ∀ (names : List (Str × NameKind)) (acc : List (Str × Addr)), (∀ y ∈ names, y.2 = .free → ∃ c, env.cells.lookup y.1 = some c) →
    (forIn names acc (clStep env)) = (pure (compCl env.cells names acc) : Sem (List (Str × Addr)))
  | [], acc, _ => rfl
  | (n, k) :: r, acc, h => by
    rw [List.forIn_cons, clStep_eq fun e => h (n, k) List.mem_cons_self e]
    exact closure_go (env := env) r _ fun y hy => h y (List.mem_cons_of_mem _ hy)
theorem closure_cl {scope : Scope} {env : Env} (h : ∀ y ∈ scope.names, y.2 = .free → ∃ c, env.cells.lookup y.1 = some c) : closureFor scope env = pure (compCl env.cells scope.names []) := by
  unfold closureFor
  exact (congrArg (fun (m : Sem (List (Str × Addr))) => m >>= fun cs => pure cs) (closure_go (env := env) scope.names [] h)).trans rfl
theorem compCl_lookup {cells : List (Str × Addr)} {x : Str} : ∀ (names : List (Str × NameKind)) (acc : List (Str × Addr)), (∀ y ∈ names, y.2 = .free → ∃ c, cells.lookup y.1 = some c) → (∀ c, acc.lookup x = some c → cells.lookup x = some c) →
    (∀ c, (compCl cells names acc).lookup x = some c → cells.lookup x = some c) ∧ (((x, NameKind.free) ∈ names ∨ (acc.lookup x).isSome = true) → ((compCl cells names acc).lookup x).isSome = true)
  | [], acc, _, ha => ⟨ha, fun h => h.elim (fun z => nomatch z) id⟩
  | (n, k) :: r, acc, h, ha => by
    unfold compCl
    have hr : ∀ y ∈ r, y.2 = .free → ∃ c, cells.lookup y.1 = some c := fun y hy => h y (List.mem_cons_of_mem _ hy)
    cases hk : (k == NameKind.free) with
    | false =>
      obtain ⟨i1, i2⟩ := compCl_lookup (cells := cells) (x := x) r acc hr ha
      refine ⟨by simpa using i1, fun z => ?_⟩
      have : ((compCl cells r acc).lookup x).isSome = true := i2 (by
        rcases z with z | z
        · rcases List.mem_cons.mp z with e | e
          · cases e; cases hk
          · exact .inl e
        · exact .inr z)
      simpa using this
    | true =>
      obtain ⟨c, hc⟩ := h (n, k) List.mem_cons_self (by simpa using hk)
      have hc : cells.lookup n = some c := hc
      have ek : k = NameKind.free := by simpa using hk
      subst ek
      have ha' : ∀ c', ((n, (cells.lookup n).getD 0) :: acc).lookup x = some c' → cells.lookup x = some c' := fun c' z => by
        rw [List.lookup_cons] at z
        cases e : x == n with
        | true =>
          rw [e] at z
          have e' : x = n := by simpa using e
          rw [e', hc] at *
          simpa using z
        | false => rw [e] at z; exact ha c' z
      obtain ⟨i1, i2⟩ := compCl_lookup (cells := cells) (x := x) r _ hr ha'
      refine ⟨i1, fun z => i2 ?_⟩
      by_cases e : x = n
      · right
        rw [List.lookup_cons, e]; simp
      · rcases z with z | z
        · rcases List.mem_cons.mp z with q | q
          · cases q; exact absurd rfl e
          · exact .inl q
        · right
          rw [List.lookup_cons]
          have : (x == n) = false := by simpa using e
          rw [this]; exact z
theorem lookup_mem {x : Str} {k : NameKind} : ∀ {names : List (Str × NameKind)}, names.lookup x = some k → (x, k) ∈ names
  | [], h => by cases h
  | (n, j) :: r, h => by
    rw [List.lookup_cons] at h
    cases e : x == n with
    | true =>
      rw [e] at h
      have e' : x = n := by simpa using e
      cases h
      rw [e']; exact List.mem_cons_self
    | false => rw [e] at h; exact List.mem_cons_of_mem _ (lookup_mem h)
theorem relabel_mem {scope : Scope} {env : Env} {x : Str} {k : NameKind} (h : (x, k) ∈ (relabel scope env).names) : (x, k) ∈ scope.names ∨ (k = .cell ∧ (x, NameKind.free) ∈ scope.names) := by
  have h' : (x, k) ∈ scope.names.map fun (n, k) => if (k == .free && env.scope.kind == .function && env.kindOf n == some .cell) then (n, .cell) else (n, k) := h
  obtain ⟨⟨n, j⟩, hm, e⟩ := List.mem_map.mp h'
  simp only at e
  split at e
  · rename_i c
    cases e
    have : j = .free := by
      have c1 := (Bool.and_eq_true_iff.mp (Bool.and_eq_true_iff.mp c).1).1
      simpa using c1
    subst this
    exact .inr ⟨rfl, hm⟩
  · cases e; exact .inl hm
theorem lookup_relabel_free {env : Env} {x : Str} (hX : env.scope.kind = .function) (g3 : env.kindOf x = some .cell) : ∀ {names : List (Str × NameKind)}, names.lookup x = some .free →
    (names.map fun (n, k) => if (k == NameKind.free && env.scope.kind == .function && env.kindOf n == some .cell) then (n, NameKind.cell) else (n, k)).lookup x = some .cell
  | [], h => by cases h
  | (n, k) :: r, h => by
    have ih := lookup_relabel_free hX g3 (names := r)
    show List.lookup x ((if (k == NameKind.free && env.scope.kind == .function && env.kindOf n == some .cell) = true then (n, NameKind.cell) else (n, k)) :: _) = _
    rw [List.lookup_cons] at h
    cases e : x == n with
    | true =>
      rw [e] at h
      have e' : x = n := by simpa using e
      have ek : k = .free := by simpa using h
      rw [ek, ← e', if_pos (show (NameKind.free == NameKind.free && env.scope.kind == .function && env.kindOf x == some .cell) = true by rw [hX, g3]; decide), List.lookup_cons]
      simp
    | false =>
      rw [e] at h
      by_cases hc : (k == NameKind.free && env.scope.kind == .function && env.kindOf n == some .cell) = true
      · rw [if_pos hc, List.lookup_cons, e]; exact ih h
      · rw [if_neg hc, List.lookup_cons, e]; exact ih h
theorem CompOk.of {X : Cx} {scope : Scope} {N : List Str} {js : List (Option Nat)} (hkind : scope.kind = .function) (hcell : ∀ y ∈ scope.names, y.2 ≠ .cell) (hnames : ∀ y ∈ scope.names, y.2 = .local → scope.names.lookup y.1 = some .local)
    (hX : X.env.scope.kind = .function) (hfree : ∀ y ∈ scope.names, y.2 = .free → X.env.kindOf y.1 = some .cell ∧ ∃ c, X.env.cells.lookup y.1 = some c) (len : js.length = N.length)
    (hfr : ∀ (i j : Nat) (x : Str), js[i]? = some (some j) → N[i]? = some x → X.N[j]? = some x ∧ scope.names.lookup x = some .free) :
    CompOk X scope N (compCl X.env.cells scope.names []) js where
  clos := closure_cl fun y hy z => (hfree y hy z).2
  sub := fun x c h => (compCl_lookup scope.names [] (fun y hy z => (hfree y hy z).2) (fun c h => by cases h)).1 c h
  all := fun x h => by
    have hm : (x, NameKind.free) ∈ scope.names := by
      rcases h with h | h
      · rcases relabel_mem (lookup_mem h) with z | ⟨_, z⟩
        · exact absurd rfl (hcell _ z)
        · exact z
      · rcases relabel_mem (lookup_mem h) with z | ⟨e, _⟩
        · exact z
        · cases e
    have := (compCl_lookup (cells := X.env.cells) (x := x) scope.names [] (fun y hy z => (hfree y hy z).2) (fun c h => by cases h)).2 (.inl hm)
    exact Option.isSome_iff_exists.mp this
  cell := hcell
  kind := hkind
  names := hnames
  len := len
  fr := fun i j x h1 h2 => by
    obtain ⟨g1, g2⟩ := hfr i j x h1 h2
    obtain ⟨g3, _⟩ := hfree (x, .free) (lookup_mem g2) rfl
    refine ⟨g1, g3, .inl ?_⟩
    exact lookup_relabel_free hX g3 g2
noncomputable def frChk (sc : Scope) (N0 N : List Str) (js : List (Option Nat)) : Bool := (js.zip N).all fun p => match p.1 with
  | none => true
  | some j => N0[j]? == some p.2 && sc.names.lookup p.2 == some .free
theorem frChk_of {sc : Scope} {N0 : List Str} : ∀ {js : List (Option Nat)} {N : List Str}, frChk sc N0 N js = true → ∀ (i j : Nat) (x : Str), js[i]? = some (some j) → N[i]? = some x → N0[j]? = some x ∧ sc.names.lookup x = some .free := by
  intro js N h i j x h1 h2
  have hm : (some j, x) ∈ js.zip N := by
    refine List.mem_of_getElem? (i := i) ?_
    rw [List.getElem?_zip_eq_some]
    exact ⟨h1, h2⟩
  have := List.all_eq_true.mp h _ hm
  simpa using this
theorem CompOk.def {CX : CXT} {P : Program} {w : World} {K : PySem.W.Frag} {mg : Str → Option Value} {base : Heap} {N0 : List Str} {qual : Str} {sc0 : Scope} {f : Addr} {cd : Value} {A : Around} {outer : List Env} {s : Shared} {H : Hp} {E : XK} {scope : Scope}
    (N : List Str) (js : List (Option Nat)) (hk0 : sc0.kind = .function := by rfl) (hk : scope.kind = .function := by rfl) (hcell : ∀ y ∈ scope.names, y.2 ≠ .cell := by decide +kernel) (hnames : ∀ y ∈ scope.names, y.2 = .local → scope.names.lookup y.1 = some .local := by decide +kernel)
    (hfr0 : ∀ y ∈ scope.names, y.2 = .free → sc0.names.lookup y.1 = some .cell := by decide +kernel) (len : js.length = N.length := by rfl) (hfr : frChk scope N0 N js = true := by decide +kernel) :
    CompOk (cxOf CX P w K mg base N0 qual sc0 f cd A outer s H E).nox scope N (compCl (cxOf CX P w K mg base N0 qual sc0 f cd A outer s H E).nox.env.cells scope.names []) js :=
  CompOk.of hk hcell hnames hk0 (fun y hy z => ⟨hfr0 y hy z, Option.isSome_iff_exists.mp (PySem.W.cellsFrom_some _ _ _ (.inl (hfr0 y hy z)))⟩) len (frChk_of hfr)
end L2
set_option Elab.async false
set_option linter.all false
set_option maxRecDepth 100000
namespace L2
open PySem PySem.Spec PyProof.Rows
section
variable {prog : Program} {w : World} {A : Around} {E : Value → Shared → Prop} {s : Shared}
end
section
variable {prog : Program} {w : World} {A : Around} {E : Value → Shared → Prop} {s : Shared}
end
end L2
set_option Elab.async false
set_option linter.all false
set_option maxRecDepth 100000
namespace L2
open PySem PySem.Spec PyProof.Rows
section
variable {X : Cx} {pins : List (Addr × Obj)} {σ : St} {H : Hp} {s : Shared}
end
section
variable {X : Cx}
end
section
variable {X : Cx} {pins : List (Addr × Obj)} {σ : St} {H : Hp} {s : Shared} {A : Around} {E : Value → Shared → Prop} {Q : Value → Shared → Prop} {b : Bool}
end
end L2
set_option Elab.async false
set_option linter.all false
set_option maxRecDepth 100000
namespace L2
open PySem PySem.Spec PyProof.Rows
end L2
set_option Elab.async false
set_option linter.all false
set_option maxRecDepth 100000
namespace L2
open PySem PySem.Spec PyProof.Rows
section
variable {X : Cx}
theorem ps_setC {i : Nat} {x : Str} {pos' pos : Pos} {elt iter tg : Expr} {ifs : List Expr} {scope : Scope} {cpos : Pos} {wi : TI} {g : TG} {tt : TT} {te : TE} {N : List Str} {cl : List (Str × Addr)} {js : List (Option Nat)} (hN : X.N.Nodup) (hi0 : X.N[i]? = some x) (hx : Loc X.env.scope x)
    (hc : X.calm = true) (k : CompOk X scope N cl js) (hi : PI X tg iter wi)
    (hg : ∀ C s₀ H₀ ex pn, PG (compCx X scope N cl C s₀ H₀ ex pn) tg g) (ht : ∀ C s₀ H₀ ex pn, PTs (compCx X scope N cl C s₀ H₀ ex pn) ifs tt) (he : ∀ C s₀ H₀ ex pn, PE (compCx X scope N cl C s₀ H₀ ex pn) elt te)
    (hsw : swapsWith (.ListComp elt [⟨tg, iter, ifs, 0⟩] scope cpos) (some (.Name x pos')) pos.line X.env = pure true := by rfl)
    (hf : X.fn x = true ∨ X.env.scope.names.lookup x = some .local := by first | exact .inl rfl | exact .inr rfl | assumption)
    (hs : ∀ x, foldedSetIterable iter X.env x = pure x := by intro _; rfl) :
    PS X (.Assign [.Name x pos'] (.ListComp elt [⟨tg, iter, ifs, 0⟩] scope cpos) pos) (tAsg (tComp wi g tt te js) (gName i)) := by
  intro pins s σ H D0 I h
  rw [exec_Assign_Name_used _ _ _ _ hsw]
  refine wpAny_bind (wpAny_standAt (wpAny_bind ?_))
  show wpAny _ X.A (do let _ ← comprehension (.ListComp elt [⟨tg, iter, ifs, 0⟩] scope cpos) scope X.env _ (newList []) false (eval iter X.env) (some (assign (.Name x pos') X.env))) _ _ s
  refine wpAny_bind (wpAny_mono (wpAny_comprehension_free (use := some (assign (.Name x pos') X.env)) (Q := fun _ s' => ∃ σ' H', Inv X pins σ' H' s' ∧ D0.nx σ' H') rfl hs k.clos k.kind k.names ?_) (fun _ s' hq => wpAny_pure (wpAny_pure hq)) fun _ _ e => e)
  refine thn (hi pins s σ H _ I h) fun v s1 h1 => thn h1 fun itv s2 h2 => ?_
  obtain ⟨it, fp, tn, J, H2, e, I2, T, st2, f2, hD⟩ := h2
  subst e
  refine wpAny_newObj_type (wpAny_newFunctionEnv k.cell (by intro y hy; simp at hy) (fun h₁ hns₁ hsb₁ => ?_) k.kind)
  dsimp only at hns₁ hsb₁ ⊢
  generalize hH2 : s2.heap.push { cls := .type "list", dict := none, data := .seq ([] : List Value).toArray } = P2 at hns₁ hsb₁ ⊢
  have hC : P2.objs.size = s2.heap.objs.size + 1 := by rw [← hH2, Heap.size_push]
  have hDC : s2.heap.objs.size ≠ P2.objs.size := by rw [hC]; exact Nat.ne_of_lt (Nat.lt_succ_self _)
  have hCle : s2.heap.objs.size ≤ P2.objs.size := by rw [hC]; exact Nat.le_succ _
  have old : ∀ b o, s2.heap.get? b = some o → h₁.get? b = some o := fun b o e => hsb₁.extBut b o (Nat.ne_of_lt (Nat.lt_of_lt_of_le (Heap.lt_size e) hCle)) (Heap.get?_push_of_some _ (hH2 ▸ Heap.get?_push_of_some _ e))
  have hacc : h₁.get? s2.heap.objs.size = some { cls := .type "list", data := .seq ([] : List Value).toArray } := hsb₁.extBut _ _ hDC (Heap.get?_push_of_some _ (hH2 ▸ Heap.get?_push_size _ rfl))
  have hfl : ∀ b ∈ fp, b < s2.heap.objs.size := fun b hb => by
    obtain ⟨o, e, _⟩ := T.obj _ _ st2 b hb
    exact Heap.lt_size e
  have fD : H2 s2.heap.objs.size = none := I2.hok.fresh (Nat.le_refl _)
  obtain ⟨W, ⟨m0, w0⟩, turn⟩ := hD _ fD
  have IX : Inv (compCx X scope N cl P2.objs.size s2 H2 fp (X.pn ++ pins)) [] (st0 js σ) (upd H2 s2.heap.objs.size (.lst [])) { s2 with heap := h₁, toks := s2.toks + ([] : List (Str × Value)).length } :=
    comp_inv k I2 f2 hfl (Nat.le_refl _) hCle hDC hns₁ hacc old
  have hg' := hg P2.objs.size s2 H2 fp (X.pn ++ pins)
  have ht' := ht P2.objs.size s2 H2 fp (X.pn ++ pins)
  have he' := he P2.objs.size s2 H2 fp (X.pn ++ pins)
  have stat : ∀ {H' : Hp}, (∀ b ∈ fp, H' b = none) → ∀ b ∈ fp, FpOk (compCx X scope N cl P2.objs.size s2 H2 fp (X.pn ++ pins)) [] H' b := fun hn b hb => by
    obtain ⟨g0, g1, g2, g3, g4, g5⟩ := f2 b hb
    refine ⟨hn b hb, Nat.ne_of_lt (Nat.lt_of_lt_of_le (hfl b hb) hCle), fun z => ?_, .inl hb, fun x c h => g4 x c (k.sub _ _ h), fun p hp => g5 p (by simpa [compCx] using hp)⟩
    rcases List.mem_cons.mp (I2.stkSub b z) with e | e
    · exact g1 e
    · exact g2 e
  have loop : ∀ s₃ : Shared, s₃ = { s2 with heap := h₁, toks := s2.toks + ([] : List (Str × Value)).length } →
      codeAny (model X.prog X.w) X.A (.compLoop (.ListComp elt [⟨tg, iter, ifs, 0⟩] scope cpos) 0 (.ref it) (.ref s2.heap.objs.size) (compEnvC scope cl P2.objs.size X.env))
        (compPost (model X.prog X.w) X.A X.xe (some (assign (.Name x pos') X.env)) (fun _ s' => ∃ σ' H', Inv X pins σ' H' s' ∧ D0.nx σ' H') (.ref s2.heap.objs.size) P2.objs.size) s₃ := by
    rintro s₃ rfl
    refine compLoop_go (fun n s' => ∃ i σ' H', Inv (compCx X scope N cl P2.objs.size s2 H2 fp (X.pn ++ pins)) [] σ' H' s' ∧ tn i s'.heap ∧ (∀ b ∈ fp, H' b = none) ∧ W i n σ' H') ?_ m0
      ⟨0, st0 js σ, _, IX, T.keep _ _ _ st2 (fun b hb o e => old b o e), fun b hb => by rw [upd_ne (Nat.ne_of_lt (hfl b hb))]; exact (f2 b hb).1, w0⟩
    rintro n s3 ⟨i, σ3, H3, I3, st3, fr3, w3⟩
    rcases turn i n σ3 H3 w3 with ⟨stop, qn⟩ | ⟨go, N2, hN, step⟩
    · refine thn (T.done (compCx X scope N cl P2.objs.size s2 H2 fp (X.pn ++ pins)) rfl rfl rfl hc i [] s3 σ3 H3 noE I3 (stat fr3) st3 stop) fun r s4 ⟨hr, I4⟩ => ?_
      subst hr
      obtain ⟨m4, hn4, _⟩ := id I4.loc
      have u4 : Un (frs X.stack) fp H2 H3 s2.heap s4.heap := I4.base
      have fC : H3 P2.objs.size = none := I4.free
      have I6 : Inv X pins σ H3 s4 := I2.call' (s' := s4) I4.os u4 I4.hok I4.bare fun b hb => by
        obtain ⟨g0, g1, g2, g3, g4, g5⟩ := f2 b hb
        exact ⟨g3, g1, g4, g5⟩
      have fpC : FpOk X pins H3 P2.objs.size := I2.fpOk hCle fC
      have hn4' : s4.heap.Ns P2.objs.size m4 := hn4
      obtain ⟨oC, esC, epC, gC, rC⟩ := id hn4'
      have I7 := I6.pinned (fp := [P2.objs.size]) (fun b hb => by rw [show b = P2.objs.size by simpa using hb]; exact fpC) (fun b hb => ⟨oC, by rw [show b = P2.objs.size by simpa using hb]; exact gC, fun v z => by rw [rC.1] at z; cases z⟩)
      show wpAny _ X.A (assign (.Name x pos') X.env (.ref s2.heap.objs.size)) _ _ s4
      refine wpAny_assign_Name (store_ok I7 hN hi0 hx (v := .ref s2.heap.objs.size) rfl (fun s5 I8 => ?_) hf)
      have g5 := (I8.pin (P2.objs.size, oC) (List.mem_append_right _ (List.mem_append_right _ (mem_pinsAt (by simp) gC)))).1
      refine ⟨m4, hn4'.at' (fun o e => by rw [gC] at e; cases e; exact g5), fun h' hsb => ⟨_, H3, ?_, qn⟩⟩
      exact I8.unpinned.turnL (t' := s5.toks) (ch := [P2.objs.size]) (fun b o hb e => hsb.extBut b o (fun z => hb (by simp [z])) e) (fun b hb => by rw [show b = P2.objs.size by simpa using hb]; exact fpC)
    · refine thn (T.item (compCx X scope N cl P2.objs.size s2 H2 fp (X.pn ++ pins)) rfl rfl rfl hc i [] s3 σ3 H3 noE I3 (stat fr3) st3 go) fun r s4 ⟨u, hr, h4⟩ => ?_
      subst hr
      refine thn h4 fun _ s5 zz_ => ?_
      obtain ⟨x, H5, I5, r5, y5, st5, fr5⟩ := zz_
      have I5' := I5.pinned (stat fr5) (T.obj _ _ st5)
      refine thn (hg' _ s5 σ3 H5 x u _ I5' r5 (step x H5 y5)) fun _ s6 zz_ => ?_
      obtain ⟨σ6, H6, I6, q6⟩ := zz_
      refine thn (ht' _ s6 σ6 H6 _ I6 q6) fun ok s7 zz_ => ?_
      obtain ⟨H7, I7, q7⟩ := zz_
      have again : ∀ {s8 : Shared} {σ8 : St} {H8 : Hp}, Inv (compCx X scope N cl P2.objs.size s2 H2 fp (X.pn ++ pins)) ([] ++ pinsAt fp s5.heap) σ8 H8 s8 → N2 σ8 H8 →
          ∃ m, m < n ∧ ∃ i σ' H', Inv (compCx X scope N cl P2.objs.size s2 H2 fp (X.pn ++ pins)) [] σ' H' s8 ∧ tn i s8.heap ∧ (∀ b ∈ fp, H' b = none) ∧ W i m σ' H' := fun {s8 σ8 H8} I8 n8 => by
        obtain ⟨m', hm, w8⟩ := hN σ8 H8 n8
        refine ⟨m', hm, i + 1, σ8, H8, I8.unpinned, T.keep _ _ _ st5 fun b hb o e => (I8.pin (b, o) (List.mem_append_right _ (List.mem_append_right _ (mem_pinsAt hb e)))).1, fun b hb => ?_, w8⟩
        obtain ⟨o, e, d⟩ := T.obj _ _ st5 b hb
        exact (I8.pin (b, o) (List.mem_append_right _ (List.mem_append_right _ (mem_pinsAt hb e)))).2.1
      cases ok with
      | false => exact again I7 (by simpa using q7)
      | true =>
        have q7' : te σ6 H7 fun y H5 => ∃ ys, H5 s2.heap.objs.size = some (.lst ys) ∧ ys.length < sizeLine ∧ N2 σ6 (upd H5 s2.heap.objs.size (.lst (ys ++ [y]))) := by simpa using q7
        refine thn (he' _ s7 σ6 H7 _ I7 q7') fun xv s8 zz_ => ?_
        obtain ⟨y, H8, I8, r8, ys, hy, hlen, n8⟩ := zz_
        refine thn (mt_append (X := compCx X scope N cl P2.objs.size s2 H2 fp (X.pn ++ pins)) _ s8 σ6 H8 (.ref s2.heap.objs.size) [y] (.ref s2.heap.objs.size) [xv] (fun _ H9 => N2 σ6 H9) I8 rfl (.cons r8 .nil) ⟨_, ys, y, rfl, rfl, hy, hlen, n8⟩) fun _ s9 ⟨_, H9, I9, _, n9⟩ => again I9 n9
  exact codeAny_compStart_list (loop _ rfl) (T.self _ 0 _ _ _ (T.keep _ _ _ st2 (fun b hb o e => old b o e)) (loop _ rfl))
end
end L2
set_option Elab.async false
set_option linter.all false
set_option maxRecDepth 100000
namespace L2
open PySem PySem.Spec PyProof.Rows
section
variable {prog : Program} {w : World} {A : Around} {E : Value → Shared → Prop}
end
end L2
set_option Elab.async false
set_option linter.all false
set_option maxRecDepth 100000
namespace L2
open PySem PySem.Spec PyProof.Rows
end L2
set_option Elab.async false
set_option linter.all false
set_option maxRecDepth 100000
namespace L2
open PySem PySem.Spec PyProof.Rows
theorem seq_split {t u : TS} {D : Ends} {σ : St} {H : Hp} (Post : St → Hp → Prop) (h1 : ∀ N : St → Hp → Prop, (∀ σ' H', Post σ' H' → N σ' H') → t { D with nx := N } σ H) (h2 : ∀ σ' H', Post σ' H' → u D σ' H') : tSeq t u D σ H := h1 (u D) h2
section
variable {β : Type} {f : β → List V} {H H' : Hp} {zs : List V} {ps : List β}
end
end L2
set_option Elab.async false
set_option linter.all false
set_option maxRecDepth 100000
namespace L2
open PySem PySem.Spec PyProof.Rows PySem.Builtin.Str PySem.NumText
section
variable {X : Cx}
end
theorem len_toList (x : Str) : x.cps.toList.length = x.length := Array.length_toList
end L2
set_option Elab.async false
set_option linter.all false
set_option maxRecDepth 100000
namespace L2
open PySem PySem.Spec PyProof.Rows PySem.Builtin PySem.Builtin.Str PySem.NumText
section
variable {X : Cx}
end
end L2
set_option Elab.async false
set_option linter.all false
set_option maxRecDepth 100000
namespace KC
open PySem L2 PySem.NumText PyProof.Rows
noncomputable def intL (i : Int) : List Nat := (Str.ofString (toString i)).cps.toList
theorem intL_neg (m : Nat) : intL (Int.negSucc m) = 45 :: (Nat.toDigits 10 (m + 1)).map Char.toNat := by
  unfold intL
  rw [signs_ofString]
  have e : toString (Int.negSucc m) = "-" ++ Nat.repr (m + 1) := rfl
  rw [e, String.toList_append, List.map_append, Nat.toList_repr]
  rfl
theorem intL_short {i : Int} (h0 : -1000000000000000000000000000000 < i) (h1 : i < 1000000000000000000000000000000) : (intL i).length ≤ 31 := by
  cases i with
  | ofNat m =>
    have e : intL (Int.ofNat m) = (Nat.toDigits 10 m).map Char.toNat := PySem.W.KIN.signs_num m
    rw [e, List.length_map]
    have : (Nat.toDigits 10 m).length ≤ 30 := toDigits_len_pow (by decide) (by decide) (by
      have e : (10 : Nat) ^ 30 = 1000000000000000000000000000000 := by decide
      rw [e]
      have h1 : ((m : Nat) : Int) < 1000000000000000000000000000000 := h1
      omega)
    omega
  | negSucc m =>
    rw [intL_neg, List.length_cons, List.length_map]
    have : (Nat.toDigits 10 (m + 1)).length ≤ 30 := toDigits_len_pow (by decide) (by decide) (by
      have e : (10 : Nat) ^ 30 = 1000000000000000000000000000000 := by decide
      rw [e]
      have h0 : -1000000000000000000000000000000 < -((m : Nat) + 1 : Int) := by
        rw [Int.negSucc_eq] at h0; exact h0
      omega)
    omega
theorem atI_in {xs : List V} {i : Int} (h0 : 0 ≤ i) (h1 : i < xs.length) : ∃ v, atI xs i = some v ∧ v ∈ xs := by
  obtain ⟨n, rfl⟩ := Int.eq_ofNat_of_zero_le h0
  have hn : n < xs.length := by omega
  exact ⟨xs[n], atI_nat (List.getElem?_eq_getElem hn), List.getElem_mem hn⟩
noncomputable def Sm (i : Int) : Prop := -1000000000000000000000000000000 < i ∧ i < 1000000000000000000000000000000
theorem Sm.len {i : Int} (h : Sm i) : (Str.ofString (toString i)).length ≤ 31 := by
  rw [← len_toList]
  exact intL_short h.1 h.2
section
variable {c : Nat} {a r : List Nat}
end
end KC
set_option Elab.async false
set_option linter.all false
set_option maxRecDepth 100000
namespace KC
open PySem L2 PySem.NumText PyProof.Rows
section
variable (n : Int) {q : Nat} (lo hi : Int)
end
end KC
set_option Elab.async false
set_option linter.all false
set_option maxRecDepth 100000
namespace KC
open PySem L2 PySem.NumText PyProof.Rows
end KC
set_option Elab.async false
set_option linter.all false
set_option maxRecDepth 100000
namespace KC
open PySem L2 PySem.NumText PyProof.Rows PySem.Builtin PySem.Builtin.Str
end KC
set_option Elab.async false
set_option linter.all false
set_option maxRecDepth 100000
namespace L2
open PySem PySem.Spec PyProof.Rows
noncomputable def ExO (ea C : Addr) (dx : Option Addr) (tb : Value) : Heap → Prop := fun h =>
  ∃ o vs, h.get? ea = some o ∧ o.cls = .ref C ∧ o.dict = dx ∧ o.data = .fields vs ∧ vs.size = 6 ∧ vs[1]? = some tb
noncomputable def TbO (T : Addr) : Heap → Prop := fun h => ∃ o ts, h.get? T = some o ∧ o.data = .fields ts ∧ ts[3]? = some Value.none
noncomputable def XAt (H : Hp) (ea C : Addr) (dx : Option Addr) : Prop :=
  ∃ tb, H ea = some (.ext (ExO ea C dx tb)) ∧ (tb = .none ∨ ∃ T, tb = .ref T ∧ H T = some (.ext (TbO T)) ∧ T ≠ ea)
theorem exo_ok {P : Program} {w : World} {H : Hp} {h : Heap} {ea C : Addr} {dx : Option Addr} {tb : Value} (x : ExO ea C dx tb h) : ObjOk P w H h ea (.ext (ExO ea C dx tb)) := by
  obtain ⟨o, vs, e, r⟩ := id x
  exact ⟨x, ⟨o, e⟩, fun h1 h2 ⟨o', vs', e', r'⟩ k => ⟨o', vs', k _ e', r'⟩⟩
section
variable {M : Model} {A : Around} {E : Value → Shared → Prop} {s : Shared}
end
section
variable {X : Cx} {pins : List (Addr × Obj)} {σ : St} {H : Hp} {s : Shared} {ea C : Addr} {dx : Option Addr}
end
end L2
set_option Elab.async false
set_option linter.all false
set_option maxRecDepth 100000
namespace L2
open PySem PySem.Spec PyProof.Rows
noncomputable def tyS : Value → String
  | .type a => a
  | _ => ""
theorem tyS_is {v : Value} {s : String} (h : tyS v = s) (n : s ≠ "") : v = .type s := by
  cases v with
  | type a => exact congrArg _ h
  | _ => exact absurd h.symm n
theorem tyS_all {l : List Value} : ∀ {ss : List String}, l.map tyS = ss → (∀ s ∈ ss, s ≠ "") → l = ss.map Value.type := by
  induction l with
  | nil => intro ss h _; rw [← h]; rfl
  | cons v l ih =>
    intro ss h n
    cases ss with
    | nil => cases h
    | cons s ss =>
      have h1 : tyS v = s := (List.cons.inj h).1
      have h2 : l.map tyS = ss := (List.cons.inj h).2
      rw [tyS_is h1 (n s List.mem_cons_self), ih h2 fun x m => n x (List.mem_cons_of_mem _ m)]
      rfl
noncomputable def xTail : List Value → Bool
  | [] => false
  | x :: r => match x with
    | .ref _ => xTail r
    | _ => (x :: r).map tyS == ["ValueError", "Exception", "BaseException", "object"]
theorem xTail_cases {l : List Value} (e : xTail l = true) : (∃ c r, l = .ref c :: r ∧ xTail r = true) ∨ l = [.type "ValueError", .type "Exception", .type "BaseException", .type "object"] := by
  cases l with
  | nil => cases e
  | cons x r =>
    unfold xTail at e
    split at e
    · exact .inl ⟨_, r, rfl, e⟩
    · exact .inr (tyS_all (eq_of_beq e) (by decide))
theorem xTail_has {T : String} {v : Bool} (h4 : ([.type "ValueError", .type "Exception", .type "BaseException", .type "object"] : List Value).contains (.type T) = v) {l : List Value} : xTail l = true → l.contains (.type T) = v := by
  induction l with
  | nil => intro e; cases e
  | cons x r ih =>
    intro e
    rcases xTail_cases e with ⟨c, r', h, e'⟩ | h
    · cases h
      rw [List.contains_cons, ih e', show (Value.type T == Value.ref c) = false from rfl, Bool.false_or]
    · rw [h]; exact h4
inductive XCls_P (K : PySem.W.Frag) (C : Addr) : Prop
  | mk (nm qn : Str) (N : Addr) (bs bm : List Value) (sn : List Str) (sub : List Value) (ab : Bool) (col : Option Bool) (dd : Option Addr) (k0 k1 k2 k3 k5 : Option Value) (h1 : K.lookup C = some (excClassObj nm qn C N bs bm true sn sub ab col dd k0 k1 k2 k3 k5 "ValueError.__new__")) (h2 : xTail bm = true) : XCls_P K C
noncomputable def XCls (K : PySem.W.Frag) (C : Addr) : Prop := XCls_P K C
noncomputable def xIn (K : PySem.W.Frag) (C : Addr) : Bool := @decide (XCls K C) (Classical.propDecidable _)
theorem xIn_iff {K : PySem.W.Frag} {C : Addr} : xIn K C = true ↔ XCls K C := @decide_eq_true_iff (XCls K C) (Classical.propDecidable _)
theorem xcls {K : PySem.W.Frag} {h : Heap} {C : Addr} (X : K.In h) (q : xIn K C = true) : ∃ nm qn N bs bm sn sub ab col dd k0 k1 k2 k3 k5,
    h.get? C = some (excClassObj nm qn C N bs bm true sn sub ab col dd k0 k1 k2 k3 k5 "ValueError.__new__") ∧ xTail bm = true := by
  obtain ⟨nm, qn, N, bs, bm, sn, sub, ab, col, dd, k0, k1, k2, k3, k5, ho, hx⟩ := xIn_iff.mp q
  exact ⟨nm, qn, N, bs, bm, sn, sub, ab, col, dd, k0, k1, k2, k3, k5, X _ _ ho, hx⟩
section
variable {M : Model} {A : Around} {E : Value → Shared → Prop} {h : Heap} {g : Array GenState} {d : Drawn} {t : Nat} {os : OsState}
variable {nm q : Str} {C N : Addr} {bs bm bmB : List Value} {sn : List Str} {sub : List Value} {ab : Bool} {col : Option Bool} {dd : Option Addr} {k0 k1 k2 k3 k5 : Option Value} {B newId initId : String}
theorem x_check_new (F : ExcBaseFacts B newId initId bmB) {rest : List Value} {Q : Unit → Shared → Prop} (hC : h.get? C = some (excClassObj nm q C N bs bm true sn sub ab col dd k0 k1 k2 k3 k5 newId))
    (hcont : (Value.ref C :: bm).contains (.type B) = true) (hq : Q () ⟨h, g, d, t, os⟩) : wpAny M A (checkBuiltinCall newId ⟨.ref C :: rest, []⟩) Q E ⟨h, g, d, t, os⟩ := by
  have hstar := F.noStar
  simp only [checkBuiltinCall, F.newKind, F.newSplit, F.newRow]
  repeat (first
    | refine wpAny_loadPart_at hC ?_
    | (refine wpAny_isSubtype_exc hC ?_; rw [hcont])
    | refine wpAny_staticBase_exc hC ?_
    | refine wpAny_madeBy_exc hC ?_
    | simp only [bne_self_eq_false, Bool.false_eq_true, if_false]
    | wp_step)
  exact hq
end
section
variable {prog : Program} {w : World} {A : Around} {R : Result → Shared → Prop} {E : Value → Shared → Prop} {h : Heap} {g : Array GenState} {d : Drawn} {t : Nat} {os : OsState}
variable {nm q : Str} {C N : Addr} {bs bm bmB : List Value} {sn : List Str} {sub : List Value} {ab : Bool} {col : Option Bool} {dd : Option Addr} {k0 k1 k2 k3 k5 : Option Value} {B newId initId : String}
noncomputable abbrev excObj (C : Addr) (t : Addr) : Obj := { cls := .ref C, data := .fields #[.ref t, .none, .none, .none, .bool false, .none] }
theorem x_new (F : ExcBaseFacts B newId initId bmB) {rest : List Value} (hC : h.get? C = some (excClassObj nm q C N bs bm true sn sub ab col dd k0 k1 k2 k3 k5 newId))
    (hcB : (Value.ref C :: bm).contains (.type B) = true) (hcA : (Value.ref C :: bm).contains (.type "AttributeError") = false) (hcN : (Value.ref C :: bm).contains (.type "NameError") = false)
    (hq : R (.ok (.ret (.ref (h.objs.size + 1)))) ⟨(h.push { cls := .type "tuple", data := .seq rest.toArray }).push (excObj C h.objs.size), g, d, t, os⟩) (hrest : rest.length ≤ sizeLine) :
    codeAny (model prog w) A (.builtin newId ⟨.ref C :: rest, []⟩) R ⟨h, g, d, t, os⟩ := by
  have hends := F.ends
  refine codeAny_builtinAt F.entry ?_
  unfold Builtin.«BaseException.__new__»
  refine PySem.wpAt_bind ?_
  show PySem.wpAt _ _ _ (stack >>= _) _ _ _
  refine PySem.wpAt_bind (PySem.wpAt_stack fun p below => PySem.wpAt_of_wpAny ?_)
  wp_walk
  refine PySem.wpAt_of_wpAny ?_
  rw [F.owner]
  repeat (first
    | with_reducible refine wpAny_madeHere_exc F.canon hC ?_
    | with_reducible refine wpAny_loadPart_at hC ?_
    | (with_reducible refine wpAny_isSubtype_exc hC ?_; first | rw [hcB] | rw [hcA] | rw [hcN])
    | wp_step)
  show R _ _
  rw [Heap.size_push]
  exact hq
theorem x_make {K : PySem.W.Frag} {rest : List Value} {fI : Addr} {Q : Value → Shared → Prop} (X : K.In h) (xi : xIn K C = true)
    (hi : PySem.W.findIn K (.ref C) "__init__" = some (some (.ref fI))) (hf : PySem.W.typeIn K (.ref fI) = some (.type "function"))
    (hq : wpAny (model prog w) (A.under (.builtin "type.__call__" ⟨.ref C :: rest, []⟩)) (call (.ref fI) (.ref (h.objs.size + 1) :: rest)) (fun r s' => r = .none ∧ Q (.ref (h.objs.size + 1)) s') E
      ⟨(h.push { cls := .type "tuple", data := .seq rest.toArray }).push (excObj C h.objs.size), g, d, t, os⟩) (hrest : rest.length ≤ sizeLine) :
    wpAny (model prog w) A (call (.ref C) rest) Q E ⟨h, g, d, t, os⟩ := by
  obtain ⟨nm, qn, N, bs, bm, sn, sub, ab, col, dd, k0, k1, k2, k3, k5, hC, hx⟩ := xcls X xi
  have F := PySem.F.excBase_ValueError
  have f1 := tc_lookup
  have f2 := tc_bind (.ref C)
  have hT : (⟨h, g, d, t, os⟩ : Shared).TypeIs (.ref C) "type" := ⟨_, hC, rfl⟩
  have hcB : (Value.ref C :: bm).contains (.type "ValueError") = true := by rw [List.contains_cons, xTail_has (v := true) (by decide +kernel) hx, Bool.or_true]
  have hcA : (Value.ref C :: bm).contains (.type "AttributeError") = false := by rw [List.contains_cons, xTail_has (v := false) (by decide +kernel) hx]; rfl
  have hcN : (Value.ref C :: bm).contains (.type "NameError") = false := by rw [List.contains_cons, xTail_has (v := false) (by decide +kernel) hx]; rfl
  refine wpAny_call (codeAny_of_tree ?_)
  show wpAny _ _ (callAny (.ref C) _) _ _ _
  repeat (any_goals (first
    | assumption
    | with_reducible refine wpAny_loadPart_at hC ?_
    | wp_step))
  refine ⟨rfl, ?_⟩
  refine codeAny_call_builtin_at (Code.quiet_builtin _ (by decide +kernel)) entry_typeCall (wpAny_check_type_call_sub hC ?_)
  repeat (first
    | with_reducible refine wpAny_loadPart_at hC ?_
    | with_reducible refine wpAny_madeBy_exc hC ?_
    | wp_step)
  refine codeAny_call_builtin_code (Code.quiet_builtin _ F.quiet) (x_check_new F hC hcB ?_)
  refine x_new F hC hcB hcA hcN ?_ hrest
  show wpAny _ _ _ _ _ (⟨(h.push { cls := .type "tuple", data := .seq rest.toArray }).push (excObj C h.objs.size), g, d, t, os⟩ : Shared)
  have kp : ∀ b o, h.get? b = some o → ((h.push { cls := .type "tuple", data := .seq rest.toArray }).push (excObj C h.objs.size)).get? b = some o := fun b o e => Heap.get?_push_of_some _ (Heap.get?_push_of_some _ e)
  have hC1 := kp _ _ hC
  have X1 := X.keeps kp
  have hget : ((h.push { cls := .type "tuple", data := .seq rest.toArray }).push (excObj C h.objs.size)).get? (h.objs.size + 1) = some (excObj C h.objs.size) := by heap_get
  have hcC : (Value.ref C :: bm).contains (.ref C) = true := by simp
  unfold isInstance
  repeat (first
    | with_reducible refine wpAny_loadPart_at hget ?_
    | (show wpAny _ _ (isSubtype (.ref C) _) _ _ _; with_reducible refine wpAny_isSubtype_exc hC1 ?_; rw [hcC])
    | wp_step)
  show wpAny _ _ (typeLookup (.ref C) _) _ _ _
  refine (PySem.W.looks_findIn X1 hi).at ?_
  refine wpAny_holding (wpAny_bind ((PySem.W.bind_fn X1 _ hf).at ?_))
  refine wpAny_bind (wpAny_mono hq (fun r s' hr => ?_) fun _ _ x => x)
  obtain ⟨rfl, hQ⟩ := hr
  wp_walk
  exact hQ
end
end L2
set_option Elab.async false
set_option linter.all false
set_option maxRecDepth 100000
namespace L2
open PySem PySem.Spec PyProof.Rows
theorem xcd {K : PySem.W.Frag} {C : Addr} (q : xIn K C = true) : ∃ cd bm, PySem.W.clsIn K C = some cd ∧ cd.mro = .ref C :: bm ∧ xTail bm = true ∧ cd.hasDict = true := by
  obtain ⟨nm, qn, N, bs, bm, sn, sub, ab, col, dd, k0, k1, k2, k3, k5, ho, hx⟩ := xIn_iff.mp q
  have e : ∃ cd, PySem.W.clsIn K C = some cd ∧ cd.mro = .ref C :: bm ∧ cd.hasDict = true := by
    unfold PySem.W.clsIn
    rw [ho]
    exact ⟨_, rfl, rfl, rfl⟩
  obtain ⟨cd, h1, h2, h3⟩ := e
  exact ⟨cd, bm, h1, h2, hx, h3⟩
theorem xmro {K : PySem.W.Frag} {C : Addr} {T : String} (q : xIn K C = true) (h4 : ([.type "ValueError", .type "Exception", .type "BaseException", .type "object"] : List Value).contains (.type T) = true) : PySem.W.mroIn K C (.type T) = some true := by
  obtain ⟨cd, bm, h1, h2, h3, _⟩ := xcd q
  unfold PySem.W.mroIn
  rw [h1, Option.bind_some, h2, if_neg (by simp), List.contains_cons, xTail_has h4 h3, Bool.or_true]
section
variable {M : Model} {A : Around} {E : Value → Shared → Prop} {s : Shared} {env : Env}
end
section
variable {prog : Program} {w : World} {A : Around} {E : Value → Shared → Prop} {s : Shared} {K : PySem.W.Frag} {C x : Addr} {ox : Obj} {name : Str} {v : Value}
theorem x_binit {rest : List Value} {vs : Array Value} {Q : Value → Shared → Prop} (X : K.In s.heap) (xi : xIn K C = true) (hx : s.heap.get? x = some ox) (hc : ox.cls = .ref C) (hd : ox.data = .fields vs) (hz : vs.size = 6) (hl : rest.length ≤ sizeLine)
    (h : ∀ h' tp, (∀ b o, b ≠ x → s.heap.get? b = some o → h'.get? b = some o) → h'.get? x = some (ox.mapFields (·.setIfInBounds 0 tp)) → Q .none { s with heap := h' }) :
    wpAny (model prog w) A (call (.builtin "ValueError.__init__") (.ref x :: rest)) Q E s := by
  obtain ⟨hp, g, d, tk, os⟩ := s
  have F := PySem.F.excBase_ValueError
  obtain ⟨nm, qn, N, bs, bm, sn, sub, ab, col, dd, k0, k1, k2, k3, k5, hC, hxt⟩ := xcls X xi
  have hcB : (Value.ref C :: bm).contains (.type "ValueError") = true := by rw [List.contains_cons, xTail_has (v := true) (by decide +kernel) hxt, Bool.or_true]
  have hshort := F.noStar
  have chk : wpAny (model prog w) A.in1 (checkBuiltinCall "ValueError.__init__" ⟨.ref x :: rest, []⟩) (fun _ s' => s' = ⟨hp, g, d, tk, os⟩) (fun _ _ => False) ⟨hp, g, d, tk, os⟩ := by
    simp only [checkBuiltinCall, F.initKind, F.initSplit, F.initRow]
    repeat (first
      | (with_reducible refine wpAny_loadPart_at hx ?_; rw [hc])
      | with_reducible refine wpAny_loadPart_at hC ?_
      | (with_reducible refine wpAny_isSubtype_exc hC ?_; rw [hcB])
      | wp_step)
    refine wpAny_onRaise ?_
    rw [show ∀ (a b : String) (n : Nat), Bind.check ⟨.positional, "*", "ValueError", .self, [⟨"args", .varPos, false⟩]⟩ a b n (List.map (fun x => x.fst) ({ pos := Value.ref x :: rest } : Args).kw) = pure () from
      fun a b n => check_star_args _ _ _ _ _ _]
    exact wpAny_pure rfl
  refine wpAny_call (codeAny_call_builtin F.init.plain F.initEntry (wpAny_mono chk (fun _ s1 e => ?_) fun _ _ z => z.elim))
  subst e
  unfold Builtin.«BaseException.__init__»
  repeat (first
    | with_reducible refine wpAny_loadPart_at hx ?_
    | wp_step)
  obtain ⟨a0, h0⟩ : ∃ a0, vs[0]? = some a0 := ⟨_, Array.getElem?_eq_getElem (by omega)⟩
  rw [hd]
  refine wpAny_pure ?_
  rw [h0]
  refine wpAny_pure ?_
  have hx1 : (hp.push { cls := .type "tuple", data := .seq rest.toArray }).get? x = some ox := Heap.get?_push_of_some _ hx
  refine wpAny_bind (wpAny_setField hx1 hd (by omega) ?_)
  have fin := h ((hp.push { cls := .type "tuple", data := .seq rest.toArray }).update x (Obj.mapFields (·.setIfInBounds 0 (.ref hp.objs.size)))) (.ref hp.objs.size) (fun b o hb e => by
    rw [Heap.get?_update_other _ _ (Ne.symm hb)]
    exact Heap.get?_push_of_some _ e) (Heap.get?_update_self _ hx1 (Obj.isFreed_of_fields (Obj.data_mapFields hd _)))
  cases a0 <;> (repeat wp_step) <;> exact fin
end
theorem x_refuse (self : Value) {l : List Value} : xTail l = true → refuseLoop self "__setattr__" l = pure () := by
  induction l with
  | nil => intro e; cases e
  | cons x r ih =>
    intro e
    rcases xTail_cases e with ⟨c, r', h, e'⟩ | h
    · cases h
      rw [refuseLoop_ref]
      exact ih e'
    · rw [h]; exact PySem.F.store_ValueError.passes self
section
variable {prog : Program} {w : World} {A : Around} {E : Value → Shared → Prop} {s : Shared} {K : PySem.W.Frag} {C x : Addr} {ox : Obj} {name : Str} {v : Value}
theorem x_set {vs : Array Value} {Q : Unit → Shared → Prop} (X : K.In s.heap) (xi : xIn K C = true) (hx : s.heap.get? x = some ox) (hc : ox.cls = .ref C) (hd : ox.data = .fields vs) (hdn : ox.dict = none)
    (hs : PySem.W.findIn K (.ref C) "__setattr__" = some (some (.builtin "object.__setattr__"))) (ha : PySem.W.findIn K (.ref C) name = some none)
    (h : ∀ h' dx, s.heap.objs.size ≤ dx → h'.get? x = some { ox with dict := some dx } → h'.Ns1 dx (fun y => if y = name then some v else none) → (∀ b o, b ≠ x → s.heap.get? b = some o → h'.get? b = some o) →
      Q () { s with heap := h', toks := s.toks + 2 }) :
    wpAny (model prog w) A (setAttr (.ref x) name v) Q E s := by
  have SF := PySem.F.store_object
  obtain ⟨cd, bm, hcd, hmro, hxt, hdict⟩ := xcd xi
  have I : PySem.W.InstAt s.heap x ox C none := ⟨hx, hc, by unfold PySem.W.notCls; rw [hd], by rw [hdn]; exact True.intro⟩
  refine PySem.W.set_plain X I hs ?_
  have sub : PySem.W.Looks (model prog w) s.heap (isInstance (.ref x) (.type "object")) true := I.type.andThen (PySem.W.looks_mroIn X (xmro xi (by decide +kernel)))
  refine codeAny_call_builtin SF.slot.plain SF.entry (@PySem.W.check_slot (model prog w) _ _ { s with toks := s.toks + 1 } "object.__setattr__" "object" "__setattr__" (.ref x) [.str name s.toks, v] [] _ SF.kind SF.split sub (SF.args (.ref x) (.str name s.toks) v) ?_)
  have hm : PySem.W.Looks (model prog w) s.heap (mroOf (.ref C)) cd.mro := (PySem.W.looks_clsIn X hcd).andThen .now
  rw [PySem.W.osa_eq, refuse_eq]
  refine wpAny_bind (wpAny_bind (I.type.here (s := { s with toks := s.toks + 1 }) (wpAny_bind (hm.here (s := { s with toks := s.toks + 1 }) ?_))))
  rw [hmro, refuseLoop_ref, x_refuse _ hxt]
  refine wpAny_pure (wpAny_bind (I.type.here (s := { s with toks := s.toks + 1 }) (wpAny_bind ((PySem.W.looks_findIn X ha).here (s := { s with toks := s.toks + 1 }) (wpAny_bind (wpAny_pure ?_))))))
  dsimp only
  unfold PySem.Builtin.ObjectAttr.storeInOwnDict
  refine wpAny_bind (wpAny_pure ?_)
  rw [if_neg (by simp)]
  refine wpAny_bind (wpAny_bind (wpAny_loadPart hx ?_))
  rw [hc]
  dsimp only
  refine wpAny_bind ((PySem.W.looks_clsIn X hcd).here (s := { s with toks := s.toks + 1 }) ?_)
  rw [hdict, hdn, if_neg (by decide)]
  dsimp only
  rw [if_neg (by simp [typeHasDict]), hd]
  dsimp only
  have hx1 : (s.heap.push { cls := .type "dict", data := .dict #[] }).get? x = some ox := Heap.get?_push_of_some _ hx
  have hxs : x ≠ s.heap.objs.size := Nat.ne_of_lt (Heap.lt_size hx)
  refine wpAny_bind (wpAny_alloc' ?_)
  refine wpAny_bind (wpAny_update' hx1 ?_)
  refine wpAny_pure (a := some s.heap.objs.size) ?_
  generalize hg : ((s.heap.push { cls := .type "dict", data := .dict #[] }).update x fun o => { cls := o.cls, dict := some s.heap.objs.size, data := o.data, slots := o.slots }) = g1
  have hgd : g1.get? s.heap.objs.size = some { cls := .type "dict", data := .dict #[] } := by
    rw [← hg]; exact (Heap.get?_update_ne _ _ _ _ hxs.symm).trans (Heap.get?_push_at rfl rfl)
  have hnd : g1.Ns s.heap.objs.size (fun _ => none) := ⟨_, #[], _, hgd, rfl, fun e he => absurd he (by simp), fun _ => rfl⟩
  have hgx : g1.get? x = some { ox with dict := some s.heap.objs.size } := by
    rw [← hg]
    refine Heap.get?_update_self _ hx1 ?_
    have hfr := (Heap.get?_some_iff.mp hx).2
    obtain ⟨oc, od, odt, osl⟩ := ox
    cases odt <;> first | rfl | exact hfr
  have hgo : ∀ b o, b ≠ x → s.heap.get? b = some o → g1.get? b = some o := fun b o hb e => by
    rw [← hg]
    exact (Heap.get?_update_ne _ _ _ _ hb).trans (Heap.get?_push_of_some _ e)
  show wpAny _ _ (PySem.Builtin.ObjectAttr.storeInDict s.heap.objs.size (.str name s.toks) name v) _ _ _
  unfold PySem.Builtin.ObjectAttr.storeInDict PySem.Builtin.ObjectAttr.newKeyGuard
  refine wpAny_bind (wpAny_pure (wpAny_bind (wpAny_nsSet1 (Heap.Ns1.of_empty hnd) fun h' hn' hs' => ?_)))
  obtain ⟨oD, esD, epD, hoD, hdD, hcD⟩ := hn'.count (Within.cons name v Within.nil)
  refine wpAny_bind (wpAny_lookBehind hoD (by rw [hdD]; exact pastItsLine_dict (Nat.le_trans hcD (by rw [List.length_cons, List.length_nil, sizeLine_eq]; omega))) ?_)
  refine wpAny_pure (h h' s.heap.objs.size (Nat.le_refl _) ((hs'.2 x hxs).trans hgx) hn' fun b o hb e => (hs'.2 b (Nat.ne_of_lt (Heap.lt_size e))).trans (hgo b o hb e))
end
section
variable {prog : Program} {w : World} {A : Around} {E : Value → Shared → Prop} {s : Shared} {K : PySem.W.Frag} {C x : Addr} {ox : Obj} {od : Option Obj} {name : Str} {v : Value}
theorem x_getBy {tk : Tok} {fill expr : Bool} {Q : Value → Shared → Prop} (X : K.In s.heap) (I : PySem.W.InstAt s.heap x ox C od) (xi : xIn K C = true)
    (hga : PySem.W.findIn K (.ref C) "__getattribute__" = some (some (.builtin "BaseException.__getattribute__"))) (hna : PySem.W.findIn K (.ref C) "__getattr__" = some none)
    (h : wpAny (model prog w) A.in1 (Builtin.«object.__getattribute__» ⟨[.ref x, .str name tk], []⟩) (fun fin s' => match fin with | .done (.ret v) => wpAny (model prog w) A (handedOut v) Q E s' | _ => False) (fun _ _ => False) s) :
    wpAny (model prog w) A (getAttrBy (.ref x) (.str name tk) fill expr) Q E s := by
  have hx2 : (Value.builtin "BaseException.__getattribute__" == Value.builtin "object.__getattribute__") = false := by decide +kernel
  unfold getAttrBy
  refine wpAny_holding (wpAny_bind (I.type.here (wpAny_bind ((PySem.W.looks_findIn X hga).here ?_))))
  dsimp only
  rw [hx2, Bool.and_false, if_neg (by decide)]
  unfold getAttrByItsOwn
  refine wpAny_bind ((PySem.W.looks_hook X (r := none) (by rw [if_pos (by rfl)]; exact hna)).here (wpAny_bind (wpAny_attempt (wpAny_holding ?_))))
  unfold callGetattribute
  rw [show (expr && onTheHeap (Value.builtin "BaseException.__getattribute__")) = false from by cases expr <;> rfl, if_neg (by decide)]
  unfold boundAndCalled
  rw [PySem.F.excAttr_ValueError.ga.bind]
  refine wpAny_bind (wpAny_pure ?_)
  show wpAny _ _ (call (.builtin "BaseException.__getattribute__") [.ref x, .str name tk]) _ _ _
  refine wpAny_call (codeAny_call_builtin PySem.F.excAttr_ValueError.ga.plain PySem.F.entry_bexc_ga ?_)
  refine @PySem.W.check_slot (model prog w) _ _ s "BaseException.__getattribute__" "BaseException" "__getattribute__" (.ref x) [.str name tk] [] _ (by decide +kernel) (by decide +kernel) (I.type.andThen (PySem.W.looks_mroIn X (xmro xi (by decide +kernel)))) (PySem.F.args_bexc_ga (.ref x) (.str name tk)) ?_
  refine wpAny_mono h (fun fin s' z => ?_) fun _ _ z => z.elim
  rcases fin with (_ | _ | _ | _) | _ <;> first | exact z | exact z.elim
theorem x_get {expr : Bool} {Q : Value → Shared → Prop} (X : K.In s.heap) (I : PySem.W.InstAt s.heap x ox C od) (xi : xIn K C = true)
    (hga : PySem.W.findIn K (.ref C) "__getattribute__" = some (some (.builtin "BaseException.__getattribute__"))) (hna : PySem.W.findIn K (.ref C) "__getattr__" = some none)
    (hf : PySem.W.findObj K C od name = some (.value v)) (hh : PySem.W.handedIn v = true) (h : Q v { s with toks := s.toks + 1 }) : wpAny (model prog w) A (getAttr (.ref x) name expr) Q E s := by
  unfold getAttr
  refine wpAny_bind (wpAny_mkText (x_getBy (s := { s with toks := s.toks + 1 }) X I xi hga hna ?_))
  have L1 := PySem.W.looks_find (M := model prog w) X I hf
  unfold Builtin.«object.__getattribute__»
  refine wpAny_bind (wpAny_pure (wpAny_bind (wpAny_pure (wpAny_bind (I.type.here (s := { s with toks := s.toks + 1 }) (wpAny_bind (L1.here (s := { s with toks := s.toks + 1 }) ?_)))))))
  refine wpAny_pure ?_
  show wpAny _ _ (handedOut v) _ _ _
  rw [PySem.W.handedOut_of hh]
  exact wpAny_pure h
end
end L2
set_option Elab.async false
set_option linter.all false
set_option maxRecDepth 100000
namespace L2
open PySem PySem.Spec PyProof.Rows
structure XC (K : PySem.W.Frag) (C : Addr) : Prop where
  xi : xIn K C = true
  ga : PySem.W.findIn K (.ref C) "__getattribute__" = some (some (.builtin "BaseException.__getattribute__"))
  na : PySem.W.findIn K (.ref C) "__getattr__" = some none
  sa : PySem.W.findIn K (.ref C) "__setattr__" = some (some (.builtin "object.__setattr__"))
  cl : PySem.W.findIn K (.ref C) "__class__" = some (some (.builtin "object.__class__"))
  gt : PySem.W.specialIn K (.builtin "object.__class__") "__get__" = some (some (.builtin "getset_descriptor.__get__"))
  tk : PySem.W.takesIn K (.builtin "object.__class__") = some true
section
variable {prog : Program} {w : World} {A : Around} {E : Value → Shared → Prop} {s : Shared} {K : PySem.W.Frag} {C x : Addr} {ox : Obj} {od : Option Obj}
theorem x_class {Q : Option Value → Shared → Prop} (X : K.In s.heap) (I : PySem.W.InstAt s.heap x ox C od) (c : XC K C) (hn : PySem.W.specialIn K (.builtin "object.__class__") "__get__" = some (some (.builtin "getset_descriptor.__get__")))
    (htk : PySem.W.takesIn K (.builtin "object.__class__") = some true) (h : Q (some (.ref C)) { s with toks := s.toks + 1 }) : wpAny (model prog w) A (getAttr? (.ref x) "__class__") Q E s := by
  obtain ⟨cd, bm, hcd, hmro, hxt, hdict⟩ := xcd c.xi
  have hf : PySem.W.findObj K C od "__class__" = some (.bind (.builtin "getset_descriptor.__get__") (.builtin "object.__class__")) := by
    unfold PySem.W.findObj
    rw [hcd, Option.bind_some, c.cl, Option.bind_some]
    simp [hn, htk]
  have L1 := PySem.W.looks_find (M := model prog w) X I hf
  unfold getAttr? getAttrBy?
  refine wpAny_bind (wpAny_mkText (wpAny_bind (wpAny_attempt (x_getBy (s := { s with toks := s.toks + 1 }) X I c.xi c.ga c.na ?_))))
  unfold Builtin.«object.__getattribute__»
  refine wpAny_bind (wpAny_pure (wpAny_bind (wpAny_pure (wpAny_bind (I.type.here (s := { s with toks := s.toks + 1 }) (wpAny_bind (L1.here (s := { s with toks := s.toks + 1 }) ?_)))))))
  show wpAny _ _ (holding [.builtin "object.__class__"] (call (.builtin "getset_descriptor.__get__") [.builtin "object.__class__", .ref x, .ref C]) >>= ret) _ _ _
  refine wpAny_bind (wpAny_holding (wpAny_call (PySem.W.class_get (s := { s with toks := s.toks + 1 }) (ox := ox) (od := od) X I (xmro c.xi (by decide +kernel)) ?_)))
  refine wpAny_pure ?_
  exact PySem.W.handed_on rfl (wpAny_pure h)
theorem x_nested {cc : Value} {dep : Int} {tk : Tok} {b : Bool} {Q : Fin → Shared → Prop} (X : K.In s.heap) (I : PySem.W.InstAt s.heap x ox C od) (c : XC K C) (hn : PySem.W.specialIn K (.builtin "object.__class__") "__get__" = some (some (.builtin "getset_descriptor.__get__")))
    (htk : PySem.W.takesIn K (.builtin "object.__class__") = some true)
    (hty : PySem.W.Looks (model prog w) s.heap (typeOf cc) (.type "type")) (his : PySem.W.Looks (model prog w) s.heap (isType cc) true)
    (hne : (Value.ref C == cc) = true → b = true) (hsub : PySem.W.Looks (model prog w) s.heap (isSubtype (.ref C) cc) b) (h : ∀ t, Q (.done (.ret (.bool b))) { s with toks := t }) :
    wpAny (model prog w) A (Builtin.«isinstance.nested» ⟨[.ref x, cc, .int dep tk], []⟩) Q E s := by
  obtain ⟨cd, bm, hcd, hmro, hxt, hdict⟩ := xcd c.xi
  have hisD : PySem.W.Looks (model prog w) s.heap (isType (.ref C)) true := by
    unfold PySem.W.clsIn at hcd
    split at hcd
    · rename_i c' d' cd' sl' ho
      intro A' Q' E' s' k q
      unfold isType loadHead
      exact wpAny_bind (wpAny_loadPart (k _ _ (X _ _ ho)) (wpAny_pure q))
    · cases hcd
  obtain ⟨h0, g, d, tt, os⟩ := s
  have L0 := I.type (M := model prog w)
  have LI : PySem.W.Looks (model prog w) h0 (isInstance (.ref x) cc) b := L0.andThen hsub
  unfold Builtin.«isinstance.nested»
  refine wpAny_bind (L0.at ?_)
  by_cases hq : (Value.ref C == cc) = true
  · rw [if_pos hq]
    have hb := hne hq
    subst hb
    exact wpAny_pure (M := model prog w) (E := E) (h tt)
  rw [if_neg hq]
  refine wpAny_bind (hty.at ?_)
  rw [if_pos (by decide)]
  k_delta "plainIsInstance"
  refine wpAny_bind (wpAny_bind (his.at ?_))
  simp only [Bool.not_true, Bool.false_eq_true, if_false]
  refine wpAny_bind (LI.at ?_)
  cases b with
  | true =>
    simp only [if_true]
    first
      | exact wpAny_pure (h tt)
      | exact wpAny_pure (wpAny_pure (h tt))
      | exact wpAny_bind (wpAny_pure (wpAny_pure (h tt)))
  | false =>
    simp only [Bool.false_eq_true, if_false]
    refine wpAny_bind (x_class X I c hn htk ?_)
    refine wpAny_bind (hisD.at ?_)
    simp only [Bool.not_true, Bool.false_eq_true, if_false]
    refine wpAny_bind (wpAny_rule ?_)
    refine hsub.at ?_
    first
      | exact wpAny_pure (h _)
      | exact wpAny_pure (wpAny_pure (h _))
      | exact wpAny_bind (wpAny_pure (wpAny_pure (h _)))
theorem x_isi {cc : Value} {b : Bool} {Q : Value → Shared → Prop} (X : K.In s.heap) (I : PySem.W.InstAt s.heap x ox C od) (c : XC K C) (hn : PySem.W.specialIn K (.builtin "object.__class__") "__get__" = some (some (.builtin "getset_descriptor.__get__")))
    (htk : PySem.W.takesIn K (.builtin "object.__class__") = some true)
    (hty : ∀ (M : Model) h', K.In h' → PySem.W.Looks M h' (typeOf cc) (.type "type")) (his : ∀ (M : Model) h', K.In h' → PySem.W.Looks M h' (isType cc) true)
    (hne : (Value.ref C == cc) = true → b = true) (hsub : ∀ (M : Model) h', K.In h' → PySem.W.Looks M h' (isSubtype (.ref C) cc) b) (h : ∀ t, Q (.bool b) { s with toks := t }) :
    wpAny (model prog w) A (call (.builtin "isinstance") [.ref x, cc]) Q E s :=
  call_isinstance (S := fun _ R s => (K.In s.heap ∧ PySem.W.InstAt s.heap x ox C od) ∧ ∀ t, R (.ok (.ret (.bool b))) { s with toks := t })
    (fun _ _ _ _ _ hs => isinstance_outer (x_nested hs.1.1 hs.1.2 c hn htk (hty _ _ hs.1.1) (his _ _ hs.1.1) hne (hsub _ _ hs.1.1) hs.2) (by intro q; cases q)) ⟨⟨X, I⟩, h⟩
end
end L2
set_option Elab.async false
set_option linter.all false
set_option maxRecDepth 100000
namespace L2
open PySem PySem.Spec PyProof.Rows
section
variable {X : Cx} {pins : List (Addr × Obj)} {σ : St} {H : Hp} {s : Shared} {h' : Heap}
theorem Inv.two {x a : Addr} {o1 o2 : HO} {t' : Nat} (I : Inv X pins σ H s) (mu : Mut (H x)) (hp : s.heap.objs.size ≤ a) (k : ∀ b u, b ≠ x → s.heap.get? b = some u → h'.get? b = some u) (hx : ∃ u, h'.get? x = some u)
    (n1 : ObjOk X.prog X.w (upd (upd H x o1) a o2) h' x o1) (n2 : ObjOk X.prog X.w (upd (upd H x o1) a o2) h' a o2) : Inv X pins σ (upd (upd H x o1) a o2) { s with heap := h', toks := t' } := by
  have ha : H a = none := I.hok.fresh hp
  have ne : ∀ b, H b = none → b ≠ x := fun b n z => by subst z; rw [n] at mu; exact mu
  have nm : ∀ b u, H b = some u → ¬ Mut (some u) → b ≠ x := fun b u q n z => by subst z; rw [q] at mu; exact n mu
  have old : ∀ b u, H b = some u → ¬ Mut (some u) → upd (upd H x o1) a o2 b = some u := fun b u q n => by rw [upd_ne (ne_of_none q ha), upd_ne (nm b u q n)]; exact q
  refine I.un ⟨fun b u e n _ _ => k b u (ne b n) e, fun b u e n _ _ => ⟨u.slots, k b u (ne b n) e⟩, fun b u e n _ => ?_, fun b u e _ => ?_, fun b xs e => old b _ e fun z => z, fun b o u e => old b _ e fun z => z, fun b ps e => ⟨#[], by rw [old b _ e fun z => z]; simp⟩⟩ fun b u e => ?_
  · rw [upd_ne (Nat.ne_of_lt (Nat.lt_of_lt_of_le (Heap.lt_size e) hp)), upd_ne (ne b n)]; exact n
  · by_cases z : b = x
    · subst z; exact hx
    · exact ⟨u, k b u z e⟩
  · by_cases z : b = a
    · subst z; rw [upd_same] at e; cases e; exact n2
    · rw [upd_ne z] at e
      by_cases z2 : b = x
      · subst z2; rw [upd_same] at e; cases e; exact n1
      · rw [upd_ne z2] at e
        refine (I.hok b u e).stay (fun c v hc q => ?_) (fun c q => old c _ q fun z => z) fun c xs q => old c _ q fun z => z
        rcases hc with hc | hc
        · subst hc; exact k c v z2 q
        · exact k c v (nm c _ hc fun z => z) q
end
section
variable {X : Cx} {o e value : Expr} {es : List Expr} {f x : Str} {p apos pos pos' tpos : Pos} {ta tv : TE} {t : TA} {C fa : Addr}
structure XMk (K : PySem.W.Frag) (C f : Addr) : Prop where
  c : XC K C
  init : PySem.W.findIn K (.ref C) "__init__" = some (some (.ref f))
  fn : PySem.W.isFn K (.ref f) = true
  kp : PySem.W.keepIn K (.ref C) = true
noncomputable def tXMake (C : Addr) (sp : Sp) (t : TA) : TE := fun σ H Q => t σ H fun vs H1 => vs.length ≤ 10 ∧ ∀ ea, H1 ea = none →
  sp (.ref ea :: vs) (upd H1 ea (.ext (ExO ea C none .none))) (fun v H2 => v = .non ∧ Q (.ref ea) H2) E0
theorem run_xmake {k : Nat} {fd : FuncData} {ps : List Str} {sp : Sp} {pins : List (Addr × Obj)} {σ : St} {H : Hp} {s : Shared} {Q : VK} {us : List Value} {vs : List V} (M : XMk X.K C fa) (F : FnOk X.prog X.w X.K X.mg X.base CX0 k fa fd ps sp)
    (hr : Room (k + 1) X.A) (hb : Binds X.K fd ps []) (I : Inv X pins σ H s) (r : Vals vs us) (hl10 : vs.length ≤ 10)
    (h : ∀ ea, H ea = none → sp (.ref ea :: vs) (upd H ea (.ext (ExO ea C none .none))) (fun v H2 => v = .non ∧ Q (.ref ea) H2) E0) :
    wpAny (model X.prog X.w) X.A (call (.ref C) us) (EP X pins σ Q) X.xe s := by
  have hq := h (s.heap.objs.size + 1) (I.hok.fresh (Nat.le_succ _))
  have hul : us.length ≤ sizeLine := by rw [← r.length, sizeLine_eq]; omega
  have kp : ∀ b o, s.heap.get? b = some o → ((s.heap.push { cls := .type "tuple", data := .seq us.toArray }).push (excObj C s.heap.objs.size)).get? b = some o := fun b o e => Heap.get?_push_of_some _ (Heap.get?_push_of_some _ e)
  have hget : ((s.heap.push { cls := .type "tuple", data := .seq us.toArray }).push (excObj C s.heap.objs.size)).get? (s.heap.objs.size + 1) = some (excObj C s.heap.objs.size) := by heap_get
  have I2 : Inv X pins σ (upd H (s.heap.objs.size + 1) (.ext (ExO (s.heap.objs.size + 1) C none .none))) { s with heap := (s.heap.push { cls := .type "tuple", data := .seq us.toArray }).push (excObj C s.heap.objs.size) } :=
    I.laid (t' := s.toks) kp (Nat.le_succ _) (exo_ok ⟨_, _, hget, rfl, rfl, rfl, rfl, rfl⟩)
  have r2 : Vals (V.ref (s.heap.objs.size + 1) :: vs) (Value.ref (s.heap.objs.size + 1) :: us) := .cons rfl r
  have hl : (Value.ref (s.heap.objs.size + 1) :: us ++ []).length = ps.length := by
    have e := r2.length
    rw [F.len _ _ _ _ hq] at e
    rw [List.append_nil]
    exact e.symm
  obtain ⟨hp, g, d, tk, os⟩ := s
  refine x_make I.kIn M.c.xi M.init (beq_iff_eq.mp M.fn) (wpAny_call (codeAny_mono (F.run _ X.stack _ _ ⟨Value.ref (hp.objs.size + 1) :: us, []⟩ (Value.ref (hp.objs.size + 1) :: us) _ _ E0 (hr.make C us [])
    (I2.env0.make C us []) (by have := hb _ (Value.ref (hp.objs.size + 1) :: us) I2.kIn hl; rw [List.append_nil] at this; exact this) r2 hq) fun r s' hq' => ?_)) hul
  cases r with
  | error e => exact False.elim hq'
  | ok fl =>
    cases fl with
    | ret u =>
      obtain ⟨v, H', I3, rv, ev, q3⟩ := I2.after hq'
      subst ev
      exact ⟨rv, ⟨V.ref (hp.objs.size + 1), H', I3, rfl, q3⟩⟩
    | next => exact False.elim hq'
    | brk => exact False.elim hq'
    | cont => exact False.elim hq'
theorem pe_xmake {k : Nat} {fd : FuncData} {ps : List Str} {sp : Sp} (M : XMk X.K C fa) (F : FnOk X.prog X.w X.K X.mg X.base CX0 k fa fd ps sp) (hr : Room (k + 1) X.A) (hg : Gl X x) (hm : X.mg x = some (.ref C)) (hb : Binds X.K fd ps [])
    (ha : PA X (e :: es) t) (hdb : (x == ("__debug__" : Str)) = false := by decide) (he : starEach (e :: es) X.env = (false, eval e X.env) :: starEach es X.env := by rfl) (hpl : (backTo pos (starEach es X.env)).any (·.1) = false := by rfl) :
    PE X (.Call (.Name x p) (e :: es) [] pos) (tXMake C sp t) := by
  intro pins s σ H Q I h
  refine wpAny_Call_Name_kw (ld_glob I hg hm ?_ hdb)
  refine PySem.W.callWith_K (h₀ := X.base) I.ok.mod.kin M.kp (thn (ha pos pins s σ H _ I h) fun us s1 ⟨vs, H1, I1, r, q⟩ => ⟨I1.kIn, ?_⟩) he hpl
  exact run_xmake M F hr hb I1 r q.1 q.2
inductive tVInit_P (K : PySem.W.Frag) (Q : VK) (vs : List V) (H1 : Hp) : Prop
  | mk (ea C dx tb rest : _) (h1 : vs = .ref ea :: rest) (h2 : rest.length ≤ 10) (h3 : H1 ea = some (.ext (ExO ea C dx tb))) (h4 : xIn K C = true) (h5 : Q .non H1) : tVInit_P K Q vs H1
noncomputable def tVInit (K : PySem.W.Frag) (t : TA) : TE := fun σ H Q => t σ H fun vs H1 => tVInit_P K Q vs H1
theorem upd_self {H : Hp} {a : Addr} {o : HO} (h : H a = some o) : upd H a o = H := by
  funext b
  unfold upd
  split
  · rename_i e; rw [e, h]
  · rfl
theorem vinit_cls : PySem.W.findCls [] (.type "ValueError") (.type "type") "__init__" = some (.val (.builtin "ValueError.__init__")) := by kernel_rfl
theorem pe_vinit {pl : Sem Bool} (hg : Gl X x) (hm : X.mg x = none) (hv : bootBuiltins x = some (.type "ValueError")) (ha : PA X (e :: es) t) (hn : x ≠ "__name__" := by decide) (hdb : (x == ("__debug__" : Str)) = false := by decide)
    (hst : starEach (e :: es) X.env = (false, eval e X.env) :: starEach es X.env := by rfl) (hpl : (backTo pos (starEach es X.env)).any (·.1) = false := by rfl)
    (ht : eval (.Call (.Attribute (.Name x p) "__init__" apos) (e :: es) [] pos) X.env = (do
      let ov ← eval (.Name x p) X.env
      standAt apos.atName
      let (f, first) ← holding [ov] (getMethod ov "__init__" pl)
      callWith pos f first (backTo pos (starEach (e :: es) X.env)) (backToKw pos (keywordEach [] X.env))) := by rfl) :
    PE X (.Call (.Attribute (.Name x p) "__init__" apos) (e :: es) [] pos) (tVInit X.K t) := by
  intro pins s σ H Q I h
  refine PySem.W.methodCall_KW (pl := pl) (ld_blt I hg hm hv ?_ hn hdb) ht
  obtain ⟨m, F⟩ := I.fr
  refine PySem.W.method_type (v := .builtin "ValueError.__init__") F I.mod.kin (by kernel_rfl) (by decide +kernel) vinit_cls rfl ?_
  have I0 := I.tok (s.toks + 1)
  refine PyProof.Rows.callWith_builtin1 (thn (ha pos pins _ σ H _ I0 h) fun us s1 zz_ => ?_) hst hpl
  obtain ⟨vs, H1, I1, r, ea, C, dx, tb, rest, ev, hl, e1, xi, q⟩ := zz_
  subst ev
  obtain ⟨u0, us0, rfl, r0, r1⟩ : ∃ u0 us0, us = u0 :: us0 ∧ RelV (.ref ea) u0 ∧ Vals rest us0 := by
    cases r with
    | cons a b => exact ⟨_, _, rfl, a, b⟩
  obtain rfl : u0 = Value.ref ea := r0
  obtain ⟨⟨oe, vs, hx, hcl, hdx, hd, hz, h1⟩, _, _⟩ := (show ObjOk X.prog X.w H1 s1.heap ea (.ext (ExO ea C dx tb)) from I1.hok ea _ e1)
  refine x_binit I1.kIn xi hx hcl hd hz (by rw [← r1.length, sizeLine_eq]; omega) fun h' tp k1 k2 => ⟨.non, H1, ?_, rfl, q⟩
  have J : Inv X pins σ (upd H1 ea (.ext (ExO ea C dx tb))) { s1 with heap := h', toks := s1.toks } := by
    refine I1.write (x := ea) (e := ea) (by rw [e1]; exact True.intro) (.inl rfl) k1 ⟨_, k2⟩ (exo_ok ⟨_, _, k2, (Obj.cls_mapFields _ _).trans hcl, ?_, Obj.data_mapFields hd _, by simp [hz], ?_⟩)
    · rw [← hdx]
      obtain ⟨oc, od, odt, osl⟩ := oe
      have hd' : odt = .fields vs := hd
      subst hd'
      rfl
    · rw [Array.getElem?_setIfInBounds_ne (by decide)]; exact h1
  rw [upd_self e1] at J
  exact J
structure CInit (K : PySem.W.Frag) (C f : Addr) : Prop where
  sp : PySem.W.specialIn K (.ref C) "__getattribute__" = some (some (.builtin "type.__getattribute__"))
  rd : PySem.W.readsIn K C (.type "type") = true
  at_ : PySem.W.findCls K (.ref C) (.type "type") "__init__" = some (.val (.ref f))
  kp : PySem.W.keepIn K (.ref f) = true
theorem pe_cinit {k : Nat} {fd : FuncData} {ps : List Str} {sp : Sp} {pl : Sem Bool} (c : CInit X.K C fa) (F : FnOk X.prog X.w X.K X.mg X.base CX0 k fa fd ps sp) (hr : Room k X.A) (hb : Binds X.K fd ps []) (hg : Gl X x) (hm : X.mg x = some (.ref C))
    (ha : PA X (e :: es) t) (hdb : (x == ("__debug__" : Str)) = false := by decide)
    (hst : starEach (e :: es) X.env = (false, eval e X.env) :: starEach es X.env := by rfl) (hpl : (backTo pos (starEach es X.env)).any (·.1) = false := by rfl)
    (ht : eval (.Call (.Attribute (.Name x p) "__init__" apos) (e :: es) [] pos) X.env = (do
      let ov ← eval (.Name x p) X.env
      standAt apos.atName
      let (f, first) ← holding [ov] (getMethod ov "__init__" pl)
      callWith pos f first (backTo pos (starEach (e :: es) X.env)) (backToKw pos (keywordEach [] X.env))) := by rfl) :
    PE X (.Call (.Attribute (.Name x p) "__init__" apos) (e :: es) [] pos) (tCall sp [] E0 t) := by
  intro pins s σ H Q I h
  refine PySem.W.methodCall_KW (pl := pl) (ld_glob I hg hm ?_ hdb) ht
  refine PySem.W.method_cls I.kIn c.sp (PySem.W.cls_value I.kIn c.rd c.at_ rfl ?_)
  have I0 := I.tok (s.toks + 1)
  refine PySem.W.callWith_K (h₀ := X.base) I.ok.mod.kin c.kp (thn (ha pos pins _ σ H _ I0 h) fun us s1 ⟨vs, H1, I1, r, q⟩ => ⟨I1.kIn, ?_⟩) hst hpl
  exact run_fn F hr hb .nil pass0 I1 r q
noncomputable def sXFld (K : PySem.W.Frag) (ta tv : TE) (f : Str) : TS := fun D σ H => tv σ H fun y H1 => ta σ H1 fun x H2 => ∃ ea C tb, x = .ref ea ∧ H2 ea = some (.ext (ExO ea C none tb)) ∧ XC K C ∧ NoAttr K C f ∧
  ∀ dx, H2 dx = none → dx ≠ ea → D.nx σ (upd (upd H2 ea (.ext (ExO ea C (some dx) tb))) dx (.xd [(f, y)]))
theorem ps_xfld (ha : PE X o ta) (hv : PE X value tv) (hs : swapsWith value (some (.Attribute o f pos')) pos.line X.env = pure false) : PS X (.Assign [.Attribute o f pos'] value pos) (sXFld X.K ta tv f) := by
  intro pins s σ H D I h
  refine plainObj_wpAny_Assign_Attribute (thn (hv pins s σ H _ I h) fun u s1 ⟨y, H1, I1, ry, q⟩ => thn (ha pins s1 σ H1 _ I1 q) fun ov s2 zz_ => ?_) hs
  obtain ⟨x, H2, I2, rx, ea, C, tb, ex, e1, c, n, q2⟩ := zz_
  subst ex
  obtain rfl : ov = Value.ref ea := rx
  obtain ⟨⟨oe, vs, hx, hcl, hdx, hd, hz, h1⟩, _, _⟩ := (show ObjOk X.prog X.w H2 s2.heap ea (.ext (ExO ea C none tb)) from I2.hok ea _ e1)
  refine x_set I2.kIn c.xi hx hcl hd hdx c.sa n fun h' dx hp k1 k2 k3 => ⟨σ, _, ?_, q2 dx (I2.hok.fresh hp) (Nat.ne_of_gt (Nat.lt_of_lt_of_le (Heap.lt_size hx) hp))⟩
  refine I2.two (by rw [e1]; exact True.intro) hp k3 ⟨_, k1⟩ (exo_ok ⟨_, _, k1, hcl, rfl, hd, hz, h1⟩) ⟨_, k2, fun g => ?_⟩
  by_cases z : g = f
  · subst z; simp [List.lookup]; exact ry
  · have : (g == f) = false := by simp [z]
    simp [List.lookup, this, z]; exact True.intro
inductive tXFld_P (K : PySem.W.Frag) (f : Str) (Q : VK) (x : V) (H1 : Hp) : Prop
  | mk (ea C dx fs v : _) (h1 : x = .ref ea) (h2 : XAt H1 ea C (some dx)) (h3 : H1 dx = some (.xd fs)) (h4 : XC K C) (h5 : NoAttr K C f) (h6 : fs.lookup f = some v) (h7 : Q v H1) : tXFld_P K f Q x H1
noncomputable def tXFld (K : PySem.W.Frag) (ta : TE) (f : Str) : TE := fun σ H Q => ta σ H fun x H1 => tXFld_P K f Q x H1
theorem x_inst {pins : List (Addr × Obj)} {σ : St} {H : Hp} {s : Shared} {ea C dx : Addr} {fs : List (Str × V)} (I : Inv X pins σ H s) (x : XAt H ea C (some dx)) (hd : H dx = some (.xd fs)) :
    ∃ (ox od : Obj) (mA : Str → Option Value), PySem.W.InstAt s.heap ea ox C (some od) ∧ (∀ name, PySem.W.lookIn name od = some (mA name)) ∧ ∀ f, RelO (fs.lookup f) (mA f) := by
  obtain ⟨tb, e1, _⟩ := x
  obtain ⟨⟨oe, vs, hx, hcl, hdx, hdt, hz, h1⟩, _, _⟩ := (show ObjOk X.prog X.w H s.heap ea (.ext (ExO ea C (some dx) tb)) from I.hok ea _ e1)
  obtain ⟨mA, n, r⟩ := (show ObjOk X.prog X.w H s.heap dx (.xd fs) from I.hok dx _ hd)
  obtain ⟨od, ho, hl⟩ := lookIn_ns n
  exact ⟨oe, od, mA, ⟨hx, hcl, by unfold PySem.W.notCls; rw [hdt], by rw [hdx]; exact ho⟩, hl, r⟩
theorem pe_xfld (he : PE X e ta) (hb : attributeBase e f X.env (eval e X.env) = eval e X.env) : PE X (.Attribute e f pos) (tXFld X.K ta f) := by
  intro pins s σ H Q I h
  refine attr_of hb (thn (he pins s σ H _ I h) fun u s1 zz_ => ?_)
  obtain ⟨x, H1, I1, rx, ea, C, dx, fs, v, ex, xa, hd, c, n, l, q⟩ := zz_
  subst ex
  obtain rfl : u = Value.ref ea := rx
  obtain ⟨ox, od, mA, J, hl, r⟩ := x_inst I1 xa hd
  obtain ⟨uv, hu, ru⟩ := RelO.some_of (v := v) (o := mA f) (by rw [← l]; exact r f)
  have hh : PySem.W.hasDictIn X.K C = true := by
    obtain ⟨cd, bm, hcd, _, _, hdict⟩ := xcd c.xi
    unfold PySem.W.hasDictIn
    rw [hcd]
    exact hdict
  exact x_get I1.kIn J c.xi c.ga c.na (PySem.W.findObj_own hh n rfl (by rw [hl, hu])) (handed_of ru) ⟨v, H1, I1.tok _, ru, q⟩
noncomputable def xIsa (K : PySem.W.Frag) (C : Addr) : V → Option Bool
  | .ref D => if (PySem.W.clsIn K D).isSome && PySem.W.typeIn K (.ref D) == some (.type "type") then PySem.W.subIn K (.ref C) (.ref D) else none
  | .ty T => if T == "ValueError" then some true else none
  | _ => none
inductive rIsX_P (K : PySem.W.Frag) (xs : List V) (H : Hp) (Q : VK) : Prop
  | mk (ea C dx fs c b : _) (h1 : xs = [.ref ea, c]) (h2 : XAt H ea C (some dx)) (h3 : H dx = some (.xd fs)) (h4 : XC K C) (h5 : xIsa K C c = some b) (h6 : Q (.bl b) H) : rIsX_P K xs H Q
noncomputable def rIsX (K : PySem.W.Frag) : List V → Hp → VK → Prop := fun xs H Q => rIsX_P K xs H Q
theorem call_isX : CallR X (.builtin "isinstance") (rIsX X.K) := by
  intro pins s σ H xs us Q I r h
  obtain ⟨ea, C, dx, fs, c, b, rfl, xa, hd, xc, hi, q⟩ := h
  obtain ⟨u, w', rfl, ru, rw'⟩ := vals2 r
  cases (show u = Value.ref ea from ru)
  obtain ⟨ox, od, mA, J, hl, _⟩ := x_inst I xa hd
  cases c with
  | ref D =>
    cases (show w' = Value.ref D from rw')
    simp only [xIsa] at hi
    split at hi
    · rename_i hq
      simp only [Bool.and_eq_true, beq_iff_eq] at hq
      obtain ⟨q1, q2⟩ := hq
      refine x_isi I.kIn J xc xc.gt xc.tk (b := b) (fun _ h' X' => PySem.W.looks_typeIn X' q2) (fun _ h' X' => ?_) (fun z => ?_) (fun _ h' X' => PySem.W.looks_subIn X' hi) fun t => ⟨.bl b, H, I.tok t, rfl, q⟩
      · unfold PySem.W.clsIn at q1
        split at q1
        · rename_i c' d' cd' sl' ho
          intro A' Q' E' s' k q
          unfold isType loadHead
          exact wpAny_bind (wpAny_loadPart (k _ _ (X' _ _ ho)) (wpAny_pure q))
        · cases q1
      · have z' : C = D := Value.ref.inj (beq_iff_eq.mp z)
        subst z'
        obtain ⟨cd, bm, hcd, hmro, _, _⟩ := xcd xc.xi
        have e2 : PySem.W.mroIn X.K C (.ref C) = some true := by
          unfold PySem.W.mroIn
          rw [hcd, Option.bind_some, hmro, if_neg (by simp)]
          simp
        have e3 : PySem.W.subIn X.K (.ref C) (.ref C) = some true := e2
        rw [e3] at hi
        exact (Option.some.inj hi).symm
    · cases hi
  | ty T =>
    cases (show w' = Value.type T from rw')
    simp only [xIsa] at hi
    split at hi
    · rename_i hq
      rw [beq_iff_eq] at hq
      subst hq
      cases hi
      refine x_isi I.kIn J xc xc.gt xc.tk (b := true) (fun _ h' X' => PySem.W.Looks.of_pure (by kernel_rfl)) (fun _ h' X' => PySem.W.Looks.of_pure rfl) (fun _ => rfl) (fun _ h' X' => PySem.W.looks_mroIn X' (xmro xc.xi (by decide +kernel))) fun t => ⟨.bl true, H, I.tok t, rfl, q⟩
    · cases hi
  | non => cases hi
  | bl _ => cases hi
  | int _ => cases hi
  | str _ => cases hi
  | byt _ => cases hi
  | flt _ => cases hi
end
end L2
set_option Elab.async false
set_option linter.all false
set_option maxRecDepth 100000
namespace L2
open PySem PySem.Spec PyProof.Rows
section
variable {X : Cx} {pins : List (Addr × Obj)} {σ : St} {H : Hp} {s : Shared}
end
section
variable {M : Model} {A : Around} {E : Value → Shared → Prop} {s : Shared}
end
section
variable {X : Cx} {e o c : Expr} {es : List Expr} {a b : List Stmt} {x m : Str} {p pos apos : Pos} {ta : TE} {t : TA} {tc : TT} {f C : Addr} {fd : FuncData} {ps : List Str} {sp : Sp} {k : Nat}
end
end L2
set_option Elab.async false
set_option linter.all false
set_option maxRecDepth 100000
namespace L2
open PySem PySem.Spec PyProof.Rows
noncomputable def isTyp (v : Value) : Bool := match v with
  | .type s => s == "type"
  | _ => false
noncomputable def isNew (v : Option Value) : Bool := match v with
  | some (.builtin s) => s == "ValueError.__new__"
  | _ => false
noncomputable def mroC (C : Addr) (l : List Value) : Bool := match l with
  | .ref C1 :: bm => C1 == C && xTail bm
  | _ => false
noncomputable def xOb (C : Addr) (o : Obj) : Bool := match o.data with
  | .cls cd => isTyp o.cls && mroC C cd.mro && !cd.hasDel && cd.hasDict && o.slots.size == 6 && isNew (o.slots.getD 4 none)
  | _ => false
theorem isTyp_eq {v : Value} (h : isTyp v = true) : v = .type "type" := by
  cases v with
  | type s => rw [eq_of_beq (show (s == "type") = true from h)]
  | _ => cases h
theorem isNew_eq {v : Option Value} (h : isNew v = true) : v = some (.builtin "ValueError.__new__") := by
  cases v with
  | none => cases h
  | some v =>
    cases v with
    | builtin s => rw [eq_of_beq (show (s == "ValueError.__new__") = true from h)]
    | _ => cases h
theorem mroC_eq {C : Addr} {l : List Value} (h : mroC C l = true) : ∃ bm, l = .ref C :: bm ∧ xTail bm = true := by
  cases l with
  | nil => cases h
  | cons v bm =>
    cases v with
    | ref C1 =>
      have h' : (C1 == C && xTail bm) = true := h
      rw [Bool.and_eq_true] at h'
      exact ⟨bm, by rw [eq_of_beq h'.1], h'.2⟩
    | _ => cases h
theorem six {α : Type} {l : List α} (h : l.length = 6) : ∃ a b c d e f, l = [a, b, c, d, e, f] := by
  obtain ⟨a, l, rfl⟩ := List.exists_cons_of_length_eq_add_one h
  obtain ⟨b, l, rfl⟩ := List.exists_cons_of_length_eq_add_one (Nat.succ.inj h)
  obtain ⟨c, l, rfl⟩ := List.exists_cons_of_length_eq_add_one (Nat.succ.inj (Nat.succ.inj h))
  obtain ⟨d, l, rfl⟩ := List.exists_cons_of_length_eq_add_one (Nat.succ.inj (Nat.succ.inj (Nat.succ.inj h)))
  obtain ⟨e, l, rfl⟩ := List.exists_cons_of_length_eq_add_one (Nat.succ.inj (Nat.succ.inj (Nat.succ.inj (Nat.succ.inj h))))
  obtain ⟨f, l, rfl⟩ := List.exists_cons_of_length_eq_add_one (Nat.succ.inj (Nat.succ.inj (Nat.succ.inj (Nat.succ.inj (Nat.succ.inj h)))))
  have : l = [] := List.eq_nil_of_length_eq_zero (Nat.succ.inj (Nat.succ.inj (Nat.succ.inj (Nat.succ.inj (Nat.succ.inj (Nat.succ.inj h))))))
  subst this
  exact ⟨a, b, c, d, e, f, rfl⟩
theorem xIn_of {K : PySem.W.Frag} {C : Addr} {o : Obj} (h : K.lookup C = some o) (q : xOb C o = true) : xIn K C = true := by
  obtain ⟨oc, dd, od, ⟨sl⟩⟩ := o
  cases od with
  | cls cd =>
    have q' : (isTyp oc && mroC C cd.mro && !cd.hasDel && cd.hasDict && sl.length == 6 && isNew ((Array.mk sl).getD 4 none)) = true := q
    simp only [Bool.and_eq_true, beq_iff_eq, Bool.not_eq_true'] at q'
    obtain ⟨⟨⟨⟨⟨q0, q1⟩, q2⟩, q3⟩, q4⟩, q5⟩ := q'
    obtain ⟨bm, hm, hx⟩ := mroC_eq q1
    obtain ⟨k0, k1, k2, k3, k4, k5, rfl⟩ := six q4
    have e4 : k4 = some (.builtin "ValueError.__new__") := isNew_eq q5
    have e0 := isTyp_eq q0
    obtain ⟨nm, bs, mro, ns, qn, hdc, sn, sub, ab, col, del⟩ := cd
    dsimp only at hm q2 q3
    subst hm q2 q3 e4 e0
    exact xIn_iff.mpr ⟨nm, qn, ns, bs, bm, sn, sub, ab, col, dd, k0, k1, k2, k3, k5, h, hx⟩
  | _ => cases q
theorem xIsa_of {K : PySem.W.Frag} {C D : Addr} {b : Bool} (h1 : PySem.W.isClsIn K D = true) (h2 : PySem.W.typeIn K (.ref D) = some (.type "type")) (h3 : PySem.W.subIn K (.ref C) (.ref D) = some b) : xIsa K C (.ref D) = some b := by
  unfold xIsa
  have h1' : (PySem.W.clsIn K D).isSome = true := h1
  simp only [h1', h2, Bool.true_and, beq_self_eq_true, if_true]
  exact h3
theorem XAt.put {H : Hp} {ea C p : Addr} {dx : Option Addr} (x : XAt H ea C dx) {o : HO} (hp : ∀ φ, H p ≠ some (.ext φ)) : XAt (upd H p o) ea C dx := by
  obtain ⟨tb, e1, e2⟩ := x
  have n1 : ea ≠ p := fun z => hp _ (z ▸ e1)
  refine ⟨tb, by rw [upd_ne n1]; exact e1, ?_⟩
  rcases e2 with e2 | ⟨T, e2, e3, e4⟩
  · exact .inl e2
  · exact .inr ⟨T, e2, by rw [upd_ne (fun z => hp _ (z ▸ e3))]; exact e3, e4⟩
section
variable {P : Program} {w : World} {K : PySem.W.Frag} {mg : Str → Option Value} {base : Heap}
end
end L2
set_option Elab.async false
set_option linter.all false
set_option maxRecDepth 100000
namespace L2
open PySem PySem.Spec PyProof.Rows
end L2
set_option Elab.async false
set_option linter.all false
set_option maxRecDepth 100000
namespace L2
open PySem PySem.Spec PyProof.Rows
end L2
set_option Elab.async false
set_option linter.all false
set_option maxRecDepth 100000
namespace L2
open PySem PySem.Spec PyProof.Rows
end L2
set_option Elab.async false
set_option linter.all false
set_option maxRecDepth 100000
namespace L2
open PySem PySem.Spec PyProof.Rows
section
variable {X : Cx} {pins : List (Addr × Obj)} {σ : List (Option V)} {H : Hp} {s : Shared} {pos : Pos}
end
end L2
set_option Elab.async false
set_option linter.all false
set_option maxRecDepth 100000
namespace L2
open PySem PySem.Spec PyProof.Rows
noncomputable def CDivW (i j : Int) : Prop := 0 < j ∧ j < 340282366920938463463374607431768211456
theorem op_fdivW {X : Cx} : OpR X (binaryOp .FloorDiv) (rI CDivW fun i j => .int (i / j)) := opI fun i j _ _ _ _ _ hc q => by
  have h1 : (0 : Int) < j := hc.1
  have h2 : j < 340282366920938463463374607431768211456 := hc.2
  have h3 : j.natAbs < 2 ^ 128 := by omega
  have h4 : j.natAbs.log2 < 128 := (Nat.log2_lt (by omega)).mpr h3
  exact floordiv_int (by omega) (by rw [Int.fdiv_eq_ediv_of_nonneg i (by omega)]; exact q) (.inl (PyProof.noPylong_of_log2 (by omega)))
end L2
set_option Elab.async false
set_option linter.all false
set_option maxRecDepth 100000
namespace L2
open PySem PySem.Spec PyProof.Rows
section
variable {M : Model} {A : Around} {E : Value → Shared → Prop} {s : Shared}
end
section
variable {X : Cx} {e : Expr} {pos : Pos}
end
end L2
set_option Elab.async false
set_option linter.all false
set_option maxRecDepth 100000
namespace L2
open PySem PySem.Spec PyProof.Rows
section
variable {X : Cx}
end
end L2
set_option Elab.async false
set_option linter.all false
set_option maxRecDepth 100000
namespace L2
open PySem PySem.Spec PyProof.Rows
section
variable {M : Model} {A : Around} {E : Value → Shared → Prop} {s : Shared}
end
section
variable {X : Cx}
end
end L2
set_option Elab.async false
set_option linter.all false
set_option maxRecDepth 100000
namespace L2
open PySem PySem.Spec PyProof.Rows
section
variable {X : Cx} {e : Expr} {es : List Expr} {pos : Pos} {te : XTE} {ta : TE}
theorem boot_repr' : bootBuiltins "repr" = some (.builtin "repr") := by decide +kernel
end
end L2
set_option Elab.async false
set_option linter.all false
set_option maxRecDepth 100000
namespace L2
open PySem PySem.Spec PyProof.Rows
section
variable {prog : Program} {w : World} {A : Around} {E : Value → Shared → Prop} {s : Shared} {K : PySem.W.Frag} {C x dx : Addr} {ox : Obj} {name : Str} {v : Value} {mA : Str → Option Value} {ns : List Str}
theorem x_set2 {vs : Array Value} {Q : Unit → Shared → Prop} (X : K.In s.heap) (xi : xIn K C = true) (hx : s.heap.get? x = some ox) (hc : ox.cls = .ref C) (hd : ox.data = .fields vs) (hdn : ox.dict = some dx) (hN : s.heap.Ns1 dx mA) (hW : PySem.Within mA ns) (hl : ns.length ≤ 100)
    (hs : PySem.W.findIn K (.ref C) "__setattr__" = some (some (.builtin "object.__setattr__"))) (ha : PySem.W.findIn K (.ref C) name = some none)
    (h : ∀ h', h'.Ns1 dx (fun y => if y = name then some v else mA y) → (∀ b o, b ≠ dx → s.heap.get? b = some o → h'.get? b = some o) →
      Q () { s with heap := h', toks := s.toks + 2 }) :
    wpAny (model prog w) A (setAttr (.ref x) name v) Q E s := by
  have SF := PySem.F.store_object
  obtain ⟨cd, bm, hcd, hmro, hxt, hdict⟩ := xcd xi
  obtain ⟨od, _, _, hod, _⟩ := id hN
  have I : PySem.W.InstAt s.heap x ox C (some od) := ⟨hx, hc, by unfold PySem.W.notCls; rw [hd], by rw [hdn]; exact hod⟩
  refine PySem.W.set_plain X I hs ?_
  have sub : PySem.W.Looks (model prog w) s.heap (isInstance (.ref x) (.type "object")) true := I.type.andThen (PySem.W.looks_mroIn X (xmro xi (by decide +kernel)))
  refine codeAny_call_builtin SF.slot.plain SF.entry (@PySem.W.check_slot (model prog w) _ _ { s with toks := s.toks + 1 } "object.__setattr__" "object" "__setattr__" (.ref x) [.str name s.toks, v] [] _ SF.kind SF.split sub (SF.args (.ref x) (.str name s.toks) v) ?_)
  have hm : PySem.W.Looks (model prog w) s.heap (mroOf (.ref C)) cd.mro := (PySem.W.looks_clsIn X hcd).andThen .now
  rw [PySem.W.osa_eq, refuse_eq]
  refine wpAny_bind (wpAny_bind (I.type.here (s := { s with toks := s.toks + 1 }) (wpAny_bind (hm.here (s := { s with toks := s.toks + 1 }) ?_))))
  rw [hmro, refuseLoop_ref, x_refuse _ hxt]
  refine wpAny_pure (wpAny_bind (I.type.here (s := { s with toks := s.toks + 1 }) (wpAny_bind ((PySem.W.looks_findIn X ha).here (s := { s with toks := s.toks + 1 }) (wpAny_bind (wpAny_pure ?_))))))
  dsimp only
  unfold PySem.Builtin.ObjectAttr.storeInOwnDict
  refine wpAny_bind (wpAny_pure ?_)
  rw [if_neg (by simp)]
  refine wpAny_bind (wpAny_bind (wpAny_loadPart hx ?_))
  rw [hc]
  dsimp only
  refine wpAny_bind ((PySem.W.looks_clsIn X hcd).here (s := { s with toks := s.toks + 1 }) ?_)
  rw [hdict, hdn]
  refine wpAny_pure (a := some dx) ?_
  show wpAny _ _ (PySem.Builtin.ObjectAttr.storeInDict dx (.str name s.toks) name v) _ _ _
  unfold PySem.Builtin.ObjectAttr.storeInDict PySem.Builtin.ObjectAttr.newKeyGuard
  refine wpAny_bind (wpAny_pure (wpAny_bind (wpAny_nsSet1 (s := { s with toks := s.toks + 1 }) hN fun h' hn' hs' => ?_)))
  obtain ⟨oD, esD, epD, hoD, hdD, hcD⟩ := hn'.count (Within.cons name v hW)
  refine wpAny_bind (wpAny_lookBehind hoD (by rw [hdD]; exact pastItsLine_dict (Nat.le_trans hcD (by rw [List.length_cons, sizeLine_eq]; omega))) ?_)
  exact wpAny_pure (h h' hn' fun b o hb e => (hs'.2 b hb).trans e)
end
noncomputable def XdE (dx : Addr) (fs : List (Str × V)) : Heap → Prop := fun h => ∃ mA, h.Ns1 dx mA ∧ ∀ f, RelO (fs.lookup f) (mA f)
theorem xde_ok {P : Program} {w : World} {H : Hp} {h : Heap} {dx : Addr} {fs : List (Str × V)} (x : XdE dx fs h) : ObjOk P w H h dx (.ext (XdE dx fs)) := by
  obtain ⟨mA, ⟨od, es, ep, e, c⟩, r⟩ := id x
  exact ⟨x, ⟨od, e⟩, fun h1 h2 ⟨mA, ⟨od, es, ep, e, c⟩, r⟩ k => ⟨mA, ⟨od, es, ep, k _ e, c⟩, r⟩⟩
theorem lookup_out {fs : List (Str × V)} {f : Str} (h : f ∉ fs.map (·.1)) : fs.lookup f = none := by
  induction fs with
  | nil => rfl
  | cons p r ih =>
    simp only [List.map_cons, List.mem_cons, not_or] at h
    rw [List.lookup_cons, show (f == p.1) = false from beq_eq_false_iff_ne.mpr h.1]
    exact ih h.2
section
variable {X : Cx} {o e value : Expr} {es : List Expr} {f x : Str} {p apos pos pos' tpos : Pos} {ta tv : TE} {t : TA} {C fa : Addr}
noncomputable def sXFldE (K : PySem.W.Frag) (ta tv : TE) (f : Str) : TS := fun D σ H => tv σ H fun y H1 => ta σ H1 fun x H2 => ∃ ea C tb, x = .ref ea ∧ H2 ea = some (.ext (ExO ea C none tb)) ∧ XC K C ∧ NoAttr K C f ∧
  ∀ dx, H2 dx = none → dx ≠ ea → D.nx σ (upd (upd H2 ea (.ext (ExO ea C (some dx) tb))) dx (.ext (XdE dx [(f, y)])))
theorem ps_xfldE (ha : PE X o ta) (hv : PE X value tv) (hs : swapsWith value (some (.Attribute o f pos')) pos.line X.env = pure false) : PS X (.Assign [.Attribute o f pos'] value pos) (sXFldE X.K ta tv f) := by
  intro pins s σ H D I h
  refine plainObj_wpAny_Assign_Attribute (thn (hv pins s σ H _ I h) fun u s1 ⟨y, H1, I1, ry, q⟩ => thn (ha pins s1 σ H1 _ I1 q) fun ov s2 zz_ => ?_) hs
  obtain ⟨x, H2, I2, rx, ea, C, tb, ex, e1, c, n, q2⟩ := zz_
  subst ex
  obtain rfl : ov = Value.ref ea := rx
  obtain ⟨⟨oe, vs, hx, hcl, hdx, hd, hz, h1⟩, _, _⟩ := (show ObjOk X.prog X.w H2 s2.heap ea (.ext (ExO ea C none tb)) from I2.hok ea _ e1)
  refine x_set I2.kIn c.xi hx hcl hd hdx c.sa n fun h' dx hp k1 k2 k3 => ⟨σ, _, ?_, q2 dx (I2.hok.fresh hp) (Nat.ne_of_gt (Nat.lt_of_lt_of_le (Heap.lt_size hx) hp))⟩
  refine I2.two (by rw [e1]; exact True.intro) hp k3 ⟨_, k1⟩ (exo_ok ⟨_, _, k1, hcl, rfl, hd, hz, h1⟩) (xde_ok ⟨_, k2, fun g => ?_⟩)
  by_cases z : g = f
  · subst z; simp [List.lookup]; exact ry
  · have : (g == f) = false := by simp [z]
    simp [List.lookup, this, z]; exact True.intro
noncomputable def sXFld2 (K : PySem.W.Frag) (ta tv : TE) (f : Str) : TS := fun D σ H => tv σ H fun y H1 => ta σ H1 fun x H2 => ∃ ea C tb dx fs, x = .ref ea ∧ H2 ea = some (.ext (ExO ea C (some dx) tb)) ∧ H2 dx = some (.ext (XdE dx fs)) ∧ fs.length ≤ 100 ∧ XC K C ∧ NoAttr K C f ∧
  D.nx σ (upd H2 dx (.xd ((f, y) :: fs)))
theorem ps_xfld2 (ha : PE X o ta) (hv : PE X value tv) (hs : swapsWith value (some (.Attribute o f pos')) pos.line X.env = pure false) : PS X (.Assign [.Attribute o f pos'] value pos) (sXFld2 X.K ta tv f) := by
  intro pins s σ H D I h
  refine plainObj_wpAny_Assign_Attribute (thn (hv pins s σ H _ I h) fun u s1 ⟨y, H1, I1, ry, q⟩ => thn (ha pins s1 σ H1 _ I1 q) fun ov s2 zz_ => ?_) hs
  obtain ⟨x, H2, I2, rx, ea, C, tb, dx, fs, ex, e1, e2, hl, c, n, q2⟩ := zz_
  subst ex
  obtain rfl : ov = Value.ref ea := rx
  obtain ⟨⟨oe, vs, hx, hcl, hdx, hd, hz, h1⟩, _, _⟩ := (show ObjOk X.prog X.w H2 s2.heap ea (.ext (ExO ea C (some dx) tb)) from I2.hok ea _ e1)
  obtain ⟨⟨mA, hN, hr⟩, _, _⟩ := (show ObjOk X.prog X.w H2 s2.heap dx (.ext (XdE dx fs)) from I2.hok dx _ e2)
  have hW : PySem.Within mA (fs.map (·.1)) := fun g hg => by
    rcases Classical.em (g ∈ fs.map (·.1)) with z | z
    · exact z
    · have := hr g
      rw [lookup_out z] at this
      cases hm : mA g with
      | none => exact absurd hm hg
      | some u => rw [hm] at this; exact False.elim this
  refine x_set2 I2.kIn c.xi hx hcl hd hdx hN hW (by rw [List.length_map]; exact hl) c.sa n fun h' k1 k2 => ⟨σ, _, ?_, q2⟩
  obtain ⟨od, _, _, hod, _⟩ := id k1
  refine I2.write (x := dx) (e := dx) (by rw [e2]; exact True.intro) (.inl rfl) k2 ⟨_, hod⟩ ⟨_, k1, fun g => ?_⟩
  by_cases z : g = f
  · subst z; simp [List.lookup]; exact ry
  · have : (g == f) = false := by simp [z]
    simp only [List.lookup, this, z, if_false]; exact hr g
inductive rIsX0_P (K : PySem.W.Frag) (xs : List V) (H : Hp) (Q : VK) : Prop
  | mk (ea C c b : _) (h1 : xs = [.ref ea, c]) (h2 : XAt H ea C none) (h4 : XC K C) (h5 : xIsa K C c = some b) (h6 : Q (.bl b) H) : rIsX0_P K xs H Q
noncomputable def rIsX0 (K : PySem.W.Frag) : List V → Hp → VK → Prop := fun xs H Q => rIsX0_P K xs H Q
theorem x_inst0 {pins : List (Addr × Obj)} {σ : St} {H : Hp} {s : Shared} {ea C : Addr} (I : Inv X pins σ H s) (x : XAt H ea C none) : ∃ (ox : Obj), PySem.W.InstAt s.heap ea ox C none := by
  obtain ⟨tb, e1, _⟩ := x
  obtain ⟨⟨oe, vs, hx, hcl, hdx, hdt, hz, h1⟩, _, _⟩ := (show ObjOk X.prog X.w H s.heap ea (.ext (ExO ea C none tb)) from I.hok ea _ e1)
  exact ⟨oe, hx, hcl, by unfold PySem.W.notCls; rw [hdt], by rw [hdx]; exact True.intro⟩
theorem call_isX0 : CallR X (.builtin "isinstance") (rIsX0 X.K) := by
  intro pins s σ H xs us Q I r h
  obtain ⟨ea, C, c, b, rfl, xa, xc, hi, q⟩ := h
  obtain ⟨u, w', rfl, ru, rw'⟩ := vals2 r
  cases (show u = Value.ref ea from ru)
  obtain ⟨ox, J⟩ := x_inst0 I xa
  cases c with
  | ref D =>
    cases (show w' = Value.ref D from rw')
    simp only [xIsa] at hi
    split at hi
    · rename_i hq
      simp only [Bool.and_eq_true, beq_iff_eq] at hq
      obtain ⟨q1, q2⟩ := hq
      refine x_isi I.kIn J xc xc.gt xc.tk (b := b) (fun _ h' X' => PySem.W.looks_typeIn X' q2) (fun _ h' X' => ?_) (fun z => ?_) (fun _ h' X' => PySem.W.looks_subIn X' hi) fun t => ⟨.bl b, H, I.tok t, rfl, q⟩
      · unfold PySem.W.clsIn at q1
        split at q1
        · rename_i c' d' cd' sl' ho
          intro A' Q' E' s' k q
          unfold isType loadHead
          exact wpAny_bind (wpAny_loadPart (k _ _ (X' _ _ ho)) (wpAny_pure q))
        · cases q1
      · have z' : C = D := Value.ref.inj (beq_iff_eq.mp z)
        subst z'
        obtain ⟨cd, bm, hcd, hmro, _, _⟩ := xcd xc.xi
        have e2 : PySem.W.mroIn X.K C (.ref C) = some true := by
          unfold PySem.W.mroIn
          rw [hcd, Option.bind_some, hmro, if_neg (by simp)]
          simp
        have e3 : PySem.W.subIn X.K (.ref C) (.ref C) = some true := e2
        rw [e3] at hi
        exact (Option.some.inj hi).symm
    · cases hi
  | ty T =>
    cases (show w' = Value.type T from rw')
    simp only [xIsa] at hi
    split at hi
    · rename_i hq
      rw [beq_iff_eq] at hq
      subst hq
      cases hi
      refine x_isi I.kIn J xc xc.gt xc.tk (b := true) (fun _ h' X' => PySem.W.Looks.of_pure (by kernel_rfl)) (fun _ h' X' => PySem.W.Looks.of_pure rfl) (fun _ => rfl) (fun _ h' X' => PySem.W.looks_mroIn X' (xmro xc.xi (by decide +kernel))) fun t => ⟨.bl true, H, I.tok t, rfl, q⟩
    · cases hi
  | non => cases hi
  | bl _ => cases hi
  | int _ => cases hi
  | str _ => cases hi
  | byt _ => cases hi
  | flt _ => cases hi
noncomputable def rInL : R2 := fun x y H Q => ∃ a xs d, y = .ref a ∧ DV H (.ref a) (.list xs) ∧ DV H x d ∧ SeqAt.shaped (PyData.list xs) = true ∧ SeqAt.shaped d = true ∧ (∀ z ∈ xs, SeqAt.noMix z d = true) ∧ Q (.bl (decide (countIn d xs ≠ 0))) H
theorem op_inL (hu : X.A.units + 65 < cLine) : OpR X (compareOp .In) rInL := by
  intro pins s σ H x y v u Q I rx ry h
  obtain ⟨a, xs, d, rfl, hc, hd, sc, sd, hm, q⟩ := h
  obtain ⟨as, ra⟩ := hc.reads I.hok ry
  obtain ⟨bs, rb⟩ := hd.reads I.hok rx
  exact in_list_dataH ra rb sc sd hu hm ⟨.bl _, H, I, rfl, q⟩
end
inductive IV (H : Hp) : V → PyData → Prop
  | dat {x d} : DV H x d → d.hasDict = false → IV H x d
  | dic {a k n} : H a = some (.dK [(.inr k, .int n)]) → IV H (.ref a) (.dict [(.str k, .int n)])
inductive IVs (H : Hp) : List V → List PyData → Prop
  | nil : IVs H [] []
  | cons {x xs d ds} : IV H x d → IVs H xs ds → IVs H (x :: xs) (d :: ds)
theorem IV.same {H H' : Hp} (e : Same H H') {v : V} {d : PyData} (h : IV H v d) : IV H' v d := by
  cases h with
  | dat a b => exact .dat (a.same e) b
  | dic a => exact .dic (e _ _ a)
theorem IVs.same {H H' : Hp} (e : Same H H') {v : List V} {d : List PyData} (h : IVs H v d) : IVs H' v d := by
  induction h with
  | nil => exact .nil
  | cons a _ ih => exact .cons (a.same e) ih
section
variable {P : Program} {w : World} {H : Hp} {h : Heap}
theorem IV.reads (ok : HOk P w H h) {v : V} {d : PyData} {u : Value} (x : IV H v d) (r : RelV v u) : ∃ as, Reads h u d as ∧ (d.hasDict = true → sysModules ∉ as) := by
  cases x with
  | dat a b =>
    obtain ⟨as, z⟩ := a.reads ok r
    exact ⟨as, z, fun z => by rw [b] at z; cases z⟩
  | @dic a k n rd =>
    cases (show u = Value.ref a from r)
    obtain ⟨_, ns, vs, kv, o, es, ep, e, x, d, _, ps, _⟩ := (show ObjOk P w H h a (.dK _) from ok a _ rd)
    cases kv with
    | cons r0 t0 =>
      cases t0
      obtain ⟨k0, r0⟩ := r0
      generalize hes : es.toList = el at ps
      cases ps with
      | cons i1 i2 i3 =>
        cases i3
        rename_i q _ en
        obtain ⟨t, ht⟩ := (show ∃ t, q.2 = Value.int n t from r0)
        obtain ⟨t2, ht2⟩ : ∃ t2, en.key = .str k t2 := by
          rw [← k0] at i1
          have i1 : keyIs (.inr k) en.key = true := i1
          rcases keyIs_shape i1 with ⟨i, u, z, e⟩ | ⟨y, u, z, e⟩
          · cases z
          · cases z; exact ⟨u, e⟩
        refine ⟨_, .dict e x.1 d (by rw [hes]; simp only [List.map_cons, List.map_nil]; rw [ht2]; exact .cons (.str k t2) .nil) (by rw [hes]; simp only [List.map_cons, List.map_nil]; rw [i2, ht]; exact .cons (.int n t) .nil), ?_⟩
        intro _ m
        simp at m
        rw [← m] at ns
        simp at ns
theorem IVs.reads (ok : HOk P w H h) {vs : List V} {ds : List PyData} (x : IVs H vs ds) : ∀ {us : List Value}, Vals vs us → PyData.showableAll ds = true → (∀ t ∈ PyData.shownAll ds, t.length ≤ sizeLine) →
    (∃ as, ReadsAll h us ds as) ∧ ∃ bs, ReadAtMost h (PyData.depthAll ds) bs ∧ ReprAllK P w bs h (PyData.depthAll ds) us (PyData.shownAll ds) := by
  induction x with
  | nil => intro us r _ _; cases r; exact ⟨⟨_, .nil⟩, [], (fun b hb => by cases hb), .nil⟩
  | @cons x xs d ds a _ ih =>
    intro us r hs hl
    cases r with
    | cons r1 r2 =>
      simp only [PyData.showableAll, Bool.and_eq_true] at hs
      simp only [PyData.shownAll, List.mem_cons] at hl
      obtain ⟨⟨as, z⟩, bs, b1, b2⟩ := ih r2 hs.2 fun t ht => hl t (.inr ht)
      obtain ⟨as', z', nz⟩ := a.reads ok r1
      obtain ⟨cs, c1, c2⟩ := ReprAllK.of_readsAll (prog := P) (w := w) (ReadsAll.cons z' .nil) (by simp [PyData.showableAll, hs.1]) (fun hx => by simpa using nz (by simpa [PyData.hasDictAll] using hx)) (fun t ht => hl t (.inl (by simpa [PyData.shownAll] using ht)))
      refine ⟨⟨_, .cons z' z⟩, cs ++ bs, ?_, ?_⟩
      · refine ReadAtMost.append (c1.mono ?_) (b1.mono ?_) <;> (simp only [PyData.depthAll]; omega)
      · cases c2 with
        | cons k1 k2 =>
          refine ReprAllK.cons ?_ (b2.more_le (fun b hb => List.mem_append_right _ hb) (by simp only [PyData.depthAll]; omega))
          have q1 := (ReprAllK.cons k1 ReprAllK.nil).more_le (as' := cs ++ bs) (d' := PyData.depthAll (d :: ds)) (fun b hb => List.mem_append_left _ hb) (by simp only [PyData.depthAll]; omega)
          cases q1 with
          | cons q1 _ => exact q1
end
section
variable {X : Cx}
noncomputable def rReprD : List V → Hp → VK → Prop := fun xs H Q => ∃ a vs ds, xs = [V.ref a] ∧ H a = some (.lst vs) ∧ IVs H vs ds ∧ PyData.showableAll ds = true ∧ PyData.depthAll ds ≤ 50 ∧ (PyData.list ds).shown.length ≤ sizeLine ∧ Q (.str (PyData.list ds).shown) H
theorem call_reprD (hg : X.A.guards = some []) (hu : X.A.units + 64 < cLine) : CallR X (.builtin "repr") rReprD := by
  intro pins s σ H xs us Q I r h
  obtain ⟨a, vs, ds, rfl, ha, hd, hs, hp, hl, q⟩ := h
  obtain ⟨u, rfl, ru⟩ := vals1 r
  cases ru
  obtain ⟨_, its, n, rv, e⟩ := (show ObjOk X.prog X.w H s.heap a (.lst _) from I.hok a _ ha)
  have hz' : (listText (PyData.shownAll ds)).length ≤ sizeLine := by simpa only [PyData.shown] using hl
  obtain ⟨⟨as, ra⟩, bs, hb, hk⟩ := hd.reads I.hok rv hs (fun t ht => Nat.le_trans (listText_mem_le ht) hz')
  have R : Reads s.heap (.ref a) (.list ds) (a :: as) := .list e rfl rfl ra
  have hna : a ∉ bs := not_mem_of_deeper R (by simp only [PyData.depth]; omega) hb
  have S : ShowsBy X.prog X.w s.heap a (.list ds) "list" "list.__repr__" := by
    refine ⟨PySem.F.slot_list_repr.toG, PySem.F.slot_list_str, PySem.F.slot_list_format, fun s' hk0 => ⟨_, hk0 _ _ e, rfl⟩, fun A E s' Q hg hu hk0 hQ => ?_⟩
    simp only [PyData.depth] at hu
    simp only [PyData.shown] at hQ
    cases its with
    | nil =>
      cases ra
      simp only [PyData.shownAll, listText_nil] at hQ
      exact call_list_repr_empty ⟨_, hk0 _ _ e, rfl⟩ (hk0 _ _ e) rfl (hQ s'.heap _ _ fun _ _ e => e)
    | cons x l =>
      exact call_list_reprK e rfl rfl hna (by simpa using hk.length_eq) (fun i y e => hk.item i y (by simpa using e)) hg (fun b _ => Clear.nil b) hu hk0 hQ hz'
  refine call_repr_slot (by omega) (S.typeIs s fun _ _ z => z) S.slotRepr (S.call X.A.in1 X.xe s _ hg (by show X.A.units + 1 + (PyData.list ds).depth < cLine; simp only [PyData.depth]; omega) (fun _ _ z => z) fun h' u tk hk => ⟨_, _, rfl, ?_⟩)
  exact ⟨.str _, H, I.kept (t' := tk) hk, ⟨_, rfl⟩, q⟩
end
theorem Room.u65 {k : Nat} {A : Around} (r : Room k A) : A.units + 65 < cLine := by have := r.un; omega
noncomputable def refN : Value → Option Addr
  | .ref a => some a
  | _ => none
theorem ref_has (D : Addr) : ∀ l : List Value, l.contains (.ref D) = (l.map refN).contains (some D)
  | [] => rfl
  | v :: l => by
    rw [List.map_cons, List.contains_cons, List.contains_cons, ref_has D l]
    congr 1
    cases v with
    | ref c =>
      show (Value.ref D == Value.ref c) = (some D == some c)
      by_cases e : D = c
      · subst e; simp
      · rw [beq_eq_false_iff_ne.mpr (fun z => e (Value.ref.inj z)), beq_eq_false_iff_ne.mpr (fun z => e (Option.some.inj z))]
    | _ => rfl
noncomputable def XMro (K : PySem.W.Frag) (C : Addr) (l : List (Option Addr)) : Prop := ∃ cd, PySem.W.clsIn K C = some cd ∧ cd.mro.map refN = l
noncomputable def mroOb (l : List (Option Addr)) (o : Obj) : Bool := match o.data with
  | .cls cd => cd.mro.map refN == l
  | _ => false
theorem XMro.of {K : PySem.W.Frag} {C : Addr} {o : Obj} {l : List (Option Addr)} (h : K.lookup C = some o) (q : mroOb l o = true) : XMro K C l := by
  obtain ⟨oc, od, odt, osl⟩ := o
  unfold mroOb at q
  cases odt with
  | cls cd =>
    refine ⟨cd, ?_, eq_of_beq q⟩
    unfold PySem.W.clsIn
    rw [h]
  | _ => cases q
noncomputable def ClsT (K : PySem.W.Frag) (D : Addr) : Prop := PySem.W.isClsIn K D = true ∧ PySem.W.typeIn K (.ref D) = some (.type "type")
theorem xIsa_mro {K : PySem.W.Frag} {C D : Addr} {l : List (Option Addr)} (m : XMro K C l) (hl : l ≠ []) (d : ClsT K D) : xIsa K C (.ref D) = some (l.contains (some D)) := by
  obtain ⟨cd, h1, h2⟩ := m
  refine xIsa_of d.1 d.2 ?_
  show PySem.W.mroIn K C (.ref D) = _
  unfold PySem.W.mroIn
  rw [h1, Option.bind_some, if_neg, ref_has, h2]
  intro z
  rw [List.isEmpty_iff] at z
  rw [z] at h2
  exact hl h2.symm
noncomputable def XE (K : PySem.W.Frag) (H : Hp) (e : V) (C : Addr) : Prop := XC K C ∧ ∃ ea, e = .ref ea ∧ (XAt H ea C none ∨ ∃ dx fs, XAt H ea C (some dx) ∧ H dx = some (.xd fs))
theorem XAt.same {H H' : Hp} (s : Same H H') {ea C : Addr} {dx : Option Addr} (h : XAt H ea C dx) : XAt H' ea C dx := by
  obtain ⟨tb, h1, h2⟩ := h
  refine ⟨tb, s _ _ h1, h2.imp id fun ⟨T, a, b, c⟩ => ⟨T, a, s _ _ b, c⟩⟩
theorem XE.same {K : PySem.W.Frag} {H H' : Hp} (s : Same H H') {e : V} {C : Addr} (h : XE K H e C) : XE K H' e C := by
  obtain ⟨c, ea, r, h⟩ := h
  exact ⟨c, ea, r, h.imp (fun h => h.same s) fun ⟨dx, fs, a, b⟩ => ⟨dx, fs, a.same s, s _ _ b⟩⟩
noncomputable def XMd (H : Hp) (C : Addr) (fs : List (Str × V)) (e : V) : Prop := ∃ ea dx, e = .ref ea ∧ XAt H ea C (some dx) ∧ H dx = some (.xd fs)
theorem XMd.same {H H' : Hp} (s : Same H H') {C : Addr} {fs : List (Str × V)} {e : V} (h : XMd H C fs e) : XMd H' C fs e := by
  obtain ⟨ea, dx, r, a, b⟩ := h
  exact ⟨ea, dx, r, a.same s, s _ _ b⟩
theorem XMd.xe {K : PySem.W.Frag} {H : Hp} {C : Addr} {fs : List (Str × V)} {e : V} (h : XMd H C fs e) (c : XC K C) : XE K H e C := by
  obtain ⟨ea, dx, r, a, b⟩ := h
  exact ⟨c, ea, r, .inr ⟨dx, fs, a, b⟩⟩
inductive XMl (H : Hp) : List (Addr × List (Str × V)) → List V → Prop
  | nil : XMl H [] []
  | cons {c cs e es} : XMd H c.1 c.2 e → XMl H cs es → XMl H (c :: cs) (e :: es)
theorem XMl.same {H H' : Hp} (s : Same H H') {cs : List (Addr × List (Str × V))} {es : List V} (h : XMl H cs es) : XMl H' cs es := by
  induction h with
  | nil => exact .nil
  | cons a _ ih => exact .cons (a.same s) ih
theorem XMl.inv {H : Hp} {c : Addr × List (Str × V)} {cs : List (Addr × List (Str × V))} {es : List V} (h : XMl H (c :: cs) es) : ∃ e es', es = e :: es' ∧ XMd H c.1 c.2 e ∧ XMl H cs es' := by
  cases h with
  | cons a b => exact ⟨_, _, rfl, a, b⟩
theorem XMl.len {H : Hp} {cs : List (Addr × List (Str × V))} {es : List V} (h : XMl H cs es) : es.length = cs.length := by
  induction h with
  | nil => rfl
  | cons _ _ ih => rw [List.length_cons, List.length_cons, ih]
theorem XMl.at_ {H : Hp} {cs : List (Addr × List (Str × V))} {es : List V} (h : XMl H cs es) : ∀ {i : Nat} {c : Addr × List (Str × V)}, cs[i]? = some c → ∃ e, es[i]? = some e ∧ XMd H c.1 c.2 e := by
  induction h with
  | nil => intro i c e; cases e
  | cons a _ ih =>
    intro i c e
    cases i with
    | zero => cases e; exact ⟨_, rfl, a⟩
    | succ i => exact ih e
section
variable {X : Cx} {o e e2 value : Expr} {es : List Expr} {f g x : Str} {p apos pos pos' tpos : Pos} {ta tv : TE} {t : TA} {C fa : Addr}
noncomputable def rIsXE (K : PySem.W.Frag) : List V → Hp → VK → Prop := fun xs H Q => ∃ e C c b, xs = [e, c] ∧ XE K H e C ∧ xIsa K C c = some b ∧ Q (.bl b) H
theorem call_isXE : CallR X (.builtin "isinstance") (rIsXE X.K) := by
  intro pins s σ H xs us Q I r h
  obtain ⟨e, C, c, b, rfl, ⟨xc, ea, rfl, h⟩, hi, q⟩ := h
  rcases h with h | ⟨dx, fs, h, hd⟩
  · exact call_isX0 pins s σ H _ us Q I r ⟨ea, C, c, b, rfl, h, xc, hi, q⟩
  · exact call_isX pins s σ H _ us Q I r ⟨ea, C, dx, fs, c, b, rfl, h, hd, xc, hi, q⟩
noncomputable def sp_xi (C : Addr) (f : Str) : Sp := fun vs H Q _ => ∃ (ea : Addr) (v : V), vs = [.ref ea, v] ∧ H ea = some (.ext (ExO ea C none .none)) ∧ ∀ dx, H dx = none → dx ≠ ea → Q .non (upd (upd H ea (.ext (ExO ea C (some dx) .none))) dx (.xd [(f, v)]))
theorem mk_at {H : Hp} {ea dx : Addr} {o : HO} {fs : List (Str × V)} (h1 : H ea = none) (h2 : upd H ea o dx = none) (h3 : dx ≠ ea) :
    Same H (upd (upd (upd H ea o) ea (.ext (ExO ea C (some dx) .none))) dx (.xd fs)) ∧ XMd (upd (upd (upd H ea o) ea (.ext (ExO ea C (some dx) .none))) dx (.xd fs)) C fs (.ref ea) := by
  rw [upd_ne h3] at h2
  refine ⟨fun b u e => ?_, ea, dx, rfl, ⟨.none, ?_, .inl rfl⟩, upd_same⟩
  · rw [upd_ne (ne_of_none e h2), upd_ne (ne_of_none e h1), upd_ne (ne_of_none e h1)]; exact e
  · rw [upd_ne (Ne.symm h3), upd_same]
noncomputable def tMk (C : Addr) (f : Str) (t : TA) : TE := fun σ H Q => t σ H fun vs H1 => ∃ x, vs = [x] ∧ ∀ (e : V) (H2 : Hp), Same H1 H2 → XMd H2 C [(f, x)] e → Q e H2
theorem pe_mk {k : Nat} {fd : FuncData} {ps : List Str} (M : XMk X.K C fa) (F : FnOk X.prog X.w X.K X.mg X.base CX0 k fa fd ps (sp_xi C f)) (hr : Room (k + 1) X.A) (hg : Gl X x) (hm : X.mg x = some (.ref C)) (hb : Binds X.K fd ps [])
    (ha : PA X (e :: es) t) (hdb : (x == ("__debug__" : Str)) = false := by decide) (he : starEach (e :: es) X.env = (false, eval e X.env) :: starEach es X.env := by rfl) (hpl : (backTo pos (starEach es X.env)).any (·.1) = false := by rfl) :
    PE X (.Call (.Name x p) (e :: es) [] pos) (tMk C f t) := by
  intro pins s σ H Q I h
  refine wpAny_Call_Name_kw (ld_glob I hg hm ?_ hdb)
  refine PySem.W.callWith_K (h₀ := X.base) I.ok.mod.kin M.kp (thn (ha pos pins s σ H _ I h) fun us s1 ⟨vs, H1, I1, r, q⟩ => ⟨I1.kIn, ?_⟩) he hpl
  obtain ⟨y, rfl, q⟩ := q
  refine run_xmake M F hr hb I1 r (Nat.le_of_ble_eq_true rfl) fun ea h1 => ⟨ea, y, rfl, upd_same, fun dx h2 h3 => ⟨rfl, ?_⟩⟩
  obtain ⟨a, b⟩ := mk_at (C := C) (fs := [(f, y)]) h1 h2 h3
  exact q _ _ a b
noncomputable def sp_xj (C : Addr) (f g : Str) : Sp := fun vs H Q _ => ∃ (ea : Addr) (v u : V), vs = [.ref ea, v, u] ∧ H ea = some (.ext (ExO ea C none .none)) ∧ ∀ dx, H dx = none → dx ≠ ea → Q .non (upd (upd H ea (.ext (ExO ea C (some dx) .none))) dx (.xd [(g, u), (f, v)]))
noncomputable def tMk2 (C : Addr) (f g : Str) (t : TA) : TE := fun σ H Q => t σ H fun vs H1 => ∃ x y, vs = [x, y] ∧ ∀ (e : V) (H2 : Hp), Same H1 H2 → XMd H2 C [(g, y), (f, x)] e → Q e H2
theorem pe_mk2 {k : Nat} {fd : FuncData} {ps : List Str} (M : XMk X.K C fa) (F : FnOk X.prog X.w X.K X.mg X.base CX0 k fa fd ps (sp_xj C f g)) (hr : Room (k + 1) X.A) (hg : Gl X x) (hm : X.mg x = some (.ref C)) (hb : Binds X.K fd ps [])
    (ha : PA X (e :: es) t) (hdb : (x == ("__debug__" : Str)) = false := by decide) (he : starEach (e :: es) X.env = (false, eval e X.env) :: starEach es X.env := by rfl) (hpl : (backTo pos (starEach es X.env)).any (·.1) = false := by rfl) :
    PE X (.Call (.Name x p) (e :: es) [] pos) (tMk2 C f g t) := by
  intro pins s σ H Q I h
  refine wpAny_Call_Name_kw (ld_glob I hg hm ?_ hdb)
  refine PySem.W.callWith_K (h₀ := X.base) I.ok.mod.kin M.kp (thn (ha pos pins s σ H _ I h) fun us s1 ⟨vs, H1, I1, r, q⟩ => ⟨I1.kIn, ?_⟩) he hpl
  obtain ⟨y, z, rfl, q⟩ := q
  refine run_xmake M F hr hb I1 r (Nat.le_of_ble_eq_true rfl) fun ea h1 => ⟨ea, y, z, rfl, upd_same, fun dx h2 h3 => ⟨rfl, ?_⟩⟩
  obtain ⟨a, b⟩ := mk_at (C := C) (fs := [(g, z), (f, y)]) h1 h2 h3
  exact q _ _ a b
end
end L2
set_option Elab.async false
set_option linter.all false
set_option maxRecDepth 100000
namespace K09
open PySem L2 PySem.NumText PyProof.Rows KC
noncomputable def top (i : Nat) : Stmt := PySem.Challenge.pw_foldlog_k09_refusals_apart.main.body.getD i (.Pass ⟨0, 0, 0, 0⟩)
noncomputable abbrev s_Lcell : Stmt := top 22
theorem sc_Lcell : FnScope ["_law_script", "_law_k"] ["_law_script", "_law_k"] (defScope s_Lcell) := ⟨rfl, rfl, rfl, by decide +kernel, rfl, by decide +kernel, by decide +kernel⟩
noncomputable abbrev s_Lpurse : Stmt := top 23
theorem sc_Lpurse : FnScope ["_law_cell_here"] ["_law_cell_here"] (defScope s_Lpurse) := ⟨rfl, rfl, rfl, by decide +kernel, rfl, by decide +kernel, by decide +kernel⟩
noncomputable abbrev s_Ltake : Stmt := top 24
theorem sc_Ltake : FnScope ["_law_purse_here", "_law_many", "_law_digit", "_law_number_here"] ["_law_purse_here", "_law_many"] (defScope s_Ltake) := ⟨rfl, rfl, rfl, by decide +kernel, rfl, by decide +kernel, by decide +kernel⟩
noncomputable abbrev s_Lnumber : Stmt := top 25
theorem sc_Lnumber : FnScope ["_law_purse_here", "_law_way", "_law_far", "_law_some"] ["_law_purse_here"] (defScope s_Lnumber) := ⟨rfl, rfl, rfl, by decide +kernel, rfl, by decide +kernel, by decide +kernel⟩
noncomputable abbrev s_Lmade : Stmt := top 26
theorem sc_Lmade : FnScope ["_law_numbers", "_law_things", "_law_some"] ["_law_numbers", "_law_things"] (defScope s_Lmade) := ⟨rfl, rfl, rfl, by decide +kernel, rfl, by decide +kernel, by decide +kernel⟩
noncomputable abbrev s_Lkinds : Stmt := top 27
theorem sc_Lkinds : FnScope ["_law_e", "_law_some"] ["_law_e"] (defScope s_Lkinds) := ⟨rfl, rfl, rfl, by decide +kernel, rfl, by decide +kernel, by decide +kernel⟩
noncomputable abbrev s_Lfields : Stmt := top 28
theorem sc_Lfields : FnScope ["_law_some", "_law_found"] ["_law_some"] (defScope s_Lfields) := ⟨rfl, rfl, rfl, by decide +kernel, rfl, by decide +kernel, by decide +kernel⟩
noncomputable abbrev s_Lthing : Stmt := top 29
theorem sc_Lthing : FnScope ["_law_purse_here", "_law_number_here", "_law_some"] ["_law_purse_here"] (defScope s_Lthing) := ⟨rfl, rfl, rfl, by decide +kernel, rfl, by decide +kernel, by decide +kernel⟩
noncomputable abbrev s_law : Stmt := top 30
theorem sc_law : FnScope ["_law_script", "_law_base", "_law_k", "_law_purse_here", "_law_numbers", "_law_things", "_law_rows", "_law_some", "_law_j"] ["_law_script"] (defScope s_law) := ⟨rfl, rfl, rfl, by decide +kernel, rfl, by decide +kernel, by decide +kernel⟩
noncomputable abbrev s_LogError_init : Stmt := inClass (top 1) 0
theorem sc_LogError_init : FnScope ["self", "text"] ["self", "text"] (defScope s_LogError_init) := ⟨rfl, rfl, rfl, by decide +kernel, rfl, by decide +kernel, by decide +kernel⟩
noncomputable abbrev s_NoSpans_init : Stmt := inClass (top 2) 0
theorem sc_NoSpans_init : FnScope ["self", "at"] ["self", "at"] (defScope s_NoSpans_init) := ⟨rfl, rfl, rfl, by decide +kernel, rfl, by decide +kernel, by decide +kernel⟩
noncomputable abbrev s_NoText_init : Stmt := inClass (top 3) 0
theorem sc_NoText_init : FnScope ["self", "at"] ["self", "at"] (defScope s_NoText_init) := ⟨rfl, rfl, rfl, by decide +kernel, rfl, by decide +kernel, by decide +kernel⟩
noncomputable abbrev s_NoTable_init : Stmt := inClass (top 4) 0
theorem sc_NoTable_init : FnScope ["self", "row"] ["self", "row"] (defScope s_NoTable_init) := ⟨rfl, rfl, rfl, by decide +kernel, rfl, by decide +kernel, by decide +kernel⟩
noncomputable abbrev s_Beyond_init : Stmt := inClass (top 5) 0
theorem sc_Beyond_init : FnScope ["self", "row"] ["self", "row"] (defScope s_Beyond_init) := ⟨rfl, rfl, rfl, by decide +kernel, rfl, by decide +kernel, by decide +kernel⟩
noncomputable abbrev s_TooMany_init : Stmt := inClass (top 6) 0
theorem sc_TooMany_init : FnScope ["self", "many"] ["self", "many"] (defScope s_TooMany_init) := ⟨rfl, rfl, rfl, by decide +kernel, rfl, by decide +kernel, by decide +kernel⟩
noncomputable abbrev s_NoMoment_init : Stmt := inClass (top 7) 0
theorem sc_NoMoment_init : FnScope ["self", "found"] ["self", "found"] (defScope s_NoMoment_init) := ⟨rfl, rfl, rfl, by decide +kernel, rfl, by decide +kernel, by decide +kernel⟩
noncomputable abbrev s_NoReading_init : Stmt := inClass (top 8) 0
theorem sc_NoReading_init : FnScope ["self", "found"] ["self", "found"] (defScope s_NoReading_init) := ⟨rfl, rfl, rfl, by decide +kernel, rfl, by decide +kernel, by decide +kernel⟩
noncomputable abbrev s_NoShift_init : Stmt := inClass (top 9) 0
theorem sc_NoShift_init : FnScope ["self", "found"] ["self", "found"] (defScope s_NoShift_init) := ⟨rfl, rfl, rfl, by decide +kernel, rfl, by decide +kernel, by decide +kernel⟩
noncomputable abbrev s_NoName_init : Stmt := inClass (top 10) 0
theorem sc_NoName_init : FnScope ["self", "found"] ["self", "found"] (defScope s_NoName_init) := ⟨rfl, rfl, rfl, by decide +kernel, rfl, by decide +kernel, by decide +kernel⟩
noncomputable abbrev s_NoPlace_init : Stmt := inClass (top 11) 0
theorem sc_NoPlace_init : FnScope ["self", "found"] ["self", "found"] (defScope s_NoPlace_init) := ⟨rfl, rfl, rfl, by decide +kernel, rfl, by decide +kernel, by decide +kernel⟩
noncomputable abbrev s_NoEntry_init : Stmt := inClass (top 12) 0
theorem sc_NoEntry_init : FnScope ["self", "found"] ["self", "found"] (defScope s_NoEntry_init) := ⟨rfl, rfl, rfl, by decide +kernel, rfl, by decide +kernel, by decide +kernel⟩
noncomputable abbrev s_Taken_init : Stmt := inClass (top 13) 0
theorem sc_Taken_init : FnScope ["self", "found"] ["self", "found"] (defScope s_Taken_init) := ⟨rfl, rfl, rfl, by decide +kernel, rfl, by decide +kernel, by decide +kernel⟩
noncomputable abbrev s_NoMinutes_init : Stmt := inClass (top 14) 0
theorem sc_NoMinutes_init : FnScope ["self", "found"] ["self", "found"] (defScope s_NoMinutes_init) := ⟨rfl, rfl, rfl, by decide +kernel, rfl, by decide +kernel, by decide +kernel⟩
noncomputable abbrev s_NoBond_init : Stmt := inClass (top 15) 0
theorem sc_NoBond_init : FnScope ["self", "found"] ["self", "found"] (defScope s_NoBond_init) := ⟨rfl, rfl, rfl, by decide +kernel, rfl, by decide +kernel, by decide +kernel⟩
noncomputable abbrev s_NoPaper_init : Stmt := inClass (top 16) 0
theorem sc_NoPaper_init : FnScope ["self", "found"] ["self", "found"] (defScope s_NoPaper_init) := ⟨rfl, rfl, rfl, by decide +kernel, rfl, by decide +kernel, by decide +kernel⟩
noncomputable abbrev s_NoLine_init : Stmt := inClass (top 17) 0
theorem sc_NoLine_init : FnScope ["self", "found"] ["self", "found"] (defScope s_NoLine_init) := ⟨rfl, rfl, rfl, by decide +kernel, rfl, by decide +kernel, by decide +kernel⟩
noncomputable abbrev s_NoWay_init : Stmt := inClass (top 18) 0
theorem sc_NoWay_init : FnScope ["self", "paper"] ["self", "paper"] (defScope s_NoWay_init) := ⟨rfl, rfl, rfl, by decide +kernel, rfl, by decide +kernel, by decide +kernel⟩
noncomputable abbrev s_Unwritten_init : Stmt := inClass (top 20) 0
theorem sc_Unwritten_init : FnScope ["self", "name"] ["self", "name"] (defScope s_Unwritten_init) := ⟨rfl, rfl, rfl, by decide +kernel, rfl, by decide +kernel, by decide +kernel⟩
noncomputable abbrev s_Unlike_init : Stmt := inClass (top 19) 0
theorem sc_Unlike_init : FnScope ["self", "place", "moment"] ["self", "place", "moment"] (defScope s_Unlike_init) := ⟨rfl, rfl, rfl, by decide +kernel, rfl, by decide +kernel, by decide +kernel⟩
set_option genInjectivity false in
structure Ad where
  c_LogError : Addr
  c_NoSpans : Addr
  c_NoText : Addr
  c_NoTable : Addr
  c_Beyond : Addr
  c_TooMany : Addr
  c_NoMoment : Addr
  c_NoReading : Addr
  c_NoShift : Addr
  c_NoName : Addr
  c_NoPlace : Addr
  c_NoEntry : Addr
  c_Taken : Addr
  c_NoMinutes : Addr
  c_NoBond : Addr
  c_NoPaper : Addr
  c_NoLine : Addr
  c_NoWay : Addr
  c_Unwritten : Addr
  c_Unlike : Addr
  f_Lcell : Addr
  fd_Lcell : FuncData
  f_Lpurse : Addr
  fd_Lpurse : FuncData
  f_Ltake : Addr
  fd_Ltake : FuncData
  f_Lnumber : Addr
  fd_Lnumber : FuncData
  f_Lmade : Addr
  fd_Lmade : FuncData
  f_Lkinds : Addr
  fd_Lkinds : FuncData
  f_Lfields : Addr
  fd_Lfields : FuncData
  f_Lthing : Addr
  fd_Lthing : FuncData
  f_law : Addr
  fd_law : FuncData
  f_LogError_init : Addr
  fd_LogError_init : FuncData
  f_NoSpans_init : Addr
  fd_NoSpans_init : FuncData
  f_NoText_init : Addr
  fd_NoText_init : FuncData
  f_NoTable_init : Addr
  fd_NoTable_init : FuncData
  f_Beyond_init : Addr
  fd_Beyond_init : FuncData
  f_TooMany_init : Addr
  fd_TooMany_init : FuncData
  f_NoMoment_init : Addr
  fd_NoMoment_init : FuncData
  f_NoReading_init : Addr
  fd_NoReading_init : FuncData
  f_NoShift_init : Addr
  fd_NoShift_init : FuncData
  f_NoName_init : Addr
  fd_NoName_init : FuncData
  f_NoPlace_init : Addr
  fd_NoPlace_init : FuncData
  f_NoEntry_init : Addr
  fd_NoEntry_init : FuncData
  f_Taken_init : Addr
  fd_Taken_init : FuncData
  f_NoMinutes_init : Addr
  fd_NoMinutes_init : FuncData
  f_NoBond_init : Addr
  fd_NoBond_init : FuncData
  f_NoPaper_init : Addr
  fd_NoPaper_init : FuncData
  f_NoLine_init : Addr
  fd_NoLine_init : FuncData
  f_NoWay_init : Addr
  fd_NoWay_init : FuncData
  f_Unwritten_init : Addr
  fd_Unwritten_init : FuncData
  f_Unlike_init : Addr
  fd_Unlike_init : FuncData
structure DfM (K : PySem.W.Frag) (C : Addr) (x q : Str) (st : Stmt) (ps : List Str) (f : Addr) (fd : FuncData) : Prop where
  F : Fun K x q st f fd
  b : Binds K fd ps []
  mt : Meth K C x f
structure Txt (K : PySem.W.Frag) (mg : Str → Option Value) (a : Ad) : Prop where
  d_Lcell : Df K mg "_law_cell" s_Lcell ["_law_script", "_law_k"] a.f_Lcell a.fd_Lcell
  d_Lpurse : Df K mg "_law_purse" s_Lpurse ["_law_cell_here"] a.f_Lpurse a.fd_Lpurse
  d_Ltake : Df K mg "_law_take" s_Ltake ["_law_purse_here", "_law_many"] a.f_Ltake a.fd_Ltake
  d_Lnumber : Df K mg "_law_number" s_Lnumber ["_law_purse_here"] a.f_Lnumber a.fd_Lnumber
  d_Lmade : Df K mg "_law_made" s_Lmade ["_law_numbers", "_law_things"] a.f_Lmade a.fd_Lmade
  d_Lkinds : Df K mg "_law_kinds" s_Lkinds ["_law_e"] a.f_Lkinds a.fd_Lkinds
  d_Lfields : Df K mg "_law_fields" s_Lfields ["_law_some"] a.f_Lfields a.fd_Lfields
  d_Lthing : Df K mg "_law_thing" s_Lthing ["_law_purse_here"] a.f_Lthing a.fd_Lthing
  d_law : Df K mg "law" s_law ["_law_script"] a.f_law a.fd_law
  d_LogError_init : DfM K a.c_LogError "__init__" "LogError.__init__" s_LogError_init ["self", "text"] a.f_LogError_init a.fd_LogError_init
  d_NoSpans_init : DfM K a.c_NoSpans "__init__" "NoSpans.__init__" s_NoSpans_init ["self", "at"] a.f_NoSpans_init a.fd_NoSpans_init
  d_NoText_init : DfM K a.c_NoText "__init__" "NoText.__init__" s_NoText_init ["self", "at"] a.f_NoText_init a.fd_NoText_init
  d_NoTable_init : DfM K a.c_NoTable "__init__" "NoTable.__init__" s_NoTable_init ["self", "row"] a.f_NoTable_init a.fd_NoTable_init
  d_Beyond_init : DfM K a.c_Beyond "__init__" "Beyond.__init__" s_Beyond_init ["self", "row"] a.f_Beyond_init a.fd_Beyond_init
  d_TooMany_init : DfM K a.c_TooMany "__init__" "TooMany.__init__" s_TooMany_init ["self", "many"] a.f_TooMany_init a.fd_TooMany_init
  d_NoMoment_init : DfM K a.c_NoMoment "__init__" "NoMoment.__init__" s_NoMoment_init ["self", "found"] a.f_NoMoment_init a.fd_NoMoment_init
  d_NoReading_init : DfM K a.c_NoReading "__init__" "NoReading.__init__" s_NoReading_init ["self", "found"] a.f_NoReading_init a.fd_NoReading_init
  d_NoShift_init : DfM K a.c_NoShift "__init__" "NoShift.__init__" s_NoShift_init ["self", "found"] a.f_NoShift_init a.fd_NoShift_init
  d_NoName_init : DfM K a.c_NoName "__init__" "NoName.__init__" s_NoName_init ["self", "found"] a.f_NoName_init a.fd_NoName_init
  d_NoPlace_init : DfM K a.c_NoPlace "__init__" "NoPlace.__init__" s_NoPlace_init ["self", "found"] a.f_NoPlace_init a.fd_NoPlace_init
  d_NoEntry_init : DfM K a.c_NoEntry "__init__" "NoEntry.__init__" s_NoEntry_init ["self", "found"] a.f_NoEntry_init a.fd_NoEntry_init
  d_Taken_init : DfM K a.c_Taken "__init__" "Taken.__init__" s_Taken_init ["self", "found"] a.f_Taken_init a.fd_Taken_init
  d_NoMinutes_init : DfM K a.c_NoMinutes "__init__" "NoMinutes.__init__" s_NoMinutes_init ["self", "found"] a.f_NoMinutes_init a.fd_NoMinutes_init
  d_NoBond_init : DfM K a.c_NoBond "__init__" "NoBond.__init__" s_NoBond_init ["self", "found"] a.f_NoBond_init a.fd_NoBond_init
  d_NoPaper_init : DfM K a.c_NoPaper "__init__" "NoPaper.__init__" s_NoPaper_init ["self", "found"] a.f_NoPaper_init a.fd_NoPaper_init
  d_NoLine_init : DfM K a.c_NoLine "__init__" "NoLine.__init__" s_NoLine_init ["self", "found"] a.f_NoLine_init a.fd_NoLine_init
  d_NoWay_init : DfM K a.c_NoWay "__init__" "NoWay.__init__" s_NoWay_init ["self", "paper"] a.f_NoWay_init a.fd_NoWay_init
  d_Unwritten_init : DfM K a.c_Unwritten "__init__" "Unwritten.__init__" s_Unwritten_init ["self", "name"] a.f_Unwritten_init a.fd_Unwritten_init
  d_Unlike_init : DfM K a.c_Unlike "__init__" "Unlike.__init__" s_Unlike_init ["self", "place", "moment"] a.f_Unlike_init a.fd_Unlike_init
  n_len : mg "len" = none
  n_max : mg "max" = none
  n_min : mg "min" = none
  n_abs : mg "abs" = none
  n_isinstance : mg "isinstance" = none
  n_range : mg "range" = none
  n_repr : mg "repr" = none
  n_ValueError : mg "ValueError" = none
  g_LogError : mg "LogError" = some (.ref a.c_LogError)
  g_NoSpans : mg "NoSpans" = some (.ref a.c_NoSpans)
  g_NoText : mg "NoText" = some (.ref a.c_NoText)
  g_NoTable : mg "NoTable" = some (.ref a.c_NoTable)
  g_Beyond : mg "Beyond" = some (.ref a.c_Beyond)
  g_TooMany : mg "TooMany" = some (.ref a.c_TooMany)
  g_NoMoment : mg "NoMoment" = some (.ref a.c_NoMoment)
  g_NoReading : mg "NoReading" = some (.ref a.c_NoReading)
  g_NoShift : mg "NoShift" = some (.ref a.c_NoShift)
  g_NoName : mg "NoName" = some (.ref a.c_NoName)
  g_NoPlace : mg "NoPlace" = some (.ref a.c_NoPlace)
  g_NoEntry : mg "NoEntry" = some (.ref a.c_NoEntry)
  g_Taken : mg "Taken" = some (.ref a.c_Taken)
  g_NoMinutes : mg "NoMinutes" = some (.ref a.c_NoMinutes)
  g_NoBond : mg "NoBond" = some (.ref a.c_NoBond)
  g_NoPaper : mg "NoPaper" = some (.ref a.c_NoPaper)
  g_NoLine : mg "NoLine" = some (.ref a.c_NoLine)
  g_NoWay : mg "NoWay" = some (.ref a.c_NoWay)
  g_Unwritten : mg "Unwritten" = some (.ref a.c_Unwritten)
  g_Unlike : mg "Unlike" = some (.ref a.c_Unlike)
  xl_LogError : xIn K a.c_LogError = true
  ci_LogError : CInit K a.c_LogError a.f_LogError_init
  X_LogError : XMk K a.c_LogError a.f_LogError_init
  up_LogError : PySem.W.mroIn K a.c_LogError (.ref a.c_LogError) = some true
  X_NoSpans : XMk K a.c_NoSpans a.f_NoSpans_init
  up_NoSpans : PySem.W.mroIn K a.c_NoSpans (.ref a.c_LogError) = some true
  n_NoSpans_at : NoAttr K a.c_NoSpans "at"
  X_NoText : XMk K a.c_NoText a.f_NoText_init
  up_NoText : PySem.W.mroIn K a.c_NoText (.ref a.c_LogError) = some true
  n_NoText_at : NoAttr K a.c_NoText "at"
  X_NoTable : XMk K a.c_NoTable a.f_NoTable_init
  up_NoTable : PySem.W.mroIn K a.c_NoTable (.ref a.c_LogError) = some true
  n_NoTable_row : NoAttr K a.c_NoTable "row"
  X_Beyond : XMk K a.c_Beyond a.f_Beyond_init
  up_Beyond : PySem.W.mroIn K a.c_Beyond (.ref a.c_LogError) = some true
  n_Beyond_row : NoAttr K a.c_Beyond "row"
  X_TooMany : XMk K a.c_TooMany a.f_TooMany_init
  up_TooMany : PySem.W.mroIn K a.c_TooMany (.ref a.c_LogError) = some true
  n_TooMany_many : NoAttr K a.c_TooMany "many"
  X_NoMoment : XMk K a.c_NoMoment a.f_NoMoment_init
  up_NoMoment : PySem.W.mroIn K a.c_NoMoment (.ref a.c_LogError) = some true
  n_NoMoment_found : NoAttr K a.c_NoMoment "found"
  X_NoReading : XMk K a.c_NoReading a.f_NoReading_init
  up_NoReading : PySem.W.mroIn K a.c_NoReading (.ref a.c_LogError) = some true
  n_NoReading_found : NoAttr K a.c_NoReading "found"
  X_NoShift : XMk K a.c_NoShift a.f_NoShift_init
  up_NoShift : PySem.W.mroIn K a.c_NoShift (.ref a.c_LogError) = some true
  n_NoShift_found : NoAttr K a.c_NoShift "found"
  X_NoName : XMk K a.c_NoName a.f_NoName_init
  up_NoName : PySem.W.mroIn K a.c_NoName (.ref a.c_LogError) = some true
  n_NoName_found : NoAttr K a.c_NoName "found"
  X_NoPlace : XMk K a.c_NoPlace a.f_NoPlace_init
  up_NoPlace : PySem.W.mroIn K a.c_NoPlace (.ref a.c_LogError) = some true
  n_NoPlace_found : NoAttr K a.c_NoPlace "found"
  X_NoEntry : XMk K a.c_NoEntry a.f_NoEntry_init
  up_NoEntry : PySem.W.mroIn K a.c_NoEntry (.ref a.c_LogError) = some true
  n_NoEntry_found : NoAttr K a.c_NoEntry "found"
  X_Taken : XMk K a.c_Taken a.f_Taken_init
  up_Taken : PySem.W.mroIn K a.c_Taken (.ref a.c_LogError) = some true
  n_Taken_found : NoAttr K a.c_Taken "found"
  X_NoMinutes : XMk K a.c_NoMinutes a.f_NoMinutes_init
  up_NoMinutes : PySem.W.mroIn K a.c_NoMinutes (.ref a.c_LogError) = some true
  n_NoMinutes_found : NoAttr K a.c_NoMinutes "found"
  X_NoBond : XMk K a.c_NoBond a.f_NoBond_init
  up_NoBond : PySem.W.mroIn K a.c_NoBond (.ref a.c_LogError) = some true
  n_NoBond_found : NoAttr K a.c_NoBond "found"
  X_NoPaper : XMk K a.c_NoPaper a.f_NoPaper_init
  up_NoPaper : PySem.W.mroIn K a.c_NoPaper (.ref a.c_LogError) = some true
  n_NoPaper_found : NoAttr K a.c_NoPaper "found"
  X_NoLine : XMk K a.c_NoLine a.f_NoLine_init
  up_NoLine : PySem.W.mroIn K a.c_NoLine (.ref a.c_LogError) = some true
  n_NoLine_found : NoAttr K a.c_NoLine "found"
  X_NoWay : XMk K a.c_NoWay a.f_NoWay_init
  up_NoWay : PySem.W.mroIn K a.c_NoWay (.ref a.c_LogError) = some true
  n_NoWay_paper : NoAttr K a.c_NoWay "paper"
  X_Unwritten : XMk K a.c_Unwritten a.f_Unwritten_init
  up_Unwritten : PySem.W.mroIn K a.c_Unwritten (.ref a.c_LogError) = some true
  n_Unwritten_name : NoAttr K a.c_Unwritten "name"
  X_Unlike : XMk K a.c_Unlike a.f_Unlike_init
  up_Unlike : PySem.W.mroIn K a.c_Unlike (.ref a.c_LogError) = some true
  n_Unlike_place : NoAttr K a.c_Unlike "place"
  n_Unlike_moment : NoAttr K a.c_Unlike "moment"
  mro0 : XMro K a.c_LogError [some a.c_LogError, none, none, none, none]
  m_NoSpans : XMro K a.c_NoSpans [some a.c_NoSpans, some a.c_LogError, none, none, none, none]
  m_NoText : XMro K a.c_NoText [some a.c_NoText, some a.c_LogError, none, none, none, none]
  m_NoTable : XMro K a.c_NoTable [some a.c_NoTable, some a.c_LogError, none, none, none, none]
  m_Beyond : XMro K a.c_Beyond [some a.c_Beyond, some a.c_LogError, none, none, none, none]
  m_TooMany : XMro K a.c_TooMany [some a.c_TooMany, some a.c_LogError, none, none, none, none]
  m_NoMoment : XMro K a.c_NoMoment [some a.c_NoMoment, some a.c_LogError, none, none, none, none]
  m_NoReading : XMro K a.c_NoReading [some a.c_NoReading, some a.c_LogError, none, none, none, none]
  m_NoShift : XMro K a.c_NoShift [some a.c_NoShift, some a.c_LogError, none, none, none, none]
  m_NoName : XMro K a.c_NoName [some a.c_NoName, some a.c_LogError, none, none, none, none]
  m_NoPlace : XMro K a.c_NoPlace [some a.c_NoPlace, some a.c_LogError, none, none, none, none]
  m_NoEntry : XMro K a.c_NoEntry [some a.c_NoEntry, some a.c_LogError, none, none, none, none]
  m_Taken : XMro K a.c_Taken [some a.c_Taken, some a.c_LogError, none, none, none, none]
  m_NoMinutes : XMro K a.c_NoMinutes [some a.c_NoMinutes, some a.c_LogError, none, none, none, none]
  m_NoBond : XMro K a.c_NoBond [some a.c_NoBond, some a.c_LogError, none, none, none, none]
  m_NoPaper : XMro K a.c_NoPaper [some a.c_NoPaper, some a.c_LogError, none, none, none, none]
  m_NoLine : XMro K a.c_NoLine [some a.c_NoLine, some a.c_LogError, none, none, none, none]
  m_NoWay : XMro K a.c_NoWay [some a.c_NoWay, some a.c_LogError, none, none, none, none]
  m_Unwritten : XMro K a.c_Unwritten [some a.c_Unwritten, some a.c_LogError, none, none, none, none]
  m_Unlike : XMro K a.c_Unlike [some a.c_Unlike, some a.c_LogError, none, none, none, none]
  t_LogError : ClsT K a.c_LogError
  t_NoSpans : ClsT K a.c_NoSpans
  t_NoText : ClsT K a.c_NoText
  t_NoTable : ClsT K a.c_NoTable
  t_Beyond : ClsT K a.c_Beyond
  t_TooMany : ClsT K a.c_TooMany
  t_NoMoment : ClsT K a.c_NoMoment
  t_NoReading : ClsT K a.c_NoReading
  t_NoShift : ClsT K a.c_NoShift
  t_NoName : ClsT K a.c_NoName
  t_NoPlace : ClsT K a.c_NoPlace
  t_NoEntry : ClsT K a.c_NoEntry
  t_Taken : ClsT K a.c_Taken
  t_NoMinutes : ClsT K a.c_NoMinutes
  t_NoBond : ClsT K a.c_NoBond
  t_NoPaper : ClsT K a.c_NoPaper
  t_NoLine : ClsT K a.c_NoLine
  t_NoWay : ClsT K a.c_NoWay
  t_Unwritten : ClsT K a.c_Unwritten
  t_Unlike : ClsT K a.c_Unlike
  nd : ([a.c_LogError, a.c_NoSpans, a.c_NoText, a.c_NoTable, a.c_Beyond, a.c_TooMany, a.c_NoMoment, a.c_NoReading, a.c_NoShift, a.c_NoName, a.c_NoPlace, a.c_NoEntry, a.c_Taken, a.c_NoMinutes, a.c_NoBond, a.c_NoPaper, a.c_NoLine, a.c_NoWay, a.c_Unwritten, a.c_Unlike] : List Addr).Nodup
theorem boot_ValueError' : bootBuiltins "ValueError" = some (.type "ValueError") := by decide +kernel
inductive sp_Lcell_P (K : PySem.W.Frag) (vs : List V) (H : Hp) (Q : VK) : Prop
  | mk (a : Addr) (ns : List Int) (k : Int) (h1 : vs = [.ref a, .int k]) (h2 : SqL K H a (ns.map V.int)) (h3 : 0 ≤ k) (h4 : ∀ c, Q (.int c) H) : sp_Lcell_P K vs H Q
noncomputable def sp_Lcell (K : PySem.W.Frag) : Sp := fun vs H Q _ => sp_Lcell_P K vs H Q
noncomputable def pur (L S A : Int) : List (Key × V) := [(Sum.inr "left", .int L), (Sum.inr "seed", .int S), (Sum.inr "at", .int A)]
inductive sp_Lpurse_P (vs : List V) (H : Hp) (Q : VK) : Prop
  | mk (c : Int) (h1 : vs = [.int c]) (h2 : ∀ (p : Addr) (L S A : Int), H p = none → Q (.ref p) (upd H p (.dK (pur L S A)))) : sp_Lpurse_P vs H Q
noncomputable def sp_Lpurse : Sp := fun vs H Q _ => sp_Lpurse_P vs H Q
noncomputable def IsP (H : Hp) (p : Addr) : Prop := ∃ L S A, H p = some (.dK (pur L S A))
inductive sp_Ltake_P (vs : List V) (H : Hp) (Q : VK) : Prop
  | mk (p : Addr) (many : Int) (h1 : vs = [.ref p, .int many]) (h2 : IsP H p) (h3 : 0 < many) (h4 : many < 340282366920938463463374607431768211456) (h5 : ∀ d L S A : Int, 0 ≤ d → d < many → Q (.int d) (upd H p (.dK (pur L S A)))) : sp_Ltake_P vs H Q
noncomputable def sp_Ltake : Sp := fun vs H Q _ => sp_Ltake_P vs H Q
inductive sp_Lnumber_P (vs : List V) (H : Hp) (Q : VK) : Prop
  | mk (p : _) (h1 : vs = [.ref p]) (h2 : IsP H p) (h3 : ∀ (n : Int) (H' : Hp), -1000000000000000000000000000000 < n → n < 1000000000000000000000000000000 → But p H H' → IsP H' p → Q (.int n) H') : sp_Lnumber_P vs H Q
noncomputable def sp_Lnumber : Sp := fun vs H Q _ => sp_Lnumber_P vs H Q
theorem IsP.put {H : Hp} {p : Addr} (L S A : Int) : IsP (upd H p (.dK (pur L S A))) p := ⟨L, S, A, upd_same⟩
theorem IsP.new {H : Hp} {p q : Addr} (h : IsP H p) (o : HO) (hq : H q = none) : IsP (upd H q o) p := by
  obtain ⟨L, S, A, e⟩ := h
  exact ⟨L, S, A, by rw [upd_ne (ne_of_none e hq)]; exact e⟩
theorem IsP.ne {H : Hp} {p q : Addr} (h : IsP H p) (hq : H q = none) : q ≠ p := by
  obtain ⟨L, S, A, e⟩ := h
  exact (ne_of_none e hq).symm
theorem IsP.neL {H : Hp} {p q : Addr} {xs : List V} (h : IsP H p) (hq : H q = some (.lst xs)) : q ≠ p := by
  obtain ⟨L, S, A, e⟩ := h
  exact ne_of hq e (by intro z; cases z)
theorem IsP.neT {H : Hp} {p q : Addr} {xs : List V} (h : IsP H p) (hq : H q = some (.tup xs)) : q ≠ p := by
  obtain ⟨L, S, A, e⟩ := h
  exact ne_of hq e (by intro z; cases z)
theorem IsP.same {H H' : Hp} {p : Addr} (h : IsP H p) (s : Same H H') : IsP H' p := by
  obtain ⟨L, S, A, e⟩ := h
  exact ⟨L, S, A, s _ _ e⟩
inductive sp_LogError_init_P (K : PySem.W.Frag) (vs : List V) (H : Hp) (Q : VK) : Prop
  | mk (ea : Addr) (x : Str) (C : Addr) (dx : Option Addr) (tb : Value) (h1 : vs = [.ref ea, .str x]) (h2 : H ea = some (.ext (ExO ea C dx tb))) (h3 : xIn K C = true) (h4 : Q .non H) : sp_LogError_init_P K vs H Q
noncomputable def sp_LogError_init (K : PySem.W.Frag) : Sp := fun vs H Q _ => sp_LogError_init_P K vs H Q
noncomputable abbrev sp_NoSpans_init (a : Ad) : Sp := sp_xi a.c_NoSpans "at"
noncomputable abbrev sp_NoText_init (a : Ad) : Sp := sp_xi a.c_NoText "at"
noncomputable abbrev sp_NoTable_init (a : Ad) : Sp := sp_xi a.c_NoTable "row"
noncomputable abbrev sp_Beyond_init (a : Ad) : Sp := sp_xi a.c_Beyond "row"
noncomputable abbrev sp_TooMany_init (a : Ad) : Sp := sp_xi a.c_TooMany "many"
noncomputable abbrev sp_NoMoment_init (a : Ad) : Sp := sp_xi a.c_NoMoment "found"
noncomputable abbrev sp_NoReading_init (a : Ad) : Sp := sp_xi a.c_NoReading "found"
noncomputable abbrev sp_NoShift_init (a : Ad) : Sp := sp_xi a.c_NoShift "found"
noncomputable abbrev sp_NoName_init (a : Ad) : Sp := sp_xi a.c_NoName "found"
noncomputable abbrev sp_NoPlace_init (a : Ad) : Sp := sp_xi a.c_NoPlace "found"
noncomputable abbrev sp_NoEntry_init (a : Ad) : Sp := sp_xi a.c_NoEntry "found"
noncomputable abbrev sp_Taken_init (a : Ad) : Sp := sp_xi a.c_Taken "found"
noncomputable abbrev sp_NoMinutes_init (a : Ad) : Sp := sp_xi a.c_NoMinutes "found"
noncomputable abbrev sp_NoBond_init (a : Ad) : Sp := sp_xi a.c_NoBond "found"
noncomputable abbrev sp_NoPaper_init (a : Ad) : Sp := sp_xi a.c_NoPaper "found"
noncomputable abbrev sp_NoLine_init (a : Ad) : Sp := sp_xi a.c_NoLine "found"
noncomputable abbrev sp_NoWay_init (a : Ad) : Sp := sp_xi a.c_NoWay "paper"
noncomputable abbrev sp_Unwritten_init (a : Ad) : Sp := sp_xi a.c_Unwritten "name"
noncomputable abbrev sp_Unlike_init (a : Ad) : Sp := sp_xj a.c_Unlike "place" "moment"
noncomputable def cl (a : Ad) : List Addr := [a.c_NoSpans, a.c_NoText, a.c_NoTable, a.c_Beyond, a.c_TooMany, a.c_NoMoment, a.c_NoReading, a.c_NoShift, a.c_NoName, a.c_NoPlace, a.c_NoEntry, a.c_Taken, a.c_NoMinutes, a.c_NoBond, a.c_NoPaper, a.c_NoLine, a.c_NoWay, a.c_Unwritten, a.c_Unlike]
noncomputable def rec (a : Ad) (n : Nat → Int) (t : Nat → V) : List (Addr × List (Str × V)) := [(a.c_NoSpans, [("at", .int (n 0))]), (a.c_NoText, [("at", .int (n 1))]), (a.c_NoTable, [("row", .int (n 2))]), (a.c_Beyond, [("row", .int (n 3))]), (a.c_TooMany, [("many", .int (n 4))]), (a.c_NoMoment, [("found", t 0)]), (a.c_NoReading, [("found", t 1)]), (a.c_NoShift, [("found", t 2)]), (a.c_NoName, [("found", t 3)]), (a.c_NoPlace, [("found", t 4)]), (a.c_NoEntry, [("found", t 5)]), (a.c_Taken, [("found", t 6)]), (a.c_NoMinutes, [("found", t 7)]), (a.c_NoBond, [("found", t 8)]), (a.c_NoPaper, [("found", t 9)]), (a.c_NoLine, [("found", t 10)]), (a.c_NoWay, [("paper", t 11)]), (a.c_Unwritten, [("name", t 12)]), (a.c_Unlike, [("moment", .int (n 5)), ("place", t 13)])]
noncomputable def num6 (n : Nat → Int) : List V := [.int (n 0), .int (n 1), .int (n 2), .int (n 3), .int (n 4), .int (n 5)]
noncomputable def th14 (t : Nat → V) : List V := [t 0, t 1, t 2, t 3, t 4, t 5, t 6, t 7, t 8, t 9, t 10, t 11, t 12, t 13]
noncomputable def all20 (n : Nat → Int) (t : Nat → V) : List V := [.int (n 0), .int (n 1), .int (n 2), .int (n 3), .int (n 4), t 0, t 1, t 2, t 3, t 4, t 5, t 6, t 7, t 8, t 9, t 10, t 11, t 12, t 13, .int (n 5)]
inductive sp_Lmade_P (a : Ad) (vs : List V) (H : Hp) (Q : VK) : Prop
  | mk (p q : Addr) (n : Nat → Int) (t : Nat → V) (h1 : vs = [.ref p, .ref q]) (h2 : H p = some (.lst (num6 n))) (h3 : H q = some (.lst (th14 t))) (h4 : ∀ (l : Addr) (es : List V) (H' : Hp), Same H H' → H' l = some (.lst es) → XMl H' (rec a n t) es → Q (.ref l) H') : sp_Lmade_P a vs H Q
noncomputable def sp_Lmade (a : Ad) : Sp := fun vs H Q _ => sp_Lmade_P a vs H Q
inductive sp_Lkinds_P (K : PySem.W.Frag) (a : Ad) (vs : List V) (H : Hp) (Q : VK) : Prop
  | mk (e : V) (C : Addr) (h1 : vs = [e]) (h2 : XE K H e C) (h3 : (∀ D ∈ cl a, xIsa K C (.ref D) = some (decide (C = D)))) (h4 : ∀ (l : Addr) (H' : Hp), Same H H' → H' l = some (.lst ((cl a).map fun D => V.bl (decide (C = D)))) → Q (.ref l) H') : sp_Lkinds_P K a vs H Q
noncomputable def sp_Lkinds (K : PySem.W.Frag) (a : Ad) : Sp := fun vs H Q _ => sp_Lkinds_P K a vs H Q
inductive sp_Lfields_P (a : Ad) (vs : List V) (H : Hp) (Q : VK) : Prop
  | mk (l : Addr) (es : List V) (n : Nat → Int) (t : Nat → V) (h1 : vs = [.ref l]) (h2 : H l = some (.lst es)) (h3 : XMl H (rec a n t) es) (h4 : ∀ (r : Addr) (H' : Hp), Same H H' → H' r = some (.lst (all20 n t)) → Q (.ref r) H') : sp_Lfields_P a vs H Q
noncomputable def sp_Lfields (a : Ad) : Sp := fun vs H Q _ => sp_Lfields_P a vs H Q
noncomputable def Nw (H G : Hp) : Hp := fun b => if (H b).isSome then none else G b
theorem Nw.at_ {b : Addr} {H G : Hp} (h : H b = none) : Nw H G b = G b := by unfold Nw; rw [h]; rfl
theorem Nw.old {b : Addr} {H G : Hp} {o : HO} (h : H b = some o) : Nw H G b = none := by unfold Nw; rw [h]; rfl
theorem Nw.same {H G : Hp} : Same (Nw H G) G := fun b o e => by
  cases z : H b with
  | none => rw [Nw.at_ z] at e; exact e
  | some u => rw [Nw.old z] at e; cases e
theorem But.none {p b : Addr} {H G : Hp} (s : But p H G) (h : G b = none) (n : b ≠ p) : H b = none := by
  cases e : H b with
  | none => rfl
  | some o => have := s _ _ e n; rw [h] at this; cases this
noncomputable def Jn (E F : Hp) : Hp := fun b => (E b).or (F b)
theorem Jn.l {E F : Hp} : Same E (Jn E F) := fun b o e => by unfold Jn; rw [e]; rfl
theorem Jn.r {E F : Hp} (h : ∀ b o, F b = some o → E b = none) : Same F (Jn E F) := fun b o e => by unfold Jn; rw [h b o e, e]; rfl
theorem Jn.in_ {E F : Hp} {b : Addr} {o : HO} (h : Jn E F b = some o) : E b = some o ∨ F b = some o := by
  unfold Jn at h
  cases e : E b with
  | none => rw [e] at h; exact .inr h
  | some u => rw [e] at h; exact .inl h
theorem Jn.no {E F : Hp} {b : Addr} (h : E b = none) (h' : F b = none) : Jn E F b = none := by unfold Jn; rw [h, h']; rfl
structure Sh (d : PyData) : Prop where
  sw : d.showable = true
  dp : d.depth ≤ 4
  ln : d.shown.length ≤ 1000
inductive sp_Lthing_P (vs : List V) (H : Hp) (Q : VK) : Prop
  | mk (p : _) (h1 : vs = [.ref p]) (h2 : IsP H p) (h3 : ∀ (v : V) (d : PyData) (E H' : Hp), But p H H' → IsP H' p → Same E H' → (∀ b o, H b = some o → E b = none) → IV E v d → Sh d → Q v H') : sp_Lthing_P vs H Q
noncomputable def sp_Lthing : Sp := fun vs H Q _ => sp_Lthing_P vs H Q
inductive sp_law_P (K : PySem.W.Frag) (vs : List V) (H : Hp) (Q : VK) : Prop
  | mk (a : Addr) (ns : List Int) (h1 : vs = [.ref a]) (h2 : SqL K H a (ns.map V.int)) (h3 : ns.length ≤ 63) (h4 : ∀ H', Q (.bl true) H') : sp_law_P K vs H Q
noncomputable def sp_law (K : PySem.W.Frag) : Sp := fun vs H Q _ => sp_law_P K vs H Q
section
variable {P : Program} {w : World} {K : PySem.W.Frag} {mg : Str → Option Value} {base : Heap}
theorem ok_LogError_init {a : Ad} (T : Txt K mg a) : FnOk P w K mg base CX0 1 a.f_LogError_init a.fd_LogError_init ["self", "text"] (sp_LogError_init K) := by
  refine T.d_LogError_init.F.ok sc_LogError_init (fun vs H Q E h => ?_) (fun cdv A outer s H vs Q E hr h => ?_)
  · obtain ⟨ea, x, C, dx, tb, rfl, he, xi, kk⟩ := h
    rfl
  · obtain ⟨ea, x, C, dx, tb, rfl, he, xi, kk⟩ := h
    have hu := hu_of hr
    have hU := hr.units
    refine ⟨_, (pss_one (ps_expr (pe_vinit rfl T.n_ValueError boot_ValueError' (pa_cons (pv 0) (pa_cons (pv 1) pa_nil))))), ?_⟩
    try dsimp only [cxOf, Cx.nox]
    exact ⟨_, rfl, _, rfl, ea, C, dx, tb, _, rfl, Nat.le_of_ble_eq_true rfl, he, xi, kk⟩
theorem ok_NoSpans_init {a : Ad} (T : Txt K mg a) : FnOk P w K mg base CX0 3 a.f_NoSpans_init a.fd_NoSpans_init ["self", "at"] (sp_NoSpans_init a) := by
  have G_LogError_init : FnOk P w K mg base CX0 1 a.f_LogError_init a.fd_LogError_init ["self", "text"] (sp_LogError_init K) := ok_LogError_init T
  refine T.d_NoSpans_init.F.ok sc_NoSpans_init (fun vs H Q E h => ?_) (fun cdv A outer s H vs Q E hr h => ?_)
  · obtain ⟨ea, v, rfl, he, kk⟩ := h
    rfl
  · obtain ⟨ea, v, rfl, he, kk⟩ := h
    have hu := hu_of hr
    have hU := hr.units
    have h_LogError_init : Room (1 + 1) _ := hr.mono (by decide)
    refine ⟨_, (pss_cons (ps_expr (pe_cinit T.ci_LogError G_LogError_init (h_LogError_init.mono (by decide)) T.d_LogError_init.b rfl T.g_LogError (pa_cons (pv 0) (pa_cons pe_str pa_nil))))
      (pss_one (ps_xfld (pv 0) (pv 1) rfl))), ?_⟩
    try dsimp only [cxOf, Cx.nox]
    refine ⟨_, rfl, ea, _, _, _, _, rfl, he, T.X_NoSpans.c.xi, ?_⟩
    exact ⟨_, rfl, _, rfl, ea, _, _, rfl, he, T.X_NoSpans.c, T.n_NoSpans_at, kk⟩
theorem ok_NoText_init {a : Ad} (T : Txt K mg a) : FnOk P w K mg base CX0 3 a.f_NoText_init a.fd_NoText_init ["self", "at"] (sp_NoText_init a) := by
  have G_LogError_init : FnOk P w K mg base CX0 1 a.f_LogError_init a.fd_LogError_init ["self", "text"] (sp_LogError_init K) := ok_LogError_init T
  refine T.d_NoText_init.F.ok sc_NoText_init (fun vs H Q E h => ?_) (fun cdv A outer s H vs Q E hr h => ?_)
  · obtain ⟨ea, v, rfl, he, kk⟩ := h
    rfl
  · obtain ⟨ea, v, rfl, he, kk⟩ := h
    have hu := hu_of hr
    have hU := hr.units
    have h_LogError_init : Room (1 + 1) _ := hr.mono (by decide)
    refine ⟨_, (pss_cons (ps_expr (pe_cinit T.ci_LogError G_LogError_init (h_LogError_init.mono (by decide)) T.d_LogError_init.b rfl T.g_LogError (pa_cons (pv 0) (pa_cons pe_str pa_nil))))
      (pss_one (ps_xfld (pv 0) (pv 1) rfl))), ?_⟩
    try dsimp only [cxOf, Cx.nox]
    refine ⟨_, rfl, ea, _, _, _, _, rfl, he, T.X_NoText.c.xi, ?_⟩
    exact ⟨_, rfl, _, rfl, ea, _, _, rfl, he, T.X_NoText.c, T.n_NoText_at, kk⟩
theorem ok_NoTable_init {a : Ad} (T : Txt K mg a) : FnOk P w K mg base CX0 3 a.f_NoTable_init a.fd_NoTable_init ["self", "row"] (sp_NoTable_init a) := by
  have G_LogError_init : FnOk P w K mg base CX0 1 a.f_LogError_init a.fd_LogError_init ["self", "text"] (sp_LogError_init K) := ok_LogError_init T
  refine T.d_NoTable_init.F.ok sc_NoTable_init (fun vs H Q E h => ?_) (fun cdv A outer s H vs Q E hr h => ?_)
  · obtain ⟨ea, v, rfl, he, kk⟩ := h
    rfl
  · obtain ⟨ea, v, rfl, he, kk⟩ := h
    have hu := hu_of hr
    have hU := hr.units
    have h_LogError_init : Room (1 + 1) _ := hr.mono (by decide)
    refine ⟨_, (pss_cons (ps_expr (pe_cinit T.ci_LogError G_LogError_init (h_LogError_init.mono (by decide)) T.d_LogError_init.b rfl T.g_LogError (pa_cons (pv 0) (pa_cons pe_str pa_nil))))
      (pss_one (ps_xfld (pv 0) (pv 1) rfl))), ?_⟩
    try dsimp only [cxOf, Cx.nox]
    refine ⟨_, rfl, ea, _, _, _, _, rfl, he, T.X_NoTable.c.xi, ?_⟩
    exact ⟨_, rfl, _, rfl, ea, _, _, rfl, he, T.X_NoTable.c, T.n_NoTable_row, kk⟩
theorem ok_Beyond_init {a : Ad} (T : Txt K mg a) : FnOk P w K mg base CX0 3 a.f_Beyond_init a.fd_Beyond_init ["self", "row"] (sp_Beyond_init a) := by
  have G_LogError_init : FnOk P w K mg base CX0 1 a.f_LogError_init a.fd_LogError_init ["self", "text"] (sp_LogError_init K) := ok_LogError_init T
  refine T.d_Beyond_init.F.ok sc_Beyond_init (fun vs H Q E h => ?_) (fun cdv A outer s H vs Q E hr h => ?_)
  · obtain ⟨ea, v, rfl, he, kk⟩ := h
    rfl
  · obtain ⟨ea, v, rfl, he, kk⟩ := h
    have hu := hu_of hr
    have hU := hr.units
    have h_LogError_init : Room (1 + 1) _ := hr.mono (by decide)
    refine ⟨_, (pss_cons (ps_expr (pe_cinit T.ci_LogError G_LogError_init (h_LogError_init.mono (by decide)) T.d_LogError_init.b rfl T.g_LogError (pa_cons (pv 0) (pa_cons pe_str pa_nil))))
      (pss_one (ps_xfld (pv 0) (pv 1) rfl))), ?_⟩
    try dsimp only [cxOf, Cx.nox]
    refine ⟨_, rfl, ea, _, _, _, _, rfl, he, T.X_Beyond.c.xi, ?_⟩
    exact ⟨_, rfl, _, rfl, ea, _, _, rfl, he, T.X_Beyond.c, T.n_Beyond_row, kk⟩
theorem ok_TooMany_init {a : Ad} (T : Txt K mg a) : FnOk P w K mg base CX0 3 a.f_TooMany_init a.fd_TooMany_init ["self", "many"] (sp_TooMany_init a) := by
  have G_LogError_init : FnOk P w K mg base CX0 1 a.f_LogError_init a.fd_LogError_init ["self", "text"] (sp_LogError_init K) := ok_LogError_init T
  refine T.d_TooMany_init.F.ok sc_TooMany_init (fun vs H Q E h => ?_) (fun cdv A outer s H vs Q E hr h => ?_)
  · obtain ⟨ea, v, rfl, he, kk⟩ := h
    rfl
  · obtain ⟨ea, v, rfl, he, kk⟩ := h
    have hu := hu_of hr
    have hU := hr.units
    have h_LogError_init : Room (1 + 1) _ := hr.mono (by decide)
    refine ⟨_, (pss_cons (ps_expr (pe_cinit T.ci_LogError G_LogError_init (h_LogError_init.mono (by decide)) T.d_LogError_init.b rfl T.g_LogError (pa_cons (pv 0) (pa_cons pe_str pa_nil))))
      (pss_one (ps_xfld (pv 0) (pv 1) rfl))), ?_⟩
    try dsimp only [cxOf, Cx.nox]
    refine ⟨_, rfl, ea, _, _, _, _, rfl, he, T.X_TooMany.c.xi, ?_⟩
    exact ⟨_, rfl, _, rfl, ea, _, _, rfl, he, T.X_TooMany.c, T.n_TooMany_many, kk⟩
theorem ok_NoMoment_init {a : Ad} (T : Txt K mg a) : FnOk P w K mg base CX0 3 a.f_NoMoment_init a.fd_NoMoment_init ["self", "found"] (sp_NoMoment_init a) := by
  have G_LogError_init : FnOk P w K mg base CX0 1 a.f_LogError_init a.fd_LogError_init ["self", "text"] (sp_LogError_init K) := ok_LogError_init T
  refine T.d_NoMoment_init.F.ok sc_NoMoment_init (fun vs H Q E h => ?_) (fun cdv A outer s H vs Q E hr h => ?_)
  · obtain ⟨ea, v, rfl, he, kk⟩ := h
    rfl
  · obtain ⟨ea, v, rfl, he, kk⟩ := h
    have hu := hu_of hr
    have hU := hr.units
    have h_LogError_init : Room (1 + 1) _ := hr.mono (by decide)
    refine ⟨_, (pss_cons (ps_expr (pe_cinit T.ci_LogError G_LogError_init (h_LogError_init.mono (by decide)) T.d_LogError_init.b rfl T.g_LogError (pa_cons (pv 0) (pa_cons pe_str pa_nil))))
      (pss_one (ps_xfld (pv 0) (pv 1) rfl))), ?_⟩
    try dsimp only [cxOf, Cx.nox]
    refine ⟨_, rfl, ea, _, _, _, _, rfl, he, T.X_NoMoment.c.xi, ?_⟩
    exact ⟨_, rfl, _, rfl, ea, _, _, rfl, he, T.X_NoMoment.c, T.n_NoMoment_found, kk⟩
theorem ok_NoReading_init {a : Ad} (T : Txt K mg a) : FnOk P w K mg base CX0 3 a.f_NoReading_init a.fd_NoReading_init ["self", "found"] (sp_NoReading_init a) := by
  have G_LogError_init : FnOk P w K mg base CX0 1 a.f_LogError_init a.fd_LogError_init ["self", "text"] (sp_LogError_init K) := ok_LogError_init T
  refine T.d_NoReading_init.F.ok sc_NoReading_init (fun vs H Q E h => ?_) (fun cdv A outer s H vs Q E hr h => ?_)
  · obtain ⟨ea, v, rfl, he, kk⟩ := h
    rfl
  · obtain ⟨ea, v, rfl, he, kk⟩ := h
    have hu := hu_of hr
    have hU := hr.units
    have h_LogError_init : Room (1 + 1) _ := hr.mono (by decide)
    refine ⟨_, (pss_cons (ps_expr (pe_cinit T.ci_LogError G_LogError_init (h_LogError_init.mono (by decide)) T.d_LogError_init.b rfl T.g_LogError (pa_cons (pv 0) (pa_cons pe_str pa_nil))))
      (pss_one (ps_xfld (pv 0) (pv 1) rfl))), ?_⟩
    try dsimp only [cxOf, Cx.nox]
    refine ⟨_, rfl, ea, _, _, _, _, rfl, he, T.X_NoReading.c.xi, ?_⟩
    exact ⟨_, rfl, _, rfl, ea, _, _, rfl, he, T.X_NoReading.c, T.n_NoReading_found, kk⟩
theorem ok_NoShift_init {a : Ad} (T : Txt K mg a) : FnOk P w K mg base CX0 3 a.f_NoShift_init a.fd_NoShift_init ["self", "found"] (sp_NoShift_init a) := by
  have G_LogError_init : FnOk P w K mg base CX0 1 a.f_LogError_init a.fd_LogError_init ["self", "text"] (sp_LogError_init K) := ok_LogError_init T
  refine T.d_NoShift_init.F.ok sc_NoShift_init (fun vs H Q E h => ?_) (fun cdv A outer s H vs Q E hr h => ?_)
  · obtain ⟨ea, v, rfl, he, kk⟩ := h
    rfl
  · obtain ⟨ea, v, rfl, he, kk⟩ := h
    have hu := hu_of hr
    have hU := hr.units
    have h_LogError_init : Room (1 + 1) _ := hr.mono (by decide)
    refine ⟨_, (pss_cons (ps_expr (pe_cinit T.ci_LogError G_LogError_init (h_LogError_init.mono (by decide)) T.d_LogError_init.b rfl T.g_LogError (pa_cons (pv 0) (pa_cons pe_str pa_nil))))
      (pss_one (ps_xfld (pv 0) (pv 1) rfl))), ?_⟩
    try dsimp only [cxOf, Cx.nox]
    refine ⟨_, rfl, ea, _, _, _, _, rfl, he, T.X_NoShift.c.xi, ?_⟩
    exact ⟨_, rfl, _, rfl, ea, _, _, rfl, he, T.X_NoShift.c, T.n_NoShift_found, kk⟩
theorem ok_NoName_init {a : Ad} (T : Txt K mg a) : FnOk P w K mg base CX0 3 a.f_NoName_init a.fd_NoName_init ["self", "found"] (sp_NoName_init a) := by
  have G_LogError_init : FnOk P w K mg base CX0 1 a.f_LogError_init a.fd_LogError_init ["self", "text"] (sp_LogError_init K) := ok_LogError_init T
  refine T.d_NoName_init.F.ok sc_NoName_init (fun vs H Q E h => ?_) (fun cdv A outer s H vs Q E hr h => ?_)
  · obtain ⟨ea, v, rfl, he, kk⟩ := h
    rfl
  · obtain ⟨ea, v, rfl, he, kk⟩ := h
    have hu := hu_of hr
    have hU := hr.units
    have h_LogError_init : Room (1 + 1) _ := hr.mono (by decide)
    refine ⟨_, (pss_cons (ps_expr (pe_cinit T.ci_LogError G_LogError_init (h_LogError_init.mono (by decide)) T.d_LogError_init.b rfl T.g_LogError (pa_cons (pv 0) (pa_cons pe_str pa_nil))))
      (pss_one (ps_xfld (pv 0) (pv 1) rfl))), ?_⟩
    try dsimp only [cxOf, Cx.nox]
    refine ⟨_, rfl, ea, _, _, _, _, rfl, he, T.X_NoName.c.xi, ?_⟩
    exact ⟨_, rfl, _, rfl, ea, _, _, rfl, he, T.X_NoName.c, T.n_NoName_found, kk⟩
theorem ok_NoPlace_init {a : Ad} (T : Txt K mg a) : FnOk P w K mg base CX0 3 a.f_NoPlace_init a.fd_NoPlace_init ["self", "found"] (sp_NoPlace_init a) := by
  have G_LogError_init : FnOk P w K mg base CX0 1 a.f_LogError_init a.fd_LogError_init ["self", "text"] (sp_LogError_init K) := ok_LogError_init T
  refine T.d_NoPlace_init.F.ok sc_NoPlace_init (fun vs H Q E h => ?_) (fun cdv A outer s H vs Q E hr h => ?_)
  · obtain ⟨ea, v, rfl, he, kk⟩ := h
    rfl
  · obtain ⟨ea, v, rfl, he, kk⟩ := h
    have hu := hu_of hr
    have hU := hr.units
    have h_LogError_init : Room (1 + 1) _ := hr.mono (by decide)
    refine ⟨_, (pss_cons (ps_expr (pe_cinit T.ci_LogError G_LogError_init (h_LogError_init.mono (by decide)) T.d_LogError_init.b rfl T.g_LogError (pa_cons (pv 0) (pa_cons pe_str pa_nil))))
      (pss_one (ps_xfld (pv 0) (pv 1) rfl))), ?_⟩
    try dsimp only [cxOf, Cx.nox]
    refine ⟨_, rfl, ea, _, _, _, _, rfl, he, T.X_NoPlace.c.xi, ?_⟩
    exact ⟨_, rfl, _, rfl, ea, _, _, rfl, he, T.X_NoPlace.c, T.n_NoPlace_found, kk⟩
theorem ok_NoEntry_init {a : Ad} (T : Txt K mg a) : FnOk P w K mg base CX0 3 a.f_NoEntry_init a.fd_NoEntry_init ["self", "found"] (sp_NoEntry_init a) := by
  have G_LogError_init : FnOk P w K mg base CX0 1 a.f_LogError_init a.fd_LogError_init ["self", "text"] (sp_LogError_init K) := ok_LogError_init T
  refine T.d_NoEntry_init.F.ok sc_NoEntry_init (fun vs H Q E h => ?_) (fun cdv A outer s H vs Q E hr h => ?_)
  · obtain ⟨ea, v, rfl, he, kk⟩ := h
    rfl
  · obtain ⟨ea, v, rfl, he, kk⟩ := h
    have hu := hu_of hr
    have hU := hr.units
    have h_LogError_init : Room (1 + 1) _ := hr.mono (by decide)
    refine ⟨_, (pss_cons (ps_expr (pe_cinit T.ci_LogError G_LogError_init (h_LogError_init.mono (by decide)) T.d_LogError_init.b rfl T.g_LogError (pa_cons (pv 0) (pa_cons pe_str pa_nil))))
      (pss_one (ps_xfld (pv 0) (pv 1) rfl))), ?_⟩
    try dsimp only [cxOf, Cx.nox]
    refine ⟨_, rfl, ea, _, _, _, _, rfl, he, T.X_NoEntry.c.xi, ?_⟩
    exact ⟨_, rfl, _, rfl, ea, _, _, rfl, he, T.X_NoEntry.c, T.n_NoEntry_found, kk⟩
theorem ok_Taken_init {a : Ad} (T : Txt K mg a) : FnOk P w K mg base CX0 3 a.f_Taken_init a.fd_Taken_init ["self", "found"] (sp_Taken_init a) := by
  have G_LogError_init : FnOk P w K mg base CX0 1 a.f_LogError_init a.fd_LogError_init ["self", "text"] (sp_LogError_init K) := ok_LogError_init T
  refine T.d_Taken_init.F.ok sc_Taken_init (fun vs H Q E h => ?_) (fun cdv A outer s H vs Q E hr h => ?_)
  · obtain ⟨ea, v, rfl, he, kk⟩ := h
    rfl
  · obtain ⟨ea, v, rfl, he, kk⟩ := h
    have hu := hu_of hr
    have hU := hr.units
    have h_LogError_init : Room (1 + 1) _ := hr.mono (by decide)
    refine ⟨_, (pss_cons (ps_expr (pe_cinit T.ci_LogError G_LogError_init (h_LogError_init.mono (by decide)) T.d_LogError_init.b rfl T.g_LogError (pa_cons (pv 0) (pa_cons pe_str pa_nil))))
      (pss_one (ps_xfld (pv 0) (pv 1) rfl))), ?_⟩
    try dsimp only [cxOf, Cx.nox]
    refine ⟨_, rfl, ea, _, _, _, _, rfl, he, T.X_Taken.c.xi, ?_⟩
    exact ⟨_, rfl, _, rfl, ea, _, _, rfl, he, T.X_Taken.c, T.n_Taken_found, kk⟩
theorem ok_NoMinutes_init {a : Ad} (T : Txt K mg a) : FnOk P w K mg base CX0 3 a.f_NoMinutes_init a.fd_NoMinutes_init ["self", "found"] (sp_NoMinutes_init a) := by
  have G_LogError_init : FnOk P w K mg base CX0 1 a.f_LogError_init a.fd_LogError_init ["self", "text"] (sp_LogError_init K) := ok_LogError_init T
  refine T.d_NoMinutes_init.F.ok sc_NoMinutes_init (fun vs H Q E h => ?_) (fun cdv A outer s H vs Q E hr h => ?_)
  · obtain ⟨ea, v, rfl, he, kk⟩ := h
    rfl
  · obtain ⟨ea, v, rfl, he, kk⟩ := h
    have hu := hu_of hr
    have hU := hr.units
    have h_LogError_init : Room (1 + 1) _ := hr.mono (by decide)
    refine ⟨_, (pss_cons (ps_expr (pe_cinit T.ci_LogError G_LogError_init (h_LogError_init.mono (by decide)) T.d_LogError_init.b rfl T.g_LogError (pa_cons (pv 0) (pa_cons pe_str pa_nil))))
      (pss_one (ps_xfld (pv 0) (pv 1) rfl))), ?_⟩
    try dsimp only [cxOf, Cx.nox]
    refine ⟨_, rfl, ea, _, _, _, _, rfl, he, T.X_NoMinutes.c.xi, ?_⟩
    exact ⟨_, rfl, _, rfl, ea, _, _, rfl, he, T.X_NoMinutes.c, T.n_NoMinutes_found, kk⟩
theorem ok_NoBond_init {a : Ad} (T : Txt K mg a) : FnOk P w K mg base CX0 3 a.f_NoBond_init a.fd_NoBond_init ["self", "found"] (sp_NoBond_init a) := by
  have G_LogError_init : FnOk P w K mg base CX0 1 a.f_LogError_init a.fd_LogError_init ["self", "text"] (sp_LogError_init K) := ok_LogError_init T
  refine T.d_NoBond_init.F.ok sc_NoBond_init (fun vs H Q E h => ?_) (fun cdv A outer s H vs Q E hr h => ?_)
  · obtain ⟨ea, v, rfl, he, kk⟩ := h
    rfl
  · obtain ⟨ea, v, rfl, he, kk⟩ := h
    have hu := hu_of hr
    have hU := hr.units
    have h_LogError_init : Room (1 + 1) _ := hr.mono (by decide)
    refine ⟨_, (pss_cons (ps_expr (pe_cinit T.ci_LogError G_LogError_init (h_LogError_init.mono (by decide)) T.d_LogError_init.b rfl T.g_LogError (pa_cons (pv 0) (pa_cons pe_str pa_nil))))
      (pss_one (ps_xfld (pv 0) (pv 1) rfl))), ?_⟩
    try dsimp only [cxOf, Cx.nox]
    refine ⟨_, rfl, ea, _, _, _, _, rfl, he, T.X_NoBond.c.xi, ?_⟩
    exact ⟨_, rfl, _, rfl, ea, _, _, rfl, he, T.X_NoBond.c, T.n_NoBond_found, kk⟩
theorem ok_NoPaper_init {a : Ad} (T : Txt K mg a) : FnOk P w K mg base CX0 3 a.f_NoPaper_init a.fd_NoPaper_init ["self", "found"] (sp_NoPaper_init a) := by
  have G_LogError_init : FnOk P w K mg base CX0 1 a.f_LogError_init a.fd_LogError_init ["self", "text"] (sp_LogError_init K) := ok_LogError_init T
  refine T.d_NoPaper_init.F.ok sc_NoPaper_init (fun vs H Q E h => ?_) (fun cdv A outer s H vs Q E hr h => ?_)
  · obtain ⟨ea, v, rfl, he, kk⟩ := h
    rfl
  · obtain ⟨ea, v, rfl, he, kk⟩ := h
    have hu := hu_of hr
    have hU := hr.units
    have h_LogError_init : Room (1 + 1) _ := hr.mono (by decide)
    refine ⟨_, (pss_cons (ps_expr (pe_cinit T.ci_LogError G_LogError_init (h_LogError_init.mono (by decide)) T.d_LogError_init.b rfl T.g_LogError (pa_cons (pv 0) (pa_cons pe_str pa_nil))))
      (pss_one (ps_xfld (pv 0) (pv 1) rfl))), ?_⟩
    try dsimp only [cxOf, Cx.nox]
    refine ⟨_, rfl, ea, _, _, _, _, rfl, he, T.X_NoPaper.c.xi, ?_⟩
    exact ⟨_, rfl, _, rfl, ea, _, _, rfl, he, T.X_NoPaper.c, T.n_NoPaper_found, kk⟩
theorem ok_NoLine_init {a : Ad} (T : Txt K mg a) : FnOk P w K mg base CX0 3 a.f_NoLine_init a.fd_NoLine_init ["self", "found"] (sp_NoLine_init a) := by
  have G_LogError_init : FnOk P w K mg base CX0 1 a.f_LogError_init a.fd_LogError_init ["self", "text"] (sp_LogError_init K) := ok_LogError_init T
  refine T.d_NoLine_init.F.ok sc_NoLine_init (fun vs H Q E h => ?_) (fun cdv A outer s H vs Q E hr h => ?_)
  · obtain ⟨ea, v, rfl, he, kk⟩ := h
    rfl
  · obtain ⟨ea, v, rfl, he, kk⟩ := h
    have hu := hu_of hr
    have hU := hr.units
    have h_LogError_init : Room (1 + 1) _ := hr.mono (by decide)
    refine ⟨_, (pss_cons (ps_expr (pe_cinit T.ci_LogError G_LogError_init (h_LogError_init.mono (by decide)) T.d_LogError_init.b rfl T.g_LogError (pa_cons (pv 0) (pa_cons pe_str pa_nil))))
      (pss_one (ps_xfld (pv 0) (pv 1) rfl))), ?_⟩
    try dsimp only [cxOf, Cx.nox]
    refine ⟨_, rfl, ea, _, _, _, _, rfl, he, T.X_NoLine.c.xi, ?_⟩
    exact ⟨_, rfl, _, rfl, ea, _, _, rfl, he, T.X_NoLine.c, T.n_NoLine_found, kk⟩
theorem ok_NoWay_init {a : Ad} (T : Txt K mg a) : FnOk P w K mg base CX0 3 a.f_NoWay_init a.fd_NoWay_init ["self", "paper"] (sp_NoWay_init a) := by
  have G_LogError_init : FnOk P w K mg base CX0 1 a.f_LogError_init a.fd_LogError_init ["self", "text"] (sp_LogError_init K) := ok_LogError_init T
  refine T.d_NoWay_init.F.ok sc_NoWay_init (fun vs H Q E h => ?_) (fun cdv A outer s H vs Q E hr h => ?_)
  · obtain ⟨ea, v, rfl, he, kk⟩ := h
    rfl
  · obtain ⟨ea, v, rfl, he, kk⟩ := h
    have hu := hu_of hr
    have hU := hr.units
    have h_LogError_init : Room (1 + 1) _ := hr.mono (by decide)
    refine ⟨_, (pss_cons (ps_expr (pe_cinit T.ci_LogError G_LogError_init (h_LogError_init.mono (by decide)) T.d_LogError_init.b rfl T.g_LogError (pa_cons (pv 0) (pa_cons pe_str pa_nil))))
      (pss_one (ps_xfld (pv 0) (pv 1) rfl))), ?_⟩
    try dsimp only [cxOf, Cx.nox]
    refine ⟨_, rfl, ea, _, _, _, _, rfl, he, T.X_NoWay.c.xi, ?_⟩
    exact ⟨_, rfl, _, rfl, ea, _, _, rfl, he, T.X_NoWay.c, T.n_NoWay_paper, kk⟩
theorem ok_Unwritten_init {a : Ad} (T : Txt K mg a) : FnOk P w K mg base CX0 3 a.f_Unwritten_init a.fd_Unwritten_init ["self", "name"] (sp_Unwritten_init a) := by
  have G_LogError_init : FnOk P w K mg base CX0 1 a.f_LogError_init a.fd_LogError_init ["self", "text"] (sp_LogError_init K) := ok_LogError_init T
  refine T.d_Unwritten_init.F.ok sc_Unwritten_init (fun vs H Q E h => ?_) (fun cdv A outer s H vs Q E hr h => ?_)
  · obtain ⟨ea, v, rfl, he, kk⟩ := h
    rfl
  · obtain ⟨ea, v, rfl, he, kk⟩ := h
    have hu := hu_of hr
    have hU := hr.units
    have h_LogError_init : Room (1 + 1) _ := hr.mono (by decide)
    refine ⟨_, (pss_cons (ps_expr (pe_cinit T.ci_LogError G_LogError_init (h_LogError_init.mono (by decide)) T.d_LogError_init.b rfl T.g_LogError (pa_cons (pv 0) (pa_cons pe_str pa_nil))))
      (pss_one (ps_xfld (pv 0) (pv 1) rfl))), ?_⟩
    try dsimp only [cxOf, Cx.nox]
    refine ⟨_, rfl, ea, _, _, _, _, rfl, he, T.X_Unwritten.c.xi, ?_⟩
    exact ⟨_, rfl, _, rfl, ea, _, _, rfl, he, T.X_Unwritten.c, T.n_Unwritten_name, kk⟩
theorem ok_Unlike_init {a : Ad} (T : Txt K mg a) : FnOk P w K mg base CX0 3 a.f_Unlike_init a.fd_Unlike_init ["self", "place", "moment"] (sp_Unlike_init a) := by
  have G_LogError_init : FnOk P w K mg base CX0 1 a.f_LogError_init a.fd_LogError_init ["self", "text"] (sp_LogError_init K) := ok_LogError_init T
  refine T.d_Unlike_init.F.ok sc_Unlike_init (fun vs H Q E h => ?_) (fun cdv A outer s H vs Q E hr h => ?_)
  · obtain ⟨ea, v, u, rfl, he, kk⟩ := h
    rfl
  · obtain ⟨ea, v, u, rfl, he, kk⟩ := h
    have hu := hu_of hr
    have hU := hr.units
    have h_LogError_init : Room (1 + 1) _ := hr.mono (by decide)
    refine ⟨_, (pss_cons (ps_expr (pe_cinit T.ci_LogError G_LogError_init (h_LogError_init.mono (by decide)) T.d_LogError_init.b rfl T.g_LogError (pa_cons (pv 0) (pa_cons pe_str pa_nil))))
      (pss_cons (ps_xfldE (pv 0) (pv 1) rfl)
      (pss_one (ps_xfld2 (pv 0) (pv 2) rfl)))), ?_⟩
    try dsimp only [cxOf, Cx.nox]
    refine ⟨_, rfl, ea, _, _, _, _, rfl, he, T.X_Unlike.c.xi, ?_⟩
    refine ⟨_, rfl, _, rfl, ea, _, _, rfl, he, T.X_Unlike.c, T.n_Unlike_place, fun dx h1 h2 => ?_⟩
    refine ⟨_, rfl, _, rfl, ea, _, _, dx, _, rfl, (by rw [upd_ne (Ne.symm h2), upd_same]), upd_same, Nat.le_of_ble_eq_true rfl, T.X_Unlike.c, T.n_Unlike_moment, ?_⟩
    rw [upd_upd]
    exact kk dx h1 h2
end
end K09
set_option Elab.async false
set_option linter.all false
set_option maxRecDepth 100000
namespace K09
open PySem L2 PySem.NumText PyProof.Rows KC
section
variable {P : Program} {w : World} {K : PySem.W.Frag} {mg : Str → Option Value} {base : Heap}
end
theorem pur_left (L S A : Int) : valV (pur L S A) (Sum.inr "left") = some (.int L) := rfl
theorem pur_seed (L S A : Int) : valV (pur L S A) (Sum.inr "seed") = some (.int S) := rfl
theorem pur_at (L S A : Int) : valV (pur L S A) (Sum.inr "at") = some (.int A) := rfl
theorem put_left (L S A x : Int) : putK (pur L S A) (Sum.inr "left") (.int x) = pur x S A := rfl
theorem put_at (L S A x : Int) : putK (pur L S A) (Sum.inr "at") (.int x) = pur L S x := rfl
theorem dg_left {H : Hp} {p : Addr} {L S A : Int} (h : H p = some (.dK (pur L S A))) : DGet H p (.str "left") (some (.int L)) := pur_left L S A ▸ DGet.k (k := Sum.inr "left") h
theorem dg_seed {H : Hp} {p : Addr} {L S A : Int} (h : H p = some (.dK (pur L S A))) : DGet H p (.str "seed") (some (.int S)) := pur_seed L S A ▸ DGet.k (k := Sum.inr "seed") h
theorem dg_at {H : Hp} {p : Addr} {L S A : Int} (h : H p = some (.dK (pur L S A))) : DGet H p (.str "at") (some (.int A)) := pur_at L S A ▸ DGet.k (k := Sum.inr "at") h
theorem dp_left {H : Hp} {p : Addr} {L S A x : Int} (h : H p = some (.dK (pur L S A))) : DPut H p (.str "left") (.int x) (upd H p (.dK (pur x S A))) := put_left L S A x ▸ DPut.k (k := Sum.inr "left") h (small1000 (Nat.le_of_ble_eq_true rfl))
theorem dp_at {H : Hp} {p : Addr} {L S A x : Int} (h : H p = some (.dK (pur L S A))) : DPut H p (.str "at") (.int x) (upd H p (.dK (pur L S x))) := put_at L S A x ▸ DPut.k (k := Sum.inr "at") h (small1000 (Nat.le_of_ble_eq_true rfl))
section
variable {P : Program} {w : World} {K : PySem.W.Frag} {mg : Str → Option Value} {base : Heap}
theorem ok_Lcell {a : Ad} (T : Txt K mg a) : FnOk P w K mg base CX0 1 a.f_Lcell a.fd_Lcell ["_law_script", "_law_k"] (sp_Lcell K) := by
  refine T.d_Lcell.F.ok sc_Lcell (fun vs H Q E h => ?_) (fun cdv A outer s H vs Q E hr h => ?_)
  · obtain ⟨b, ns, j, rfl, hS, j0, k⟩ := h
    rfl
  · obtain ⟨b, ns, j, rfl, hS, j0, k⟩ := h
    have hu := hu_of hr
    have hU := hr.units
    refine ⟨_, (pss_cons (ps_if (pt_cmpR op_lt (pv 1) (pe_callB call_len (by rfl) T.n_len boot_len' (pa_cons (pv 0) pa_nil)) (nomark _))
        (pss_one (ps_ret (pe_ix (r := rIx K) ix_seq (pv 0) (pv 1) (fun _ _ => rfl))))
        pss_nil)
      (pss_one (ps_ret pe_int))), ?_⟩
    try dsimp only [cxOf, Cx.nox]
    refine ⟨_, rfl, _, rfl, _, _, rfl, .inl ⟨_, hS, rfl⟩, _, _, rfl, rfl, _, rfl, ?_⟩
    refine iteD (fun hj => ?_) (fun hj => ?_)
    · obtain ⟨n, rfl⟩ := Int.eq_ofNat_of_zero_le j0
      rw [List.length_map] at hj
      have hn : n < ns.length := by omega
      refine ⟨_, rfl, _, rfl, .inl ⟨b, _, _, .int ns[n], rfl, rfl, hS, atI_nat (by rw [List.getElem?_map, List.getElem?_eq_getElem hn]; rfl), ?_⟩⟩
      exact k _
    · exact k _
theorem ok_Lpurse {a : Ad} (T : Txt K mg a) : FnOk P w K mg base CX0 1 a.f_Lpurse a.fd_Lpurse ["_law_cell_here"] sp_Lpurse := by
  refine T.d_Lpurse.F.ok sc_Lpurse (fun vs H Q E h => ?_) (fun cdv A outer s H vs Q E hr h => ?_)
  · obtain ⟨c, rfl, k⟩ := h
    rfl
  · obtain ⟨c, rfl, k⟩ := h
    have hu := hu_of hr
    have hU := hr.units
    refine ⟨_, (pss_one (ps_ret (pe_disp (pps_cons pe_str (pe_callB (call_max2 rfl) (by rfl) T.n_max boot_max' (pa_cons pe_int (pa_cons (pe_op op_sub (pv 0) (pe_op op_pow pe_int pe_int)) pa_nil))) (pps_cons pe_str (pe_op op_mod (pv 0) pe_int) (pps_cons pe_str pe_int pps_nil))) rfl rfl (by simp) (by decide)))), ?_⟩
    try dsimp only [cxOf, Cx.nox]
    intro p hp
    refine ⟨_, rfl, _, _, rfl, rfl, ⟨by decide, by decide, by decide⟩, _, _, rfl, rfl, _, _, rfl, ?_⟩
    refine ⟨_, rfl, _, _, rfl, rfl, (by show (0 : Int) < _; decide), ?_⟩
    refine ⟨upd_same, [(Sum.inr "left", _), (Sum.inr "seed", _), (Sum.inr "at", _)], rfl, (Nat.le_of_ble_eq_true rfl), ?_⟩
    rw [upd_upd]
    exact k p _ _ _ hp
theorem ok_Ltake {a : Ad} (T : Txt K mg a) : FnOk P w K mg base CX0 1 a.f_Ltake a.fd_Ltake ["_law_purse_here", "_law_many"] sp_Ltake := by
  refine T.d_Ltake.F.ok sc_Ltake (fun vs H Q E h => ?_) (fun cdv A outer s H vs Q E hr h => ?_)
  · obtain ⟨p, many, rfl, ⟨L, S, A, hp⟩, m0, m1, k⟩ := h
    rfl
  · obtain ⟨p, many, rfl, ⟨L, S, A, hp⟩, m0, m1, k⟩ := h
    have hu := hu_of hr
    have hU := hr.units
    refine ⟨_, (pss_cons (ps_if (pt_cmpR op_gt (pe_dget hu (pv 0) pe_str (fun _ _ => rfl)) pe_int (nomark _))
        (pss_cons (ps_set (i := 2) sc_Ltake.nd rfl (Or.inl rfl) (pe_op op_mod (pe_dget hu (pv 0) pe_str (fun _ _ => rfl)) (pv 1)))
        (pss_cons (ps_dput hu (pv 0) pe_str (pe_op op_fdivW (pe_dget hu (pv 0) pe_str (fun _ _ => rfl)) (pv 1)) rfl)
        (pss_one (ps_ret (pv 2)))))
        pss_nil)
      (pss_cons (ps_dput hu (pv 0) pe_str (pe_op uAdd (pe_dget hu (pv 0) pe_str (fun _ _ => rfl)) pe_int) rfl)
      (pss_cons (ps_set (i := 3) sc_Ltake.nd rfl (Or.inl rfl) (pe_op op_mod (pe_op op_mul (pe_op uAdd (pe_dget hu (pv 0) pe_str (fun _ _ => rfl)) (pe_op op_mul pe_int (pe_dget hu (pv 0) pe_str (fun _ _ => rfl)))) pe_int) pe_int))
      (pss_cons (ps_set (i := 3) sc_Ltake.nd rfl (Or.inl rfl) (pe_op op_mod (pe_op op_mul (pv 3) (pv 3)) pe_int))
      (pss_cons (ps_set (i := 3) sc_Ltake.nd rfl (Or.inl rfl) (pe_op op_mod (pe_op op_mul (pe_op uAdd (pv 3) pe_int) (pe_op uAdd (pv 3) (pe_dget hu (pv 0) pe_str (fun _ _ => rfl)))) pe_int))
      (pss_one (ps_ret (pe_op op_mod (pe_op op_fdivW (pe_op op_mod (pe_op op_mul (pv 3) (pe_op uAdd (pv 3) pe_int)) pe_int) pe_int) (pv 1))))))))), ?_⟩
    try dsimp only [cxOf, Cx.nox]
    refine ⟨_, rfl, p, _, rfl, dg_left hp, _, _, rfl, rfl, _, rfl, ?_⟩
    refine iteD (fun hL => ?_) (fun hL => ?_)
    · refine ⟨_, rfl, p, _, rfl, dg_left hp, _, rfl, _, _, rfl, rfl, m0, ?_⟩
      refine ⟨_, rfl, p, _, rfl, dg_left hp, _, rfl, _, _, rfl, rfl, ⟨m0, m1⟩, _, rfl, p, _, rfl, dp_left hp, ?_⟩
      refine ⟨_, rfl, ?_⟩
      exact k _ _ _ _ (Int.emod_nonneg _ (by omega)) (Int.emod_lt_of_pos _ m0)
    · refine ⟨_, rfl, p, _, rfl, dg_at hp, .inl ⟨_, _, rfl, rfl, _, rfl, p, _, rfl, dp_at hp, ?_⟩⟩
      have hp1 : (upd H p (.dK (pur L S (A + 1)))) p = some (.dK (pur L S (A + 1))) := upd_same
      refine ⟨_, rfl, p, _, rfl, dg_seed hp1, _, rfl, p, _, rfl, dg_at hp1, _, _, rfl, rfl, .inl ⟨by decide, by decide⟩, .inl ⟨_, _, rfl, rfl, _, _, rfl, rfl, .inr ⟨by decide, by decide⟩, _, _, rfl, rfl, (by show (0 : Int) < _; decide), ?_⟩⟩
      dsimp only
      generalize hn : (S + 7919 * (A + 1)) * 48271 % 2147483647 = n
      have n0 : 0 ≤ n := by omega
      have n1 : n < 2147483647 := by omega
      refine ⟨_, rfl, _, rfl, _, _, rfl, rfl, .inl ⟨by omega, by omega⟩, _, _, rfl, rfl, (by show (0 : Int) < _; decide), ?_⟩
      dsimp only
      generalize hm : n * n % 2147483629 = m
      have m2 : 0 ≤ m := by rw [← hm]; exact Int.emod_nonneg _ (by decide)
      have m3 : m < 2147483629 := by rw [← hm]; exact Int.emod_lt_of_pos _ (by decide)
      refine ⟨_, rfl, .inl ⟨_, _, rfl, rfl, _, rfl, _, rfl, p, _, rfl, dg_at hp1, .inl ⟨_, _, rfl, rfl, _, _, rfl, rfl, .inl ⟨by omega, by omega⟩, _, _, rfl, rfl, (by show (0 : Int) < _; decide), ?_⟩⟩⟩
      dsimp only
      generalize hq : (m + 104729) * (m + (A + 1)) % 2147483587 = q
      have q0 : 0 ≤ q := by rw [← hq]; exact Int.emod_nonneg _ (by decide)
      have q1 : q < 2147483587 := by rw [← hq]; exact Int.emod_lt_of_pos _ (by decide)
      refine ⟨_, rfl, _, rfl, .inl ⟨_, _, rfl, rfl, _, _, rfl, rfl, .inl ⟨by omega, by omega⟩, _, _, rfl, rfl, (by show (0 : Int) < _; decide), _, _, rfl, rfl, ⟨by decide, by decide⟩, _, rfl, _, _, rfl, rfl, m0, ?_⟩⟩
      exact k _ _ _ _ (Int.emod_nonneg _ (by omega)) (Int.emod_lt_of_pos _ m0)
theorem ok_Lnumber {a : Ad} (T : Txt K mg a) : FnOk P w K mg base CX0 2 a.f_Lnumber a.fd_Lnumber ["_law_purse_here"] sp_Lnumber := by
  have G_Ltake : FnOk P w K mg base CX0 1 a.f_Ltake a.fd_Ltake ["_law_purse_here", "_law_many"] sp_Ltake := ok_Ltake T
  refine T.d_Lnumber.F.ok sc_Lnumber (fun vs H Q E h => ?_) (fun cdv A outer s H vs Q E hr h => ?_)
  · obtain ⟨p, rfl, hp, k⟩ := h
    rfl
  · obtain ⟨p, rfl, hp, k⟩ := h
    have hu := hu_of hr
    have hU := hr.units
    have h_Ltake : Room (1) _ := hr.mono (by decide)
    refine ⟨_, (pss_cons (ps_set (i := 1) sc_Lnumber.nd rfl (Or.inl rfl) (pe_call G_Ltake h_Ltake rfl T.d_Ltake.m T.d_Ltake.k T.d_Ltake.b .nil pass0 (pa_cons (pv 0) (pa_cons pe_int pa_nil))))
      (pss_cons (ps_set (i := 2) sc_Lnumber.nd rfl (Or.inl rfl) (pe_op uAdd (pe_op uAdd (pe_op op_mul (pe_call G_Ltake h_Ltake rfl T.d_Ltake.m T.d_Ltake.k T.d_Ltake.b .nil pass0 (pa_cons (pv 0) (pa_cons (pe_op op_pow pe_int pe_int) pa_nil))) (pe_op op_pow pe_int pe_int)) (pe_op op_mul (pe_call G_Ltake h_Ltake rfl T.d_Ltake.m T.d_Ltake.k T.d_Ltake.b .nil pass0 (pa_cons (pv 0) (pa_cons (pe_op op_pow pe_int pe_int) pa_nil))) (pe_op op_pow pe_int pe_int))) (pe_call G_Ltake h_Ltake rfl T.d_Ltake.m T.d_Ltake.k T.d_Ltake.b .nil pass0 (pa_cons (pv 0) (pa_cons (pe_op op_pow pe_int pe_int) pa_nil)))))
      (pss_cons (ps_set (i := 3) sc_Lnumber.nd rfl (Or.inl rfl) (pe_lst (pa_cons (pe_call G_Ltake h_Ltake rfl T.d_Ltake.m T.d_Ltake.k T.d_Ltake.b .nil pass0 (pa_cons (pv 0) (pa_cons pe_int pa_nil))) (pa_cons (pe_call G_Ltake h_Ltake rfl T.d_Ltake.m T.d_Ltake.k T.d_Ltake.b .nil pass0 (pa_cons (pv 0) (pa_cons (pe_op op_pow pe_int pe_int) pa_nil))) (pa_cons (pv 2) (pa_cons (pe_op op_sub (pe_op op_sub (pe_op op_pow pe_int pe_int) pe_int) (pe_call G_Ltake h_Ltake rfl T.d_Ltake.m T.d_Ltake.k T.d_Ltake.b .nil pass0 (pa_cons (pv 0) (pa_cons pe_int pa_nil)))) pa_nil))))))
      (pss_one (ps_ret (pe_op op_mul (pe_ix (r := rIx K) ix_seq (pv 3) (pv 1) (fun _ _ => rfl)) (pe_ix (r := rIx K) ix_seq (pe_lst (pa_cons pe_int (pa_cons (pe_un un_neg pe_int) pa_nil))) (pe_call G_Ltake h_Ltake rfl T.d_Ltake.m T.d_Ltake.k T.d_Ltake.b .nil pass0 (pa_cons (pv 0) (pa_cons pe_int pa_nil))) (fun _ _ => rfl)))))))), ?_⟩
    try dsimp only [cxOf, Cx.nox]
    have p0 : IsP H p := hp
    have t0 : But p H H := But.refl p H
    refine ⟨_, rfl, p, _, rfl, p0, by decide, by decide, fun da zL zS zA da0 da1 => ?_⟩
    have p1 : IsP (upd H p (.dK (pur zL zS zA))) p := .put _ _ _
    have u1 : But p H (upd H p (.dK (pur zL zS zA))) := (But.refl p _).put _
    have t1 := t0.trans u1
    try dsimp only
    generalize upd H p (.dK (pur zL zS zA)) = G1 at p1 u1 t1 ⊢
    clear zL zS zA
    refine ⟨_, rfl, _, _, rfl, rfl, ⟨by decide, by decide, by decide⟩, p, _, rfl, p1, by decide, by decide, fun db zL zS zA db0 db1 => ?_⟩
    have p2 : IsP (upd G1 p (.dK (pur zL zS zA))) p := .put _ _ _
    have u2 : But p G1 (upd G1 p (.dK (pur zL zS zA))) := (But.refl p _).put _
    have t2 := t1.trans u2
    try dsimp only
    generalize upd G1 p (.dK (pur zL zS zA)) = G2 at p2 u2 t2 ⊢
    clear zL zS zA
    have db2 : db < 100000000 := db1
    refine ⟨_, _, rfl, rfl, ⟨by decide, by decide, by decide⟩, _, _, rfl, rfl, .inl ⟨by omega, by omega⟩, ?_⟩
    refine ⟨_, rfl, _, _, rfl, rfl, ⟨by decide, by decide, by decide⟩, p, _, rfl, p2, by decide, by decide, fun dc zL zS zA dc0 dc1 => ?_⟩
    have p3 : IsP (upd G2 p (.dK (pur zL zS zA))) p := .put _ _ _
    have u3 : But p G2 (upd G2 p (.dK (pur zL zS zA))) := (But.refl p _).put _
    have t3 := t2.trans u3
    try dsimp only
    generalize upd G2 p (.dK (pur zL zS zA)) = G3 at p3 u3 t3 ⊢
    clear zL zS zA
    have dc2 : dc < 100000000 := dc1
    refine ⟨_, _, rfl, rfl, ⟨by decide, by decide, by decide⟩, _, _, rfl, rfl, .inl ⟨by omega, by omega⟩, .inl ⟨_, _, rfl, rfl, ?_⟩⟩
    refine ⟨_, rfl, _, _, rfl, rfl, ⟨by decide, by decide, by decide⟩, p, _, rfl, p3, by decide, by decide, fun dd zL zS zA dd0 dd1 => ?_⟩
    have p4 : IsP (upd G3 p (.dK (pur zL zS zA))) p := .put _ _ _
    have u4 : But p G3 (upd G3 p (.dK (pur zL zS zA))) := (But.refl p _).put _
    have t4 := t3.trans u4
    try dsimp only
    generalize upd G3 p (.dK (pur zL zS zA)) = G4 at p4 u4 t4 ⊢
    clear zL zS zA
    have dd2 : dd < 100000000 := dd1
    refine .inl ⟨_, _, rfl, rfl, ?_⟩
    have e22 : (10 : Int) ^ (22 : Int).toNat = 10000000000000000000000 := by decide
    have e8 : (10 : Int) ^ (8 : Int).toNat = 100000000 := by decide
    have e30 : (10 : Int) ^ (30 : Int).toNat = 1000000000000000000000000000000 := by decide
    try dsimp only
    rw [e22, e8]
    generalize hf : db * 10000000000000000000000 + dc * 100000000 + dd = far
    refine ⟨_, rfl, p, _, rfl, p4, by decide, by decide, fun de zL zS zA de0 de1 => ?_⟩
    have p5 : IsP (upd G4 p (.dK (pur zL zS zA))) p := .put _ _ _
    have u5 : But p G4 (upd G4 p (.dK (pur zL zS zA))) := (But.refl p _).put _
    have t5 := t4.trans u5
    try dsimp only
    generalize upd G4 p (.dK (pur zL zS zA)) = G5 at p5 u5 t5 ⊢
    clear zL zS zA
    refine ⟨_, rfl, _, _, rfl, rfl, ⟨by decide, by decide, by decide⟩, p, _, rfl, p5, by decide, by decide, fun df zL zS zA df0 df1 => ?_⟩
    have p6 : IsP (upd G5 p (.dK (pur zL zS zA))) p := .put _ _ _
    have u6 : But p G5 (upd G5 p (.dK (pur zL zS zA))) := (But.refl p _).put _
    have t6 := t5.trans u6
    try dsimp only
    generalize upd G5 p (.dK (pur zL zS zA)) = G6 at p6 u6 t6 ⊢
    clear zL zS zA
    have df2 : df < 100000000 := df1
    refine ⟨_, rfl, _, _, rfl, rfl, ⟨by decide, by decide, by decide⟩, _, _, rfl, rfl, ?_⟩
    refine ⟨_, rfl, p, _, rfl, p6, by decide, by decide, fun dg zL zS zA dg0 dg1 => ?_⟩
    have p7 : IsP (upd G6 p (.dK (pur zL zS zA))) p := .put _ _ _
    have u7 : But p G6 (upd G6 p (.dK (pur zL zS zA))) := (But.refl p _).put _
    have t7 := t6.trans u7
    try dsimp only
    generalize upd G6 p (.dK (pur zL zS zA)) = G7 at p7 u7 t7 ⊢
    clear zL zS zA
    refine ⟨_, _, rfl, rfl, ?_⟩
    try dsimp only
    rw [e30]
    refine ⟨(small60 (Nat.le_of_ble_eq_true rfl)), fun l f_l => ?_⟩
    have e_l : (upd G7 l (.lst [.int de, .int df, .int far, .int (1000000000000000000000000000000 - 9 - dg)])) l = some (.lst [.int de, .int df, .int far, .int (1000000000000000000000000000000 - 9 - dg)]) := upd_same
    have p8 : IsP (upd G7 l (.lst [.int de, .int df, .int far, .int (1000000000000000000000000000000 - 9 - dg)])) p := p7.new _ f_l
    have n_l : l ≠ p := p7.ne f_l
    have u8 : Same G7 (upd G7 l (.lst [.int de, .int df, .int far, .int (1000000000000000000000000000000 - 9 - dg)])) := Same.new _ f_l
    have t8 := t7.same u8
    try dsimp only
    generalize upd G7 l (.lst [.int de, .int df, .int far, .int (1000000000000000000000000000000 - 9 - dg)]) = G8 at e_l p8 u8 t8 ⊢
    obtain ⟨v, hv, mv⟩ := atI_in (xs := [.int de, .int df, .int far, .int (1000000000000000000000000000000 - 9 - dg)]) da0 da1
    obtain ⟨n, rfl, n0, n1⟩ : ∃ n, v = .int n ∧ -1000000000000000000000000000000 < n ∧ n < 1000000000000000000000000000000 := by
      simp only [List.mem_cons, List.not_mem_nil, or_false] at mv
      rcases mv with rfl | rfl | rfl | rfl <;> exact ⟨_, rfl, by omega, by omega⟩
    refine ⟨_, rfl, _, rfl, .inl ⟨l, _, _, _, rfl, rfl, SqL.of e_l, hv, ?_⟩⟩
    refine ⟨_, rfl, ?_⟩
    refine ⟨(small60 (Nat.le_of_ble_eq_true rfl)), fun l2 f_l2 => ?_⟩
    have e_l2 : (upd G8 l2 (.lst [.int 1, .int (-1)])) l2 = some (.lst [.int 1, .int (-1)]) := upd_same
    have p9 : IsP (upd G8 l2 (.lst [.int 1, .int (-1)])) p := p8.new _ f_l2
    have n_l2 : l2 ≠ p := p8.ne f_l2
    have u9 : Same G8 (upd G8 l2 (.lst [.int 1, .int (-1)])) := Same.new _ f_l2
    have t9 := t8.same u9
    try dsimp only
    generalize upd G8 l2 (.lst [.int 1, .int (-1)]) = G9 at e_l2 p9 u9 t9 ⊢
    refine ⟨_, rfl, p, _, rfl, p9, by decide, by decide, fun dh zL zS zA dh0 dh1 => ?_⟩
    have p10 : IsP (upd G9 p (.dK (pur zL zS zA))) p := .put _ _ _
    have u10 : But p G9 (upd G9 p (.dK (pur zL zS zA))) := (But.refl p _).put _
    have t10 := t9.trans u10
    try dsimp only
    generalize upd G9 p (.dK (pur zL zS zA)) = G10 at p10 u10 t10 ⊢
    clear zL zS zA
    obtain ⟨u, hu2, mu⟩ := atI_in (xs := [.int 1, .int (-1)]) dh0 dh1
    have e_l2' := u10 _ _ e_l2 n_l2
    simp only [List.mem_cons, List.not_mem_nil, or_false] at mu
    rcases mu with rfl | rfl
    · refine .inl ⟨l2, _, _, _, rfl, rfl, SqL.of e_l2', hu2, _, _, rfl, rfl, .inr ⟨by decide, by decide⟩, ?_⟩
      exact k _ _ (by omega) (by omega) t10 p10
    · refine .inl ⟨l2, _, _, _, rfl, rfl, SqL.of e_l2', hu2, _, _, rfl, rfl, .inr ⟨by decide, by decide⟩, ?_⟩
      exact k _ _ (by omega) (by omega) t10 p10
end
end K09
set_option Elab.async false
set_option linter.all false
set_option maxRecDepth 100000
namespace K09
open PySem L2 PySem.NumText PyProof.Rows KC
section
variable {P : Program} {w : World} {K : PySem.W.Frag} {mg : Str → Option Value} {base : Heap}
end
theorem sm_show {n : Int} (h : Sm n) : PyData.showable (.int n) = true := by
  simp only [PyData.showable]
  refine decide_eq_true ?_
  by_cases z : n.natAbs = 0
  · rw [z]; decide
  · refine (Nat.log2_lt z).mpr (Nat.lt_of_lt_of_le (m := 1000000000000000000000000000000) (by have := h.1; have := h.2; omega) (Nat.le_of_ble_eq_true rfl))
theorem sm_len {n : Int} (h : Sm n) : (PyData.shown (.int n)).length ≤ 31 := by
  simp only [PyData.shown]
  exact h.len
theorem sh_int {n : Int} (h : Sm n) : Sh (.int n) := ⟨sm_show h, by simp [PyData.depth], Nat.le_trans (sm_len h) (by decide)⟩
theorem sh_list {ds : List PyData} (h1 : PyData.showableAll ds = true) (h2 : PyData.depthAll ds ≤ 3) (h3 : ((PyData.shownAll ds).map (·.length)).sum + 2 * (PyData.shownAll ds).length + 3 ≤ 1000) : Sh (.list ds) :=
  ⟨by simp only [PyData.showable, h1], by simp only [PyData.depth]; omega, by simp only [PyData.shown]; exact Nat.le_trans (listText_len_le _) h3⟩
theorem sh_tup {ds : List PyData} (h1 : PyData.showableAll ds = true) (h2 : PyData.depthAll ds ≤ 3) (h3 : ((PyData.shownAll ds).map (·.length)).sum + 2 * (PyData.shownAll ds).length + 3 ≤ 1000) : Sh (.tuple ds) :=
  ⟨by simp only [PyData.showable, h1], by simp only [PyData.depth]; omega, by simp only [PyData.shown]; exact Nat.le_trans (tupleText_len_le _) h3⟩
theorem sh_1 {n : Int} (h : Sm n) : Sh (.list [.int n]) := sh_list (by simp only [PyData.showableAll, sm_show h]; rfl) (by simp [PyData.depthAll, PyData.depth]) (by
  have := sm_len h
  simp only [PyData.shownAll, List.map_cons, List.map_nil, List.sum_cons, List.sum_nil, List.length_cons, List.length_nil]; omega)
theorem sh_2 {n : Int} (h : Sm n) : Sh (.tuple [.int n, .list []]) := sh_tup (by simp only [PyData.showableAll, PyData.showable, sm_show h]; simp only [show decide (n.natAbs.log2 < 1920) = true from sm_show h]; rfl) (by simp [PyData.depthAll, PyData.depth]) (by
  have := sm_len h
  have e : (PyData.shown (.list [])).length ≤ 5 := by decide +kernel
  simp only [PyData.shownAll, List.map_cons, List.map_nil, List.sum_cons, List.sum_nil, List.length_cons, List.length_nil]; omega)
theorem sh_3 {n : Int} (h : Sm n) : Sh (.dict [(.str "a", .int n)]) := by
  have e : (PyData.shown (.str "a")).length ≤ 5 := by decide +kernel
  have e2 : (Str.ofString ": ").length = 2 := rfl
  have := sm_len h
  refine ⟨by simp only [PyData.showable, PyData.showableKv, show decide (n.natAbs.log2 < 1920) = true from sm_show h]; rfl, by simp [PyData.depth, PyData.depthKv], ?_⟩
  simp only [PyData.shown]
  refine Nat.le_trans (dictText_len_le _) ?_
  simp only [PyData.shownKv, List.map_cons, List.map_nil, List.sum_cons, List.sum_nil, List.length_cons, List.length_nil, strLen_append]
  omega
theorem sh_4 {n : Int} (h : Sm n) : Sh (.list [.list [.int n]]) := sh_list (by simp only [PyData.showableAll, PyData.showable, show decide (n.natAbs.log2 < 1920) = true from sm_show h]; rfl) (by simp [PyData.depthAll, PyData.depth]) (by
  have e := (listText_len_le (PyData.shownAll [.int n]))
  have := sm_len h
  simp only [PyData.shownAll, PyData.shown, List.map_cons, List.map_nil, List.sum_cons, List.sum_nil, List.length_cons, List.length_nil] at *
  omega)
section
variable {P : Program} {w : World} {K : PySem.W.Frag} {mg : Str → Option Value} {base : Heap}
theorem ok_Lthing {a : Ad} (T : Txt K mg a) : FnOk P w K mg base CX0 3 a.f_Lthing a.fd_Lthing ["_law_purse_here"] sp_Lthing := by
  have G_Lnumber : FnOk P w K mg base CX0 2 a.f_Lnumber a.fd_Lnumber ["_law_purse_here"] sp_Lnumber := ok_Lnumber T
  have G_Ltake : FnOk P w K mg base CX0 1 a.f_Ltake a.fd_Ltake ["_law_purse_here", "_law_many"] sp_Ltake := ok_Ltake T
  refine T.d_Lthing.F.ok sc_Lthing (fun vs H Q E h => ?_) (fun cdv A outer s H vs Q E hr h => ?_)
  · obtain ⟨p, rfl, hp, kk⟩ := h
    rfl
  · obtain ⟨p, rfl, hp, kk⟩ := h
    have hu := hu_of hr
    have hU := hr.units
    have h_Lnumber : Room (2) _ := hr.mono (by decide)
    have h_Ltake : Room (1) _ := hr.mono (by decide)
    refine ⟨_, (pss_cons (ps_set (i := 1) sc_Lthing.nd rfl (Or.inl rfl) (pe_call G_Lnumber h_Lnumber rfl T.d_Lnumber.m T.d_Lnumber.k T.d_Lnumber.b .nil pass0 (pa_cons (pv 0) pa_nil)))
      (pss_cons (ps_set (i := 2) sc_Lthing.nd rfl (Or.inl rfl) (pe_lst (pa_cons (pv 1) (pa_cons pe_non (pa_cons pe_bl (pa_cons pe_str (pa_cons (pe_lst (pa_cons (pv 1) pa_nil)) (pa_cons (pe_tup (pa_cons (pv 1) (pa_cons (pe_lst pa_nil) pa_nil))) (pa_cons (pe_disp (pps_cons pe_str (pv 1) pps_nil) rfl rfl (by simp) (by decide)) (pa_cons pe_str (pa_cons (pe_lst (pa_cons (pe_lst (pa_cons (pv 1) pa_nil)) pa_nil)) pa_nil)))))))))))
      (pss_one (ps_ret (pe_ix (r := rIx K) ix_seq (pv 2) (pe_call G_Ltake h_Ltake rfl T.d_Ltake.m T.d_Ltake.k T.d_Ltake.b .nil pass0 (pa_cons (pv 0) (pa_cons pe_int pa_nil))) (fun _ _ => rfl)))))), ?_⟩
    try dsimp only [cxOf, Cx.nox]
    refine ⟨_, rfl, p, rfl, hp, fun n H1 n0 n1 b1 p1 => ?_⟩
    have sm : Sm n := ⟨n0, n1⟩
    have p0 : IsP H1 p := p1
    have t0 : But p H1 H1 := But.refl p H1
    refine ⟨_, rfl, _, rfl, (small60 (Nat.le_of_ble_eq_true rfl)), fun l1 f_l1 => ?_⟩
    have e_l1 : (upd H1 l1 (.lst [.int n])) l1 = some (.lst [.int n]) := upd_same
    have p1 : IsP (upd H1 l1 (.lst [.int n])) p := p0.new _ f_l1
    have n_l1 : l1 ≠ p := p0.ne f_l1
    have u1 : Same H1 (upd H1 l1 (.lst [.int n])) := Same.new _ f_l1
    have t1 := t0.same u1
    try dsimp only
    generalize upd H1 l1 (.lst [.int n]) = G1 at e_l1 p1 u1 t1 ⊢
    refine ⟨_, rfl, (small60 (Nat.le_of_ble_eq_true rfl)), fun l2 f_l2 => ?_⟩
    have e_l2 : (upd G1 l2 (.lst [])) l2 = some (.lst []) := upd_same
    have p2 : IsP (upd G1 l2 (.lst [])) p := p1.new _ f_l2
    have n_l2 : l2 ≠ p := p1.ne f_l2
    have u2 : Same G1 (upd G1 l2 (.lst [])) := Same.new _ f_l2
    have t2 := t1.same u2
    try dsimp only
    generalize upd G1 l2 (.lst []) = G2 at e_l2 p2 u2 t2 ⊢
    refine ⟨(small60 (Nat.le_of_ble_eq_true rfl)), fun t f_t => ?_⟩
    have e_t : (upd G2 t (.tup [.int n, .ref l2])) t = some (.tup [.int n, .ref l2]) := upd_same
    have p3 : IsP (upd G2 t (.tup [.int n, .ref l2])) p := p2.new _ f_t
    have n_t : t ≠ p := p2.ne f_t
    have u3 : Same G2 (upd G2 t (.tup [.int n, .ref l2])) := Same.new _ f_t
    have t3 := t2.same u3
    try dsimp only
    generalize upd G2 t (.tup [.int n, .ref l2]) = G3 at e_t p3 u3 t3 ⊢
    intro dd f_dd
    refine ⟨_, rfl, upd_same, [(Sum.inr "a", .int n)], rfl, (Nat.le_of_ble_eq_true rfl), ?_⟩
    have em : mergeK [] [((Sum.inr (Str.ofString "a") : Key), V.int n)] = [((Sum.inr (Str.ofString "a") : Key), V.int n)] := by rfl
    rw [upd_upd, em]
    have e_dd : (upd G3 dd (.dK [(Sum.inr "a", .int n)])) dd = some (.dK [(Sum.inr "a", .int n)]) := upd_same
    have p4 : IsP (upd G3 dd (.dK [(Sum.inr "a", .int n)])) p := p3.new _ f_dd
    have n_dd : dd ≠ p := p3.ne f_dd
    have u4 : Same G3 (upd G3 dd (.dK [(Sum.inr "a", .int n)])) := Same.new _ f_dd
    have t4 := t3.same u4
    try dsimp only
    generalize upd G3 dd (.dK [(Sum.inr "a", .int n)]) = G4 at e_dd p4 u4 t4 ⊢
    refine ⟨_, rfl, (small60 (Nat.le_of_ble_eq_true rfl)), fun l3 f_l3 => ?_⟩
    have e_l3 : (upd G4 l3 (.lst [.int n])) l3 = some (.lst [.int n]) := upd_same
    have p5 : IsP (upd G4 l3 (.lst [.int n])) p := p4.new _ f_l3
    have n_l3 : l3 ≠ p := p4.ne f_l3
    have u5 : Same G4 (upd G4 l3 (.lst [.int n])) := Same.new _ f_l3
    have t5 := t4.same u5
    try dsimp only
    generalize upd G4 l3 (.lst [.int n]) = G5 at e_l3 p5 u5 t5 ⊢
    refine ⟨(small60 (Nat.le_of_ble_eq_true rfl)), fun l4 f_l4 => ?_⟩
    have e_l4 : (upd G5 l4 (.lst [.ref l3])) l4 = some (.lst [.ref l3]) := upd_same
    have p6 : IsP (upd G5 l4 (.lst [.ref l3])) p := p5.new _ f_l4
    have n_l4 : l4 ≠ p := p5.ne f_l4
    have u6 : Same G5 (upd G5 l4 (.lst [.ref l3])) := Same.new _ f_l4
    have t6 := t5.same u6
    try dsimp only
    generalize upd G5 l4 (.lst [.ref l3]) = G6 at e_l4 p6 u6 t6 ⊢
    refine ⟨(small60 (Nat.le_of_ble_eq_true rfl)), fun l5 f_l5 => ?_⟩
    have e_l5 : (upd G6 l5 (.lst [.int n, .non, .bl true, .str "name", .ref l1, .ref t, .ref dd, .str "", .ref l4])) l5 = some (.lst [.int n, .non, .bl true, .str "name", .ref l1, .ref t, .ref dd, .str "", .ref l4]) := upd_same
    have p7 : IsP (upd G6 l5 (.lst [.int n, .non, .bl true, .str "name", .ref l1, .ref t, .ref dd, .str "", .ref l4])) p := p6.new _ f_l5
    have n_l5 : l5 ≠ p := p6.ne f_l5
    have u7 : Same G6 (upd G6 l5 (.lst [.int n, .non, .bl true, .str "name", .ref l1, .ref t, .ref dd, .str "", .ref l4])) := Same.new _ f_l5
    have t7 := t6.same u7
    try dsimp only
    generalize upd G6 l5 (.lst [.int n, .non, .bl true, .str "name", .ref l1, .ref t, .ref dd, .str "", .ref l4]) = G7 at e_l5 p7 u7 t7 ⊢
    refine ⟨_, rfl, _, rfl, p, _, rfl, p7, by decide, by decide, fun d zL zS zA d0 d1 => ?_⟩
    have p8 : IsP (upd G7 p (.dK (pur zL zS zA))) p := .put _ _ _
    have u8 : But p G7 (upd G7 p (.dK (pur zL zS zA))) := (But.refl p _).put _
    have t8 := t7.trans u8
    try dsimp only
    generalize upd G7 p (.dK (pur zL zS zA)) = G8 at p8 u8 t8 ⊢
    clear zL zS zA
    have d_l1 := But.none (b1.trans t0) f_l1 n_l1
    have c_l1 : Nw H G8 l1 = some (.lst [.int n]) := by rw [Nw.at_ d_l1]; exact (u8 _ _ (u7 _ _ (u6 _ _ (u5 _ _ (u4 _ _ (u3 _ _ (u2 _ _ e_l1)))))) n_l1)
    have d_l2 := But.none (b1.trans t1) f_l2 n_l2
    have c_l2 : Nw H G8 l2 = some (.lst []) := by rw [Nw.at_ d_l2]; exact (u8 _ _ (u7 _ _ (u6 _ _ (u5 _ _ (u4 _ _ (u3 _ _ e_l2))))) n_l2)
    have d_t := But.none (b1.trans t2) f_t n_t
    have c_t : Nw H G8 t = some (.tup [.int n, .ref l2]) := by rw [Nw.at_ d_t]; exact (u8 _ _ (u7 _ _ (u6 _ _ (u5 _ _ (u4 _ _ e_t)))) n_t)
    have d_dd := But.none (b1.trans t3) f_dd n_dd
    have c_dd : Nw H G8 dd = some (.dK [(Sum.inr "a", .int n)]) := by rw [Nw.at_ d_dd]; exact (u8 _ _ (u7 _ _ (u6 _ _ (u5 _ _ e_dd))) n_dd)
    have d_l3 := But.none (b1.trans t4) f_l3 n_l3
    have c_l3 : Nw H G8 l3 = some (.lst [.int n]) := by rw [Nw.at_ d_l3]; exact (u8 _ _ (u7 _ _ (u6 _ _ e_l3)) n_l3)
    have d_l4 := But.none (b1.trans t5) f_l4 n_l4
    have c_l4 : Nw H G8 l4 = some (.lst [.ref l3]) := by rw [Nw.at_ d_l4]; exact (u8 _ _ (u7 _ _ e_l4) n_l4)
    have d_l5 := But.none (b1.trans t6) f_l5 n_l5
    have c_l5 : Nw H G8 l5 = some (.lst [.int n, .non, .bl true, .str "name", .ref l1, .ref t, .ref dd, .str "", .ref l4]) := by rw [Nw.at_ d_l5]; exact (u8 _ _ e_l5 n_l5)
    have h5 : G8 l5 = some (.lst [.int n, .non, .bl true, .str "name", .ref l1, .ref t, .ref dd, .str "", .ref l4]) := Nw.same _ _ c_l5
    have bt := b1.trans t8
    have hd : d = 0 ∨ d = 1 ∨ d = 2 ∨ d = 3 ∨ d = 4 ∨ d = 5 ∨ d = 6 ∨ d = 7 ∨ d = 8 := by omega
    rcases hd with rfl | rfl | rfl | rfl | rfl | rfl | rfl | rfl | rfl
    · refine .inl ⟨l5, _, _, _, rfl, rfl, SqL.of h5, (show atI ([.int n, .non, .bl true, .str "name", .ref l1, .ref t, .ref dd, .str "", .ref l4] : List V) (0 : Int) = some (.int n) from rfl), ?_⟩
      exact kk _ _ _ _ bt p8 Nw.same (fun b o h => Nw.old h) (.dat (.int n) rfl) (sh_int sm)
    · refine .inl ⟨l5, _, _, _, rfl, rfl, SqL.of h5, (show atI ([.int n, .non, .bl true, .str "name", .ref l1, .ref t, .ref dd, .str "", .ref l4] : List V) (1 : Int) = some (.non) from rfl), ?_⟩
      exact kk _ _ _ _ bt p8 Nw.same (fun b o h => Nw.old h) (.dat .non rfl) (⟨rfl, by decide, by decide +kernel⟩)
    · refine .inl ⟨l5, _, _, _, rfl, rfl, SqL.of h5, (show atI ([.int n, .non, .bl true, .str "name", .ref l1, .ref t, .ref dd, .str "", .ref l4] : List V) (2 : Int) = some (.bl true) from rfl), ?_⟩
      exact kk _ _ _ _ bt p8 Nw.same (fun b o h => Nw.old h) (.dat (.bl true) rfl) (⟨rfl, by decide, by decide +kernel⟩)
    · refine .inl ⟨l5, _, _, _, rfl, rfl, SqL.of h5, (show atI ([.int n, .non, .bl true, .str "name", .ref l1, .ref t, .ref dd, .str "", .ref l4] : List V) (3 : Int) = some (.str "name") from rfl), ?_⟩
      exact kk _ _ _ _ bt p8 Nw.same (fun b o h => Nw.old h) (.dat (.str _) rfl) (⟨rfl, by decide, by decide +kernel⟩)
    · refine .inl ⟨l5, _, _, _, rfl, rfl, SqL.of h5, (show atI ([.int n, .non, .bl true, .str "name", .ref l1, .ref t, .ref dd, .str "", .ref l4] : List V) (4 : Int) = some (.ref l1) from rfl), ?_⟩
      exact kk _ _ _ _ bt p8 Nw.same (fun b o h => Nw.old h) (.dat (.lst (.inl c_l1) (.cons (.int n) .nil)) rfl) (sh_1 sm)
    · refine .inl ⟨l5, _, _, _, rfl, rfl, SqL.of h5, (show atI ([.int n, .non, .bl true, .str "name", .ref l1, .ref t, .ref dd, .str "", .ref l4] : List V) (5 : Int) = some (.ref t) from rfl), ?_⟩
      exact kk _ _ _ _ bt p8 Nw.same (fun b o h => Nw.old h) (.dat (.tup (.inl c_t) (.cons (.int n) (.cons (.lst (.inl c_l2) .nil) .nil))) rfl) (sh_2 sm)
    · refine .inl ⟨l5, _, _, _, rfl, rfl, SqL.of h5, (show atI ([.int n, .non, .bl true, .str "name", .ref l1, .ref t, .ref dd, .str "", .ref l4] : List V) (6 : Int) = some (.ref dd) from rfl), ?_⟩
      exact kk _ _ _ _ bt p8 Nw.same (fun b o h => Nw.old h) (.dic c_dd) (sh_3 sm)
    · refine .inl ⟨l5, _, _, _, rfl, rfl, SqL.of h5, (show atI ([.int n, .non, .bl true, .str "name", .ref l1, .ref t, .ref dd, .str "", .ref l4] : List V) (7 : Int) = some (.str "") from rfl), ?_⟩
      exact kk _ _ _ _ bt p8 Nw.same (fun b o h => Nw.old h) (.dat (.str _) rfl) (⟨rfl, by decide, by decide +kernel⟩)
    · refine .inl ⟨l5, _, _, _, rfl, rfl, SqL.of h5, (show atI ([.int n, .non, .bl true, .str "name", .ref l1, .ref t, .ref dd, .str "", .ref l4] : List V) (8 : Int) = some (.ref l4) from rfl), ?_⟩
      exact kk _ _ _ _ bt p8 Nw.same (fun b o h => Nw.old h) (.dat (.lst (.inl c_l4) (.cons (.lst (.inl c_l3) (.cons (.int n) .nil)) .nil)) rfl) (sh_4 sm)
end
end K09
set_option Elab.async false
set_option linter.all false
set_option maxRecDepth 100000
namespace K09
open PySem L2 PySem.NumText PyProof.Rows KC
section
variable {P : Program} {w : World} {K : PySem.W.Frag} {mg : Str → Option Value} {base : Heap}
theorem ok_Lmade {a : Ad} (T : Txt K mg a) : FnOk P w K mg base CX0 5 a.f_Lmade a.fd_Lmade ["_law_numbers", "_law_things"] (sp_Lmade a) := by
  have G_NoSpans_init : FnOk P w K mg base CX0 3 a.f_NoSpans_init a.fd_NoSpans_init ["self", "at"] (sp_NoSpans_init a) := ok_NoSpans_init T
  have G_NoText_init : FnOk P w K mg base CX0 3 a.f_NoText_init a.fd_NoText_init ["self", "at"] (sp_NoText_init a) := ok_NoText_init T
  have G_NoTable_init : FnOk P w K mg base CX0 3 a.f_NoTable_init a.fd_NoTable_init ["self", "row"] (sp_NoTable_init a) := ok_NoTable_init T
  have G_Beyond_init : FnOk P w K mg base CX0 3 a.f_Beyond_init a.fd_Beyond_init ["self", "row"] (sp_Beyond_init a) := ok_Beyond_init T
  have G_TooMany_init : FnOk P w K mg base CX0 3 a.f_TooMany_init a.fd_TooMany_init ["self", "many"] (sp_TooMany_init a) := ok_TooMany_init T
  have G_NoMoment_init : FnOk P w K mg base CX0 3 a.f_NoMoment_init a.fd_NoMoment_init ["self", "found"] (sp_NoMoment_init a) := ok_NoMoment_init T
  have G_NoReading_init : FnOk P w K mg base CX0 3 a.f_NoReading_init a.fd_NoReading_init ["self", "found"] (sp_NoReading_init a) := ok_NoReading_init T
  have G_NoShift_init : FnOk P w K mg base CX0 3 a.f_NoShift_init a.fd_NoShift_init ["self", "found"] (sp_NoShift_init a) := ok_NoShift_init T
  have G_NoName_init : FnOk P w K mg base CX0 3 a.f_NoName_init a.fd_NoName_init ["self", "found"] (sp_NoName_init a) := ok_NoName_init T
  have G_NoPlace_init : FnOk P w K mg base CX0 3 a.f_NoPlace_init a.fd_NoPlace_init ["self", "found"] (sp_NoPlace_init a) := ok_NoPlace_init T
  have G_NoEntry_init : FnOk P w K mg base CX0 3 a.f_NoEntry_init a.fd_NoEntry_init ["self", "found"] (sp_NoEntry_init a) := ok_NoEntry_init T
  have G_Taken_init : FnOk P w K mg base CX0 3 a.f_Taken_init a.fd_Taken_init ["self", "found"] (sp_Taken_init a) := ok_Taken_init T
  have G_NoMinutes_init : FnOk P w K mg base CX0 3 a.f_NoMinutes_init a.fd_NoMinutes_init ["self", "found"] (sp_NoMinutes_init a) := ok_NoMinutes_init T
  have G_NoBond_init : FnOk P w K mg base CX0 3 a.f_NoBond_init a.fd_NoBond_init ["self", "found"] (sp_NoBond_init a) := ok_NoBond_init T
  have G_NoPaper_init : FnOk P w K mg base CX0 3 a.f_NoPaper_init a.fd_NoPaper_init ["self", "found"] (sp_NoPaper_init a) := ok_NoPaper_init T
  have G_NoLine_init : FnOk P w K mg base CX0 3 a.f_NoLine_init a.fd_NoLine_init ["self", "found"] (sp_NoLine_init a) := ok_NoLine_init T
  have G_NoWay_init : FnOk P w K mg base CX0 3 a.f_NoWay_init a.fd_NoWay_init ["self", "paper"] (sp_NoWay_init a) := ok_NoWay_init T
  have G_Unwritten_init : FnOk P w K mg base CX0 3 a.f_Unwritten_init a.fd_Unwritten_init ["self", "name"] (sp_Unwritten_init a) := ok_Unwritten_init T
  have G_Unlike_init : FnOk P w K mg base CX0 3 a.f_Unlike_init a.fd_Unlike_init ["self", "place", "moment"] (sp_Unlike_init a) := ok_Unlike_init T
  refine T.d_Lmade.F.ok sc_Lmade (fun vs H Q E h => ?_) (fun cdv A outer s H vs Q E hr h => ?_)
  · obtain ⟨p, q, n, t, rfl, hp, hq, kk⟩ := h
    rfl
  · obtain ⟨p, q, n, t, rfl, hp, hq, kk⟩ := h
    have hu := hu_of hr
    have hU := hr.units
    have h_NoSpans_init : Room (3 + 1) _ := hr.mono (by decide)
    have h_NoText_init : Room (3 + 1) _ := hr.mono (by decide)
    have h_NoTable_init : Room (3 + 1) _ := hr.mono (by decide)
    have h_Beyond_init : Room (3 + 1) _ := hr.mono (by decide)
    have h_TooMany_init : Room (3 + 1) _ := hr.mono (by decide)
    have h_NoMoment_init : Room (3 + 1) _ := hr.mono (by decide)
    have h_NoReading_init : Room (3 + 1) _ := hr.mono (by decide)
    have h_NoShift_init : Room (3 + 1) _ := hr.mono (by decide)
    have h_NoName_init : Room (3 + 1) _ := hr.mono (by decide)
    have h_NoPlace_init : Room (3 + 1) _ := hr.mono (by decide)
    have h_NoEntry_init : Room (3 + 1) _ := hr.mono (by decide)
    have h_Taken_init : Room (3 + 1) _ := hr.mono (by decide)
    have h_NoMinutes_init : Room (3 + 1) _ := hr.mono (by decide)
    have h_NoBond_init : Room (3 + 1) _ := hr.mono (by decide)
    have h_NoPaper_init : Room (3 + 1) _ := hr.mono (by decide)
    have h_NoLine_init : Room (3 + 1) _ := hr.mono (by decide)
    have h_NoWay_init : Room (3 + 1) _ := hr.mono (by decide)
    have h_Unwritten_init : Room (3 + 1) _ := hr.mono (by decide)
    have h_Unlike_init : Room (3 + 1) _ := hr.mono (by decide)
    refine ⟨_, (@pss_cons _ _ _ _ _ (by exact (@ps_set _ _ 2 _ _ _ _ (by exact sc_Lmade.nd) (by rfl) (by exact Or.inl rfl) (by exact (@pe_lst _ _ _ _ (by exact (@pa_cons _ _ _ _ _ (by exact (pe_mk T.X_NoSpans G_NoSpans_init h_NoSpans_init rfl T.g_NoSpans T.d_NoSpans_init.b (pa_cons (pe_ix (r := rIx K) ix_seq (pv 0) pe_int (fun _ _ => rfl)) pa_nil))) (by exact (@pa_cons _ _ _ _ _ (by exact (pe_mk T.X_NoText G_NoText_init h_NoText_init rfl T.g_NoText T.d_NoText_init.b (pa_cons (pe_ix (r := rIx K) ix_seq (pv 0) pe_int (fun _ _ => rfl)) pa_nil))) (by exact (@pa_cons _ _ _ _ _ (by exact (pe_mk T.X_NoTable G_NoTable_init h_NoTable_init rfl T.g_NoTable T.d_NoTable_init.b (pa_cons (pe_ix (r := rIx K) ix_seq (pv 0) pe_int (fun _ _ => rfl)) pa_nil))) (by exact (@pa_cons _ _ _ _ _ (by exact (pe_mk T.X_Beyond G_Beyond_init h_Beyond_init rfl T.g_Beyond T.d_Beyond_init.b (pa_cons (pe_ix (r := rIx K) ix_seq (pv 0) pe_int (fun _ _ => rfl)) pa_nil))) (by exact (@pa_cons _ _ _ _ _ (by exact (pe_mk T.X_TooMany G_TooMany_init h_TooMany_init rfl T.g_TooMany T.d_TooMany_init.b (pa_cons (pe_ix (r := rIx K) ix_seq (pv 0) pe_int (fun _ _ => rfl)) pa_nil))) (by exact (@pa_nil _)) (by rfl))) (by rfl))) (by rfl))) (by rfl))) (by rfl))))) (by rfl) (by exact .inl rfl)))
      (by exact (pss_cons (ps_set (i := 2) sc_Lmade.nd rfl (Or.inl rfl) (pe_op uAdd (pv 2) (@pe_lst _ _ _ _ (by exact (@pa_cons _ _ _ _ _ (by exact (pe_mk T.X_NoMoment G_NoMoment_init h_NoMoment_init rfl T.g_NoMoment T.d_NoMoment_init.b (pa_cons (pe_ix (r := rIx K) ix_seq (pv 1) pe_int (fun _ _ => rfl)) pa_nil))) (by exact (@pa_cons _ _ _ _ _ (by exact (pe_mk T.X_NoReading G_NoReading_init h_NoReading_init rfl T.g_NoReading T.d_NoReading_init.b (pa_cons (pe_ix (r := rIx K) ix_seq (pv 1) pe_int (fun _ _ => rfl)) pa_nil))) (by exact (@pa_cons _ _ _ _ _ (by exact (pe_mk T.X_NoShift G_NoShift_init h_NoShift_init rfl T.g_NoShift T.d_NoShift_init.b (pa_cons (pe_ix (r := rIx K) ix_seq (pv 1) pe_int (fun _ _ => rfl)) pa_nil))) (by exact (@pa_cons _ _ _ _ _ (by exact (pe_mk T.X_NoName G_NoName_init h_NoName_init rfl T.g_NoName T.d_NoName_init.b (pa_cons (pe_ix (r := rIx K) ix_seq (pv 1) pe_int (fun _ _ => rfl)) pa_nil))) (by exact (@pa_cons _ _ _ _ _ (by exact (pe_mk T.X_NoPlace G_NoPlace_init h_NoPlace_init rfl T.g_NoPlace T.d_NoPlace_init.b (pa_cons (pe_ix (r := rIx K) ix_seq (pv 1) pe_int (fun _ _ => rfl)) pa_nil))) (by exact (@pa_nil _)) (by rfl))) (by rfl))) (by rfl))) (by rfl))) (by rfl))))))
      (pss_cons (ps_set (i := 2) sc_Lmade.nd rfl (Or.inl rfl) (pe_op uAdd (pv 2) (@pe_lst _ _ _ _ (by exact (@pa_cons _ _ _ _ _ (by exact (pe_mk T.X_NoEntry G_NoEntry_init h_NoEntry_init rfl T.g_NoEntry T.d_NoEntry_init.b (pa_cons (pe_ix (r := rIx K) ix_seq (pv 1) pe_int (fun _ _ => rfl)) pa_nil))) (by exact (@pa_cons _ _ _ _ _ (by exact (pe_mk T.X_Taken G_Taken_init h_Taken_init rfl T.g_Taken T.d_Taken_init.b (pa_cons (pe_ix (r := rIx K) ix_seq (pv 1) pe_int (fun _ _ => rfl)) pa_nil))) (by exact (@pa_cons _ _ _ _ _ (by exact (pe_mk T.X_NoMinutes G_NoMinutes_init h_NoMinutes_init rfl T.g_NoMinutes T.d_NoMinutes_init.b (pa_cons (pe_ix (r := rIx K) ix_seq (pv 1) pe_int (fun _ _ => rfl)) pa_nil))) (by exact (@pa_cons _ _ _ _ _ (by exact (pe_mk T.X_NoBond G_NoBond_init h_NoBond_init rfl T.g_NoBond T.d_NoBond_init.b (pa_cons (pe_ix (r := rIx K) ix_seq (pv 1) pe_int (fun _ _ => rfl)) pa_nil))) (by exact (@pa_cons _ _ _ _ _ (by exact (pe_mk T.X_NoPaper G_NoPaper_init h_NoPaper_init rfl T.g_NoPaper T.d_NoPaper_init.b (pa_cons (pe_ix (r := rIx K) ix_seq (pv 1) pe_int (fun _ _ => rfl)) pa_nil))) (by exact (@pa_nil _)) (by rfl))) (by rfl))) (by rfl))) (by rfl))) (by rfl))))))
      (pss_cons (ps_set (i := 2) sc_Lmade.nd rfl (Or.inl rfl) (pe_op uAdd (pv 2) (@pe_lst _ _ _ _ (by exact (@pa_cons _ _ _ _ _ (by exact (pe_mk T.X_NoLine G_NoLine_init h_NoLine_init rfl T.g_NoLine T.d_NoLine_init.b (pa_cons (pe_ix (r := rIx K) ix_seq (pv 1) pe_int (fun _ _ => rfl)) pa_nil))) (by exact (@pa_cons _ _ _ _ _ (by exact (pe_mk T.X_NoWay G_NoWay_init h_NoWay_init rfl T.g_NoWay T.d_NoWay_init.b (pa_cons (pe_ix (r := rIx K) ix_seq (pv 1) pe_int (fun _ _ => rfl)) pa_nil))) (by exact (@pa_cons _ _ _ _ _ (by exact (pe_mk T.X_Unwritten G_Unwritten_init h_Unwritten_init rfl T.g_Unwritten T.d_Unwritten_init.b (pa_cons (pe_ix (r := rIx K) ix_seq (pv 1) pe_int (fun _ _ => rfl)) pa_nil))) (by exact (@pa_nil _)) (by rfl))) (by rfl))) (by rfl))))))
      (pss_one (ps_ret (pe_op uAdd (pv 2) (pe_lst (pa_cons (pe_mk2 T.X_Unlike G_Unlike_init h_Unlike_init rfl T.g_Unlike T.d_Unlike_init.b (pa_cons (pe_ix (r := rIx K) ix_seq (pv 1) pe_int (fun _ _ => rfl)) (pa_cons (pe_ix (r := rIx K) ix_seq (pv 0) pe_int (fun _ _ => rfl)) pa_nil))) pa_nil)))))))))), ?_⟩
    try dsimp only [cxOf, Cx.nox]
    have c0 : Same H H := Same.refl _
    refine ⟨_, rfl, .inl ⟨p, _, _, _, rfl, rfl, SqL.of (c0 _ _ hp), rfl, _, rfl, fun e0 G1 s1 m0 => ?_⟩⟩
    have c1 := c0.trans s1
    refine ⟨_, rfl, .inl ⟨p, _, _, _, rfl, rfl, SqL.of (c1 _ _ hp), rfl, _, rfl, fun e1 G2 s2 m1 => ?_⟩⟩
    have c2 := c1.trans s2
    refine ⟨_, rfl, .inl ⟨p, _, _, _, rfl, rfl, SqL.of (c2 _ _ hp), rfl, _, rfl, fun e2 G3 s3 m2 => ?_⟩⟩
    have c3 := c2.trans s3
    refine ⟨_, rfl, .inl ⟨p, _, _, _, rfl, rfl, SqL.of (c3 _ _ hp), rfl, _, rfl, fun e3 G4 s4 m3 => ?_⟩⟩
    have c4 := c3.trans s4
    refine ⟨_, rfl, .inl ⟨p, _, _, _, rfl, rfl, SqL.of (c4 _ _ hp), rfl, _, rfl, fun e4 G5 s5 m4 => ?_⟩⟩
    have c5 := c4.trans s5
    refine ⟨small60 (Nat.le_of_ble_eq_true rfl), fun l0 f_l0 => ?_⟩
    have e_l0 : (upd G5 l0 (.lst [e0, e1, e2, e3, e4])) l0 = some (.lst [e0, e1, e2, e3, e4]) := upd_same
    have s6 : Same G5 (upd G5 l0 (.lst [e0, e1, e2, e3, e4])) := Same.new _ f_l0
    try dsimp only
    generalize upd G5 l0 (.lst [e0, e1, e2, e3, e4]) = G6 at e_l0 s6 ⊢
    have c6 := c5.trans s6
    refine ⟨_, rfl, ?_⟩
    refine ⟨_, rfl, .inl ⟨q, _, _, _, rfl, rfl, SqL.of (c6 _ _ hq), rfl, _, rfl, fun e5 G7 s7 m5 => ?_⟩⟩
    have c7 := c6.trans s7
    refine ⟨_, rfl, .inl ⟨q, _, _, _, rfl, rfl, SqL.of (c7 _ _ hq), rfl, _, rfl, fun e6 G8 s8 m6 => ?_⟩⟩
    have c8 := c7.trans s8
    refine ⟨_, rfl, .inl ⟨q, _, _, _, rfl, rfl, SqL.of (c8 _ _ hq), rfl, _, rfl, fun e7 G9 s9 m7 => ?_⟩⟩
    have c9 := c8.trans s9
    refine ⟨_, rfl, .inl ⟨q, _, _, _, rfl, rfl, SqL.of (c9 _ _ hq), rfl, _, rfl, fun e8 G10 s10 m8 => ?_⟩⟩
    have c10 := c9.trans s10
    refine ⟨_, rfl, .inl ⟨q, _, _, _, rfl, rfl, SqL.of (c10 _ _ hq), rfl, _, rfl, fun e9 G11 s11 m9 => ?_⟩⟩
    have c11 := c10.trans s11
    refine ⟨small60 (Nat.le_of_ble_eq_true rfl), fun l1 f_l1 => ?_⟩
    have e_l1 : (upd G11 l1 (.lst [e5, e6, e7, e8, e9])) l1 = some (.lst [e5, e6, e7, e8, e9]) := upd_same
    have s12 : Same G11 (upd G11 l1 (.lst [e5, e6, e7, e8, e9])) := Same.new _ f_l1
    try dsimp only
    generalize upd G11 l1 (.lst [e5, e6, e7, e8, e9]) = G12 at e_l1 s12 ⊢
    have c12 := c11.trans s12
    refine .inr (.inl ⟨l0, l1, _, _, rfl, rfl, (s12 _ _ (s11 _ _ (s10 _ _ (s9 _ _ (s8 _ _ (s7 _ _ e_l0)))))), e_l1, small60 (Nat.le_of_ble_eq_true rfl), fun k1 f_k1 => ?_⟩)
    have e_k1 : (upd G12 k1 (.lst ([e0, e1, e2, e3, e4] ++ [e5, e6, e7, e8, e9]))) k1 = some (.lst ([e0, e1, e2, e3, e4] ++ [e5, e6, e7, e8, e9])) := upd_same
    have s13 : Same G12 (upd G12 k1 (.lst ([e0, e1, e2, e3, e4] ++ [e5, e6, e7, e8, e9]))) := Same.new _ f_k1
    try dsimp only
    generalize upd G12 k1 (.lst ([e0, e1, e2, e3, e4] ++ [e5, e6, e7, e8, e9])) = G13 at e_k1 s13 ⊢
    have c13 := c12.trans s13
    refine ⟨_, rfl, ?_⟩
    refine ⟨_, rfl, .inl ⟨q, _, _, _, rfl, rfl, SqL.of (c13 _ _ hq), rfl, _, rfl, fun e10 G14 s14 m10 => ?_⟩⟩
    have c14 := c13.trans s14
    refine ⟨_, rfl, .inl ⟨q, _, _, _, rfl, rfl, SqL.of (c14 _ _ hq), rfl, _, rfl, fun e11 G15 s15 m11 => ?_⟩⟩
    have c15 := c14.trans s15
    refine ⟨_, rfl, .inl ⟨q, _, _, _, rfl, rfl, SqL.of (c15 _ _ hq), rfl, _, rfl, fun e12 G16 s16 m12 => ?_⟩⟩
    have c16 := c15.trans s16
    refine ⟨_, rfl, .inl ⟨q, _, _, _, rfl, rfl, SqL.of (c16 _ _ hq), rfl, _, rfl, fun e13 G17 s17 m13 => ?_⟩⟩
    have c17 := c16.trans s17
    refine ⟨_, rfl, .inl ⟨q, _, _, _, rfl, rfl, SqL.of (c17 _ _ hq), rfl, _, rfl, fun e14 G18 s18 m14 => ?_⟩⟩
    have c18 := c17.trans s18
    refine ⟨small60 (Nat.le_of_ble_eq_true rfl), fun l2 f_l2 => ?_⟩
    have e_l2 : (upd G18 l2 (.lst [e10, e11, e12, e13, e14])) l2 = some (.lst [e10, e11, e12, e13, e14]) := upd_same
    have s19 : Same G18 (upd G18 l2 (.lst [e10, e11, e12, e13, e14])) := Same.new _ f_l2
    try dsimp only
    generalize upd G18 l2 (.lst [e10, e11, e12, e13, e14]) = G19 at e_l2 s19 ⊢
    have c19 := c18.trans s19
    refine .inr (.inl ⟨k1, l2, _, _, rfl, rfl, (s19 _ _ (s18 _ _ (s17 _ _ (s16 _ _ (s15 _ _ (s14 _ _ e_k1)))))), e_l2, small60 (Nat.le_of_ble_eq_true rfl), fun k2 f_k2 => ?_⟩)
    have e_k2 : (upd G19 k2 (.lst (([e0, e1, e2, e3, e4] ++ [e5, e6, e7, e8, e9]) ++ [e10, e11, e12, e13, e14]))) k2 = some (.lst (([e0, e1, e2, e3, e4] ++ [e5, e6, e7, e8, e9]) ++ [e10, e11, e12, e13, e14])) := upd_same
    have s20 : Same G19 (upd G19 k2 (.lst (([e0, e1, e2, e3, e4] ++ [e5, e6, e7, e8, e9]) ++ [e10, e11, e12, e13, e14]))) := Same.new _ f_k2
    try dsimp only
    generalize upd G19 k2 (.lst (([e0, e1, e2, e3, e4] ++ [e5, e6, e7, e8, e9]) ++ [e10, e11, e12, e13, e14])) = G20 at e_k2 s20 ⊢
    have c20 := c19.trans s20
    refine ⟨_, rfl, ?_⟩
    refine ⟨_, rfl, .inl ⟨q, _, _, _, rfl, rfl, SqL.of (c20 _ _ hq), rfl, _, rfl, fun e15 G21 s21 m15 => ?_⟩⟩
    have c21 := c20.trans s21
    refine ⟨_, rfl, .inl ⟨q, _, _, _, rfl, rfl, SqL.of (c21 _ _ hq), rfl, _, rfl, fun e16 G22 s22 m16 => ?_⟩⟩
    have c22 := c21.trans s22
    refine ⟨_, rfl, .inl ⟨q, _, _, _, rfl, rfl, SqL.of (c22 _ _ hq), rfl, _, rfl, fun e17 G23 s23 m17 => ?_⟩⟩
    have c23 := c22.trans s23
    refine ⟨small60 (Nat.le_of_ble_eq_true rfl), fun l3 f_l3 => ?_⟩
    have e_l3 : (upd G23 l3 (.lst [e15, e16, e17])) l3 = some (.lst [e15, e16, e17]) := upd_same
    have s24 : Same G23 (upd G23 l3 (.lst [e15, e16, e17])) := Same.new _ f_l3
    try dsimp only
    generalize upd G23 l3 (.lst [e15, e16, e17]) = G24 at e_l3 s24 ⊢
    have c24 := c23.trans s24
    refine .inr (.inl ⟨k2, l3, _, _, rfl, rfl, (s24 _ _ (s23 _ _ (s22 _ _ (s21 _ _ e_k2)))), e_l3, small60 (Nat.le_of_ble_eq_true rfl), fun k3 f_k3 => ?_⟩)
    have e_k3 : (upd G24 k3 (.lst ((([e0, e1, e2, e3, e4] ++ [e5, e6, e7, e8, e9]) ++ [e10, e11, e12, e13, e14]) ++ [e15, e16, e17]))) k3 = some (.lst ((([e0, e1, e2, e3, e4] ++ [e5, e6, e7, e8, e9]) ++ [e10, e11, e12, e13, e14]) ++ [e15, e16, e17])) := upd_same
    have s25 : Same G24 (upd G24 k3 (.lst ((([e0, e1, e2, e3, e4] ++ [e5, e6, e7, e8, e9]) ++ [e10, e11, e12, e13, e14]) ++ [e15, e16, e17]))) := Same.new _ f_k3
    try dsimp only
    generalize upd G24 k3 (.lst ((([e0, e1, e2, e3, e4] ++ [e5, e6, e7, e8, e9]) ++ [e10, e11, e12, e13, e14]) ++ [e15, e16, e17])) = G25 at e_k3 s25 ⊢
    have c25 := c24.trans s25
    refine ⟨_, rfl, _, rfl, .inl ⟨q, _, _, _, rfl, rfl, SqL.of (c25 _ _ hq), rfl, _, rfl, .inl ⟨p, _, _, _, rfl, rfl, SqL.of (c25 _ _ hp), rfl, _, _, rfl, fun e18 G26 s26 m18 => ?_⟩⟩⟩
    have c26 := c25.trans s26
    refine ⟨small60 (Nat.le_of_ble_eq_true rfl), fun l9 f_l9 => ?_⟩
    have e_l9 : (upd G26 l9 (.lst [e18])) l9 = some (.lst [e18]) := upd_same
    have s27 : Same G26 (upd G26 l9 (.lst [e18])) := Same.new _ f_l9
    try dsimp only
    generalize upd G26 l9 (.lst [e18]) = G27 at e_l9 s27 ⊢
    have c27 := c26.trans s27
    refine .inr (.inl ⟨k3, l9, _, _, rfl, rfl, (s27 _ _ (s26 _ _ e_k3)), e_l9, small60 (Nat.le_of_ble_eq_true rfl), fun r f_r => ?_⟩)
    have e_r : (upd G27 r (.lst (((([e0, e1, e2, e3, e4] ++ [e5, e6, e7, e8, e9]) ++ [e10, e11, e12, e13, e14]) ++ [e15, e16, e17]) ++ [e18]))) r = some (.lst (((([e0, e1, e2, e3, e4] ++ [e5, e6, e7, e8, e9]) ++ [e10, e11, e12, e13, e14]) ++ [e15, e16, e17]) ++ [e18])) := upd_same
    have s28 : Same G27 (upd G27 r (.lst (((([e0, e1, e2, e3, e4] ++ [e5, e6, e7, e8, e9]) ++ [e10, e11, e12, e13, e14]) ++ [e15, e16, e17]) ++ [e18]))) := Same.new _ f_r
    try dsimp only
    generalize upd G27 r (.lst (((([e0, e1, e2, e3, e4] ++ [e5, e6, e7, e8, e9]) ++ [e10, e11, e12, e13, e14]) ++ [e15, e16, e17]) ++ [e18])) = G28 at e_r s28 ⊢
    have c28 := c27.trans s28
    have z28 : Same G28 G28 := Same.refl _
    have z27 := s28.trans z28
    have z26 := s27.trans z27
    have z25 := s26.trans z26
    have z24 := s25.trans z25
    have z23 := s24.trans z24
    have z22 := s23.trans z23
    have z21 := s22.trans z22
    have z20 := s21.trans z21
    have z19 := s20.trans z20
    have z18 := s19.trans z19
    have z17 := s18.trans z18
    have z16 := s17.trans z17
    have z15 := s16.trans z16
    have z14 := s15.trans z15
    have z13 := s14.trans z14
    have z12 := s13.trans z13
    have z11 := s12.trans z12
    have z10 := s11.trans z11
    have z9 := s10.trans z10
    have z8 := s9.trans z9
    have z7 := s8.trans z8
    have z6 := s7.trans z7
    have z5 := s6.trans z6
    have z4 := s5.trans z5
    have z3 := s4.trans z4
    have z2 := s3.trans z3
    have z1 := s2.trans z2
    exact kk _ _ _ c28 e_r (.cons (m0.same z1) (.cons (m1.same z2) (.cons (m2.same z3) (.cons (m3.same z4) (.cons (m4.same z5) (.cons (m5.same z7) (.cons (m6.same z8) (.cons (m7.same z9) (.cons (m8.same z10) (.cons (m9.same z11) (.cons (m10.same z14) (.cons (m11.same z15) (.cons (m12.same z16) (.cons (m13.same z17) (.cons (m14.same z18) (.cons (m15.same z21) (.cons (m16.same z22) (.cons (m17.same z23) (.cons (m18.same z26) (.nil))))))))))))))))))))
end
end K09
set_option Elab.async false
set_option linter.all false
set_option maxRecDepth 100000
namespace K09
open PySem L2 PySem.NumText PyProof.Rows KC
section
variable {P : Program} {w : World} {K : PySem.W.Frag} {mg : Str → Option Value} {base : Heap}
theorem ok_Lkinds {a : Ad} (T : Txt K mg a) : FnOk P w K mg base CX0 1 a.f_Lkinds a.fd_Lkinds ["_law_e"] (sp_Lkinds K a) := by
  refine T.d_Lkinds.F.ok sc_Lkinds (fun vs H Q E h => ?_) (fun cdv A outer s H vs Q E hr h => ?_)
  · obtain ⟨e, C, rfl, xe, isa, kk⟩ := h
    rfl
  · obtain ⟨e, C, rfl, xe, isa, kk⟩ := h
    have hu := hu_of hr
    have hU := hr.units
    refine ⟨_, (@pss_cons _ _ _ _ _ (by exact (@ps_set _ _ 1 _ _ _ _ (by exact sc_Lkinds.nd) (by rfl) (by exact Or.inl rfl) (by exact (@pe_lst _ _ _ _ (by exact (@pa_cons _ _ _ _ _ (by exact (pe_callB (r := rIsXE K) call_isXE (by rfl) T.n_isinstance boot_isinstance' (pa_cons (pv 0) (pa_cons (pe_glob (v := .ref a.c_NoSpans) rfl T.g_NoSpans rfl) pa_nil)))) (by exact (@pa_cons _ _ _ _ _ (by exact (pe_callB (r := rIsXE K) call_isXE (by rfl) T.n_isinstance boot_isinstance' (pa_cons (pv 0) (pa_cons (pe_glob (v := .ref a.c_NoText) rfl T.g_NoText rfl) pa_nil)))) (by exact (@pa_cons _ _ _ _ _ (by exact (pe_callB (r := rIsXE K) call_isXE (by rfl) T.n_isinstance boot_isinstance' (pa_cons (pv 0) (pa_cons (pe_glob (v := .ref a.c_NoTable) rfl T.g_NoTable rfl) pa_nil)))) (by exact (@pa_cons _ _ _ _ _ (by exact (pe_callB (r := rIsXE K) call_isXE (by rfl) T.n_isinstance boot_isinstance' (pa_cons (pv 0) (pa_cons (pe_glob (v := .ref a.c_Beyond) rfl T.g_Beyond rfl) pa_nil)))) (by exact (@pa_nil _)) (by rfl))) (by rfl))) (by rfl))) (by rfl))))) (by rfl) (by exact .inl rfl)))
      (by exact (pss_cons (ps_set (i := 1) sc_Lkinds.nd rfl (Or.inl rfl) (pe_op uAdd (pv 1) (@pe_lst _ _ _ _ (by exact (@pa_cons _ _ _ _ _ (by exact (pe_callB (r := rIsXE K) call_isXE (by rfl) T.n_isinstance boot_isinstance' (pa_cons (pv 0) (pa_cons (pe_glob (v := .ref a.c_TooMany) rfl T.g_TooMany rfl) pa_nil)))) (by exact (@pa_cons _ _ _ _ _ (by exact (pe_callB (r := rIsXE K) call_isXE (by rfl) T.n_isinstance boot_isinstance' (pa_cons (pv 0) (pa_cons (pe_glob (v := .ref a.c_NoMoment) rfl T.g_NoMoment rfl) pa_nil)))) (by exact (@pa_cons _ _ _ _ _ (by exact (pe_callB (r := rIsXE K) call_isXE (by rfl) T.n_isinstance boot_isinstance' (pa_cons (pv 0) (pa_cons (pe_glob (v := .ref a.c_NoReading) rfl T.g_NoReading rfl) pa_nil)))) (by exact (@pa_cons _ _ _ _ _ (by exact (pe_callB (r := rIsXE K) call_isXE (by rfl) T.n_isinstance boot_isinstance' (pa_cons (pv 0) (pa_cons (pe_glob (v := .ref a.c_NoShift) rfl T.g_NoShift rfl) pa_nil)))) (by exact (@pa_nil _)) (by rfl))) (by rfl))) (by rfl))) (by rfl))))))
      (pss_cons (ps_set (i := 1) sc_Lkinds.nd rfl (Or.inl rfl) (pe_op uAdd (pv 1) (@pe_lst _ _ _ _ (by exact (@pa_cons _ _ _ _ _ (by exact (pe_callB (r := rIsXE K) call_isXE (by rfl) T.n_isinstance boot_isinstance' (pa_cons (pv 0) (pa_cons (pe_glob (v := .ref a.c_NoName) rfl T.g_NoName rfl) pa_nil)))) (by exact (@pa_cons _ _ _ _ _ (by exact (pe_callB (r := rIsXE K) call_isXE (by rfl) T.n_isinstance boot_isinstance' (pa_cons (pv 0) (pa_cons (pe_glob (v := .ref a.c_NoPlace) rfl T.g_NoPlace rfl) pa_nil)))) (by exact (@pa_cons _ _ _ _ _ (by exact (pe_callB (r := rIsXE K) call_isXE (by rfl) T.n_isinstance boot_isinstance' (pa_cons (pv 0) (pa_cons (pe_glob (v := .ref a.c_NoEntry) rfl T.g_NoEntry rfl) pa_nil)))) (by exact (@pa_cons _ _ _ _ _ (by exact (pe_callB (r := rIsXE K) call_isXE (by rfl) T.n_isinstance boot_isinstance' (pa_cons (pv 0) (pa_cons (pe_glob (v := .ref a.c_Taken) rfl T.g_Taken rfl) pa_nil)))) (by exact (@pa_nil _)) (by rfl))) (by rfl))) (by rfl))) (by rfl))))))
      (pss_cons (ps_set (i := 1) sc_Lkinds.nd rfl (Or.inl rfl) (pe_op uAdd (pv 1) (@pe_lst _ _ _ _ (by exact (@pa_cons _ _ _ _ _ (by exact (pe_callB (r := rIsXE K) call_isXE (by rfl) T.n_isinstance boot_isinstance' (pa_cons (pv 0) (pa_cons (pe_glob (v := .ref a.c_NoMinutes) rfl T.g_NoMinutes rfl) pa_nil)))) (by exact (@pa_cons _ _ _ _ _ (by exact (pe_callB (r := rIsXE K) call_isXE (by rfl) T.n_isinstance boot_isinstance' (pa_cons (pv 0) (pa_cons (pe_glob (v := .ref a.c_NoBond) rfl T.g_NoBond rfl) pa_nil)))) (by exact (@pa_cons _ _ _ _ _ (by exact (pe_callB (r := rIsXE K) call_isXE (by rfl) T.n_isinstance boot_isinstance' (pa_cons (pv 0) (pa_cons (pe_glob (v := .ref a.c_NoPaper) rfl T.g_NoPaper rfl) pa_nil)))) (by exact (@pa_cons _ _ _ _ _ (by exact (pe_callB (r := rIsXE K) call_isXE (by rfl) T.n_isinstance boot_isinstance' (pa_cons (pv 0) (pa_cons (pe_glob (v := .ref a.c_NoLine) rfl T.g_NoLine rfl) pa_nil)))) (by exact (@pa_nil _)) (by rfl))) (by rfl))) (by rfl))) (by rfl))))))
      (pss_one (ps_ret (pe_op uAdd (pv 1) (@pe_lst _ _ _ _ (by exact (@pa_cons _ _ _ _ _ (by exact (pe_callB (r := rIsXE K) call_isXE (by rfl) T.n_isinstance boot_isinstance' (pa_cons (pv 0) (pa_cons (pe_glob (v := .ref a.c_NoWay) rfl T.g_NoWay rfl) pa_nil)))) (by exact (@pa_cons _ _ _ _ _ (by exact (pe_callB (r := rIsXE K) call_isXE (by rfl) T.n_isinstance boot_isinstance' (pa_cons (pv 0) (pa_cons (pe_glob (v := .ref a.c_Unwritten) rfl T.g_Unwritten rfl) pa_nil)))) (by exact (@pa_cons _ _ _ _ _ (by exact (pe_callB (r := rIsXE K) call_isXE (by rfl) T.n_isinstance boot_isinstance' (pa_cons (pv 0) (pa_cons (pe_glob (v := .ref a.c_Unlike) rfl T.g_Unlike rfl) pa_nil)))) (by exact (@pa_nil _)) (by rfl))) (by rfl))) (by rfl)))))))))))), ?_⟩
    try dsimp only [cxOf, Cx.nox]
    have c0 : Same H H := Same.refl _
    have i0 := isa a.c_NoSpans (by unfold cl; simp only [List.mem_cons, true_or, or_true])
    have i1 := isa a.c_NoText (by unfold cl; simp only [List.mem_cons, true_or, or_true])
    have i2 := isa a.c_NoTable (by unfold cl; simp only [List.mem_cons, true_or, or_true])
    have i3 := isa a.c_Beyond (by unfold cl; simp only [List.mem_cons, true_or, or_true])
    have i4 := isa a.c_TooMany (by unfold cl; simp only [List.mem_cons, true_or, or_true])
    have i5 := isa a.c_NoMoment (by unfold cl; simp only [List.mem_cons, true_or, or_true])
    have i6 := isa a.c_NoReading (by unfold cl; simp only [List.mem_cons, true_or, or_true])
    have i7 := isa a.c_NoShift (by unfold cl; simp only [List.mem_cons, true_or, or_true])
    have i8 := isa a.c_NoName (by unfold cl; simp only [List.mem_cons, true_or, or_true])
    have i9 := isa a.c_NoPlace (by unfold cl; simp only [List.mem_cons, true_or, or_true])
    have i10 := isa a.c_NoEntry (by unfold cl; simp only [List.mem_cons, true_or, or_true])
    have i11 := isa a.c_Taken (by unfold cl; simp only [List.mem_cons, true_or, or_true])
    have i12 := isa a.c_NoMinutes (by unfold cl; simp only [List.mem_cons, true_or, or_true])
    have i13 := isa a.c_NoBond (by unfold cl; simp only [List.mem_cons, true_or, or_true])
    have i14 := isa a.c_NoPaper (by unfold cl; simp only [List.mem_cons, true_or, or_true])
    have i15 := isa a.c_NoLine (by unfold cl; simp only [List.mem_cons, true_or, or_true])
    have i16 := isa a.c_NoWay (by unfold cl; simp only [List.mem_cons, true_or, or_true])
    have i17 := isa a.c_Unwritten (by unfold cl; simp only [List.mem_cons, true_or, or_true])
    have i18 := isa a.c_Unlike (by unfold cl; simp only [List.mem_cons, true_or, or_true])
    refine ⟨_, rfl, e, C, _, _, rfl, xe.same c0, i0, ?_⟩
    refine ⟨_, rfl, e, C, _, _, rfl, xe.same c0, i1, ?_⟩
    refine ⟨_, rfl, e, C, _, _, rfl, xe.same c0, i2, ?_⟩
    refine ⟨_, rfl, e, C, _, _, rfl, xe.same c0, i3, ?_⟩
    refine ⟨small60 (Nat.le_of_ble_eq_true rfl), fun l0 f_l0 => ?_⟩
    have e_l0 : (upd H l0 (.lst [.bl (decide (C = a.c_NoSpans)), .bl (decide (C = a.c_NoText)), .bl (decide (C = a.c_NoTable)), .bl (decide (C = a.c_Beyond))])) l0 = some (.lst [.bl (decide (C = a.c_NoSpans)), .bl (decide (C = a.c_NoText)), .bl (decide (C = a.c_NoTable)), .bl (decide (C = a.c_Beyond))]) := upd_same
    have s1 : Same H (upd H l0 (.lst [.bl (decide (C = a.c_NoSpans)), .bl (decide (C = a.c_NoText)), .bl (decide (C = a.c_NoTable)), .bl (decide (C = a.c_Beyond))])) := Same.new _ f_l0
    try dsimp only
    generalize upd H l0 (.lst [.bl (decide (C = a.c_NoSpans)), .bl (decide (C = a.c_NoText)), .bl (decide (C = a.c_NoTable)), .bl (decide (C = a.c_Beyond))]) = G1 at e_l0 s1 ⊢
    have c1 := c0.trans s1
    refine ⟨_, rfl, ?_⟩
    refine ⟨_, rfl, e, C, _, _, rfl, xe.same c1, i4, ?_⟩
    refine ⟨_, rfl, e, C, _, _, rfl, xe.same c1, i5, ?_⟩
    refine ⟨_, rfl, e, C, _, _, rfl, xe.same c1, i6, ?_⟩
    refine ⟨_, rfl, e, C, _, _, rfl, xe.same c1, i7, ?_⟩
    refine ⟨small60 (Nat.le_of_ble_eq_true rfl), fun l1 f_l1 => ?_⟩
    have e_l1 : (upd G1 l1 (.lst [.bl (decide (C = a.c_TooMany)), .bl (decide (C = a.c_NoMoment)), .bl (decide (C = a.c_NoReading)), .bl (decide (C = a.c_NoShift))])) l1 = some (.lst [.bl (decide (C = a.c_TooMany)), .bl (decide (C = a.c_NoMoment)), .bl (decide (C = a.c_NoReading)), .bl (decide (C = a.c_NoShift))]) := upd_same
    have s2 : Same G1 (upd G1 l1 (.lst [.bl (decide (C = a.c_TooMany)), .bl (decide (C = a.c_NoMoment)), .bl (decide (C = a.c_NoReading)), .bl (decide (C = a.c_NoShift))])) := Same.new _ f_l1
    try dsimp only
    generalize upd G1 l1 (.lst [.bl (decide (C = a.c_TooMany)), .bl (decide (C = a.c_NoMoment)), .bl (decide (C = a.c_NoReading)), .bl (decide (C = a.c_NoShift))]) = G2 at e_l1 s2 ⊢
    have c2 := c1.trans s2
    refine .inr (.inl ⟨l0, l1, _, _, rfl, rfl, s2 _ _ e_l0, e_l1, small60 (Nat.le_of_ble_eq_true rfl), fun k1 f_k1 => ?_⟩)
    have e_k1 : (upd G2 k1 (.lst ([.bl (decide (C = a.c_NoSpans)), .bl (decide (C = a.c_NoText)), .bl (decide (C = a.c_NoTable)), .bl (decide (C = a.c_Beyond))] ++ [.bl (decide (C = a.c_TooMany)), .bl (decide (C = a.c_NoMoment)), .bl (decide (C = a.c_NoReading)), .bl (decide (C = a.c_NoShift))]))) k1 = some (.lst ([.bl (decide (C = a.c_NoSpans)), .bl (decide (C = a.c_NoText)), .bl (decide (C = a.c_NoTable)), .bl (decide (C = a.c_Beyond))] ++ [.bl (decide (C = a.c_TooMany)), .bl (decide (C = a.c_NoMoment)), .bl (decide (C = a.c_NoReading)), .bl (decide (C = a.c_NoShift))])) := upd_same
    have s3 : Same G2 (upd G2 k1 (.lst ([.bl (decide (C = a.c_NoSpans)), .bl (decide (C = a.c_NoText)), .bl (decide (C = a.c_NoTable)), .bl (decide (C = a.c_Beyond))] ++ [.bl (decide (C = a.c_TooMany)), .bl (decide (C = a.c_NoMoment)), .bl (decide (C = a.c_NoReading)), .bl (decide (C = a.c_NoShift))]))) := Same.new _ f_k1
    try dsimp only
    generalize upd G2 k1 (.lst ([.bl (decide (C = a.c_NoSpans)), .bl (decide (C = a.c_NoText)), .bl (decide (C = a.c_NoTable)), .bl (decide (C = a.c_Beyond))] ++ [.bl (decide (C = a.c_TooMany)), .bl (decide (C = a.c_NoMoment)), .bl (decide (C = a.c_NoReading)), .bl (decide (C = a.c_NoShift))])) = G3 at e_k1 s3 ⊢
    have c3 := c2.trans s3
    refine ⟨_, rfl, ?_⟩
    refine ⟨_, rfl, e, C, _, _, rfl, xe.same c3, i8, ?_⟩
    refine ⟨_, rfl, e, C, _, _, rfl, xe.same c3, i9, ?_⟩
    refine ⟨_, rfl, e, C, _, _, rfl, xe.same c3, i10, ?_⟩
    refine ⟨_, rfl, e, C, _, _, rfl, xe.same c3, i11, ?_⟩
    refine ⟨small60 (Nat.le_of_ble_eq_true rfl), fun l2 f_l2 => ?_⟩
    have e_l2 : (upd G3 l2 (.lst [.bl (decide (C = a.c_NoName)), .bl (decide (C = a.c_NoPlace)), .bl (decide (C = a.c_NoEntry)), .bl (decide (C = a.c_Taken))])) l2 = some (.lst [.bl (decide (C = a.c_NoName)), .bl (decide (C = a.c_NoPlace)), .bl (decide (C = a.c_NoEntry)), .bl (decide (C = a.c_Taken))]) := upd_same
    have s4 : Same G3 (upd G3 l2 (.lst [.bl (decide (C = a.c_NoName)), .bl (decide (C = a.c_NoPlace)), .bl (decide (C = a.c_NoEntry)), .bl (decide (C = a.c_Taken))])) := Same.new _ f_l2
    try dsimp only
    generalize upd G3 l2 (.lst [.bl (decide (C = a.c_NoName)), .bl (decide (C = a.c_NoPlace)), .bl (decide (C = a.c_NoEntry)), .bl (decide (C = a.c_Taken))]) = G4 at e_l2 s4 ⊢
    have c4 := c3.trans s4
    refine .inr (.inl ⟨k1, l2, _, _, rfl, rfl, s4 _ _ e_k1, e_l2, small60 (Nat.le_of_ble_eq_true rfl), fun k2 f_k2 => ?_⟩)
    have e_k2 : (upd G4 k2 (.lst (([.bl (decide (C = a.c_NoSpans)), .bl (decide (C = a.c_NoText)), .bl (decide (C = a.c_NoTable)), .bl (decide (C = a.c_Beyond))] ++ [.bl (decide (C = a.c_TooMany)), .bl (decide (C = a.c_NoMoment)), .bl (decide (C = a.c_NoReading)), .bl (decide (C = a.c_NoShift))]) ++ [.bl (decide (C = a.c_NoName)), .bl (decide (C = a.c_NoPlace)), .bl (decide (C = a.c_NoEntry)), .bl (decide (C = a.c_Taken))]))) k2 = some (.lst (([.bl (decide (C = a.c_NoSpans)), .bl (decide (C = a.c_NoText)), .bl (decide (C = a.c_NoTable)), .bl (decide (C = a.c_Beyond))] ++ [.bl (decide (C = a.c_TooMany)), .bl (decide (C = a.c_NoMoment)), .bl (decide (C = a.c_NoReading)), .bl (decide (C = a.c_NoShift))]) ++ [.bl (decide (C = a.c_NoName)), .bl (decide (C = a.c_NoPlace)), .bl (decide (C = a.c_NoEntry)), .bl (decide (C = a.c_Taken))])) := upd_same
    have s5 : Same G4 (upd G4 k2 (.lst (([.bl (decide (C = a.c_NoSpans)), .bl (decide (C = a.c_NoText)), .bl (decide (C = a.c_NoTable)), .bl (decide (C = a.c_Beyond))] ++ [.bl (decide (C = a.c_TooMany)), .bl (decide (C = a.c_NoMoment)), .bl (decide (C = a.c_NoReading)), .bl (decide (C = a.c_NoShift))]) ++ [.bl (decide (C = a.c_NoName)), .bl (decide (C = a.c_NoPlace)), .bl (decide (C = a.c_NoEntry)), .bl (decide (C = a.c_Taken))]))) := Same.new _ f_k2
    try dsimp only
    generalize upd G4 k2 (.lst (([.bl (decide (C = a.c_NoSpans)), .bl (decide (C = a.c_NoText)), .bl (decide (C = a.c_NoTable)), .bl (decide (C = a.c_Beyond))] ++ [.bl (decide (C = a.c_TooMany)), .bl (decide (C = a.c_NoMoment)), .bl (decide (C = a.c_NoReading)), .bl (decide (C = a.c_NoShift))]) ++ [.bl (decide (C = a.c_NoName)), .bl (decide (C = a.c_NoPlace)), .bl (decide (C = a.c_NoEntry)), .bl (decide (C = a.c_Taken))])) = G5 at e_k2 s5 ⊢
    have c5 := c4.trans s5
    refine ⟨_, rfl, ?_⟩
    refine ⟨_, rfl, e, C, _, _, rfl, xe.same c5, i12, ?_⟩
    refine ⟨_, rfl, e, C, _, _, rfl, xe.same c5, i13, ?_⟩
    refine ⟨_, rfl, e, C, _, _, rfl, xe.same c5, i14, ?_⟩
    refine ⟨_, rfl, e, C, _, _, rfl, xe.same c5, i15, ?_⟩
    refine ⟨small60 (Nat.le_of_ble_eq_true rfl), fun l3 f_l3 => ?_⟩
    have e_l3 : (upd G5 l3 (.lst [.bl (decide (C = a.c_NoMinutes)), .bl (decide (C = a.c_NoBond)), .bl (decide (C = a.c_NoPaper)), .bl (decide (C = a.c_NoLine))])) l3 = some (.lst [.bl (decide (C = a.c_NoMinutes)), .bl (decide (C = a.c_NoBond)), .bl (decide (C = a.c_NoPaper)), .bl (decide (C = a.c_NoLine))]) := upd_same
    have s6 : Same G5 (upd G5 l3 (.lst [.bl (decide (C = a.c_NoMinutes)), .bl (decide (C = a.c_NoBond)), .bl (decide (C = a.c_NoPaper)), .bl (decide (C = a.c_NoLine))])) := Same.new _ f_l3
    try dsimp only
    generalize upd G5 l3 (.lst [.bl (decide (C = a.c_NoMinutes)), .bl (decide (C = a.c_NoBond)), .bl (decide (C = a.c_NoPaper)), .bl (decide (C = a.c_NoLine))]) = G6 at e_l3 s6 ⊢
    have c6 := c5.trans s6
    refine .inr (.inl ⟨k2, l3, _, _, rfl, rfl, s6 _ _ e_k2, e_l3, small60 (Nat.le_of_ble_eq_true rfl), fun k3 f_k3 => ?_⟩)
    have e_k3 : (upd G6 k3 (.lst ((([.bl (decide (C = a.c_NoSpans)), .bl (decide (C = a.c_NoText)), .bl (decide (C = a.c_NoTable)), .bl (decide (C = a.c_Beyond))] ++ [.bl (decide (C = a.c_TooMany)), .bl (decide (C = a.c_NoMoment)), .bl (decide (C = a.c_NoReading)), .bl (decide (C = a.c_NoShift))]) ++ [.bl (decide (C = a.c_NoName)), .bl (decide (C = a.c_NoPlace)), .bl (decide (C = a.c_NoEntry)), .bl (decide (C = a.c_Taken))]) ++ [.bl (decide (C = a.c_NoMinutes)), .bl (decide (C = a.c_NoBond)), .bl (decide (C = a.c_NoPaper)), .bl (decide (C = a.c_NoLine))]))) k3 = some (.lst ((([.bl (decide (C = a.c_NoSpans)), .bl (decide (C = a.c_NoText)), .bl (decide (C = a.c_NoTable)), .bl (decide (C = a.c_Beyond))] ++ [.bl (decide (C = a.c_TooMany)), .bl (decide (C = a.c_NoMoment)), .bl (decide (C = a.c_NoReading)), .bl (decide (C = a.c_NoShift))]) ++ [.bl (decide (C = a.c_NoName)), .bl (decide (C = a.c_NoPlace)), .bl (decide (C = a.c_NoEntry)), .bl (decide (C = a.c_Taken))]) ++ [.bl (decide (C = a.c_NoMinutes)), .bl (decide (C = a.c_NoBond)), .bl (decide (C = a.c_NoPaper)), .bl (decide (C = a.c_NoLine))])) := upd_same
    have s7 : Same G6 (upd G6 k3 (.lst ((([.bl (decide (C = a.c_NoSpans)), .bl (decide (C = a.c_NoText)), .bl (decide (C = a.c_NoTable)), .bl (decide (C = a.c_Beyond))] ++ [.bl (decide (C = a.c_TooMany)), .bl (decide (C = a.c_NoMoment)), .bl (decide (C = a.c_NoReading)), .bl (decide (C = a.c_NoShift))]) ++ [.bl (decide (C = a.c_NoName)), .bl (decide (C = a.c_NoPlace)), .bl (decide (C = a.c_NoEntry)), .bl (decide (C = a.c_Taken))]) ++ [.bl (decide (C = a.c_NoMinutes)), .bl (decide (C = a.c_NoBond)), .bl (decide (C = a.c_NoPaper)), .bl (decide (C = a.c_NoLine))]))) := Same.new _ f_k3
    try dsimp only
    generalize upd G6 k3 (.lst ((([.bl (decide (C = a.c_NoSpans)), .bl (decide (C = a.c_NoText)), .bl (decide (C = a.c_NoTable)), .bl (decide (C = a.c_Beyond))] ++ [.bl (decide (C = a.c_TooMany)), .bl (decide (C = a.c_NoMoment)), .bl (decide (C = a.c_NoReading)), .bl (decide (C = a.c_NoShift))]) ++ [.bl (decide (C = a.c_NoName)), .bl (decide (C = a.c_NoPlace)), .bl (decide (C = a.c_NoEntry)), .bl (decide (C = a.c_Taken))]) ++ [.bl (decide (C = a.c_NoMinutes)), .bl (decide (C = a.c_NoBond)), .bl (decide (C = a.c_NoPaper)), .bl (decide (C = a.c_NoLine))])) = G7 at e_k3 s7 ⊢
    have c7 := c6.trans s7
    refine ⟨_, rfl, ?_⟩
    refine ⟨_, rfl, e, C, _, _, rfl, xe.same c7, i16, ?_⟩
    refine ⟨_, rfl, e, C, _, _, rfl, xe.same c7, i17, ?_⟩
    refine ⟨_, rfl, e, C, _, _, rfl, xe.same c7, i18, ?_⟩
    refine ⟨small60 (Nat.le_of_ble_eq_true rfl), fun l4 f_l4 => ?_⟩
    have e_l4 : (upd G7 l4 (.lst [.bl (decide (C = a.c_NoWay)), .bl (decide (C = a.c_Unwritten)), .bl (decide (C = a.c_Unlike))])) l4 = some (.lst [.bl (decide (C = a.c_NoWay)), .bl (decide (C = a.c_Unwritten)), .bl (decide (C = a.c_Unlike))]) := upd_same
    have s8 : Same G7 (upd G7 l4 (.lst [.bl (decide (C = a.c_NoWay)), .bl (decide (C = a.c_Unwritten)), .bl (decide (C = a.c_Unlike))])) := Same.new _ f_l4
    try dsimp only
    generalize upd G7 l4 (.lst [.bl (decide (C = a.c_NoWay)), .bl (decide (C = a.c_Unwritten)), .bl (decide (C = a.c_Unlike))]) = G8 at e_l4 s8 ⊢
    have c8 := c7.trans s8
    refine .inr (.inl ⟨k3, l4, _, _, rfl, rfl, s8 _ _ e_k3, e_l4, small60 (Nat.le_of_ble_eq_true rfl), fun k4 f_k4 => ?_⟩)
    have e_k4 : (upd G8 k4 (.lst (((([.bl (decide (C = a.c_NoSpans)), .bl (decide (C = a.c_NoText)), .bl (decide (C = a.c_NoTable)), .bl (decide (C = a.c_Beyond))] ++ [.bl (decide (C = a.c_TooMany)), .bl (decide (C = a.c_NoMoment)), .bl (decide (C = a.c_NoReading)), .bl (decide (C = a.c_NoShift))]) ++ [.bl (decide (C = a.c_NoName)), .bl (decide (C = a.c_NoPlace)), .bl (decide (C = a.c_NoEntry)), .bl (decide (C = a.c_Taken))]) ++ [.bl (decide (C = a.c_NoMinutes)), .bl (decide (C = a.c_NoBond)), .bl (decide (C = a.c_NoPaper)), .bl (decide (C = a.c_NoLine))]) ++ [.bl (decide (C = a.c_NoWay)), .bl (decide (C = a.c_Unwritten)), .bl (decide (C = a.c_Unlike))]))) k4 = some (.lst (((([.bl (decide (C = a.c_NoSpans)), .bl (decide (C = a.c_NoText)), .bl (decide (C = a.c_NoTable)), .bl (decide (C = a.c_Beyond))] ++ [.bl (decide (C = a.c_TooMany)), .bl (decide (C = a.c_NoMoment)), .bl (decide (C = a.c_NoReading)), .bl (decide (C = a.c_NoShift))]) ++ [.bl (decide (C = a.c_NoName)), .bl (decide (C = a.c_NoPlace)), .bl (decide (C = a.c_NoEntry)), .bl (decide (C = a.c_Taken))]) ++ [.bl (decide (C = a.c_NoMinutes)), .bl (decide (C = a.c_NoBond)), .bl (decide (C = a.c_NoPaper)), .bl (decide (C = a.c_NoLine))]) ++ [.bl (decide (C = a.c_NoWay)), .bl (decide (C = a.c_Unwritten)), .bl (decide (C = a.c_Unlike))])) := upd_same
    have s9 : Same G8 (upd G8 k4 (.lst (((([.bl (decide (C = a.c_NoSpans)), .bl (decide (C = a.c_NoText)), .bl (decide (C = a.c_NoTable)), .bl (decide (C = a.c_Beyond))] ++ [.bl (decide (C = a.c_TooMany)), .bl (decide (C = a.c_NoMoment)), .bl (decide (C = a.c_NoReading)), .bl (decide (C = a.c_NoShift))]) ++ [.bl (decide (C = a.c_NoName)), .bl (decide (C = a.c_NoPlace)), .bl (decide (C = a.c_NoEntry)), .bl (decide (C = a.c_Taken))]) ++ [.bl (decide (C = a.c_NoMinutes)), .bl (decide (C = a.c_NoBond)), .bl (decide (C = a.c_NoPaper)), .bl (decide (C = a.c_NoLine))]) ++ [.bl (decide (C = a.c_NoWay)), .bl (decide (C = a.c_Unwritten)), .bl (decide (C = a.c_Unlike))]))) := Same.new _ f_k4
    try dsimp only
    generalize upd G8 k4 (.lst (((([.bl (decide (C = a.c_NoSpans)), .bl (decide (C = a.c_NoText)), .bl (decide (C = a.c_NoTable)), .bl (decide (C = a.c_Beyond))] ++ [.bl (decide (C = a.c_TooMany)), .bl (decide (C = a.c_NoMoment)), .bl (decide (C = a.c_NoReading)), .bl (decide (C = a.c_NoShift))]) ++ [.bl (decide (C = a.c_NoName)), .bl (decide (C = a.c_NoPlace)), .bl (decide (C = a.c_NoEntry)), .bl (decide (C = a.c_Taken))]) ++ [.bl (decide (C = a.c_NoMinutes)), .bl (decide (C = a.c_NoBond)), .bl (decide (C = a.c_NoPaper)), .bl (decide (C = a.c_NoLine))]) ++ [.bl (decide (C = a.c_NoWay)), .bl (decide (C = a.c_Unwritten)), .bl (decide (C = a.c_Unlike))])) = G9 at e_k4 s9 ⊢
    have c9 := c8.trans s9
    exact kk _ _ c9 e_k4
end
end K09
set_option Elab.async false
set_option linter.all false
set_option maxRecDepth 100000
namespace K09
open PySem L2 PySem.NumText PyProof.Rows KC
section
variable {P : Program} {w : World} {K : PySem.W.Frag} {mg : Str → Option Value} {base : Heap}
theorem ok_Lfields {a : Ad} (T : Txt K mg a) : FnOk P w K mg base CX0 1 a.f_Lfields a.fd_Lfields ["_law_some"] (sp_Lfields a) := by
  refine T.d_Lfields.F.ok sc_Lfields (fun vs H Q E h => ?_) (fun cdv A outer s H vs Q E hr h => ?_)
  · obtain ⟨l, es, n, t, rfl, hl, M0, kk⟩ := h
    rfl
  · obtain ⟨l, es, n, t, rfl, hl, M0, kk⟩ := h
    have hu := hu_of hr
    have hU := hr.units
    refine ⟨_, (@pss_cons _ _ _ _ _ (by exact (@ps_set _ _ 1 _ _ _ _ (by exact sc_Lfields.nd) (by rfl) (by exact Or.inl rfl) (by exact (@pe_lst _ _ _ _ (by exact (@pa_cons _ _ _ _ _ (by exact (show PE _ _ (tXFld K _ "at") from pe_xfld (pe_ix (r := rIx K) ix_seq (pv 0) pe_int (fun _ _ => rfl)) rfl)) (by exact (@pa_cons _ _ _ _ _ (by exact (show PE _ _ (tXFld K _ "at") from pe_xfld (pe_ix (r := rIx K) ix_seq (pv 0) pe_int (fun _ _ => rfl)) rfl)) (by exact (@pa_cons _ _ _ _ _ (by exact (show PE _ _ (tXFld K _ "row") from pe_xfld (pe_ix (r := rIx K) ix_seq (pv 0) pe_int (fun _ _ => rfl)) rfl)) (by exact (@pa_cons _ _ _ _ _ (by exact (show PE _ _ (tXFld K _ "row") from pe_xfld (pe_ix (r := rIx K) ix_seq (pv 0) pe_int (fun _ _ => rfl)) rfl)) (by exact (@pa_cons _ _ _ _ _ (by exact (show PE _ _ (tXFld K _ "many") from pe_xfld (pe_ix (r := rIx K) ix_seq (pv 0) pe_int (fun _ _ => rfl)) rfl)) (by exact (@pa_cons _ _ _ _ _ (by exact (show PE _ _ (tXFld K _ "found") from pe_xfld (pe_ix (r := rIx K) ix_seq (pv 0) pe_int (fun _ _ => rfl)) rfl)) (by exact (@pa_cons _ _ _ _ _ (by exact (show PE _ _ (tXFld K _ "found") from pe_xfld (pe_ix (r := rIx K) ix_seq (pv 0) pe_int (fun _ _ => rfl)) rfl)) (by exact (@pa_nil _)) (by rfl))) (by rfl))) (by rfl))) (by rfl))) (by rfl))) (by rfl))) (by rfl))))) (by rfl) (by exact .inl rfl)))
      (by exact (pss_cons (ps_set (i := 1) sc_Lfields.nd rfl (Or.inl rfl) (pe_op uAdd (pv 1) (@pe_lst _ _ _ _ (by exact (@pa_cons _ _ _ _ _ (by exact (show PE _ _ (tXFld K _ "found") from pe_xfld (pe_ix (r := rIx K) ix_seq (pv 0) pe_int (fun _ _ => rfl)) rfl)) (by exact (@pa_cons _ _ _ _ _ (by exact (show PE _ _ (tXFld K _ "found") from pe_xfld (pe_ix (r := rIx K) ix_seq (pv 0) pe_int (fun _ _ => rfl)) rfl)) (by exact (@pa_cons _ _ _ _ _ (by exact (show PE _ _ (tXFld K _ "found") from pe_xfld (pe_ix (r := rIx K) ix_seq (pv 0) pe_int (fun _ _ => rfl)) rfl)) (by exact (@pa_cons _ _ _ _ _ (by exact (show PE _ _ (tXFld K _ "found") from pe_xfld (pe_ix (r := rIx K) ix_seq (pv 0) pe_int (fun _ _ => rfl)) rfl)) (by exact (@pa_cons _ _ _ _ _ (by exact (show PE _ _ (tXFld K _ "found") from pe_xfld (pe_ix (r := rIx K) ix_seq (pv 0) pe_int (fun _ _ => rfl)) rfl)) (by exact (@pa_cons _ _ _ _ _ (by exact (show PE _ _ (tXFld K _ "found") from pe_xfld (pe_ix (r := rIx K) ix_seq (pv 0) pe_int (fun _ _ => rfl)) rfl)) (by exact (@pa_nil _)) (by rfl))) (by rfl))) (by rfl))) (by rfl))) (by rfl))) (by rfl))))))
      (pss_cons (ps_set (i := 1) sc_Lfields.nd rfl (Or.inl rfl) (pe_op uAdd (pv 1) (@pe_lst _ _ _ _ (by exact (@pa_cons _ _ _ _ _ (by exact (show PE _ _ (tXFld K _ "found") from pe_xfld (pe_ix (r := rIx K) ix_seq (pv 0) pe_int (fun _ _ => rfl)) rfl)) (by exact (@pa_cons _ _ _ _ _ (by exact (show PE _ _ (tXFld K _ "found") from pe_xfld (pe_ix (r := rIx K) ix_seq (pv 0) pe_int (fun _ _ => rfl)) rfl)) (by exact (@pa_cons _ _ _ _ _ (by exact (show PE _ _ (tXFld K _ "found") from pe_xfld (pe_ix (r := rIx K) ix_seq (pv 0) pe_int (fun _ _ => rfl)) rfl)) (by exact (@pa_cons _ _ _ _ _ (by exact (show PE _ _ (tXFld K _ "paper") from pe_xfld (pe_ix (r := rIx K) ix_seq (pv 0) pe_int (fun _ _ => rfl)) rfl)) (by exact (@pa_cons _ _ _ _ _ (by exact (show PE _ _ (tXFld K _ "name") from pe_xfld (pe_ix (r := rIx K) ix_seq (pv 0) pe_int (fun _ _ => rfl)) rfl)) (by exact (@pa_nil _)) (by rfl))) (by rfl))) (by rfl))) (by rfl))) (by rfl))))))
      (pss_one (ps_ret (pe_op uAdd (pv 1) (pe_lst (pa_cons (show PE _ _ (tXFld K _ "place") from pe_xfld (pe_ix (r := rIx K) ix_seq (pv 0) pe_int (fun _ _ => rfl)) rfl) (pa_cons (show PE _ _ (tXFld K _ "moment") from pe_xfld (pe_ix (r := rIx K) ix_seq (pv 0) pe_int (fun _ _ => rfl)) rfl) pa_nil)))))))))), ?_⟩
    try dsimp only [cxOf, Cx.nox]
    have c0 : Same H H := Same.refl _
    unfold rec at M0
    obtain ⟨_, es0, rfl, ⟨ea0, dx0, rfl, xa0, hd0⟩, M1⟩ := M0.inv
    clear M0
    obtain ⟨_, es1, rfl, ⟨ea1, dx1, rfl, xa1, hd1⟩, M2⟩ := M1.inv
    clear M1
    obtain ⟨_, es2, rfl, ⟨ea2, dx2, rfl, xa2, hd2⟩, M3⟩ := M2.inv
    clear M2
    obtain ⟨_, es3, rfl, ⟨ea3, dx3, rfl, xa3, hd3⟩, M4⟩ := M3.inv
    clear M3
    obtain ⟨_, es4, rfl, ⟨ea4, dx4, rfl, xa4, hd4⟩, M5⟩ := M4.inv
    clear M4
    obtain ⟨_, es5, rfl, ⟨ea5, dx5, rfl, xa5, hd5⟩, M6⟩ := M5.inv
    clear M5
    obtain ⟨_, es6, rfl, ⟨ea6, dx6, rfl, xa6, hd6⟩, M7⟩ := M6.inv
    clear M6
    obtain ⟨_, es7, rfl, ⟨ea7, dx7, rfl, xa7, hd7⟩, M8⟩ := M7.inv
    clear M7
    obtain ⟨_, es8, rfl, ⟨ea8, dx8, rfl, xa8, hd8⟩, M9⟩ := M8.inv
    clear M8
    obtain ⟨_, es9, rfl, ⟨ea9, dx9, rfl, xa9, hd9⟩, M10⟩ := M9.inv
    clear M9
    obtain ⟨_, es10, rfl, ⟨ea10, dx10, rfl, xa10, hd10⟩, M11⟩ := M10.inv
    clear M10
    obtain ⟨_, es11, rfl, ⟨ea11, dx11, rfl, xa11, hd11⟩, M12⟩ := M11.inv
    clear M11
    obtain ⟨_, es12, rfl, ⟨ea12, dx12, rfl, xa12, hd12⟩, M13⟩ := M12.inv
    clear M12
    obtain ⟨_, es13, rfl, ⟨ea13, dx13, rfl, xa13, hd13⟩, M14⟩ := M13.inv
    clear M13
    obtain ⟨_, es14, rfl, ⟨ea14, dx14, rfl, xa14, hd14⟩, M15⟩ := M14.inv
    clear M14
    obtain ⟨_, es15, rfl, ⟨ea15, dx15, rfl, xa15, hd15⟩, M16⟩ := M15.inv
    clear M15
    obtain ⟨_, es16, rfl, ⟨ea16, dx16, rfl, xa16, hd16⟩, M17⟩ := M16.inv
    clear M16
    obtain ⟨_, es17, rfl, ⟨ea17, dx17, rfl, xa17, hd17⟩, M18⟩ := M17.inv
    clear M17
    obtain ⟨_, es18, rfl, ⟨ea18, dx18, rfl, xa18, hd18⟩, M19⟩ := M18.inv
    clear M18
    cases M19
    refine ⟨_, rfl, .inl ⟨l, _, _, _, rfl, rfl, SqL.of (c0 _ _ hl), rfl, ea0, _, dx0, _, _, rfl, xa0.same c0, c0 _ _ hd0, T.X_NoSpans.c, T.n_NoSpans_at, rfl, ?_⟩⟩
    refine ⟨_, rfl, .inl ⟨l, _, _, _, rfl, rfl, SqL.of (c0 _ _ hl), rfl, ea1, _, dx1, _, _, rfl, xa1.same c0, c0 _ _ hd1, T.X_NoText.c, T.n_NoText_at, rfl, ?_⟩⟩
    refine ⟨_, rfl, .inl ⟨l, _, _, _, rfl, rfl, SqL.of (c0 _ _ hl), rfl, ea2, _, dx2, _, _, rfl, xa2.same c0, c0 _ _ hd2, T.X_NoTable.c, T.n_NoTable_row, rfl, ?_⟩⟩
    refine ⟨_, rfl, .inl ⟨l, _, _, _, rfl, rfl, SqL.of (c0 _ _ hl), rfl, ea3, _, dx3, _, _, rfl, xa3.same c0, c0 _ _ hd3, T.X_Beyond.c, T.n_Beyond_row, rfl, ?_⟩⟩
    refine ⟨_, rfl, .inl ⟨l, _, _, _, rfl, rfl, SqL.of (c0 _ _ hl), rfl, ea4, _, dx4, _, _, rfl, xa4.same c0, c0 _ _ hd4, T.X_TooMany.c, T.n_TooMany_many, rfl, ?_⟩⟩
    refine ⟨_, rfl, .inl ⟨l, _, _, _, rfl, rfl, SqL.of (c0 _ _ hl), rfl, ea5, _, dx5, _, _, rfl, xa5.same c0, c0 _ _ hd5, T.X_NoMoment.c, T.n_NoMoment_found, rfl, ?_⟩⟩
    refine ⟨_, rfl, .inl ⟨l, _, _, _, rfl, rfl, SqL.of (c0 _ _ hl), rfl, ea6, _, dx6, _, _, rfl, xa6.same c0, c0 _ _ hd6, T.X_NoReading.c, T.n_NoReading_found, rfl, ?_⟩⟩
    refine ⟨small60 (Nat.le_of_ble_eq_true rfl), fun l0 f_l0 => ?_⟩
    have e_l0 : (upd H l0 (.lst [.int (n 0), .int (n 1), .int (n 2), .int (n 3), .int (n 4), t 0, t 1])) l0 = some (.lst [.int (n 0), .int (n 1), .int (n 2), .int (n 3), .int (n 4), t 0, t 1]) := upd_same
    have s1 : Same H (upd H l0 (.lst [.int (n 0), .int (n 1), .int (n 2), .int (n 3), .int (n 4), t 0, t 1])) := Same.new _ f_l0
    try dsimp only
    generalize upd H l0 (.lst [.int (n 0), .int (n 1), .int (n 2), .int (n 3), .int (n 4), t 0, t 1]) = G1 at e_l0 s1 ⊢
    have c1 := c0.trans s1
    refine ⟨_, rfl, ?_⟩
    refine ⟨_, rfl, .inl ⟨l, _, _, _, rfl, rfl, SqL.of (c1 _ _ hl), rfl, ea7, _, dx7, _, _, rfl, xa7.same c1, c1 _ _ hd7, T.X_NoShift.c, T.n_NoShift_found, rfl, ?_⟩⟩
    refine ⟨_, rfl, .inl ⟨l, _, _, _, rfl, rfl, SqL.of (c1 _ _ hl), rfl, ea8, _, dx8, _, _, rfl, xa8.same c1, c1 _ _ hd8, T.X_NoName.c, T.n_NoName_found, rfl, ?_⟩⟩
    refine ⟨_, rfl, .inl ⟨l, _, _, _, rfl, rfl, SqL.of (c1 _ _ hl), rfl, ea9, _, dx9, _, _, rfl, xa9.same c1, c1 _ _ hd9, T.X_NoPlace.c, T.n_NoPlace_found, rfl, ?_⟩⟩
    refine ⟨_, rfl, .inl ⟨l, _, _, _, rfl, rfl, SqL.of (c1 _ _ hl), rfl, ea10, _, dx10, _, _, rfl, xa10.same c1, c1 _ _ hd10, T.X_NoEntry.c, T.n_NoEntry_found, rfl, ?_⟩⟩
    refine ⟨_, rfl, .inl ⟨l, _, _, _, rfl, rfl, SqL.of (c1 _ _ hl), rfl, ea11, _, dx11, _, _, rfl, xa11.same c1, c1 _ _ hd11, T.X_Taken.c, T.n_Taken_found, rfl, ?_⟩⟩
    refine ⟨_, rfl, .inl ⟨l, _, _, _, rfl, rfl, SqL.of (c1 _ _ hl), rfl, ea12, _, dx12, _, _, rfl, xa12.same c1, c1 _ _ hd12, T.X_NoMinutes.c, T.n_NoMinutes_found, rfl, ?_⟩⟩
    refine ⟨small60 (Nat.le_of_ble_eq_true rfl), fun l1 f_l1 => ?_⟩
    have e_l1 : (upd G1 l1 (.lst [t 2, t 3, t 4, t 5, t 6, t 7])) l1 = some (.lst [t 2, t 3, t 4, t 5, t 6, t 7]) := upd_same
    have s2 : Same G1 (upd G1 l1 (.lst [t 2, t 3, t 4, t 5, t 6, t 7])) := Same.new _ f_l1
    try dsimp only
    generalize upd G1 l1 (.lst [t 2, t 3, t 4, t 5, t 6, t 7]) = G2 at e_l1 s2 ⊢
    have c2 := c1.trans s2
    refine .inr (.inl ⟨l0, l1, _, _, rfl, rfl, s2 _ _ e_l0, e_l1, small60 (Nat.le_of_ble_eq_true rfl), fun k1 f_k1 => ?_⟩)
    have e_k1 : (upd G2 k1 (.lst ([.int (n 0), .int (n 1), .int (n 2), .int (n 3), .int (n 4), t 0, t 1] ++ [t 2, t 3, t 4, t 5, t 6, t 7]))) k1 = some (.lst ([.int (n 0), .int (n 1), .int (n 2), .int (n 3), .int (n 4), t 0, t 1] ++ [t 2, t 3, t 4, t 5, t 6, t 7])) := upd_same
    have s3 : Same G2 (upd G2 k1 (.lst ([.int (n 0), .int (n 1), .int (n 2), .int (n 3), .int (n 4), t 0, t 1] ++ [t 2, t 3, t 4, t 5, t 6, t 7]))) := Same.new _ f_k1
    try dsimp only
    generalize upd G2 k1 (.lst ([.int (n 0), .int (n 1), .int (n 2), .int (n 3), .int (n 4), t 0, t 1] ++ [t 2, t 3, t 4, t 5, t 6, t 7])) = G3 at e_k1 s3 ⊢
    have c3 := c2.trans s3
    refine ⟨_, rfl, ?_⟩
    refine ⟨_, rfl, .inl ⟨l, _, _, _, rfl, rfl, SqL.of (c3 _ _ hl), rfl, ea13, _, dx13, _, _, rfl, xa13.same c3, c3 _ _ hd13, T.X_NoBond.c, T.n_NoBond_found, rfl, ?_⟩⟩
    refine ⟨_, rfl, .inl ⟨l, _, _, _, rfl, rfl, SqL.of (c3 _ _ hl), rfl, ea14, _, dx14, _, _, rfl, xa14.same c3, c3 _ _ hd14, T.X_NoPaper.c, T.n_NoPaper_found, rfl, ?_⟩⟩
    refine ⟨_, rfl, .inl ⟨l, _, _, _, rfl, rfl, SqL.of (c3 _ _ hl), rfl, ea15, _, dx15, _, _, rfl, xa15.same c3, c3 _ _ hd15, T.X_NoLine.c, T.n_NoLine_found, rfl, ?_⟩⟩
    refine ⟨_, rfl, .inl ⟨l, _, _, _, rfl, rfl, SqL.of (c3 _ _ hl), rfl, ea16, _, dx16, _, _, rfl, xa16.same c3, c3 _ _ hd16, T.X_NoWay.c, T.n_NoWay_paper, rfl, ?_⟩⟩
    refine ⟨_, rfl, .inl ⟨l, _, _, _, rfl, rfl, SqL.of (c3 _ _ hl), rfl, ea17, _, dx17, _, _, rfl, xa17.same c3, c3 _ _ hd17, T.X_Unwritten.c, T.n_Unwritten_name, rfl, ?_⟩⟩
    refine ⟨small60 (Nat.le_of_ble_eq_true rfl), fun l2 f_l2 => ?_⟩
    have e_l2 : (upd G3 l2 (.lst [t 8, t 9, t 10, t 11, t 12])) l2 = some (.lst [t 8, t 9, t 10, t 11, t 12]) := upd_same
    have s4 : Same G3 (upd G3 l2 (.lst [t 8, t 9, t 10, t 11, t 12])) := Same.new _ f_l2
    try dsimp only
    generalize upd G3 l2 (.lst [t 8, t 9, t 10, t 11, t 12]) = G4 at e_l2 s4 ⊢
    have c4 := c3.trans s4
    refine .inr (.inl ⟨k1, l2, _, _, rfl, rfl, s4 _ _ e_k1, e_l2, small60 (Nat.le_of_ble_eq_true rfl), fun k2 f_k2 => ?_⟩)
    have e_k2 : (upd G4 k2 (.lst (([.int (n 0), .int (n 1), .int (n 2), .int (n 3), .int (n 4), t 0, t 1] ++ [t 2, t 3, t 4, t 5, t 6, t 7]) ++ [t 8, t 9, t 10, t 11, t 12]))) k2 = some (.lst (([.int (n 0), .int (n 1), .int (n 2), .int (n 3), .int (n 4), t 0, t 1] ++ [t 2, t 3, t 4, t 5, t 6, t 7]) ++ [t 8, t 9, t 10, t 11, t 12])) := upd_same
    have s5 : Same G4 (upd G4 k2 (.lst (([.int (n 0), .int (n 1), .int (n 2), .int (n 3), .int (n 4), t 0, t 1] ++ [t 2, t 3, t 4, t 5, t 6, t 7]) ++ [t 8, t 9, t 10, t 11, t 12]))) := Same.new _ f_k2
    try dsimp only
    generalize upd G4 k2 (.lst (([.int (n 0), .int (n 1), .int (n 2), .int (n 3), .int (n 4), t 0, t 1] ++ [t 2, t 3, t 4, t 5, t 6, t 7]) ++ [t 8, t 9, t 10, t 11, t 12])) = G5 at e_k2 s5 ⊢
    have c5 := c4.trans s5
    refine ⟨_, rfl, ?_⟩
    refine ⟨_, rfl, .inl ⟨l, _, _, _, rfl, rfl, SqL.of (c5 _ _ hl), rfl, ea18, _, dx18, _, _, rfl, xa18.same c5, c5 _ _ hd18, T.X_Unlike.c, T.n_Unlike_place, rfl, ?_⟩⟩
    refine ⟨_, rfl, .inl ⟨l, _, _, _, rfl, rfl, SqL.of (c5 _ _ hl), rfl, ea18, _, dx18, _, _, rfl, xa18.same c5, c5 _ _ hd18, T.X_Unlike.c, T.n_Unlike_moment, rfl, ?_⟩⟩
    refine ⟨small60 (Nat.le_of_ble_eq_true rfl), fun l3 f_l3 => ?_⟩
    have e_l3 : (upd G5 l3 (.lst [t 13, .int (n 5)])) l3 = some (.lst [t 13, .int (n 5)]) := upd_same
    have s6 : Same G5 (upd G5 l3 (.lst [t 13, .int (n 5)])) := Same.new _ f_l3
    try dsimp only
    generalize upd G5 l3 (.lst [t 13, .int (n 5)]) = G6 at e_l3 s6 ⊢
    have c6 := c5.trans s6
    refine .inr (.inl ⟨k2, l3, _, _, rfl, rfl, s6 _ _ e_k2, e_l3, small60 (Nat.le_of_ble_eq_true rfl), fun k3 f_k3 => ?_⟩)
    have e_k3 : (upd G6 k3 (.lst ((([.int (n 0), .int (n 1), .int (n 2), .int (n 3), .int (n 4), t 0, t 1] ++ [t 2, t 3, t 4, t 5, t 6, t 7]) ++ [t 8, t 9, t 10, t 11, t 12]) ++ [t 13, .int (n 5)]))) k3 = some (.lst ((([.int (n 0), .int (n 1), .int (n 2), .int (n 3), .int (n 4), t 0, t 1] ++ [t 2, t 3, t 4, t 5, t 6, t 7]) ++ [t 8, t 9, t 10, t 11, t 12]) ++ [t 13, .int (n 5)])) := upd_same
    have s7 : Same G6 (upd G6 k3 (.lst ((([.int (n 0), .int (n 1), .int (n 2), .int (n 3), .int (n 4), t 0, t 1] ++ [t 2, t 3, t 4, t 5, t 6, t 7]) ++ [t 8, t 9, t 10, t 11, t 12]) ++ [t 13, .int (n 5)]))) := Same.new _ f_k3
    try dsimp only
    generalize upd G6 k3 (.lst ((([.int (n 0), .int (n 1), .int (n 2), .int (n 3), .int (n 4), t 0, t 1] ++ [t 2, t 3, t 4, t 5, t 6, t 7]) ++ [t 8, t 9, t 10, t 11, t 12]) ++ [t 13, .int (n 5)])) = G7 at e_k3 s7 ⊢
    have c7 := c6.trans s7
    exact kk _ _ c7 e_k3
end
end K09
set_option Elab.async false
set_option linter.all false
set_option maxRecDepth 100000
namespace K09
open PySem L2 PySem.NumText PyProof.Rows KC
section
variable {P : Program} {w : World} {K : PySem.W.Frag} {mg : Str → Option Value} {base : Heap}
theorem tb_cls {a : Ad} (T : Txt K mg a) : ∀ D ∈ cl a, ClsT K D := by
  intro D h
  simp only [cl, List.mem_cons, List.not_mem_nil, or_false] at h
  rcases h with rfl | rfl | rfl | rfl | rfl | rfl | rfl | rfl | rfl | rfl | rfl | rfl | rfl | rfl | rfl | rfl | rfl | rfl | rfl
  · exact T.t_NoSpans
  · exact T.t_NoText
  · exact T.t_NoTable
  · exact T.t_Beyond
  · exact T.t_TooMany
  · exact T.t_NoMoment
  · exact T.t_NoReading
  · exact T.t_NoShift
  · exact T.t_NoName
  · exact T.t_NoPlace
  · exact T.t_NoEntry
  · exact T.t_Taken
  · exact T.t_NoMinutes
  · exact T.t_NoBond
  · exact T.t_NoPaper
  · exact T.t_NoLine
  · exact T.t_NoWay
  · exact T.t_Unwritten
  · exact T.t_Unlike
theorem tb_mro {a : Ad} (T : Txt K mg a) : ∀ C ∈ cl a, XMro K C [some C, some a.c_LogError, none, none, none, none] := by
  intro D h
  simp only [cl, List.mem_cons, List.not_mem_nil, or_false] at h
  rcases h with rfl | rfl | rfl | rfl | rfl | rfl | rfl | rfl | rfl | rfl | rfl | rfl | rfl | rfl | rfl | rfl | rfl | rfl | rfl
  · exact T.m_NoSpans
  · exact T.m_NoText
  · exact T.m_NoTable
  · exact T.m_Beyond
  · exact T.m_TooMany
  · exact T.m_NoMoment
  · exact T.m_NoReading
  · exact T.m_NoShift
  · exact T.m_NoName
  · exact T.m_NoPlace
  · exact T.m_NoEntry
  · exact T.m_Taken
  · exact T.m_NoMinutes
  · exact T.m_NoBond
  · exact T.m_NoPaper
  · exact T.m_NoLine
  · exact T.m_NoWay
  · exact T.m_Unwritten
  · exact T.m_Unlike
theorem tb_xc {a : Ad} (T : Txt K mg a) : ∀ C ∈ cl a, XC K C := by
  intro D h
  simp only [cl, List.mem_cons, List.not_mem_nil, or_false] at h
  rcases h with rfl | rfl | rfl | rfl | rfl | rfl | rfl | rfl | rfl | rfl | rfl | rfl | rfl | rfl | rfl | rfl | rfl | rfl | rfl
  · exact T.X_NoSpans.c
  · exact T.X_NoText.c
  · exact T.X_NoTable.c
  · exact T.X_Beyond.c
  · exact T.X_TooMany.c
  · exact T.X_NoMoment.c
  · exact T.X_NoReading.c
  · exact T.X_NoShift.c
  · exact T.X_NoName.c
  · exact T.X_NoPlace.c
  · exact T.X_NoEntry.c
  · exact T.X_Taken.c
  · exact T.X_NoMinutes.c
  · exact T.X_NoBond.c
  · exact T.X_NoPaper.c
  · exact T.X_NoLine.c
  · exact T.X_NoWay.c
  · exact T.X_Unwritten.c
  · exact T.X_Unlike.c
theorem tb_nd {a : Ad} (T : Txt K mg a) : (cl a).Nodup := (List.nodup_cons.mp T.nd).2
theorem tb_ne {a : Ad} (T : Txt K mg a) : ∀ D ∈ cl a, a.c_LogError ≠ D := fun D h e => (List.nodup_cons.mp T.nd).1 (by rw [e]; exact h)
end
theorem hs2 {B C D : Addr} (h : B ≠ D) : ([some C, some B, none, none, none, none] : List (Option Addr)).contains (some D) = decide (C = D) := by
  have e : ((some D : Option Addr) == some B) = false := beq_eq_false_iff_ne.mpr fun z => h (Option.some.inj z).symm
  have z : ∀ l : List (Option Addr), l = [none, none, none, none] → l.contains (some D) = false := by intro l e; subst e; rfl
  rw [List.contains_cons, List.contains_cons, e, z _ rfl, Bool.or_false, Bool.or_false]
  by_cases g : C = D
  · subst g; simp
  · rw [decide_eq_false g]; exact beq_eq_false_iff_ne.mpr fun z => g (Option.some.inj z).symm
theorem hs1 {B D : Addr} (h : B ≠ D) : ([some B, none, none, none, none] : List (Option Addr)).contains (some D) = decide (B = D) := by
  have e : ((some D : Option Addr) == some B) = false := beq_eq_false_iff_ne.mpr fun z => h (Option.some.inj z).symm
  have z : ∀ l : List (Option Addr), l = [none, none, none, none] → l.contains (some D) = false := by intro l e; subst e; rfl
  rw [List.contains_cons, e, z _ rfl, decide_eq_false h]; rfl
theorem hs3 {B C : Addr} : ([some C, some B, none, none, none, none] : List (Option Addr)).contains (some B) = true := by simp
section
variable {P : Program} {w : World} {K : PySem.W.Frag} {mg : Str → Option Value} {base : Heap}
theorem isa0 {a : Ad} (T : Txt K mg a) : ∀ D ∈ cl a, xIsa K a.c_LogError (.ref D) = some (decide (a.c_LogError = D)) := fun D h => by
  rw [xIsa_mro T.mro0 (by simp) (tb_cls T D h), hs1 (tb_ne T D h)]
theorem isa1 {a : Ad} (T : Txt K mg a) {C : Addr} (hC : C ∈ cl a) : ∀ D ∈ cl a, xIsa K C (.ref D) = some (decide (C = D)) := fun D h => by
  rw [xIsa_mro (tb_mro T C hC) (by simp) (tb_cls T D h), hs2 (tb_ne T D h)]
theorem isaB {a : Ad} (T : Txt K mg a) {C : Addr} (hC : C ∈ cl a) : xIsa K C (.ref a.c_LogError) = some true := by
  rw [xIsa_mro (tb_mro T C hC) (by simp) T.t_LogError, hs3]
end
theorem bools_dv {H : Hp} : ∀ bs : List Bool, DVs H (bs.map V.bl) (bs.map PyData.bool)
  | [] => .nil
  | b :: bs => .cons (.bl b) (bools_dv bs)
theorem bools_lay : ∀ bs : List Bool, PyData.canLayAll0 (bs.map PyData.bool) = true ∧ PyData.depthAll (bs.map PyData.bool) = 0
  | [] => ⟨rfl, rfl⟩
  | b :: bs => by
    obtain ⟨h1, h2⟩ := bools_lay bs
    simp only [List.map_cons, PyData.canLayAll0, PyData.canLay0, PyData.depthAll, PyData.depth, h1, h2]
    exact ⟨rfl, rfl⟩
theorem bools_sh (bs : List Bool) : PyData.canLay0 (.list (bs.map PyData.bool)) = true ∧ SeqAt.shaped (.list (bs.map PyData.bool)) = true := by
  obtain ⟨h1, h2⟩ := bools_lay bs
  have cl : PyData.canLay0 (.list (bs.map PyData.bool)) = true := by simp only [PyData.canLay0, h1]
  refine ⟨cl, ?_⟩
  unfold SeqAt.shaped
  rw [cl, Bool.true_and]
  refine decide_eq_true ?_
  simp only [PyData.depth, h2]
  decide
theorem place {α : Type} [DecidableEq α] {l : List α} (nd : l.Nodup) {j : Nat} {c : α} (h : l[j]? = some c) : l.map (fun d => decide (c = d)) = (List.range l.length).map (fun i => decide (i = j)) := by
  refine List.ext_getElem (by simp) fun i h1 h2 => ?_
  rw [List.length_map] at h1
  rw [List.getElem_map, List.getElem_map, List.getElem_range]
  refine decide_eq_decide.mpr ⟨fun e => ?_, fun e => ?_⟩
  · obtain ⟨hj, e2⟩ := List.getElem?_eq_some_iff.mp h
    have : l[i] = l[j] := by rw [e2, ← e]
    exact (List.getElem_inj nd).mp this
  · subst e
    obtain ⟨hj, e2⟩ := List.getElem?_eq_some_iff.mp h
    exact e2.symm
theorem as_range {α : Type} (ts : List α) (d : α) : ts = (List.range ts.length).map (fun i => ts.getD i d) := by
  refine List.ext_getElem (by simp) fun i h1 h2 => ?_
  rw [List.getElem_map, List.getElem_range, List.getD_eq_getElem?_getD, List.getElem?_eq_getElem h1]; rfl
theorem th14_of {ts : List V} (h : ts.length = 14) : ts = th14 (fun i => ts.getD i .non) := by
  have e := as_range ts V.non
  rw [h] at e
  exact e
theorem num6_of {ks : List Int} (h : ks.length = 6) : ks.map V.int = num6 (fun i => ks.getD i 0) := by
  have e := as_range ks 0
  rw [h] at e
  have e2 := congrArg (List.map V.int) e
  exact e2
theorem iv_app {H : Hp} {vs us : List V} {ds es : List PyData} (h : IVs H vs ds) (h' : IVs H us es) : IVs H (vs ++ us) (ds ++ es) := by
  induction h with
  | nil => exact h'
  | cons a _ ih => exact .cons a ih
theorem iv_put {H : Hp} {vs : List V} {ds : List PyData} (h : IVs H vs ds) {v : V} {d : PyData} (hv : IV H v d) : ∀ i, IVs H (vs.set i v) (ds.set i d) := by
  induction h with
  | nil => intro i; exact .nil
  | cons a b ih =>
    intro i
    cases i with
    | zero => exact .cons hv b
    | succ i => exact .cons a (ih i)
theorem iv_len {H : Hp} {vs : List V} {ds : List PyData} (h : IVs H vs ds) : ds.length = vs.length := by
  induction h with
  | nil => rfl
  | cons _ _ ih => rw [List.length_cons, List.length_cons, ih]
theorem ints_iv {H : Hp} : ∀ ks : List Int, IVs H (ks.map V.int) (ks.map PyData.int)
  | [] => .nil
  | k :: ks => .cons (.dat (.int k) rfl) (ints_iv ks)
theorem shs {ds : List PyData} (h : ∀ d ∈ ds, Sh d) : PyData.showableAll ds = true ∧ PyData.depthAll ds ≤ 4 ∧ ((PyData.shownAll ds).map (·.length)).sum ≤ 1000 * ds.length ∧ (PyData.shownAll ds).length = ds.length := by
  induction ds with
  | nil => exact ⟨rfl, Nat.zero_le _, Nat.zero_le _, rfl⟩
  | cons d ds ih =>
    obtain ⟨h1, h2, h3, h4⟩ := ih fun x m => h x (List.mem_cons_of_mem _ m)
    obtain ⟨a, b, c⟩ := h d List.mem_cons_self
    refine ⟨by simp only [PyData.showableAll, a, h1]; rfl, by simp only [PyData.depthAll]; omega, ?_, by simp only [PyData.shownAll, List.length_cons, h4]⟩
    simp only [PyData.shownAll, List.map_cons, List.sum_cons, List.length_cons]
    omega
theorem shs_len {ds : List PyData} (h : ∀ d ∈ ds, Sh d) (hl : ds.length ≤ 100) : (PyData.list ds).shown.length ≤ sizeLine := by
  obtain ⟨_, _, h3, h4⟩ := shs h
  have e := listText_len_le (PyData.shownAll ds)
  simp only [PyData.shown]
  refine Nat.le_trans e (Nat.le_trans (m := 200000) (by omega) (by decide))
theorem x_putL {H : Hp} {ea C r : Addr} {dx : Option Addr} {xs : List V} {o : HO} (h : XAt H ea C dx) (hr : H r = some (.lst xs)) : XAt (upd H r o) ea C dx := h.put fun φ z => by rw [hr] at z; cases z
theorem xml_putL {H : Hp} {r : Addr} {xs : List V} {o : HO} {cs : List (Addr × List (Str × V))} {es : List V} (h : XMl H cs es) (hr : H r = some (.lst xs)) : XMl (upd H r o) cs es := by
  induction h with
  | nil => exact .nil
  | cons a _ ih =>
    obtain ⟨ea, dx, e, x, d⟩ := a
    exact .cons ⟨ea, dx, e, x_putL x hr, by rw [upd_ne (ne_of d hr (by intro z; cases z))]; exact d⟩ ih
noncomputable def rowsD : PyData := .list [.list [.str "ring"], .tuple [.str "ring", .list [.int 1, .int 2]], .int 7]
theorem rows_sh : Sh rowsD ∧ Sh (.tuple [.str "past", rowsD]) := ⟨⟨by decide +kernel, by decide +kernel, by decide +kernel⟩, ⟨by decide +kernel, by decide +kernel, by decide +kernel⟩⟩
theorem rows_nd : rowsD.hasDict = false ∧ (PyData.tuple [.str "past", rowsD]).hasDict = false := ⟨rfl, rfl⟩
theorem small1000' {n : Nat} (h : n ≤ 1000) : n ≤ sizeLine := Nat.le_trans h (by decide)
theorem mem_set {α : Type} {l : List α} {i : Nat} {x y : α} (h : y ∈ l.set i x) : y ∈ l ∨ y = x := List.mem_or_eq_of_mem_set h
noncomputable def PvL (sa : Addr) (H : Hp) (_ : Nat) (σ : L2.St) (H' : Hp) : Prop := ∃ s1 s2 s3 s4 s5 s6 s7 s8 : Option V, σ = [some (.ref sa), s1, s2, s3, s4, s5, s6, s7, s8] ∧ Same H H'
section
variable {P : Program} {w : World} {K : PySem.W.Frag} {mg : Str → Option Value} {base : Heap}
end
end K09
set_option Elab.async false
set_option linter.all false
set_option maxRecDepth 100000
namespace K09
open PySem L2 PySem.NumText PyProof.Rows KC
section
variable {P : Program} {w : World} {K : PySem.W.Frag} {mg : Str → Option Value} {base : Heap}
theorem ok_law {a : Ad} (T : Txt K mg a) : FnOk P w K mg base CX0 6 a.f_law a.fd_law ["_law_script"] (sp_law K) := by
  have G_LogError_init : FnOk P w K mg base CX0 1 a.f_LogError_init a.fd_LogError_init ["self", "text"] (sp_LogError_init K) := ok_LogError_init T
  have G_Lpurse : FnOk P w K mg base CX0 1 a.f_Lpurse a.fd_Lpurse ["_law_cell_here"] sp_Lpurse := ok_Lpurse T
  have G_Lmade : FnOk P w K mg base CX0 5 a.f_Lmade a.fd_Lmade ["_law_numbers", "_law_things"] (sp_Lmade a) := ok_Lmade T
  have G_Lkinds : FnOk P w K mg base CX0 1 a.f_Lkinds a.fd_Lkinds ["_law_e"] (sp_Lkinds K a) := ok_Lkinds T
  have G_Lcell : FnOk P w K mg base CX0 1 a.f_Lcell a.fd_Lcell ["_law_script", "_law_k"] (sp_Lcell K) := ok_Lcell T
  have G_Lthing : FnOk P w K mg base CX0 3 a.f_Lthing a.fd_Lthing ["_law_purse_here"] sp_Lthing := ok_Lthing T
  have G_Ltake : FnOk P w K mg base CX0 1 a.f_Ltake a.fd_Ltake ["_law_purse_here", "_law_many"] sp_Ltake := ok_Ltake T
  have G_Lnumber : FnOk P w K mg base CX0 2 a.f_Lnumber a.fd_Lnumber ["_law_purse_here"] sp_Lnumber := ok_Lnumber T
  have G_Lfields : FnOk P w K mg base CX0 1 a.f_Lfields a.fd_Lfields ["_law_some"] (sp_Lfields a) := ok_Lfields T
  refine T.d_law.F.ok sc_law (fun vs H Q E h => ?_) (fun cdv A outer s H vs Q E hr h => ?_)
  · obtain ⟨sa, ns, rfl, hS, hlen, kk⟩ := h
    rfl
  · obtain ⟨sa, ns, rfl, hS, hlen, kk⟩ := h
    have hu := hu_of hr
    have hU := hr.units
    have h_LogError_init : Room (1 + 1) _ := hr.mono (by decide)
    have h_Lpurse : Room (1) _ := hr.mono (by decide)
    have h_Lmade : Room (5) _ := hr.mono (by decide)
    have h_Lkinds : Room (1) _ := hr.mono (by decide)
    have h_Lcell : Room (1) _ := hr.mono (by decide)
    have h_Lthing : Room (3) _ := hr.mono (by decide)
    have h_Ltake : Room (1) _ := hr.mono (by decide)
    have h_Lnumber : Room (2) _ := hr.mono (by decide)
    have h_Lfields : Room (1) _ := hr.mono (by decide)
    refine ⟨_, (pss_cons (ps_set (i := 1) sc_law.nd rfl (Or.inl rfl) (pe_xmake T.X_LogError G_LogError_init h_LogError_init rfl T.g_LogError T.d_LogError_init.b (pa_cons pe_str pa_nil)))
      (pss_cons (ps_if (PW.pt (pw_or (pt_not (pt_val (pe_callB (r := rIsXE K) call_isXE (by rfl) T.n_isinstance boot_isinstance' (pa_cons (pv 1) (pa_cons (pe_bltn (v := .ty "ValueError") rfl T.n_ValueError boot_ValueError' rfl) pa_nil))))) (pw_or1 (pt_cmpR (op_inL hr.u65) pe_bl (pe_call G_Lkinds h_Lkinds rfl T.d_Lkinds.m T.d_Lkinds.k T.d_Lkinds.b .nil pass0 (pa_cons (pv 1) pa_nil)) (by with_unfolding_all rfl)))))
        (pss_one (ps_ret pe_bl))
        pss_nil)
      (pss_cons (ps_for PassesOwn.never rfl (pi_range1 rfl T.n_range (pa_cons (pe_callB (call_max2 rfl) (by rfl) T.n_max boot_max' (pa_cons pe_int (pa_cons (pe_callB (call_min2 rfl) (by rfl) T.n_min boot_min' (pa_cons (pe_callB call_len (by rfl) T.n_len boot_len' (pa_cons (pv 0) pa_nil)) (pa_cons pe_int pa_nil))) pa_nil))) pa_nil)) (pg_name (i := 2) (sc_law.nd) rfl (Or.inl rfl))
        (pss_cons (ps_set (i := 3) sc_law.nd rfl (Or.inr rfl) (pe_call G_Lpurse h_Lpurse rfl T.d_Lpurse.m T.d_Lpurse.k T.d_Lpurse.b .nil pass0 (pa_cons (pe_call G_Lcell h_Lcell rfl T.d_Lcell.m T.d_Lcell.k T.d_Lcell.b .nil pass0 (pa_cons (pv 0) (pa_cons (pv 2) pa_nil))) pa_nil)))
        (pss_cons (ps_setC (i := 4) sc_law.nd rfl (Or.inl rfl) rfl (CompOk.def ["_law_j", "_law_purse_here"] [none, some 3]) (pi_range1 rfl T.n_range (pa_cons pe_int pa_nil)) (fun _ _ _ _ _ => (pg_name (i := 0) (show List.Nodup (["_law_j", "_law_purse_here"] : List Str) by decide +kernel) rfl (Or.inl rfl))) (fun _ _ _ _ _ => pts_nil) (fun _ _ _ _ _ => (pe_callB call_abs (by rfl) T.n_abs boot_abs' (pa_cons (pe_call G_Lnumber h_Lnumber rfl T.d_Lnumber.m T.d_Lnumber.k T.d_Lnumber.b .nil pass0 (pa_cons (pv 1) pa_nil)) pa_nil))))
        (pss_cons (ps_setC (i := 5) sc_law.nd rfl (Or.inl rfl) rfl (CompOk.def ["_law_j", "_law_purse_here"] [none, some 3]) (pi_range1 rfl T.n_range (pa_cons pe_int pa_nil)) (fun _ _ _ _ _ => (pg_name (i := 0) (show List.Nodup (["_law_j", "_law_purse_here"] : List Str) by decide +kernel) rfl (Or.inl rfl))) (fun _ _ _ _ _ => pts_nil) (fun _ _ _ _ _ => (pe_call G_Lthing h_Lthing rfl T.d_Lthing.m T.d_Lthing.k T.d_Lthing.b .nil pass0 (pa_cons (pv 1) pa_nil))))
        (pss_cons (ps_set (i := 6) sc_law.nd rfl (Or.inl rfl) (pe_lst (pa_cons (pe_lst (pa_cons pe_str pa_nil)) (pa_cons (pe_tup (pa_cons pe_str (pa_cons (pe_lst (pa_cons pe_int (pa_cons pe_int pa_nil))) pa_nil))) pa_nil))))
        (pss_cons (ps_asg (pe_tup (pa_cons pe_str (pa_cons (pv 6) pa_nil))) (pg_sub (pv 5) pe_int set_list))
        (pss_cons (ps_asg (pv 6) (pg_sub (pv 5) (pe_call G_Ltake h_Ltake rfl T.d_Ltake.m T.d_Ltake.k T.d_Ltake.b .nil pass0 (pa_cons (pv 3) (pa_cons pe_int pa_nil))) set_list))
        (pss_cons (ps_set (i := 7) sc_law.nd rfl (Or.inl rfl) (pe_call G_Lmade h_Lmade rfl T.d_Lmade.m T.d_Lmade.k T.d_Lmade.b .nil pass0 (pa_cons (pv 4) (pa_cons (pv 5) pa_nil))))
        (pss_cons (ps_for PassesOwn.never rfl (pi_range1 rfl T.n_range (pa_cons pe_int pa_nil)) (pg_name (i := 8) (sc_law.nd) rfl (Or.inr rfl))
          (pss_one (ps_if (PW.pt (pw_or (pt_not (pt_val (pe_callB (r := rIsXE K) call_isXE (by rfl) T.n_isinstance boot_isinstance' (pa_cons (pe_ix (r := rIx K) ix_seq (pv 7) (pv 8) (fun _ _ => rfl)) (pa_cons (pe_glob (v := .ref a.c_LogError) rfl T.g_LogError rfl) pa_nil))))) (pw_or1 (pt_cmpR (uNe hU) (pe_call G_Lkinds h_Lkinds rfl T.d_Lkinds.m T.d_Lkinds.k T.d_Lkinds.b .nil pass0 (pa_cons (pe_ix (r := rIx K) ix_seq (pv 7) (pv 8) (fun _ _ => rfl)) pa_nil)) (pe_comp rfl (CompOk.def ["_law_i", "_law_j"] [none, some 8]) (pi_range1 rfl T.n_range (pa_cons pe_int pa_nil)) (fun _ _ _ _ _ => (pg_name (i := 0) (show List.Nodup (["_law_i", "_law_j"] : List Str) by decide +kernel) rfl (Or.inl rfl))) (fun _ _ _ _ _ => pts_nil) (fun _ _ _ _ _ => (pe_cmpR (uEq hU) (pv 0) (pv 1) (nomark _)))) (nomark _)))))
            (pss_one (ps_ret pe_bl))
            pss_nil)))
        (pss_cons (ps_expr (pe_bm PySem.F.plainAttrs_list PySem.F.slot_list_append PySem.F.type_list_append mt_append (pv 6) (pa_cons pe_int pa_nil)))
        (pss_one (ps_if (pt_cmpR (uNe hU) (pe_callB (call_reprD hr.gd hU) (by rfl) T.n_repr boot_repr' (pa_cons (pe_call G_Lfields h_Lfields rfl T.d_Lfields.m T.d_Lfields.k T.d_Lfields.b .nil pass0 (pa_cons (pv 7) pa_nil)) pa_nil)) (pe_callB (call_reprD hr.gd hU) (by rfl) T.n_repr boot_repr' (pa_cons (pe_op uAdd (pe_op uAdd (pe_slice uSl (pv 4) po_none (po_some pe_int)) (pv 5)) (pe_lst (pa_cons (pe_ix (r := rIx K) ix_seq (pv 4) pe_int (fun _ _ => rfl)) pa_nil))) pa_nil)) (nomark _))
          (pss_one (ps_ret pe_bl))
          pss_nil))))))))))))
      (pss_one (ps_ret pe_bl))))), ?_⟩
    try dsimp only [cxOf, Cx.nox]
    refine ⟨Nat.le_of_ble_eq_true rfl, fun eb heb => ⟨eb, _, _, _, _, rfl, upd_same, T.X_LogError.c.xi, rfl, ?_⟩⟩
    have S0 : Same H (upd H eb (.ext (ExO eb a.c_LogError none .none))) := Same.new _ heb
    have xe : XE K (upd H eb (.ext (ExO eb a.c_LogError none .none))) (.ref eb) a.c_LogError := ⟨T.X_LogError.c, eb, rfl, .inl ⟨.none, upd_same, .inl rfl⟩⟩
    try dsimp only
    generalize upd H eb (.ext (ExO eb a.c_LogError none .none)) = G0 at S0 xe ⊢
    refine ⟨_, rfl, .ref eb, a.c_LogError, _, true, rfl, xe, rfl, ?_⟩
    refine ⟨_, rfl, iteF ?_⟩
    refine ⟨_, rfl, .ref eb, a.c_LogError, rfl, xe, isa0 T, fun kl H1 S1 hkl => ?_⟩
    have ek : (cl a).map (fun D => V.bl (decide (a.c_LogError = D))) = (List.replicate 19 false).map V.bl := by
      refine (List.map_congr_left (g := fun _ => V.bl false) fun D h => ?_).trans rfl
      rw [decide_eq_false (tb_ne T D h)]
    rw [ek] at hkl
    refine ⟨kl, _, _, rfl, .lst (.inl hkl) (bools_dv _), .bl true, (bools_sh _).2, rfl, (by decide), ?_⟩
    refine ⟨_, rfl, iteF ?_⟩
    have SS := S0.trans S1
    clear S0 S1 xe hkl ek heb
    try unfold tNext
    try dsimp only
    refine ⟨_, rfl, _, _, rfl, .inl ⟨_, (SS.seq hS), rfl⟩, _, _, rfl, _, _, rfl, _, rfl, (by split <;> split <;> omega), (by rw [List.length_map]; split <;> split <;> omega), ?_⟩
    refine for_range (lo := 0) (PvL sa H) ⟨_, _, _, _, _, _, _, _, rfl, SS⟩ ?_ ?_
    · rintro i σ H2 hi ⟨s1, s2, s3, s4, s5, s6, s7, s8, rfl, S⟩
      refine ⟨_, rfl, _, rfl, sa, ns, _, rfl, S.seq hS, by omega, fun c => ⟨c, rfl, fun p zL zS zA fp => ?_⟩⟩
      have p0 : IsP (upd H2 p (.dK (pur zL zS zA))) p := .put _ _ _
      have t0 : Same H2 (upd H2 p (.dK (pur zL zS zA))) := Same.new _ fp
      try dsimp only
      generalize upd H2 p (.dK (pur zL zS zA)) = G1 at p0 t0 ⊢
      have e6 : (6 : Int).toNat = 6 := rfl
      have e14 : (14 : Int).toNat = 14 := rfl
      refine ⟨_, rfl, by decide, by decide, fun np fnp => ?_⟩
      have nnp : np ≠ p := p0.ne fnp
      refine comp_range (lo := 0) (n := (6 : Int).toNat) (D := np) (fun i σ H3 => ∃ (c0 : Option V) (ks : List Int), σ = [c0, some (.ref p)] ∧ But p G1 H3 ∧ IsP H3 p ∧ H3 np = some (.lst (ks.map V.int)) ∧ ks.length = i ∧ ∀ k ∈ ks, Sm k) ⟨none, [], rfl, (But.refl p G1).new _ fnp, p0.new _ fnp, upd_same, rfl, fun _ z => nomatch z⟩ ?_ ?_
      · rintro j σ H3 hj ⟨c0, ks, rfl, B, pB, hk, lk, sk⟩
        refine ⟨_, rfl, p, rfl, pB, fun m H4 m0 m1 B4 p4 => ⟨m, rfl, ?_⟩⟩
        have hk4 := B4 _ _ hk nnp
        refine ⟨_, hk4, small1000 (by rw [List.length_map, lk]; omega), _, ks ++ [if m < 0 then -m else m], rfl, ?_, ?_, ?_, ?_, ?_⟩
        · intro b o z n
          by_cases hb : b = np
          · subst hb; rw [fnp] at z; cases z
          · rw [upd_ne hb]; exact (B.trans B4) b o z n
        · obtain ⟨x, y, w, e⟩ := p4
          exact ⟨x, y, w, by rw [upd_ne nnp.symm]; exact e⟩
        · rw [upd_same, List.map_append]; rfl
        · rw [List.length_append, lk]; rfl
        · intro k mk
          rcases List.mem_append.mp mk with mk | mk
          · exact sk k mk
          · rw [List.mem_singleton.mp mk]
            by_cases g : m < 0
            · rw [if_pos g]; exact ⟨by omega, by omega⟩
            · rw [if_neg g]; exact ⟨by omega, by omega⟩
      rintro σ3 H3 ⟨c1, ks, rfl, B, pB, hk, lk, sk⟩
      clear p0
      try unfold tNext
      try dsimp only
      refine ⟨_, rfl, by decide, by decide, fun q fq => ?_⟩
      have nq : q ≠ p := pB.ne fq
      have nnq : np ≠ q := ne_of_none hk fq
      refine comp_range (lo := 0) (n := (14 : Int).toNat) (D := q) (fun i σ H4 => ∃ (c0 : Option V) (ts : List V) (ds : List PyData) (E : Hp), σ = [c0, some (.ref p)] ∧ But p H3 H4 ∧ IsP H4 p ∧ H4 q = some (.lst ts) ∧ ts.length = i ∧ Same E H4 ∧ E q = none ∧ E p = none ∧ IVs E ts ds ∧ ∀ d ∈ ds, Sh d) ⟨none, [], [], fun _ => none, rfl, (But.refl p H3).new _ fq, pB.new _ fq, upd_same, rfl, (fun _ _ z => nomatch z), rfl, rfl, .nil, fun _ z => nomatch z⟩ ?_ ?_
      · rintro j σ H4 hj ⟨c0, ts, ds, E, rfl, B4, p4, hq, lt, SE, Eq, Ep, iv, sh⟩
        refine ⟨_, rfl, p, rfl, p4, fun v d F H5 B5 p5 SF FN ivv shd => ?_⟩
        have hq5 := B5 _ _ hq nq
        have dj : ∀ b o, F b = some o → E b = none := fun b o e => by
          cases z : E b with
          | none => rfl
          | some u => have := FN b u (SE b u z); rw [this] at e; cases e
        refine ⟨_, hq5, small1000 (by rw [lt]; omega), _, ts ++ [v], ds ++ [d], Jn E F, rfl, ?_, ?_, upd_same, ?_, ?_, Jn.no Eq (FN _ _ hq), ?_, iv_app (iv.same Jn.l) (.cons (ivv.same (Jn.r dj)) .nil), ?_⟩
        · intro b o z n
          by_cases hb : b = q
          · subst hb; rw [fq] at z; cases z
          · rw [upd_ne hb]; exact (B4.trans B5) b o z n
        · obtain ⟨x, y, w, e⟩ := p5
          exact ⟨x, y, w, by rw [upd_ne nq.symm]; exact e⟩
        · rw [List.length_append, lt]; rfl
        · intro b o e
          have nb : b ≠ q := fun z => by
            subst z
            rcases Jn.in_ e with e | e
            · rw [Eq] at e; cases e
            · rw [FN _ _ hq] at e; cases e
          rw [upd_ne nb]
          rcases Jn.in_ e with e | e
          · exact B5 b o (SE b o e) (fun z => by subst z; rw [Ep] at e; cases e)
          · exact SF b o e
        · obtain ⟨x, y, w, e⟩ := p4
          exact Jn.no Ep (FN _ _ e)
        · intro d' m
          rcases List.mem_append.mp m with m | m
          · exact sh d' m
          · rw [List.mem_singleton.mp m]; exact shd
      rintro σ4 H4 ⟨c2, ts, ds, E, rfl, B4, p4, hq, lt, SE, Eq, Ep, iv, sh⟩
      have hn := B4 _ _ hk nnp
      have t4 : Same H2 H4 := fun b o e => B4 b o (B b o (t0 _ _ e) (ne_of_none e fp)) (ne_of_none e fp)
      have q2 : ∀ b o, H2 b = some o → b ≠ q := fun b o e => ne_of_none (B b o (t0 _ _ e) (ne_of_none e fp)) fq
      clear B B4 pB hk t0
      try unfold tNext
      try dsimp only
      refine ⟨small60 (Nat.le_of_ble_eq_true rfl), fun r1 f_r1 => ?_⟩
      have n1 := (ne_of_none hq f_r1).symm
      have e_r1 : (upd H4 r1 (.lst [.str "ring"])) r1 = some (.lst [.str "ring"]) := upd_same
      have s_r1 : Same H4 (upd H4 r1 (.lst [.str "ring"])) := Same.new _ f_r1
      try dsimp only
      generalize upd H4 r1 (.lst [.str "ring"]) = A1 at e_r1 s_r1 ⊢
      refine ⟨small60 (Nat.le_of_ble_eq_true rfl), fun r2 f_r2 => ?_⟩
      have n2 := (ne_of_none (s_r1 _ _ hq) f_r2).symm
      have e_r2 : (upd A1 r2 (.lst [.int 1, .int 2])) r2 = some (.lst [.int 1, .int 2]) := upd_same
      have s_r2 : Same A1 (upd A1 r2 (.lst [.int 1, .int 2])) := Same.new _ f_r2
      try dsimp only
      generalize upd A1 r2 (.lst [.int 1, .int 2]) = A2 at e_r2 s_r2 ⊢
      have u2 := s_r1.trans s_r2
      refine ⟨small60 (Nat.le_of_ble_eq_true rfl), fun rt f_rt => ?_⟩
      have n3 := (ne_of_none (u2 _ _ hq) f_rt).symm
      have e_rt : (upd A2 rt (.tup [.str "ring", .ref r2])) rt = some (.tup [.str "ring", .ref r2]) := upd_same
      have s_rt : Same A2 (upd A2 rt (.tup [.str "ring", .ref r2])) := Same.new _ f_rt
      try dsimp only
      generalize upd A2 rt (.tup [.str "ring", .ref r2]) = A3 at e_rt s_rt ⊢
      have u3 := u2.trans s_rt
      refine ⟨small60 (Nat.le_of_ble_eq_true rfl), fun r f_r => ?_⟩
      have n4 := (ne_of_none (u3 _ _ hq) f_r).symm
      have fr2 : ∀ o, H2 r ≠ some o := fun o e => by have := (t4.trans u3) _ _ e; rw [f_r] at this; cases this
      have Er : E r = none := by
        cases z : E r with
        | none => rfl
        | some u => have := (SE.trans u3) _ _ z; rw [f_r] at this; cases this
      have e_r : (upd A3 r (.lst [.ref r1, .ref rt])) r = some (.lst [.ref r1, .ref rt]) := upd_same
      have s_r : Same A3 (upd A3 r (.lst [.ref r1, .ref rt])) := Same.new _ f_r
      try dsimp only
      generalize upd A3 r (.lst [.ref r1, .ref rt]) = A4 at e_r s_r ⊢
      have u4 := u3.trans s_r
      refine ⟨_, rfl, small60 (Nat.le_of_ble_eq_true rfl), fun t2 f_t2 => ?_⟩
      have n5 := (ne_of_none (u4 _ _ hq) f_t2).symm
      have e_t2 : (upd A4 t2 (.tup [.str "past", .ref r])) t2 = some (.tup [.str "past", .ref r]) := upd_same
      have s_t2 : Same A4 (upd A4 t2 (.tup [.str "past", .ref r])) := Same.new _ f_t2
      try dsimp only
      generalize upd A4 t2 (.tup [.str "past", .ref r]) = A5 at e_t2 s_t2 ⊢
      have u5 := u4.trans s_t2
      have p5 := p4.same u5
      have hq5 := u5 _ _ hq
      have w1 := s_t2 _ _ (s_r _ _ (s_rt _ _ (s_r2 _ _ e_r1)))
      have w2 := s_t2 _ _ (s_r _ _ (s_rt _ _ e_r2))
      have w3 := s_t2 _ _ (s_r _ _ e_rt)
      have w4 := s_t2 _ _ e_r
      have hn5 := u5 _ _ hn
      have SE5 : Same E A5 := SE.trans u5
      have t5 : Same H2 A5 := t4.trans u5
      clear u2 u3 u4 u5 s_r1 s_r2 s_rt s_r s_t2 e_r1 e_r2 e_rt e_r hq hn SE t4 p4
      refine ⟨_, rfl, q, ts, _, 11, rfl, rfl, hq5, (by rw [lt]; rfl), ?_⟩
      have p6 : IsP (upd A5 q (.lst (ts.set 11 (.ref t2)))) p := by
        obtain ⟨x, y, w, e⟩ := p5
        exact ⟨x, y, w, by rw [upd_ne nq.symm]; exact e⟩
      refine ⟨_, rfl, _, rfl, _, rfl, p, _, rfl, p6, by decide, by decide, fun d yL yS yA d0 d1 => ?_⟩
      refine ⟨q, ts.set 11 (.ref t2), _, d.toNat, rfl, rfl, (by rw [upd_ne nq, upd_same]), (by unfold ixN; rw [if_pos d0, if_pos (by rw [List.length_set, lt]; omega)]), ?_⟩
      have kp : ∀ b o, A5 b = some o → b ≠ q → b ≠ p → (upd (upd (upd A5 q (.lst (ts.set 11 (.ref t2)))) p (.dK (pur yL yS yA))) q (.lst ((ts.set 11 (.ref t2)).set d.toNat (.ref r)))) b = some o := fun b o e h1 h2 => by
        rw [upd_ne h1, upd_ne h2, upd_ne h1]; exact e
      have hq9 : (upd (upd (upd A5 q (.lst (ts.set 11 (.ref t2)))) p (.dK (pur yL yS yA))) q (.lst ((ts.set 11 (.ref t2)).set d.toNat (.ref r)))) q = some (.lst ((ts.set 11 (.ref t2)).set d.toNat (.ref r))) := upd_same
      try unfold tNext
      try dsimp only
      generalize upd (upd (upd A5 q (.lst (ts.set 11 (.ref t2)))) p (.dK (pur yL yS yA))) q (.lst ((ts.set 11 (.ref t2)).set d.toNat (.ref r))) = A9 at kp hq9 ⊢
      have x1 := kp _ _ w1 n1 (p5.neL w1)
      have x2 := kp _ _ w2 n2 (p5.neL w2)
      have x3 := kp _ _ w3 n3 (p5.neT w3)
      have x4 := kp _ _ w4 n4 (p5.neL w4)
      have x5 := kp _ _ e_t2 n5 (p5.neT e_t2)
      have hn9 := kp _ _ hn5 nnq nnp
      have SE9 : Same E A9 := fun b o e => kp b o (SE5 b o e) (fun z => by subst z; rw [Eq] at e; cases e) (fun z => by subst z; rw [Ep] at e; cases e)
      have t9 : Same H2 A9 := fun b o e => kp b o (t5 b o e) (q2 b o e) (ne_of_none e fp)
      clear kp SE5 t5 w1 w2 w3 w4 e_t2 hn5 hq5 p5 p6 q2
      have d11 : d.toNat < 11 := by omega
      have l14 : ((ts.set 11 (.ref t2)).set d.toNat (.ref r)).length = 14 := by rw [List.length_set, List.length_set, lt]; rfl
      obtain ⟨n, en⟩ : ∃ n, ks.map V.int = num6 n := ⟨_, num6_of lk⟩
      obtain ⟨t, et⟩ : ∃ t, (ts.set 11 (.ref t2)).set d.toNat (.ref r) = th14 t := ⟨_, th14_of l14⟩
      rw [et] at hq9
      rw [en] at hn9
      refine ⟨_, rfl, _, rfl, np, q, n, t, rfl, hn9, hq9, fun l es H5 S5 hl M => ?_⟩
      have t10 := t9.trans S5
      have hq10 := S5 _ _ hq9
      have hn10 := S5 _ _ hn9
      have x1 := S5 _ _ x1
      have x2 := S5 _ _ x2
      have x3 := S5 _ _ x3
      have x4 := S5 _ _ x4
      have x5 := S5 _ _ x5
      have SE10 := SE9.trans S5
      clear S5 t9 hq9 hn9 SE9
      try unfold tNext
      try dsimp only
      refine seq_split (t := tFor _ _ _) (fun σ' H' => ∃ s8 : Option V, σ' = [some (.ref sa), s1, some (.int (0 + (i : Int))), some (.ref p), some (.ref np), some (.ref q), some (.ref r), some (.ref l), s8] ∧ Same H5 H') (fun N hN => ?_) ?_
      · refine ⟨_, rfl, by decide, by decide, for_range (lo := 0) (n := 19) (D := { nx := N, rt := Q }) (fun j σ H6 => ∃ s8 : Option V, σ = [some (.ref sa), s1, some (.int (0 + (i : Int))), some (.ref p), some (.ref np), some (.ref q), some (.ref r), some (.ref l), s8] ∧ Same H5 H6) ⟨_, rfl, Same.refl _⟩ ?_ ?_⟩
        · rintro j σ H6 hj ⟨s8, rfl, S6⟩
          obtain ⟨C, hC⟩ : ∃ C, (cl a)[j]? = some C := ⟨_, List.getElem?_eq_getElem (by exact hj)⟩
          have mC : C ∈ cl a := List.mem_of_getElem? hC
          have hC' : ((rec a n t).map (·.1))[j]? = some C := hC
          rw [List.getElem?_map, Option.map_eq_some_iff] at hC'
          obtain ⟨c', hc, hc1⟩ := hC'
          obtain ⟨e, he, me⟩ := M.at_ hc
          rw [hc1] at me
          have xe := (me.same S6).xe (tb_xc T C mC)
          have hl6 := S6 _ _ hl
          have ai : atI es (0 + (j : Int)) = some e := by rw [Int.zero_add]; exact atI_nat he
          refine ⟨_, rfl, _, rfl, .inl ⟨l, _, _, e, rfl, rfl, SqL.of hl6, ai, e, C, _, true, rfl, xe, isaB T mC, ?_⟩⟩
          refine ⟨_, rfl, iteF ?_⟩
          refine ⟨_, rfl, _, rfl, .inl ⟨l, _, _, e, rfl, rfl, SqL.of hl6, ai, e, C, rfl, xe, isa1 T mC, fun kl H7 S7 hkl => ?_⟩⟩
          refine ⟨_, rfl, by decide, by decide, fun D fD => ?_⟩
          refine comp_range (lo := 0) (n := (19 : Int).toNat) (D := D) (fun x σ H8 => ∃ (c0 : Option V), σ = [c0, some (.int (0 + (j : Int)))] ∧ Same H7 H8 ∧ H8 D = some (.lst (((List.range x).map fun x => decide (x = j)).map V.bl))) ⟨none, rfl, Same.new _ fD, upd_same⟩ ?_ ?_
          · rintro x σ H8 hx ⟨c0, rfl, S8, hD⟩
            refine ⟨_, rfl, _, rfl, .inl ⟨rfl, ?_⟩⟩
            have ex : decide (V.int (0 + (x : Int)) = V.int (0 + (j : Int))) = decide (x = j) := decide_eq_decide.mpr ⟨fun e => by injection e with e; omega, fun e => by rw [e]⟩
            have e19 : (19 : Int).toNat = 19 := rfl
            refine ⟨_, hD, small1000 (by rw [List.length_map, List.length_map, List.length_range]; omega), _, rfl, ?_, ?_⟩
            · intro b o z
              rw [upd_ne (ne_of_none z fD)]; exact S8 b o z
            · rw [upd_same, ex, List.range_succ, List.map_append, List.map_append]; rfl
          rintro σ8 H8 ⟨c0, rfl, S8, hD⟩
          have hk8 := S8 _ _ hkl
          rw [show (cl a).map (fun D => V.bl (decide (C = D))) = ((cl a).map (fun D => decide (C = D))).map V.bl from (List.map_map ..).symm, place (tb_nd T) hC] at hk8
          refine .inr ⟨_, _, .lst (.inl hk8) (bools_dv _), .lst (.inl hD) (bools_dv _), (bools_sh _).2, (bools_sh _).2, ?_⟩
          rw [show (List.range (cl a).length) = List.range (19 : Int).toNat from rfl, SeqAt.eqv_refl _ (bools_sh _).1]
          refine ⟨_, rfl, iteF ?_⟩
          exact ⟨_, rfl, (S6.trans S7).trans S8⟩
        · rintro σ H6 ⟨s8, rfl, S6⟩
          exact hN _ _ ⟨_, rfl, S6⟩
      rintro _ H6 ⟨s8, rfl, S6⟩
      have y4 := S6 _ _ x4
      have y1 := S6 _ _ x1
      have y2 := S6 _ _ x2
      have y3 := S6 _ _ x3
      have y5 := S6 _ _ x5
      have yl := S6 _ _ hl
      have yq := S6 _ _ hq10
      have yn := S6 _ _ hn10
      have M6 := M.same S6
      have SE6 := SE10.trans S6
      have t6 := t10.trans S6
      clear x1 x2 x3 x4 x5 hl hq10 hn10 M SE10 t10 S6
      refine ⟨_, rfl, .inl ⟨rfl, _, SqL.of y4⟩, r, _, _, rfl, rfl, y4, small1000 (Nat.le_of_ble_eq_true rfl), ?_⟩
      have nr : ∀ b o, H6 b = some o → o ≠ .lst [.ref r1, .ref rt] → (upd H6 r (.lst ([.ref r1, .ref rt] ++ [.int 7]))) b = some o := fun b o e z => by rw [upd_ne (ne_of e y4 z)]; exact e
      have z4 : (upd H6 r (.lst ([.ref r1, .ref rt] ++ [.int 7]))) r = some (.lst [.ref r1, .ref rt, .int 7]) := upd_same
      have M7 := xml_putL (o := .lst ([.ref r1, .ref rt] ++ [.int 7])) M6 y4
      have SE7 : Same E (upd H6 r (.lst ([.ref r1, .ref rt] ++ [.int 7]))) := fun b o e => by
        rw [upd_ne (fun z => by subst z; rw [Er] at e; cases e)]; exact SE6 b o e
      have t7 : Same H2 (upd H6 r (.lst ([.ref r1, .ref rt] ++ [.int 7]))) := fun b o e => by
        rw [upd_ne (fun z => by subst z; exact fr2 o e)]; exact t6 b o e
      try unfold tNext
      try dsimp only
      generalize upd H6 r (.lst ([.ref r1, .ref rt] ++ [.int 7])) = A7 at nr z4 M7 SE7 t7 ⊢
      have ml := M6.len
      have zl := nr _ _ yl (fun e => by injection e with e; rw [e] at ml; have z : (2 : Nat) = 19 := ml; omega)
      have z1 := nr _ _ y1 (fun e => by injection e with e; injection e with e; cases e)
      have z2 := nr _ _ y2 (fun e => by injection e with e; injection e with e; cases e)
      have z3 := nr _ _ y3 (fun e => by cases e)
      have z5 := nr _ _ y5 (fun e => by cases e)
      have zq := nr _ _ yq (fun e => by injection e with e; have z : (14 : Nat) = 2 := congrArg List.length e; omega)
      have zn := nr _ _ yn (fun e => by injection e with e; have z : (6 : Nat) = 2 := congrArg List.length e; omega)
      clear nr y1 y2 y3 y4 y5 yl yq yn M6 SE6 t6 ml
      have dr : DV A7 (.ref r) rowsD := .lst (.inl z4) (.cons (.lst (.inl z1) (.cons (.str _) .nil)) (.cons (.tup (.inl z3) (.cons (.str _) (.cons (.lst (.inl z2) (.cons (.int 1) (.cons (.int 2) .nil))) .nil))) (.cons (.int 7) .nil)))
      have dp : DV A7 (.ref t2) (.tuple [.str "past", rowsD]) := .tup (.inl z5) (.cons (.str _) (.cons dr .nil))
      have iv7 : IVs A7 (th14 t) ((ds.set 11 (.tuple [.str "past", rowsD])).set d.toNat rowsD) := by
        rw [← et]
        exact iv_put (iv_put (iv.same SE7) (.dat dp rows_nd.2) 11) (.dat dr rows_nd.1) d.toNat
      have sh7 : ∀ x ∈ (ds.set 11 (.tuple [.str "past", rowsD])).set d.toNat rowsD, Sh x := fun x m => by
        rcases mem_set m with m | m
        · rcases mem_set m with m | m
          · exact sh x m
          · rw [m]; exact rows_sh.2
        · rw [m]; exact rows_sh.1
      have ld := iv_len iv7
      generalize (ds.set 11 (.tuple [.str "past", rowsD])).set d.toNat rowsD = ds7 at iv7 sh7 ld
      have ivn : IVs A7 (num6 n) (ks.map PyData.int) := by rw [← en]; exact ints_iv ks
      obtain ⟨k0, k1, k2, k3, k4, k5, rfl⟩ : ∃ k0 k1 k2 k3 k4 k5, ks = [k0, k1, k2, k3, k4, k5] := ⟨_, _, _, _, _, _, (show ks = [ks.getD 0 0, ks.getD 1 0, ks.getD 2 0, ks.getD 3 0, ks.getD 4 0, ks.getD 5 0] by have e := as_range ks 0; rw [lk] at e; exact e)⟩
      have iv20 : IVs A7 (all20 n t) ([.int k0, .int k1, .int k2, .int k3, .int k4] ++ ds7 ++ [.int k5]) := by
        cases ivn with
        | cons i0 r0 => cases r0 with
          | cons i1 r1 => cases r1 with
            | cons i2 r2 => cases r2 with
              | cons i3 r3 => cases r3 with
                | cons i4 r4 => cases r4 with
                  | cons i5 r5 =>
                    exact iv_app (iv_app (.cons i0 (.cons i1 (.cons i2 (.cons i3 (.cons i4 .nil))))) iv7) (.cons i5 .nil)
      have sh20 : ∀ x ∈ ([.int k0, .int k1, .int k2, .int k3, .int k4] ++ ds7 ++ [.int k5] : List PyData), Sh x := fun x m => by
        simp only [List.mem_append, List.mem_cons, List.not_mem_nil, or_false] at m
        rcases m with ((rfl | rfl | rfl | rfl | rfl) | m) | rfl
        · exact sh_int (sk _ (by simp))
        · exact sh_int (sk _ (by simp))
        · exact sh_int (sk _ (by simp))
        · exact sh_int (sk _ (by simp))
        · exact sh_int (sk _ (by simp))
        · exact sh7 x m
        · exact sh_int (sk _ (by simp))
      have l20 : ([.int k0, .int k1, .int k2, .int k3, .int k4] ++ ds7 ++ [.int k5] : List PyData).length ≤ 100 := by
        have e : (th14 t).length = 14 := rfl
        rw [List.length_append, List.length_append, ld, e]; exact Nat.le_of_ble_eq_true rfl
      generalize ([.int k0, .int k1, .int k2, .int k3, .int k4] ++ ds7 ++ [.int k5] : List PyData) = ds20 at iv20 sh20 l20
      obtain ⟨g1, g2, _, _⟩ := shs sh20
      have g3 := shs_len sh20 l20
      clear iv sh iv7 sh7 ld ivn dr dp z1 z2 z3 z4 z5
      refine ⟨_, rfl, l, es, n, t, rfl, zl, M7, fun fr H8 S8 hfr => ?_⟩
      refine ⟨fr, _, ds20, rfl, hfr, iv20.same S8, g1, by omega, g3, ?_⟩
      refine ⟨_, rfl, _, rfl, .inl ⟨np, _, rfl, SqL.of (S8 _ _ zn), fun c1 f_c1 => ?_⟩⟩
      have e_c1 : (upd H8 c1 (.lst (cutV (num6 n) none (some 5)))) c1 = some (.lst (cutV (num6 n) none (some 5))) := upd_same
      have s_c1 : Same H8 (upd H8 c1 (.lst (cutV (num6 n) none (some 5)))) := Same.new _ f_c1
      try dsimp only
      generalize upd H8 c1 (.lst (cutV (num6 n) none (some 5))) = B1 at e_c1 s_c1 ⊢
      refine ⟨_, rfl, .inr (.inl ⟨c1, q, _, _, rfl, rfl, e_c1, s_c1 _ _ (S8 _ _ zq), small1000' (Nat.le_of_ble_eq_true rfl), fun c2 f_c2 => ?_⟩)⟩
      have e_c2 : (upd B1 c2 (.lst (cutV (num6 n) none (some 5) ++ th14 t))) c2 = some (.lst (cutV (num6 n) none (some 5) ++ th14 t)) := upd_same
      have s_c2 : Same B1 (upd B1 c2 (.lst (cutV (num6 n) none (some 5) ++ th14 t))) := Same.new _ f_c2
      try dsimp only
      generalize upd B1 c2 (.lst (cutV (num6 n) none (some 5) ++ th14 t)) = B2 at e_c2 s_c2 ⊢
      have S9 := S8.trans (s_c1.trans s_c2)
      refine ⟨_, rfl, .inl ⟨np, _, _, _, rfl, rfl, SqL.of (S9 _ _ zn), rfl, ?_⟩⟩
      refine ⟨small60 (Nat.le_of_ble_eq_true rfl), fun c3 f_c3 => ?_⟩
      have e_c3 : (upd B2 c3 (.lst [.int (n 5)])) c3 = some (.lst [.int (n 5)]) := upd_same
      have s_c3 : Same B2 (upd B2 c3 (.lst [.int (n 5)])) := Same.new _ f_c3
      try dsimp only
      generalize upd B2 c3 (.lst [.int (n 5)]) = B3 at e_c3 s_c3 ⊢
      refine .inr (.inl ⟨c2, c3, _, _, rfl, rfl, s_c3 _ _ e_c2, e_c3, small1000' (Nat.le_of_ble_eq_true rfl), fun c4 f_c4 => ?_⟩)
      have e_c4 : (upd B3 c4 (.lst (cutV (num6 n) none (some 5) ++ th14 t ++ [.int (n 5)]))) c4 = some (.lst (cutV (num6 n) none (some 5) ++ th14 t ++ [.int (n 5)])) := upd_same
      have s_c4 : Same B3 (upd B3 c4 (.lst (cutV (num6 n) none (some 5) ++ th14 t ++ [.int (n 5)]))) := Same.new _ f_c4
      try dsimp only
      generalize upd B3 c4 (.lst (cutV (num6 n) none (some 5) ++ th14 t ++ [.int (n 5)])) = B4 at e_c4 s_c4 ⊢
      have S10 := S9.trans (s_c3.trans s_c4)
      refine ⟨c4, all20 n t, ds20, rfl, e_c4, iv20.same S10, g1, by omega, g3, ?_⟩
      refine .inl ⟨rfl, _, rfl, iteND (fun g => absurd rfl g) (fun _ => ?_)⟩
      exact ⟨_, _, _, _, _, _, _, _, rfl, S.trans (t7.trans S10)⟩
    · rintro σ H2 _
      exact kk H2
end
end K09
set_option Elab.async false
set_option linter.all false
set_option maxRecDepth 100000
namespace K09
open PySem L2 PySem.NumText PyProof.Rows KC
section
variable {P : Program} {w : World} {K : PySem.W.Frag} {mg : Str → Option Value} {base : Heap}
end
theorem walkX {q : Program} {loose : List Str} {XP : (Str → Option Value) → Heap → Prop} {as : List Addr} {K : Params → PySem.W.Frag} {n m : Nat} {r : PySem.W.RowW} {d : DefRec} {kwd : List (Str × Expr)} {run : Value → List Value → Sem Value}
    (e : ∀ P, as = (K P).map (·.1)) (W : PySem.W.WalkO q loose XP (fun w h => (K w.params).In h) r d kwd run) : PySem.W.WalkX q loose XP (PySem.W.X.obsZ as) (PySem.W.X.valZ K n m) r d kwd run :=
  fun w s₀ s₁ mg mb G y a o pm cd doc dV kV h1 h2 h3 h4 h5 h6 args vals as' L hp hl hr hw hlo => W w s₀ s₁ mg mb G (PySem.W.InK.keeps w _ _ (PySem.W.X.z_facts e y).2.1 L.keeps) a o pm cd doc dV kV h1 h2 h3 h4 h5 h6 args vals as' hp hl hr hw hlo
theorem len_0 {p : List Value → Prop} (h : p []) : ∀ us : List Value, us.length = 0 → p us := fun us hl => by
  cases us with
  | nil => exact h
  | cons a t => cases hl
theorem len_1 {p : List Value → Prop} (h : ∀ a, p [a]) : ∀ us : List Value, us.length = 1 → p us := fun us hl => by
  cases us with
  | nil => cases hl
  | cons a t => exact len_0 (p := fun t => p (a :: t)) (h a) t (Nat.succ.inj hl)
theorem len_2 {p : List Value → Prop} (h : ∀ a b, p [a, b]) : ∀ us : List Value, us.length = 2 → p us := fun us hl => by
  cases us with
  | nil => cases hl
  | cons a t => exact len_1 (p := fun t => p (a :: t)) (h a) t (Nat.succ.inj hl)
theorem len_3 {p : List Value → Prop} (h : ∀ a b c, p [a, b, c]) : ∀ us : List Value, us.length = 3 → p us := fun us hl => by
  cases us with
  | nil => cases hl
  | cons a t => exact len_2 (p := fun t => p (a :: t)) (h a) t (Nat.succ.inj hl)
theorem all_mk {l : PySem.W.OpenLaw} {w : World} {K : PySem.W.Frag} {h : Heap} {mg : Str → Option Value} {fa : Addr} (X : K.In h) (G : h.Ns mainGlobals mg) (hfa : mg "law" = some (.ref fa))
    {C_LogError : Addr} (aC_LogError : PySem.W.nsIn K mainGlobals "LogError" = some (some (.ref C_LogError)))
    {C_NoSpans : Addr} (aC_NoSpans : PySem.W.nsIn K mainGlobals "NoSpans" = some (some (.ref C_NoSpans)))
    {C_NoText : Addr} (aC_NoText : PySem.W.nsIn K mainGlobals "NoText" = some (some (.ref C_NoText)))
    {C_NoTable : Addr} (aC_NoTable : PySem.W.nsIn K mainGlobals "NoTable" = some (some (.ref C_NoTable)))
    {C_Beyond : Addr} (aC_Beyond : PySem.W.nsIn K mainGlobals "Beyond" = some (some (.ref C_Beyond)))
    {C_TooMany : Addr} (aC_TooMany : PySem.W.nsIn K mainGlobals "TooMany" = some (some (.ref C_TooMany)))
    {C_NoMoment : Addr} (aC_NoMoment : PySem.W.nsIn K mainGlobals "NoMoment" = some (some (.ref C_NoMoment)))
    {C_NoReading : Addr} (aC_NoReading : PySem.W.nsIn K mainGlobals "NoReading" = some (some (.ref C_NoReading)))
    {C_NoShift : Addr} (aC_NoShift : PySem.W.nsIn K mainGlobals "NoShift" = some (some (.ref C_NoShift)))
    {C_NoName : Addr} (aC_NoName : PySem.W.nsIn K mainGlobals "NoName" = some (some (.ref C_NoName)))
    {C_NoPlace : Addr} (aC_NoPlace : PySem.W.nsIn K mainGlobals "NoPlace" = some (some (.ref C_NoPlace)))
    {C_NoEntry : Addr} (aC_NoEntry : PySem.W.nsIn K mainGlobals "NoEntry" = some (some (.ref C_NoEntry)))
    {C_Taken : Addr} (aC_Taken : PySem.W.nsIn K mainGlobals "Taken" = some (some (.ref C_Taken)))
    {C_NoMinutes : Addr} (aC_NoMinutes : PySem.W.nsIn K mainGlobals "NoMinutes" = some (some (.ref C_NoMinutes)))
    {C_NoBond : Addr} (aC_NoBond : PySem.W.nsIn K mainGlobals "NoBond" = some (some (.ref C_NoBond)))
    {C_NoPaper : Addr} (aC_NoPaper : PySem.W.nsIn K mainGlobals "NoPaper" = some (some (.ref C_NoPaper)))
    {C_NoLine : Addr} (aC_NoLine : PySem.W.nsIn K mainGlobals "NoLine" = some (some (.ref C_NoLine)))
    {C_NoWay : Addr} (aC_NoWay : PySem.W.nsIn K mainGlobals "NoWay" = some (some (.ref C_NoWay)))
    {C_Unwritten : Addr} (aC_Unwritten : PySem.W.nsIn K mainGlobals "Unwritten" = some (some (.ref C_Unwritten)))
    {C_Unlike : Addr} (aC_Unlike : PySem.W.nsIn K mainGlobals "Unlike" = some (some (.ref C_Unlike)))
    {f0 : Addr} {od0 an0 : Option Addr} {sl0 : Array (Option Value)} {oc0 kV0 dc0 pm0 cd0 ct0 : Value}
    (a0 : PySem.W.nsIn K mainGlobals "_law_cell" = some (some (.ref f0))) (l0 : K.lookup f0 = some ⟨oc0, od0, .func (PySem.W.fnOf "_law_cell" "_law_cell" (defArgs s_Lcell) (defBody s_Lcell) (defScope s_Lcell) .none kV0 dc0 pm0 an0 cd0 ct0), sl0⟩) (c0 : PySem.W.codeIn K cd0 "_law_cell" = true) (k0 : PySem.W.keepIn K (.ref f0) = true)
    {f1 : Addr} {od1 an1 : Option Addr} {sl1 : Array (Option Value)} {oc1 kV1 dc1 pm1 cd1 ct1 : Value}
    (a1 : PySem.W.nsIn K mainGlobals "_law_purse" = some (some (.ref f1))) (l1 : K.lookup f1 = some ⟨oc1, od1, .func (PySem.W.fnOf "_law_purse" "_law_purse" (defArgs s_Lpurse) (defBody s_Lpurse) (defScope s_Lpurse) .none kV1 dc1 pm1 an1 cd1 ct1), sl1⟩) (c1 : PySem.W.codeIn K cd1 "_law_purse" = true) (k1 : PySem.W.keepIn K (.ref f1) = true)
    {f2 : Addr} {od2 an2 : Option Addr} {sl2 : Array (Option Value)} {oc2 kV2 dc2 pm2 cd2 ct2 : Value}
    (a2 : PySem.W.nsIn K mainGlobals "_law_take" = some (some (.ref f2))) (l2 : K.lookup f2 = some ⟨oc2, od2, .func (PySem.W.fnOf "_law_take" "_law_take" (defArgs s_Ltake) (defBody s_Ltake) (defScope s_Ltake) .none kV2 dc2 pm2 an2 cd2 ct2), sl2⟩) (c2 : PySem.W.codeIn K cd2 "_law_take" = true) (k2 : PySem.W.keepIn K (.ref f2) = true)
    {f3 : Addr} {od3 an3 : Option Addr} {sl3 : Array (Option Value)} {oc3 kV3 dc3 pm3 cd3 ct3 : Value}
    (a3 : PySem.W.nsIn K mainGlobals "_law_number" = some (some (.ref f3))) (l3 : K.lookup f3 = some ⟨oc3, od3, .func (PySem.W.fnOf "_law_number" "_law_number" (defArgs s_Lnumber) (defBody s_Lnumber) (defScope s_Lnumber) .none kV3 dc3 pm3 an3 cd3 ct3), sl3⟩) (c3 : PySem.W.codeIn K cd3 "_law_number" = true) (k3 : PySem.W.keepIn K (.ref f3) = true)
    {f4 : Addr} {od4 an4 : Option Addr} {sl4 : Array (Option Value)} {oc4 kV4 dc4 pm4 cd4 ct4 : Value}
    (a4 : PySem.W.nsIn K mainGlobals "_law_made" = some (some (.ref f4))) (l4 : K.lookup f4 = some ⟨oc4, od4, .func (PySem.W.fnOf "_law_made" "_law_made" (defArgs s_Lmade) (defBody s_Lmade) (defScope s_Lmade) .none kV4 dc4 pm4 an4 cd4 ct4), sl4⟩) (c4 : PySem.W.codeIn K cd4 "_law_made" = true) (k4 : PySem.W.keepIn K (.ref f4) = true)
    {f5 : Addr} {od5 an5 : Option Addr} {sl5 : Array (Option Value)} {oc5 kV5 dc5 pm5 cd5 ct5 : Value}
    (a5 : PySem.W.nsIn K mainGlobals "_law_kinds" = some (some (.ref f5))) (l5 : K.lookup f5 = some ⟨oc5, od5, .func (PySem.W.fnOf "_law_kinds" "_law_kinds" (defArgs s_Lkinds) (defBody s_Lkinds) (defScope s_Lkinds) .none kV5 dc5 pm5 an5 cd5 ct5), sl5⟩) (c5 : PySem.W.codeIn K cd5 "_law_kinds" = true) (k5 : PySem.W.keepIn K (.ref f5) = true)
    {f6 : Addr} {od6 an6 : Option Addr} {sl6 : Array (Option Value)} {oc6 kV6 dc6 pm6 cd6 ct6 : Value}
    (a6 : PySem.W.nsIn K mainGlobals "_law_fields" = some (some (.ref f6))) (l6 : K.lookup f6 = some ⟨oc6, od6, .func (PySem.W.fnOf "_law_fields" "_law_fields" (defArgs s_Lfields) (defBody s_Lfields) (defScope s_Lfields) .none kV6 dc6 pm6 an6 cd6 ct6), sl6⟩) (c6 : PySem.W.codeIn K cd6 "_law_fields" = true) (k6 : PySem.W.keepIn K (.ref f6) = true)
    {f7 : Addr} {od7 an7 : Option Addr} {sl7 : Array (Option Value)} {oc7 kV7 dc7 pm7 cd7 ct7 : Value}
    (a7 : PySem.W.nsIn K mainGlobals "_law_thing" = some (some (.ref f7))) (l7 : K.lookup f7 = some ⟨oc7, od7, .func (PySem.W.fnOf "_law_thing" "_law_thing" (defArgs s_Lthing) (defBody s_Lthing) (defScope s_Lthing) .none kV7 dc7 pm7 an7 cd7 ct7), sl7⟩) (c7 : PySem.W.codeIn K cd7 "_law_thing" = true) (k7 : PySem.W.keepIn K (.ref f7) = true)
    {f8 : Addr} {od8 an8 : Option Addr} {sl8 : Array (Option Value)} {oc8 kV8 dc8 pm8 cd8 ct8 : Value}
    (a8 : PySem.W.nsIn K mainGlobals "law" = some (some (.ref f8))) (l8 : K.lookup f8 = some ⟨oc8, od8, .func (PySem.W.fnOf "law" "law" (defArgs s_law) (defBody s_law) (defScope s_law) .none kV8 dc8 pm8 an8 cd8 ct8), sl8⟩) (c8 : PySem.W.codeIn K cd8 "law" = true) (k8 : PySem.W.keepIn K (.ref f8) = true)
    {f9 : Addr} {od9 an9 : Option Addr} {sl9 : Array (Option Value)} {oc9 kV9 dc9 pm9 cd9 ct9 : Value}
    (a9 : PySem.W.findIn K (.ref C_LogError) "__init__" = some (some (.ref f9))) (i9 : PySem.W.isFn K (.ref f9) = true) (l9 : K.lookup f9 = some ⟨oc9, od9, .func (PySem.W.fnOf "__init__" "LogError.__init__" (defArgs s_LogError_init) (defBody s_LogError_init) (defScope s_LogError_init) .none kV9 dc9 pm9 an9 cd9 ct9), sl9⟩) (c9 : PySem.W.codeIn K cd9 "LogError.__init__" = true) (k9 : PySem.W.keepIn K (.ref f9) = true)
    {f10 : Addr} {od10 an10 : Option Addr} {sl10 : Array (Option Value)} {oc10 kV10 dc10 pm10 cd10 ct10 : Value}
    (a10 : PySem.W.findIn K (.ref C_NoSpans) "__init__" = some (some (.ref f10))) (i10 : PySem.W.isFn K (.ref f10) = true) (l10 : K.lookup f10 = some ⟨oc10, od10, .func (PySem.W.fnOf "__init__" "NoSpans.__init__" (defArgs s_NoSpans_init) (defBody s_NoSpans_init) (defScope s_NoSpans_init) .none kV10 dc10 pm10 an10 cd10 ct10), sl10⟩) (c10 : PySem.W.codeIn K cd10 "NoSpans.__init__" = true) (k10 : PySem.W.keepIn K (.ref f10) = true)
    {f11 : Addr} {od11 an11 : Option Addr} {sl11 : Array (Option Value)} {oc11 kV11 dc11 pm11 cd11 ct11 : Value}
    (a11 : PySem.W.findIn K (.ref C_NoText) "__init__" = some (some (.ref f11))) (i11 : PySem.W.isFn K (.ref f11) = true) (l11 : K.lookup f11 = some ⟨oc11, od11, .func (PySem.W.fnOf "__init__" "NoText.__init__" (defArgs s_NoText_init) (defBody s_NoText_init) (defScope s_NoText_init) .none kV11 dc11 pm11 an11 cd11 ct11), sl11⟩) (c11 : PySem.W.codeIn K cd11 "NoText.__init__" = true) (k11 : PySem.W.keepIn K (.ref f11) = true)
    {f12 : Addr} {od12 an12 : Option Addr} {sl12 : Array (Option Value)} {oc12 kV12 dc12 pm12 cd12 ct12 : Value}
    (a12 : PySem.W.findIn K (.ref C_NoTable) "__init__" = some (some (.ref f12))) (i12 : PySem.W.isFn K (.ref f12) = true) (l12 : K.lookup f12 = some ⟨oc12, od12, .func (PySem.W.fnOf "__init__" "NoTable.__init__" (defArgs s_NoTable_init) (defBody s_NoTable_init) (defScope s_NoTable_init) .none kV12 dc12 pm12 an12 cd12 ct12), sl12⟩) (c12 : PySem.W.codeIn K cd12 "NoTable.__init__" = true) (k12 : PySem.W.keepIn K (.ref f12) = true)
    {f13 : Addr} {od13 an13 : Option Addr} {sl13 : Array (Option Value)} {oc13 kV13 dc13 pm13 cd13 ct13 : Value}
    (a13 : PySem.W.findIn K (.ref C_Beyond) "__init__" = some (some (.ref f13))) (i13 : PySem.W.isFn K (.ref f13) = true) (l13 : K.lookup f13 = some ⟨oc13, od13, .func (PySem.W.fnOf "__init__" "Beyond.__init__" (defArgs s_Beyond_init) (defBody s_Beyond_init) (defScope s_Beyond_init) .none kV13 dc13 pm13 an13 cd13 ct13), sl13⟩) (c13 : PySem.W.codeIn K cd13 "Beyond.__init__" = true) (k13 : PySem.W.keepIn K (.ref f13) = true)
    {f14 : Addr} {od14 an14 : Option Addr} {sl14 : Array (Option Value)} {oc14 kV14 dc14 pm14 cd14 ct14 : Value}
    (a14 : PySem.W.findIn K (.ref C_TooMany) "__init__" = some (some (.ref f14))) (i14 : PySem.W.isFn K (.ref f14) = true) (l14 : K.lookup f14 = some ⟨oc14, od14, .func (PySem.W.fnOf "__init__" "TooMany.__init__" (defArgs s_TooMany_init) (defBody s_TooMany_init) (defScope s_TooMany_init) .none kV14 dc14 pm14 an14 cd14 ct14), sl14⟩) (c14 : PySem.W.codeIn K cd14 "TooMany.__init__" = true) (k14 : PySem.W.keepIn K (.ref f14) = true)
    {f15 : Addr} {od15 an15 : Option Addr} {sl15 : Array (Option Value)} {oc15 kV15 dc15 pm15 cd15 ct15 : Value}
    (a15 : PySem.W.findIn K (.ref C_NoMoment) "__init__" = some (some (.ref f15))) (i15 : PySem.W.isFn K (.ref f15) = true) (l15 : K.lookup f15 = some ⟨oc15, od15, .func (PySem.W.fnOf "__init__" "NoMoment.__init__" (defArgs s_NoMoment_init) (defBody s_NoMoment_init) (defScope s_NoMoment_init) .none kV15 dc15 pm15 an15 cd15 ct15), sl15⟩) (c15 : PySem.W.codeIn K cd15 "NoMoment.__init__" = true) (k15 : PySem.W.keepIn K (.ref f15) = true)
    {f16 : Addr} {od16 an16 : Option Addr} {sl16 : Array (Option Value)} {oc16 kV16 dc16 pm16 cd16 ct16 : Value}
    (a16 : PySem.W.findIn K (.ref C_NoReading) "__init__" = some (some (.ref f16))) (i16 : PySem.W.isFn K (.ref f16) = true) (l16 : K.lookup f16 = some ⟨oc16, od16, .func (PySem.W.fnOf "__init__" "NoReading.__init__" (defArgs s_NoReading_init) (defBody s_NoReading_init) (defScope s_NoReading_init) .none kV16 dc16 pm16 an16 cd16 ct16), sl16⟩) (c16 : PySem.W.codeIn K cd16 "NoReading.__init__" = true) (k16 : PySem.W.keepIn K (.ref f16) = true)
    {f17 : Addr} {od17 an17 : Option Addr} {sl17 : Array (Option Value)} {oc17 kV17 dc17 pm17 cd17 ct17 : Value}
    (a17 : PySem.W.findIn K (.ref C_NoShift) "__init__" = some (some (.ref f17))) (i17 : PySem.W.isFn K (.ref f17) = true) (l17 : K.lookup f17 = some ⟨oc17, od17, .func (PySem.W.fnOf "__init__" "NoShift.__init__" (defArgs s_NoShift_init) (defBody s_NoShift_init) (defScope s_NoShift_init) .none kV17 dc17 pm17 an17 cd17 ct17), sl17⟩) (c17 : PySem.W.codeIn K cd17 "NoShift.__init__" = true) (k17 : PySem.W.keepIn K (.ref f17) = true)
    {f18 : Addr} {od18 an18 : Option Addr} {sl18 : Array (Option Value)} {oc18 kV18 dc18 pm18 cd18 ct18 : Value}
    (a18 : PySem.W.findIn K (.ref C_NoName) "__init__" = some (some (.ref f18))) (i18 : PySem.W.isFn K (.ref f18) = true) (l18 : K.lookup f18 = some ⟨oc18, od18, .func (PySem.W.fnOf "__init__" "NoName.__init__" (defArgs s_NoName_init) (defBody s_NoName_init) (defScope s_NoName_init) .none kV18 dc18 pm18 an18 cd18 ct18), sl18⟩) (c18 : PySem.W.codeIn K cd18 "NoName.__init__" = true) (k18 : PySem.W.keepIn K (.ref f18) = true)
    {f19 : Addr} {od19 an19 : Option Addr} {sl19 : Array (Option Value)} {oc19 kV19 dc19 pm19 cd19 ct19 : Value}
    (a19 : PySem.W.findIn K (.ref C_NoPlace) "__init__" = some (some (.ref f19))) (i19 : PySem.W.isFn K (.ref f19) = true) (l19 : K.lookup f19 = some ⟨oc19, od19, .func (PySem.W.fnOf "__init__" "NoPlace.__init__" (defArgs s_NoPlace_init) (defBody s_NoPlace_init) (defScope s_NoPlace_init) .none kV19 dc19 pm19 an19 cd19 ct19), sl19⟩) (c19 : PySem.W.codeIn K cd19 "NoPlace.__init__" = true) (k19 : PySem.W.keepIn K (.ref f19) = true)
    {f20 : Addr} {od20 an20 : Option Addr} {sl20 : Array (Option Value)} {oc20 kV20 dc20 pm20 cd20 ct20 : Value}
    (a20 : PySem.W.findIn K (.ref C_NoEntry) "__init__" = some (some (.ref f20))) (i20 : PySem.W.isFn K (.ref f20) = true) (l20 : K.lookup f20 = some ⟨oc20, od20, .func (PySem.W.fnOf "__init__" "NoEntry.__init__" (defArgs s_NoEntry_init) (defBody s_NoEntry_init) (defScope s_NoEntry_init) .none kV20 dc20 pm20 an20 cd20 ct20), sl20⟩) (c20 : PySem.W.codeIn K cd20 "NoEntry.__init__" = true) (k20 : PySem.W.keepIn K (.ref f20) = true)
    {f21 : Addr} {od21 an21 : Option Addr} {sl21 : Array (Option Value)} {oc21 kV21 dc21 pm21 cd21 ct21 : Value}
    (a21 : PySem.W.findIn K (.ref C_Taken) "__init__" = some (some (.ref f21))) (i21 : PySem.W.isFn K (.ref f21) = true) (l21 : K.lookup f21 = some ⟨oc21, od21, .func (PySem.W.fnOf "__init__" "Taken.__init__" (defArgs s_Taken_init) (defBody s_Taken_init) (defScope s_Taken_init) .none kV21 dc21 pm21 an21 cd21 ct21), sl21⟩) (c21 : PySem.W.codeIn K cd21 "Taken.__init__" = true) (k21 : PySem.W.keepIn K (.ref f21) = true)
    {f22 : Addr} {od22 an22 : Option Addr} {sl22 : Array (Option Value)} {oc22 kV22 dc22 pm22 cd22 ct22 : Value}
    (a22 : PySem.W.findIn K (.ref C_NoMinutes) "__init__" = some (some (.ref f22))) (i22 : PySem.W.isFn K (.ref f22) = true) (l22 : K.lookup f22 = some ⟨oc22, od22, .func (PySem.W.fnOf "__init__" "NoMinutes.__init__" (defArgs s_NoMinutes_init) (defBody s_NoMinutes_init) (defScope s_NoMinutes_init) .none kV22 dc22 pm22 an22 cd22 ct22), sl22⟩) (c22 : PySem.W.codeIn K cd22 "NoMinutes.__init__" = true) (k22 : PySem.W.keepIn K (.ref f22) = true)
    {f23 : Addr} {od23 an23 : Option Addr} {sl23 : Array (Option Value)} {oc23 kV23 dc23 pm23 cd23 ct23 : Value}
    (a23 : PySem.W.findIn K (.ref C_NoBond) "__init__" = some (some (.ref f23))) (i23 : PySem.W.isFn K (.ref f23) = true) (l23 : K.lookup f23 = some ⟨oc23, od23, .func (PySem.W.fnOf "__init__" "NoBond.__init__" (defArgs s_NoBond_init) (defBody s_NoBond_init) (defScope s_NoBond_init) .none kV23 dc23 pm23 an23 cd23 ct23), sl23⟩) (c23 : PySem.W.codeIn K cd23 "NoBond.__init__" = true) (k23 : PySem.W.keepIn K (.ref f23) = true)
    {f24 : Addr} {od24 an24 : Option Addr} {sl24 : Array (Option Value)} {oc24 kV24 dc24 pm24 cd24 ct24 : Value}
    (a24 : PySem.W.findIn K (.ref C_NoPaper) "__init__" = some (some (.ref f24))) (i24 : PySem.W.isFn K (.ref f24) = true) (l24 : K.lookup f24 = some ⟨oc24, od24, .func (PySem.W.fnOf "__init__" "NoPaper.__init__" (defArgs s_NoPaper_init) (defBody s_NoPaper_init) (defScope s_NoPaper_init) .none kV24 dc24 pm24 an24 cd24 ct24), sl24⟩) (c24 : PySem.W.codeIn K cd24 "NoPaper.__init__" = true) (k24 : PySem.W.keepIn K (.ref f24) = true)
    {f25 : Addr} {od25 an25 : Option Addr} {sl25 : Array (Option Value)} {oc25 kV25 dc25 pm25 cd25 ct25 : Value}
    (a25 : PySem.W.findIn K (.ref C_NoLine) "__init__" = some (some (.ref f25))) (i25 : PySem.W.isFn K (.ref f25) = true) (l25 : K.lookup f25 = some ⟨oc25, od25, .func (PySem.W.fnOf "__init__" "NoLine.__init__" (defArgs s_NoLine_init) (defBody s_NoLine_init) (defScope s_NoLine_init) .none kV25 dc25 pm25 an25 cd25 ct25), sl25⟩) (c25 : PySem.W.codeIn K cd25 "NoLine.__init__" = true) (k25 : PySem.W.keepIn K (.ref f25) = true)
    {f26 : Addr} {od26 an26 : Option Addr} {sl26 : Array (Option Value)} {oc26 kV26 dc26 pm26 cd26 ct26 : Value}
    (a26 : PySem.W.findIn K (.ref C_NoWay) "__init__" = some (some (.ref f26))) (i26 : PySem.W.isFn K (.ref f26) = true) (l26 : K.lookup f26 = some ⟨oc26, od26, .func (PySem.W.fnOf "__init__" "NoWay.__init__" (defArgs s_NoWay_init) (defBody s_NoWay_init) (defScope s_NoWay_init) .none kV26 dc26 pm26 an26 cd26 ct26), sl26⟩) (c26 : PySem.W.codeIn K cd26 "NoWay.__init__" = true) (k26 : PySem.W.keepIn K (.ref f26) = true)
    {f27 : Addr} {od27 an27 : Option Addr} {sl27 : Array (Option Value)} {oc27 kV27 dc27 pm27 cd27 ct27 : Value}
    (a27 : PySem.W.findIn K (.ref C_Unwritten) "__init__" = some (some (.ref f27))) (i27 : PySem.W.isFn K (.ref f27) = true) (l27 : K.lookup f27 = some ⟨oc27, od27, .func (PySem.W.fnOf "__init__" "Unwritten.__init__" (defArgs s_Unwritten_init) (defBody s_Unwritten_init) (defScope s_Unwritten_init) .none kV27 dc27 pm27 an27 cd27 ct27), sl27⟩) (c27 : PySem.W.codeIn K cd27 "Unwritten.__init__" = true) (k27 : PySem.W.keepIn K (.ref f27) = true)
    {f28 : Addr} {od28 an28 : Option Addr} {sl28 : Array (Option Value)} {oc28 kV28 dc28 pm28 cd28 ct28 : Value}
    (a28 : PySem.W.findIn K (.ref C_Unlike) "__init__" = some (some (.ref f28))) (i28 : PySem.W.isFn K (.ref f28) = true) (l28 : K.lookup f28 = some ⟨oc28, od28, .func (PySem.W.fnOf "__init__" "Unlike.__init__" (defArgs s_Unlike_init) (defBody s_Unlike_init) (defScope s_Unlike_init) .none kV28 dc28 pm28 an28 cd28 ct28), sl28⟩) (c28 : PySem.W.codeIn K cd28 "Unlike.__init__" = true) (k28 : PySem.W.keepIn K (.ref f28) = true)
    (z_len : PySem.W.nsIn K mainGlobals "len" = some none)
    (z_max : PySem.W.nsIn K mainGlobals "max" = some none)
    (z_min : PySem.W.nsIn K mainGlobals "min" = some none)
    (z_abs : PySem.W.nsIn K mainGlobals "abs" = some none)
    (z_isinstance : PySem.W.nsIn K mainGlobals "isinstance" = some none)
    (z_range : PySem.W.nsIn K mainGlobals "range" = some none)
    (z_repr : PySem.W.nsIn K mainGlobals "repr" = some none)
    (zV : PySem.W.nsIn K mainGlobals "ValueError" = some none)
    {ob_LogError : Obj}
    (lk_LogError : K.lookup C_LogError = some ob_LogError)
    (xo_LogError : xOb C_LogError ob_LogError = true)
    (cg : PySem.W.specialIn K (.builtin "object.__class__") "__get__" = some (some (.builtin "getset_descriptor.__get__")))
    (ct : PySem.W.takesIn K (.builtin "object.__class__") = some true)
    (sg_LogError : PySem.W.specialIn K (.ref C_LogError) "__getattribute__" = some (some (.builtin "type.__getattribute__")))
    (rd_LogError : PySem.W.readsIn K C_LogError (.type "type") = true)
    (fc_LogError : PySem.W.findCls K (.ref C_LogError) (.type "type") "__init__" = some (.val (.ref f9)))
    (ga_LogError : PySem.W.findIn K (.ref C_LogError) "__getattribute__" = some (some (.builtin "BaseException.__getattribute__")))
    (na_LogError : PySem.W.findIn K (.ref C_LogError) "__getattr__" = some none)
    (xs_LogError : PySem.W.findIn K (.ref C_LogError) "__setattr__" = some (some (.builtin "object.__setattr__")))
    (xc_LogError : PySem.W.findIn K (.ref C_LogError) "__class__" = some (some (.builtin "object.__class__")))
    (kx_LogError : PySem.W.keepIn K (.ref C_LogError) = true)
    (up_LogError : PySem.W.mroIn K C_LogError (.ref C_LogError) = some true)
    {ob_NoSpans : Obj}
    (lk_NoSpans : K.lookup C_NoSpans = some ob_NoSpans)
    (xo_NoSpans : xOb C_NoSpans ob_NoSpans = true)
    (ga_NoSpans : PySem.W.findIn K (.ref C_NoSpans) "__getattribute__" = some (some (.builtin "BaseException.__getattribute__")))
    (na_NoSpans : PySem.W.findIn K (.ref C_NoSpans) "__getattr__" = some none)
    (xs_NoSpans : PySem.W.findIn K (.ref C_NoSpans) "__setattr__" = some (some (.builtin "object.__setattr__")))
    (xc_NoSpans : PySem.W.findIn K (.ref C_NoSpans) "__class__" = some (some (.builtin "object.__class__")))
    (kx_NoSpans : PySem.W.keepIn K (.ref C_NoSpans) = true)
    (up_NoSpans : PySem.W.mroIn K C_NoSpans (.ref C_LogError) = some true)
    (nx_NoSpans_at : PySem.W.findIn K (.ref C_NoSpans) "at" = some none)
    {ob_NoText : Obj}
    (lk_NoText : K.lookup C_NoText = some ob_NoText)
    (xo_NoText : xOb C_NoText ob_NoText = true)
    (ga_NoText : PySem.W.findIn K (.ref C_NoText) "__getattribute__" = some (some (.builtin "BaseException.__getattribute__")))
    (na_NoText : PySem.W.findIn K (.ref C_NoText) "__getattr__" = some none)
    (xs_NoText : PySem.W.findIn K (.ref C_NoText) "__setattr__" = some (some (.builtin "object.__setattr__")))
    (xc_NoText : PySem.W.findIn K (.ref C_NoText) "__class__" = some (some (.builtin "object.__class__")))
    (kx_NoText : PySem.W.keepIn K (.ref C_NoText) = true)
    (up_NoText : PySem.W.mroIn K C_NoText (.ref C_LogError) = some true)
    (nx_NoText_at : PySem.W.findIn K (.ref C_NoText) "at" = some none)
    {ob_NoTable : Obj}
    (lk_NoTable : K.lookup C_NoTable = some ob_NoTable)
    (xo_NoTable : xOb C_NoTable ob_NoTable = true)
    (ga_NoTable : PySem.W.findIn K (.ref C_NoTable) "__getattribute__" = some (some (.builtin "BaseException.__getattribute__")))
    (na_NoTable : PySem.W.findIn K (.ref C_NoTable) "__getattr__" = some none)
    (xs_NoTable : PySem.W.findIn K (.ref C_NoTable) "__setattr__" = some (some (.builtin "object.__setattr__")))
    (xc_NoTable : PySem.W.findIn K (.ref C_NoTable) "__class__" = some (some (.builtin "object.__class__")))
    (kx_NoTable : PySem.W.keepIn K (.ref C_NoTable) = true)
    (up_NoTable : PySem.W.mroIn K C_NoTable (.ref C_LogError) = some true)
    (nx_NoTable_row : PySem.W.findIn K (.ref C_NoTable) "row" = some none)
    {ob_Beyond : Obj}
    (lk_Beyond : K.lookup C_Beyond = some ob_Beyond)
    (xo_Beyond : xOb C_Beyond ob_Beyond = true)
    (ga_Beyond : PySem.W.findIn K (.ref C_Beyond) "__getattribute__" = some (some (.builtin "BaseException.__getattribute__")))
    (na_Beyond : PySem.W.findIn K (.ref C_Beyond) "__getattr__" = some none)
    (xs_Beyond : PySem.W.findIn K (.ref C_Beyond) "__setattr__" = some (some (.builtin "object.__setattr__")))
    (xc_Beyond : PySem.W.findIn K (.ref C_Beyond) "__class__" = some (some (.builtin "object.__class__")))
    (kx_Beyond : PySem.W.keepIn K (.ref C_Beyond) = true)
    (up_Beyond : PySem.W.mroIn K C_Beyond (.ref C_LogError) = some true)
    (nx_Beyond_row : PySem.W.findIn K (.ref C_Beyond) "row" = some none)
    {ob_TooMany : Obj}
    (lk_TooMany : K.lookup C_TooMany = some ob_TooMany)
    (xo_TooMany : xOb C_TooMany ob_TooMany = true)
    (ga_TooMany : PySem.W.findIn K (.ref C_TooMany) "__getattribute__" = some (some (.builtin "BaseException.__getattribute__")))
    (na_TooMany : PySem.W.findIn K (.ref C_TooMany) "__getattr__" = some none)
    (xs_TooMany : PySem.W.findIn K (.ref C_TooMany) "__setattr__" = some (some (.builtin "object.__setattr__")))
    (xc_TooMany : PySem.W.findIn K (.ref C_TooMany) "__class__" = some (some (.builtin "object.__class__")))
    (kx_TooMany : PySem.W.keepIn K (.ref C_TooMany) = true)
    (up_TooMany : PySem.W.mroIn K C_TooMany (.ref C_LogError) = some true)
    (nx_TooMany_many : PySem.W.findIn K (.ref C_TooMany) "many" = some none)
    {ob_NoMoment : Obj}
    (lk_NoMoment : K.lookup C_NoMoment = some ob_NoMoment)
    (xo_NoMoment : xOb C_NoMoment ob_NoMoment = true)
    (ga_NoMoment : PySem.W.findIn K (.ref C_NoMoment) "__getattribute__" = some (some (.builtin "BaseException.__getattribute__")))
    (na_NoMoment : PySem.W.findIn K (.ref C_NoMoment) "__getattr__" = some none)
    (xs_NoMoment : PySem.W.findIn K (.ref C_NoMoment) "__setattr__" = some (some (.builtin "object.__setattr__")))
    (xc_NoMoment : PySem.W.findIn K (.ref C_NoMoment) "__class__" = some (some (.builtin "object.__class__")))
    (kx_NoMoment : PySem.W.keepIn K (.ref C_NoMoment) = true)
    (up_NoMoment : PySem.W.mroIn K C_NoMoment (.ref C_LogError) = some true)
    (nx_NoMoment_found : PySem.W.findIn K (.ref C_NoMoment) "found" = some none)
    {ob_NoReading : Obj}
    (lk_NoReading : K.lookup C_NoReading = some ob_NoReading)
    (xo_NoReading : xOb C_NoReading ob_NoReading = true)
    (ga_NoReading : PySem.W.findIn K (.ref C_NoReading) "__getattribute__" = some (some (.builtin "BaseException.__getattribute__")))
    (na_NoReading : PySem.W.findIn K (.ref C_NoReading) "__getattr__" = some none)
    (xs_NoReading : PySem.W.findIn K (.ref C_NoReading) "__setattr__" = some (some (.builtin "object.__setattr__")))
    (xc_NoReading : PySem.W.findIn K (.ref C_NoReading) "__class__" = some (some (.builtin "object.__class__")))
    (kx_NoReading : PySem.W.keepIn K (.ref C_NoReading) = true)
    (up_NoReading : PySem.W.mroIn K C_NoReading (.ref C_LogError) = some true)
    (nx_NoReading_found : PySem.W.findIn K (.ref C_NoReading) "found" = some none)
    {ob_NoShift : Obj}
    (lk_NoShift : K.lookup C_NoShift = some ob_NoShift)
    (xo_NoShift : xOb C_NoShift ob_NoShift = true)
    (ga_NoShift : PySem.W.findIn K (.ref C_NoShift) "__getattribute__" = some (some (.builtin "BaseException.__getattribute__")))
    (na_NoShift : PySem.W.findIn K (.ref C_NoShift) "__getattr__" = some none)
    (xs_NoShift : PySem.W.findIn K (.ref C_NoShift) "__setattr__" = some (some (.builtin "object.__setattr__")))
    (xc_NoShift : PySem.W.findIn K (.ref C_NoShift) "__class__" = some (some (.builtin "object.__class__")))
    (kx_NoShift : PySem.W.keepIn K (.ref C_NoShift) = true)
    (up_NoShift : PySem.W.mroIn K C_NoShift (.ref C_LogError) = some true)
    (nx_NoShift_found : PySem.W.findIn K (.ref C_NoShift) "found" = some none)
    {ob_NoName : Obj}
    (lk_NoName : K.lookup C_NoName = some ob_NoName)
    (xo_NoName : xOb C_NoName ob_NoName = true)
    (ga_NoName : PySem.W.findIn K (.ref C_NoName) "__getattribute__" = some (some (.builtin "BaseException.__getattribute__")))
    (na_NoName : PySem.W.findIn K (.ref C_NoName) "__getattr__" = some none)
    (xs_NoName : PySem.W.findIn K (.ref C_NoName) "__setattr__" = some (some (.builtin "object.__setattr__")))
    (xc_NoName : PySem.W.findIn K (.ref C_NoName) "__class__" = some (some (.builtin "object.__class__")))
    (kx_NoName : PySem.W.keepIn K (.ref C_NoName) = true)
    (up_NoName : PySem.W.mroIn K C_NoName (.ref C_LogError) = some true)
    (nx_NoName_found : PySem.W.findIn K (.ref C_NoName) "found" = some none)
    {ob_NoPlace : Obj}
    (lk_NoPlace : K.lookup C_NoPlace = some ob_NoPlace)
    (xo_NoPlace : xOb C_NoPlace ob_NoPlace = true)
    (ga_NoPlace : PySem.W.findIn K (.ref C_NoPlace) "__getattribute__" = some (some (.builtin "BaseException.__getattribute__")))
    (na_NoPlace : PySem.W.findIn K (.ref C_NoPlace) "__getattr__" = some none)
    (xs_NoPlace : PySem.W.findIn K (.ref C_NoPlace) "__setattr__" = some (some (.builtin "object.__setattr__")))
    (xc_NoPlace : PySem.W.findIn K (.ref C_NoPlace) "__class__" = some (some (.builtin "object.__class__")))
    (kx_NoPlace : PySem.W.keepIn K (.ref C_NoPlace) = true)
    (up_NoPlace : PySem.W.mroIn K C_NoPlace (.ref C_LogError) = some true)
    (nx_NoPlace_found : PySem.W.findIn K (.ref C_NoPlace) "found" = some none)
    {ob_NoEntry : Obj}
    (lk_NoEntry : K.lookup C_NoEntry = some ob_NoEntry)
    (xo_NoEntry : xOb C_NoEntry ob_NoEntry = true)
    (ga_NoEntry : PySem.W.findIn K (.ref C_NoEntry) "__getattribute__" = some (some (.builtin "BaseException.__getattribute__")))
    (na_NoEntry : PySem.W.findIn K (.ref C_NoEntry) "__getattr__" = some none)
    (xs_NoEntry : PySem.W.findIn K (.ref C_NoEntry) "__setattr__" = some (some (.builtin "object.__setattr__")))
    (xc_NoEntry : PySem.W.findIn K (.ref C_NoEntry) "__class__" = some (some (.builtin "object.__class__")))
    (kx_NoEntry : PySem.W.keepIn K (.ref C_NoEntry) = true)
    (up_NoEntry : PySem.W.mroIn K C_NoEntry (.ref C_LogError) = some true)
    (nx_NoEntry_found : PySem.W.findIn K (.ref C_NoEntry) "found" = some none)
    {ob_Taken : Obj}
    (lk_Taken : K.lookup C_Taken = some ob_Taken)
    (xo_Taken : xOb C_Taken ob_Taken = true)
    (ga_Taken : PySem.W.findIn K (.ref C_Taken) "__getattribute__" = some (some (.builtin "BaseException.__getattribute__")))
    (na_Taken : PySem.W.findIn K (.ref C_Taken) "__getattr__" = some none)
    (xs_Taken : PySem.W.findIn K (.ref C_Taken) "__setattr__" = some (some (.builtin "object.__setattr__")))
    (xc_Taken : PySem.W.findIn K (.ref C_Taken) "__class__" = some (some (.builtin "object.__class__")))
    (kx_Taken : PySem.W.keepIn K (.ref C_Taken) = true)
    (up_Taken : PySem.W.mroIn K C_Taken (.ref C_LogError) = some true)
    (nx_Taken_found : PySem.W.findIn K (.ref C_Taken) "found" = some none)
    {ob_NoMinutes : Obj}
    (lk_NoMinutes : K.lookup C_NoMinutes = some ob_NoMinutes)
    (xo_NoMinutes : xOb C_NoMinutes ob_NoMinutes = true)
    (ga_NoMinutes : PySem.W.findIn K (.ref C_NoMinutes) "__getattribute__" = some (some (.builtin "BaseException.__getattribute__")))
    (na_NoMinutes : PySem.W.findIn K (.ref C_NoMinutes) "__getattr__" = some none)
    (xs_NoMinutes : PySem.W.findIn K (.ref C_NoMinutes) "__setattr__" = some (some (.builtin "object.__setattr__")))
    (xc_NoMinutes : PySem.W.findIn K (.ref C_NoMinutes) "__class__" = some (some (.builtin "object.__class__")))
    (kx_NoMinutes : PySem.W.keepIn K (.ref C_NoMinutes) = true)
    (up_NoMinutes : PySem.W.mroIn K C_NoMinutes (.ref C_LogError) = some true)
    (nx_NoMinutes_found : PySem.W.findIn K (.ref C_NoMinutes) "found" = some none)
    {ob_NoBond : Obj}
    (lk_NoBond : K.lookup C_NoBond = some ob_NoBond)
    (xo_NoBond : xOb C_NoBond ob_NoBond = true)
    (ga_NoBond : PySem.W.findIn K (.ref C_NoBond) "__getattribute__" = some (some (.builtin "BaseException.__getattribute__")))
    (na_NoBond : PySem.W.findIn K (.ref C_NoBond) "__getattr__" = some none)
    (xs_NoBond : PySem.W.findIn K (.ref C_NoBond) "__setattr__" = some (some (.builtin "object.__setattr__")))
    (xc_NoBond : PySem.W.findIn K (.ref C_NoBond) "__class__" = some (some (.builtin "object.__class__")))
    (kx_NoBond : PySem.W.keepIn K (.ref C_NoBond) = true)
    (up_NoBond : PySem.W.mroIn K C_NoBond (.ref C_LogError) = some true)
    (nx_NoBond_found : PySem.W.findIn K (.ref C_NoBond) "found" = some none)
    {ob_NoPaper : Obj}
    (lk_NoPaper : K.lookup C_NoPaper = some ob_NoPaper)
    (xo_NoPaper : xOb C_NoPaper ob_NoPaper = true)
    (ga_NoPaper : PySem.W.findIn K (.ref C_NoPaper) "__getattribute__" = some (some (.builtin "BaseException.__getattribute__")))
    (na_NoPaper : PySem.W.findIn K (.ref C_NoPaper) "__getattr__" = some none)
    (xs_NoPaper : PySem.W.findIn K (.ref C_NoPaper) "__setattr__" = some (some (.builtin "object.__setattr__")))
    (xc_NoPaper : PySem.W.findIn K (.ref C_NoPaper) "__class__" = some (some (.builtin "object.__class__")))
    (kx_NoPaper : PySem.W.keepIn K (.ref C_NoPaper) = true)
    (up_NoPaper : PySem.W.mroIn K C_NoPaper (.ref C_LogError) = some true)
    (nx_NoPaper_found : PySem.W.findIn K (.ref C_NoPaper) "found" = some none)
    {ob_NoLine : Obj}
    (lk_NoLine : K.lookup C_NoLine = some ob_NoLine)
    (xo_NoLine : xOb C_NoLine ob_NoLine = true)
    (ga_NoLine : PySem.W.findIn K (.ref C_NoLine) "__getattribute__" = some (some (.builtin "BaseException.__getattribute__")))
    (na_NoLine : PySem.W.findIn K (.ref C_NoLine) "__getattr__" = some none)
    (xs_NoLine : PySem.W.findIn K (.ref C_NoLine) "__setattr__" = some (some (.builtin "object.__setattr__")))
    (xc_NoLine : PySem.W.findIn K (.ref C_NoLine) "__class__" = some (some (.builtin "object.__class__")))
    (kx_NoLine : PySem.W.keepIn K (.ref C_NoLine) = true)
    (up_NoLine : PySem.W.mroIn K C_NoLine (.ref C_LogError) = some true)
    (nx_NoLine_found : PySem.W.findIn K (.ref C_NoLine) "found" = some none)
    {ob_NoWay : Obj}
    (lk_NoWay : K.lookup C_NoWay = some ob_NoWay)
    (xo_NoWay : xOb C_NoWay ob_NoWay = true)
    (ga_NoWay : PySem.W.findIn K (.ref C_NoWay) "__getattribute__" = some (some (.builtin "BaseException.__getattribute__")))
    (na_NoWay : PySem.W.findIn K (.ref C_NoWay) "__getattr__" = some none)
    (xs_NoWay : PySem.W.findIn K (.ref C_NoWay) "__setattr__" = some (some (.builtin "object.__setattr__")))
    (xc_NoWay : PySem.W.findIn K (.ref C_NoWay) "__class__" = some (some (.builtin "object.__class__")))
    (kx_NoWay : PySem.W.keepIn K (.ref C_NoWay) = true)
    (up_NoWay : PySem.W.mroIn K C_NoWay (.ref C_LogError) = some true)
    (nx_NoWay_paper : PySem.W.findIn K (.ref C_NoWay) "paper" = some none)
    {ob_Unwritten : Obj}
    (lk_Unwritten : K.lookup C_Unwritten = some ob_Unwritten)
    (xo_Unwritten : xOb C_Unwritten ob_Unwritten = true)
    (ga_Unwritten : PySem.W.findIn K (.ref C_Unwritten) "__getattribute__" = some (some (.builtin "BaseException.__getattribute__")))
    (na_Unwritten : PySem.W.findIn K (.ref C_Unwritten) "__getattr__" = some none)
    (xs_Unwritten : PySem.W.findIn K (.ref C_Unwritten) "__setattr__" = some (some (.builtin "object.__setattr__")))
    (xc_Unwritten : PySem.W.findIn K (.ref C_Unwritten) "__class__" = some (some (.builtin "object.__class__")))
    (kx_Unwritten : PySem.W.keepIn K (.ref C_Unwritten) = true)
    (up_Unwritten : PySem.W.mroIn K C_Unwritten (.ref C_LogError) = some true)
    (nx_Unwritten_name : PySem.W.findIn K (.ref C_Unwritten) "name" = some none)
    {ob_Unlike : Obj}
    (lk_Unlike : K.lookup C_Unlike = some ob_Unlike)
    (xo_Unlike : xOb C_Unlike ob_Unlike = true)
    (ga_Unlike : PySem.W.findIn K (.ref C_Unlike) "__getattribute__" = some (some (.builtin "BaseException.__getattribute__")))
    (na_Unlike : PySem.W.findIn K (.ref C_Unlike) "__getattr__" = some none)
    (xs_Unlike : PySem.W.findIn K (.ref C_Unlike) "__setattr__" = some (some (.builtin "object.__setattr__")))
    (xc_Unlike : PySem.W.findIn K (.ref C_Unlike) "__class__" = some (some (.builtin "object.__class__")))
    (kx_Unlike : PySem.W.keepIn K (.ref C_Unlike) = true)
    (up_Unlike : PySem.W.mroIn K C_Unlike (.ref C_LogError) = some true)
    (nx_Unlike_place : PySem.W.findIn K (.ref C_Unlike) "place" = some none)
    (nx_Unlike_moment : PySem.W.findIn K (.ref C_Unlike) "moment" = some none)
    (xm0 : mroOb [some C_LogError, none, none, none, none] ob_LogError = true)
    (xm_NoSpans : mroOb [some C_NoSpans, some C_LogError, none, none, none, none] ob_NoSpans = true)
    (xm_NoText : mroOb [some C_NoText, some C_LogError, none, none, none, none] ob_NoText = true)
    (xm_NoTable : mroOb [some C_NoTable, some C_LogError, none, none, none, none] ob_NoTable = true)
    (xm_Beyond : mroOb [some C_Beyond, some C_LogError, none, none, none, none] ob_Beyond = true)
    (xm_TooMany : mroOb [some C_TooMany, some C_LogError, none, none, none, none] ob_TooMany = true)
    (xm_NoMoment : mroOb [some C_NoMoment, some C_LogError, none, none, none, none] ob_NoMoment = true)
    (xm_NoReading : mroOb [some C_NoReading, some C_LogError, none, none, none, none] ob_NoReading = true)
    (xm_NoShift : mroOb [some C_NoShift, some C_LogError, none, none, none, none] ob_NoShift = true)
    (xm_NoName : mroOb [some C_NoName, some C_LogError, none, none, none, none] ob_NoName = true)
    (xm_NoPlace : mroOb [some C_NoPlace, some C_LogError, none, none, none, none] ob_NoPlace = true)
    (xm_NoEntry : mroOb [some C_NoEntry, some C_LogError, none, none, none, none] ob_NoEntry = true)
    (xm_Taken : mroOb [some C_Taken, some C_LogError, none, none, none, none] ob_Taken = true)
    (xm_NoMinutes : mroOb [some C_NoMinutes, some C_LogError, none, none, none, none] ob_NoMinutes = true)
    (xm_NoBond : mroOb [some C_NoBond, some C_LogError, none, none, none, none] ob_NoBond = true)
    (xm_NoPaper : mroOb [some C_NoPaper, some C_LogError, none, none, none, none] ob_NoPaper = true)
    (xm_NoLine : mroOb [some C_NoLine, some C_LogError, none, none, none, none] ob_NoLine = true)
    (xm_NoWay : mroOb [some C_NoWay, some C_LogError, none, none, none, none] ob_NoWay = true)
    (xm_Unwritten : mroOb [some C_Unwritten, some C_LogError, none, none, none, none] ob_Unwritten = true)
    (xm_Unlike : mroOb [some C_Unlike, some C_LogError, none, none, none, none] ob_Unlike = true)
    (ic_LogError : PySem.W.isClsIn K C_LogError = true)
    (it_LogError : PySem.W.typeIn K (.ref C_LogError) = some (.type "type"))
    (ic_NoSpans : PySem.W.isClsIn K C_NoSpans = true)
    (it_NoSpans : PySem.W.typeIn K (.ref C_NoSpans) = some (.type "type"))
    (ic_NoText : PySem.W.isClsIn K C_NoText = true)
    (it_NoText : PySem.W.typeIn K (.ref C_NoText) = some (.type "type"))
    (ic_NoTable : PySem.W.isClsIn K C_NoTable = true)
    (it_NoTable : PySem.W.typeIn K (.ref C_NoTable) = some (.type "type"))
    (ic_Beyond : PySem.W.isClsIn K C_Beyond = true)
    (it_Beyond : PySem.W.typeIn K (.ref C_Beyond) = some (.type "type"))
    (ic_TooMany : PySem.W.isClsIn K C_TooMany = true)
    (it_TooMany : PySem.W.typeIn K (.ref C_TooMany) = some (.type "type"))
    (ic_NoMoment : PySem.W.isClsIn K C_NoMoment = true)
    (it_NoMoment : PySem.W.typeIn K (.ref C_NoMoment) = some (.type "type"))
    (ic_NoReading : PySem.W.isClsIn K C_NoReading = true)
    (it_NoReading : PySem.W.typeIn K (.ref C_NoReading) = some (.type "type"))
    (ic_NoShift : PySem.W.isClsIn K C_NoShift = true)
    (it_NoShift : PySem.W.typeIn K (.ref C_NoShift) = some (.type "type"))
    (ic_NoName : PySem.W.isClsIn K C_NoName = true)
    (it_NoName : PySem.W.typeIn K (.ref C_NoName) = some (.type "type"))
    (ic_NoPlace : PySem.W.isClsIn K C_NoPlace = true)
    (it_NoPlace : PySem.W.typeIn K (.ref C_NoPlace) = some (.type "type"))
    (ic_NoEntry : PySem.W.isClsIn K C_NoEntry = true)
    (it_NoEntry : PySem.W.typeIn K (.ref C_NoEntry) = some (.type "type"))
    (ic_Taken : PySem.W.isClsIn K C_Taken = true)
    (it_Taken : PySem.W.typeIn K (.ref C_Taken) = some (.type "type"))
    (ic_NoMinutes : PySem.W.isClsIn K C_NoMinutes = true)
    (it_NoMinutes : PySem.W.typeIn K (.ref C_NoMinutes) = some (.type "type"))
    (ic_NoBond : PySem.W.isClsIn K C_NoBond = true)
    (it_NoBond : PySem.W.typeIn K (.ref C_NoBond) = some (.type "type"))
    (ic_NoPaper : PySem.W.isClsIn K C_NoPaper = true)
    (it_NoPaper : PySem.W.typeIn K (.ref C_NoPaper) = some (.type "type"))
    (ic_NoLine : PySem.W.isClsIn K C_NoLine = true)
    (it_NoLine : PySem.W.typeIn K (.ref C_NoLine) = some (.type "type"))
    (ic_NoWay : PySem.W.isClsIn K C_NoWay = true)
    (it_NoWay : PySem.W.typeIn K (.ref C_NoWay) = some (.type "type"))
    (ic_Unwritten : PySem.W.isClsIn K C_Unwritten = true)
    (it_Unwritten : PySem.W.typeIn K (.ref C_Unwritten) = some (.type "type"))
    (ic_Unlike : PySem.W.isClsIn K C_Unlike = true)
    (it_Unlike : PySem.W.typeIn K (.ref C_Unlike) = some (.type "type"))
    (ndc : ([C_LogError, C_NoSpans, C_NoText, C_NoTable, C_Beyond, C_TooMany, C_NoMoment, C_NoReading, C_NoShift, C_NoName, C_NoPlace, C_NoEntry, C_Taken, C_NoMinutes, C_NoBond, C_NoPaper, C_NoLine, C_NoWay, C_Unwritten, C_Unlike] : List Addr).Nodup)
    : ∃ fd : FuncData, (∀ (s : Shared) (v : Value), BindsTo s fd ⟨[v], []⟩ [("_law_script", v)]) ∧ ∀ base : Heap, K.In base → base.Ns mainGlobals mg → FnOk l.prog w K mg base CX0 6 fa fd ["_law_script"] (sp_law K) := by
  have e := hfa.symm.trans (PySem.W.mg_of X G a8)
  cases e
  have F0 := fun_mk (st := s_Lcell) l0 c0 k0
  have b0 := F0.binds (ps := ["_law_script", "_law_k"]) fun _ _ _ _ _ _ => len_2 fun _ _ => rfl
  have F1 := fun_mk (st := s_Lpurse) l1 c1 k1
  have b1 := F1.binds (ps := ["_law_cell_here"]) fun _ _ _ _ _ _ => len_1 fun _ => rfl
  have F2 := fun_mk (st := s_Ltake) l2 c2 k2
  have b2 := F2.binds (ps := ["_law_purse_here", "_law_many"]) fun _ _ _ _ _ _ => len_2 fun _ _ => rfl
  have F3 := fun_mk (st := s_Lnumber) l3 c3 k3
  have b3 := F3.binds (ps := ["_law_purse_here"]) fun _ _ _ _ _ _ => len_1 fun _ => rfl
  have F4 := fun_mk (st := s_Lmade) l4 c4 k4
  have b4 := F4.binds (ps := ["_law_numbers", "_law_things"]) fun _ _ _ _ _ _ => len_2 fun _ _ => rfl
  have F5 := fun_mk (st := s_Lkinds) l5 c5 k5
  have b5 := F5.binds (ps := ["_law_e"]) fun _ _ _ _ _ _ => len_1 fun _ => rfl
  have F6 := fun_mk (st := s_Lfields) l6 c6 k6
  have b6 := F6.binds (ps := ["_law_some"]) fun _ _ _ _ _ _ => len_1 fun _ => rfl
  have F7 := fun_mk (st := s_Lthing) l7 c7 k7
  have b7 := F7.binds (ps := ["_law_purse_here"]) fun _ _ _ _ _ _ => len_1 fun _ => rfl
  have F8 := fun_mk (st := s_law) l8 c8 k8
  have b8 := F8.binds (ps := ["_law_script"]) fun _ _ _ _ _ _ => len_1 fun _ => rfl
  have F9 := fun_mk (st := s_LogError_init) l9 c9 k9
  have b9 := F9.binds (ps := ["self", "text"]) fun _ _ _ _ _ _ => len_2 fun _ _ => rfl
  have F10 := fun_mk (st := s_NoSpans_init) l10 c10 k10
  have b10 := F10.binds (ps := ["self", "at"]) fun _ _ _ _ _ _ => len_2 fun _ _ => rfl
  have F11 := fun_mk (st := s_NoText_init) l11 c11 k11
  have b11 := F11.binds (ps := ["self", "at"]) fun _ _ _ _ _ _ => len_2 fun _ _ => rfl
  have F12 := fun_mk (st := s_NoTable_init) l12 c12 k12
  have b12 := F12.binds (ps := ["self", "row"]) fun _ _ _ _ _ _ => len_2 fun _ _ => rfl
  have F13 := fun_mk (st := s_Beyond_init) l13 c13 k13
  have b13 := F13.binds (ps := ["self", "row"]) fun _ _ _ _ _ _ => len_2 fun _ _ => rfl
  have F14 := fun_mk (st := s_TooMany_init) l14 c14 k14
  have b14 := F14.binds (ps := ["self", "many"]) fun _ _ _ _ _ _ => len_2 fun _ _ => rfl
  have F15 := fun_mk (st := s_NoMoment_init) l15 c15 k15
  have b15 := F15.binds (ps := ["self", "found"]) fun _ _ _ _ _ _ => len_2 fun _ _ => rfl
  have F16 := fun_mk (st := s_NoReading_init) l16 c16 k16
  have b16 := F16.binds (ps := ["self", "found"]) fun _ _ _ _ _ _ => len_2 fun _ _ => rfl
  have F17 := fun_mk (st := s_NoShift_init) l17 c17 k17
  have b17 := F17.binds (ps := ["self", "found"]) fun _ _ _ _ _ _ => len_2 fun _ _ => rfl
  have F18 := fun_mk (st := s_NoName_init) l18 c18 k18
  have b18 := F18.binds (ps := ["self", "found"]) fun _ _ _ _ _ _ => len_2 fun _ _ => rfl
  have F19 := fun_mk (st := s_NoPlace_init) l19 c19 k19
  have b19 := F19.binds (ps := ["self", "found"]) fun _ _ _ _ _ _ => len_2 fun _ _ => rfl
  have F20 := fun_mk (st := s_NoEntry_init) l20 c20 k20
  have b20 := F20.binds (ps := ["self", "found"]) fun _ _ _ _ _ _ => len_2 fun _ _ => rfl
  have F21 := fun_mk (st := s_Taken_init) l21 c21 k21
  have b21 := F21.binds (ps := ["self", "found"]) fun _ _ _ _ _ _ => len_2 fun _ _ => rfl
  have F22 := fun_mk (st := s_NoMinutes_init) l22 c22 k22
  have b22 := F22.binds (ps := ["self", "found"]) fun _ _ _ _ _ _ => len_2 fun _ _ => rfl
  have F23 := fun_mk (st := s_NoBond_init) l23 c23 k23
  have b23 := F23.binds (ps := ["self", "found"]) fun _ _ _ _ _ _ => len_2 fun _ _ => rfl
  have F24 := fun_mk (st := s_NoPaper_init) l24 c24 k24
  have b24 := F24.binds (ps := ["self", "found"]) fun _ _ _ _ _ _ => len_2 fun _ _ => rfl
  have F25 := fun_mk (st := s_NoLine_init) l25 c25 k25
  have b25 := F25.binds (ps := ["self", "found"]) fun _ _ _ _ _ _ => len_2 fun _ _ => rfl
  have F26 := fun_mk (st := s_NoWay_init) l26 c26 k26
  have b26 := F26.binds (ps := ["self", "paper"]) fun _ _ _ _ _ _ => len_2 fun _ _ => rfl
  have F27 := fun_mk (st := s_Unwritten_init) l27 c27 k27
  have b27 := F27.binds (ps := ["self", "name"]) fun _ _ _ _ _ _ => len_2 fun _ _ => rfl
  have F28 := fun_mk (st := s_Unlike_init) l28 c28 k28
  have b28 := F28.binds (ps := ["self", "place", "moment"]) fun _ _ _ _ _ _ => len_3 fun _ _ _ => rfl
  refine ⟨_, fun s v => .of_eq rfl, fun base _ _ => ok_law (a := ⟨C_LogError, C_NoSpans, C_NoText, C_NoTable, C_Beyond, C_TooMany, C_NoMoment, C_NoReading, C_NoShift, C_NoName, C_NoPlace, C_NoEntry, C_Taken, C_NoMinutes, C_NoBond, C_NoPaper, C_NoLine, C_NoWay, C_Unwritten, C_Unlike, f0, _, f1, _, f2, _, f3, _, f4, _, f5, _, f6, _, f7, _, fa, _, f9, _, f10, _, f11, _, f12, _, f13, _, f14, _, f15, _, f16, _, f17, _, f18, _, f19, _, f20, _, f21, _, f22, _, f23, _, f24, _, f25, _, f26, _, f27, _, f28, _⟩) ⟨⟨F0, b0, PySem.W.mg_of X G a0, k0⟩, ⟨F1, b1, PySem.W.mg_of X G a1, k1⟩, ⟨F2, b2, PySem.W.mg_of X G a2, k2⟩, ⟨F3, b3, PySem.W.mg_of X G a3, k3⟩, ⟨F4, b4, PySem.W.mg_of X G a4, k4⟩, ⟨F5, b5, PySem.W.mg_of X G a5, k5⟩, ⟨F6, b6, PySem.W.mg_of X G a6, k6⟩, ⟨F7, b7, PySem.W.mg_of X G a7, k7⟩, ⟨F8, b8, PySem.W.mg_of X G a8, k8⟩, ⟨F9, b9, ⟨a9, i9, k9⟩⟩, ⟨F10, b10, ⟨a10, i10, k10⟩⟩, ⟨F11, b11, ⟨a11, i11, k11⟩⟩, ⟨F12, b12, ⟨a12, i12, k12⟩⟩, ⟨F13, b13, ⟨a13, i13, k13⟩⟩, ⟨F14, b14, ⟨a14, i14, k14⟩⟩, ⟨F15, b15, ⟨a15, i15, k15⟩⟩, ⟨F16, b16, ⟨a16, i16, k16⟩⟩, ⟨F17, b17, ⟨a17, i17, k17⟩⟩, ⟨F18, b18, ⟨a18, i18, k18⟩⟩, ⟨F19, b19, ⟨a19, i19, k19⟩⟩, ⟨F20, b20, ⟨a20, i20, k20⟩⟩, ⟨F21, b21, ⟨a21, i21, k21⟩⟩, ⟨F22, b22, ⟨a22, i22, k22⟩⟩, ⟨F23, b23, ⟨a23, i23, k23⟩⟩, ⟨F24, b24, ⟨a24, i24, k24⟩⟩, ⟨F25, b25, ⟨a25, i25, k25⟩⟩, ⟨F26, b26, ⟨a26, i26, k26⟩⟩, ⟨F27, b27, ⟨a27, i27, k27⟩⟩, ⟨F28, b28, ⟨a28, i28, k28⟩⟩, PySem.W.mg_none_of X G z_len, PySem.W.mg_none_of X G z_max, PySem.W.mg_none_of X G z_min, PySem.W.mg_none_of X G z_abs, PySem.W.mg_none_of X G z_isinstance, PySem.W.mg_none_of X G z_range, PySem.W.mg_none_of X G z_repr, PySem.W.mg_none_of X G zV, PySem.W.mg_of X G aC_LogError, PySem.W.mg_of X G aC_NoSpans, PySem.W.mg_of X G aC_NoText, PySem.W.mg_of X G aC_NoTable, PySem.W.mg_of X G aC_Beyond, PySem.W.mg_of X G aC_TooMany, PySem.W.mg_of X G aC_NoMoment, PySem.W.mg_of X G aC_NoReading, PySem.W.mg_of X G aC_NoShift, PySem.W.mg_of X G aC_NoName, PySem.W.mg_of X G aC_NoPlace, PySem.W.mg_of X G aC_NoEntry, PySem.W.mg_of X G aC_Taken, PySem.W.mg_of X G aC_NoMinutes, PySem.W.mg_of X G aC_NoBond, PySem.W.mg_of X G aC_NoPaper, PySem.W.mg_of X G aC_NoLine, PySem.W.mg_of X G aC_NoWay, PySem.W.mg_of X G aC_Unwritten, PySem.W.mg_of X G aC_Unlike, xIn_of lk_LogError xo_LogError, ⟨sg_LogError, rd_LogError, fc_LogError, k9⟩, ⟨⟨xIn_of lk_LogError xo_LogError, ga_LogError, na_LogError, xs_LogError, xc_LogError, cg, ct⟩, a9, i9, kx_LogError⟩, up_LogError, ⟨⟨xIn_of lk_NoSpans xo_NoSpans, ga_NoSpans, na_NoSpans, xs_NoSpans, xc_NoSpans, cg, ct⟩, a10, i10, kx_NoSpans⟩, up_NoSpans, nx_NoSpans_at, ⟨⟨xIn_of lk_NoText xo_NoText, ga_NoText, na_NoText, xs_NoText, xc_NoText, cg, ct⟩, a11, i11, kx_NoText⟩, up_NoText, nx_NoText_at, ⟨⟨xIn_of lk_NoTable xo_NoTable, ga_NoTable, na_NoTable, xs_NoTable, xc_NoTable, cg, ct⟩, a12, i12, kx_NoTable⟩, up_NoTable, nx_NoTable_row, ⟨⟨xIn_of lk_Beyond xo_Beyond, ga_Beyond, na_Beyond, xs_Beyond, xc_Beyond, cg, ct⟩, a13, i13, kx_Beyond⟩, up_Beyond, nx_Beyond_row, ⟨⟨xIn_of lk_TooMany xo_TooMany, ga_TooMany, na_TooMany, xs_TooMany, xc_TooMany, cg, ct⟩, a14, i14, kx_TooMany⟩, up_TooMany, nx_TooMany_many, ⟨⟨xIn_of lk_NoMoment xo_NoMoment, ga_NoMoment, na_NoMoment, xs_NoMoment, xc_NoMoment, cg, ct⟩, a15, i15, kx_NoMoment⟩, up_NoMoment, nx_NoMoment_found, ⟨⟨xIn_of lk_NoReading xo_NoReading, ga_NoReading, na_NoReading, xs_NoReading, xc_NoReading, cg, ct⟩, a16, i16, kx_NoReading⟩, up_NoReading, nx_NoReading_found, ⟨⟨xIn_of lk_NoShift xo_NoShift, ga_NoShift, na_NoShift, xs_NoShift, xc_NoShift, cg, ct⟩, a17, i17, kx_NoShift⟩, up_NoShift, nx_NoShift_found, ⟨⟨xIn_of lk_NoName xo_NoName, ga_NoName, na_NoName, xs_NoName, xc_NoName, cg, ct⟩, a18, i18, kx_NoName⟩, up_NoName, nx_NoName_found, ⟨⟨xIn_of lk_NoPlace xo_NoPlace, ga_NoPlace, na_NoPlace, xs_NoPlace, xc_NoPlace, cg, ct⟩, a19, i19, kx_NoPlace⟩, up_NoPlace, nx_NoPlace_found, ⟨⟨xIn_of lk_NoEntry xo_NoEntry, ga_NoEntry, na_NoEntry, xs_NoEntry, xc_NoEntry, cg, ct⟩, a20, i20, kx_NoEntry⟩, up_NoEntry, nx_NoEntry_found, ⟨⟨xIn_of lk_Taken xo_Taken, ga_Taken, na_Taken, xs_Taken, xc_Taken, cg, ct⟩, a21, i21, kx_Taken⟩, up_Taken, nx_Taken_found, ⟨⟨xIn_of lk_NoMinutes xo_NoMinutes, ga_NoMinutes, na_NoMinutes, xs_NoMinutes, xc_NoMinutes, cg, ct⟩, a22, i22, kx_NoMinutes⟩, up_NoMinutes, nx_NoMinutes_found, ⟨⟨xIn_of lk_NoBond xo_NoBond, ga_NoBond, na_NoBond, xs_NoBond, xc_NoBond, cg, ct⟩, a23, i23, kx_NoBond⟩, up_NoBond, nx_NoBond_found, ⟨⟨xIn_of lk_NoPaper xo_NoPaper, ga_NoPaper, na_NoPaper, xs_NoPaper, xc_NoPaper, cg, ct⟩, a24, i24, kx_NoPaper⟩, up_NoPaper, nx_NoPaper_found, ⟨⟨xIn_of lk_NoLine xo_NoLine, ga_NoLine, na_NoLine, xs_NoLine, xc_NoLine, cg, ct⟩, a25, i25, kx_NoLine⟩, up_NoLine, nx_NoLine_found, ⟨⟨xIn_of lk_NoWay xo_NoWay, ga_NoWay, na_NoWay, xs_NoWay, xc_NoWay, cg, ct⟩, a26, i26, kx_NoWay⟩, up_NoWay, nx_NoWay_paper, ⟨⟨xIn_of lk_Unwritten xo_Unwritten, ga_Unwritten, na_Unwritten, xs_Unwritten, xc_Unwritten, cg, ct⟩, a27, i27, kx_Unwritten⟩, up_Unwritten, nx_Unwritten_name, ⟨⟨xIn_of lk_Unlike xo_Unlike, ga_Unlike, na_Unlike, xs_Unlike, xc_Unlike, cg, ct⟩, a28, i28, kx_Unlike⟩, up_Unlike, nx_Unlike_place, nx_Unlike_moment, XMro.of lk_LogError xm0, XMro.of lk_NoSpans xm_NoSpans, XMro.of lk_NoText xm_NoText, XMro.of lk_NoTable xm_NoTable, XMro.of lk_Beyond xm_Beyond, XMro.of lk_TooMany xm_TooMany, XMro.of lk_NoMoment xm_NoMoment, XMro.of lk_NoReading xm_NoReading, XMro.of lk_NoShift xm_NoShift, XMro.of lk_NoName xm_NoName, XMro.of lk_NoPlace xm_NoPlace, XMro.of lk_NoEntry xm_NoEntry, XMro.of lk_Taken xm_Taken, XMro.of lk_NoMinutes xm_NoMinutes, XMro.of lk_NoBond xm_NoBond, XMro.of lk_NoPaper xm_NoPaper, XMro.of lk_NoLine xm_NoLine, XMro.of lk_NoWay xm_NoWay, XMro.of lk_Unwritten xm_Unwritten, XMro.of lk_Unlike xm_Unlike, ⟨ic_LogError, it_LogError⟩, ⟨ic_NoSpans, it_NoSpans⟩, ⟨ic_NoText, it_NoText⟩, ⟨ic_NoTable, it_NoTable⟩, ⟨ic_Beyond, it_Beyond⟩, ⟨ic_TooMany, it_TooMany⟩, ⟨ic_NoMoment, it_NoMoment⟩, ⟨ic_NoReading, it_NoReading⟩, ⟨ic_NoShift, it_NoShift⟩, ⟨ic_NoName, it_NoName⟩, ⟨ic_NoPlace, it_NoPlace⟩, ⟨ic_NoEntry, it_NoEntry⟩, ⟨ic_Taken, it_Taken⟩, ⟨ic_NoMinutes, it_NoMinutes⟩, ⟨ic_NoBond, it_NoBond⟩, ⟨ic_NoPaper, it_NoPaper⟩, ⟨ic_NoLine, it_NoLine⟩, ⟨ic_NoWay, it_NoWay⟩, ⟨ic_Unwritten, it_Unwritten⟩, ⟨ic_Unlike, it_Unlike⟩, ndc⟩⟩
theorem walk {l : PySem.W.OpenLaw} {q : Program} {loose : List Str} {XP : (Str → Option Value) → Heap → Prop} {YP : World → Heap → Prop} {d : DefRec} {K : Params → PySem.W.Frag} (hn : l.most = some 63) (hdf : d.params.defaults = [])
    (hY : ∀ (w : World) (h : Heap), YP w h → (K w.params).In h)
    (F : ∀ (w : World) (mg : Str → Option Value) (fa : Addr) (h : Heap), (K w.params).In h → h.Ns mainGlobals mg → mg d.name = some (.ref fa) →
      ∃ fd : FuncData, (∀ (s : Shared) (u : Value), BindsTo s fd ⟨[u], []⟩ [("_law_script", u)]) ∧ ∀ base : Heap, (K w.params).In base → base.Ns mainGlobals mg → FnOk l.prog w (K w.params) mg base CX0 6 fa fd ["_law_script"] (sp_law (K w.params))) :
    PySem.W.WalkO q loose XP YP l.row.toRowW d [] (fun f vs => PySem.call f vs) :=
  L2.walk_of (n := 63) (k := 6) (x := "_law_script") (CX := fun _ => CX0) (sp := fun w => sp_law (K w.params)) hn (by decide) hdf ⟨rfl, by decide, by decide, rfl⟩ hY F (fun _ _ a ns hl _ hS => ⟨a, ns, rfl, hS, hl, fun _ => rfl⟩) fun _ _ _ _ _ z => z
end K09
open PySem PySem.W PyProof.Rows
set_option maxHeartbeats 0 in
noncomputable def _root_.PySem.W.Fast.tw616997550385353051 : Nat := 0
noncomputable def _root_.PySem.W.Fast.tw12064752554322066412 : Nat := 0
noncomputable def _root_.PySem.W.Fast.tw14446605880663844750 : Nat := 0
noncomputable def _root_.PySem.W.Fast.tw13412946193203325589 : Nat := 0
noncomputable def _root_.PySem.W.Fast.tw18315051115348639446 : Nat := 0
noncomputable def _root_.PySem.W.Fast.tw6808981697821705860 : Nat := 0
noncomputable def _root_.PySem.W.Fast.tw9768366093667373897 : Nat := 0
noncomputable def _root_.PySem.W.Fast.tw17514065130216339580 : Nat := 0
noncomputable def _root_.PySem.W.Fast.tw11910362114153287486 : Nat := 0
noncomputable def _root_.PySem.W.Fast.tw15436545281870256157 : Nat := 0
noncomputable def _root_.PySem.W.Fast.tw12067271465063853847 : Nat := 0
noncomputable def _root_.PySem.W.Fast.tw8839594710445777536 : Nat := 0
noncomputable def _root_.PySem.W.Fast.tw1167079517469618991 : Nat := 0
noncomputable def _root_.PySem.W.Fast.tw15745431193816243926 : Nat := 0
noncomputable def _root_.PySem.W.Fast.tw7527645633196289130 : Nat := 0
noncomputable def _root_.PySem.W.Fast.tw3374123721716152236 : Nat := 0
noncomputable def _root_.PySem.W.Fast.tw6453001152408386451 : Nat := 0
noncomputable def _root_.PySem.W.Fast.tw15389617332271041596 : Nat := 0
noncomputable def _root_.PySem.W.Fast.tw9279730528205714770 : Nat := 0
noncomputable def _root_.PySem.W.Fast.tw7541405576269393445 : Nat := 0
noncomputable def _root_.PySem.W.Fast.tw13528750134945406545 : Nat := 0
noncomputable def _root_.PySem.W.Fast.tw7058845840973851607 : Nat := 0
noncomputable def _root_.PySem.W.Fast.tw11665372625482547250 : Nat := 0
noncomputable def _root_.PySem.W.Fast.tw9542233856056310587 : Nat := 0
theorem PySem.Challenge.cw_foldlog_k09_refusals_apart_holds : PySem.Challenge.rw_foldlog_k09_refusals_apart.Holds := by
  w_on; o_law; z_head; (case hw => w_witness2)
  k_fill
  refine K09.walkX (fun _ => by kernel_rfl) (K09.walk (l := PySem.Challenge.rw_foldlog_k09_refusals_apart) rfl rfl (fun w h Y => Y) ?F)
  case F =>
    intro w mg fa h KX G hmg
    refine' K09.all_mk KX G hmg ?aC_LogError ?aC_NoSpans ?aC_NoText ?aC_NoTable ?aC_Beyond ?aC_TooMany ?aC_NoMoment ?aC_NoReading ?aC_NoShift ?aC_NoName ?aC_NoPlace ?aC_NoEntry ?aC_Taken ?aC_NoMinutes ?aC_NoBond ?aC_NoPaper ?aC_NoLine ?aC_NoWay ?aC_Unwritten ?aC_Unlike ?a0 ?l0 ?c0 ?k0 ?a1 ?l1 ?c1 ?k1 ?a2 ?l2 ?c2 ?k2 ?a3 ?l3 ?c3 ?k3 ?a4 ?l4 ?c4 ?k4 ?a5 ?l5 ?c5 ?k5 ?a6 ?l6 ?c6 ?k6 ?a7 ?l7 ?c7 ?k7 ?a8 ?l8 ?c8 ?k8 ?a9 ?i9 ?l9 ?c9 ?k9 ?a10 ?i10 ?l10 ?c10 ?k10 ?a11 ?i11 ?l11 ?c11 ?k11 ?a12 ?i12 ?l12 ?c12 ?k12 ?a13 ?i13 ?l13 ?c13 ?k13 ?a14 ?i14 ?l14 ?c14 ?k14 ?a15 ?i15 ?l15 ?c15 ?k15 ?a16 ?i16 ?l16 ?c16 ?k16 ?a17 ?i17 ?l17 ?c17 ?k17 ?a18 ?i18 ?l18 ?c18 ?k18 ?a19 ?i19 ?l19 ?c19 ?k19 ?a20 ?i20 ?l20 ?c20 ?k20 ?a21 ?i21 ?l21 ?c21 ?k21 ?a22 ?i22 ?l22 ?c22 ?k22 ?a23 ?i23 ?l23 ?c23 ?k23 ?a24 ?i24 ?l24 ?c24 ?k24 ?a25 ?i25 ?l25 ?c25 ?k25 ?a26 ?i26 ?l26 ?c26 ?k26 ?a27 ?i27 ?l27 ?c27 ?k27 ?a28 ?i28 ?l28 ?c28 ?k28 ?z_len ?z_max ?z_min ?z_abs ?z_isinstance ?z_range ?z_repr ?zV ?lk_LogError ?xo_LogError ?cg ?ct ?sg_LogError ?rd_LogError ?fc_LogError ?ga_LogError ?na_LogError ?xs_LogError ?xc_LogError ?kx_LogError ?up_LogError ?lk_NoSpans ?xo_NoSpans ?ga_NoSpans ?na_NoSpans ?xs_NoSpans ?xc_NoSpans ?kx_NoSpans ?up_NoSpans ?nx_NoSpans_at ?lk_NoText ?xo_NoText ?ga_NoText ?na_NoText ?xs_NoText ?xc_NoText ?kx_NoText ?up_NoText ?nx_NoText_at ?lk_NoTable ?xo_NoTable ?ga_NoTable ?na_NoTable ?xs_NoTable ?xc_NoTable ?kx_NoTable ?up_NoTable ?nx_NoTable_row ?lk_Beyond ?xo_Beyond ?ga_Beyond ?na_Beyond ?xs_Beyond ?xc_Beyond ?kx_Beyond ?up_Beyond ?nx_Beyond_row ?lk_TooMany ?xo_TooMany ?ga_TooMany ?na_TooMany ?xs_TooMany ?xc_TooMany ?kx_TooMany ?up_TooMany ?nx_TooMany_many ?lk_NoMoment ?xo_NoMoment ?ga_NoMoment ?na_NoMoment ?xs_NoMoment ?xc_NoMoment ?kx_NoMoment ?up_NoMoment ?nx_NoMoment_found ?lk_NoReading ?xo_NoReading ?ga_NoReading ?na_NoReading ?xs_NoReading ?xc_NoReading ?kx_NoReading ?up_NoReading ?nx_NoReading_found ?lk_NoShift ?xo_NoShift ?ga_NoShift ?na_NoShift ?xs_NoShift ?xc_NoShift ?kx_NoShift ?up_NoShift ?nx_NoShift_found ?lk_NoName ?xo_NoName ?ga_NoName ?na_NoName ?xs_NoName ?xc_NoName ?kx_NoName ?up_NoName ?nx_NoName_found ?lk_NoPlace ?xo_NoPlace ?ga_NoPlace ?na_NoPlace ?xs_NoPlace ?xc_NoPlace ?kx_NoPlace ?up_NoPlace ?nx_NoPlace_found ?lk_NoEntry ?xo_NoEntry ?ga_NoEntry ?na_NoEntry ?xs_NoEntry ?xc_NoEntry ?kx_NoEntry ?up_NoEntry ?nx_NoEntry_found ?lk_Taken ?xo_Taken ?ga_Taken ?na_Taken ?xs_Taken ?xc_Taken ?kx_Taken ?up_Taken ?nx_Taken_found ?lk_NoMinutes ?xo_NoMinutes ?ga_NoMinutes ?na_NoMinutes ?xs_NoMinutes ?xc_NoMinutes ?kx_NoMinutes ?up_NoMinutes ?nx_NoMinutes_found ?lk_NoBond ?xo_NoBond ?ga_NoBond ?na_NoBond ?xs_NoBond ?xc_NoBond ?kx_NoBond ?up_NoBond ?nx_NoBond_found ?lk_NoPaper ?xo_NoPaper ?ga_NoPaper ?na_NoPaper ?xs_NoPaper ?xc_NoPaper ?kx_NoPaper ?up_NoPaper ?nx_NoPaper_found ?lk_NoLine ?xo_NoLine ?ga_NoLine ?na_NoLine ?xs_NoLine ?xc_NoLine ?kx_NoLine ?up_NoLine ?nx_NoLine_found ?lk_NoWay ?xo_NoWay ?ga_NoWay ?na_NoWay ?xs_NoWay ?xc_NoWay ?kx_NoWay ?up_NoWay ?nx_NoWay_paper ?lk_Unwritten ?xo_Unwritten ?ga_Unwritten ?na_Unwritten ?xs_Unwritten ?xc_Unwritten ?kx_Unwritten ?up_Unwritten ?nx_Unwritten_name ?lk_Unlike ?xo_Unlike ?ga_Unlike ?na_Unlike ?xs_Unlike ?xc_Unlike ?kx_Unlike ?up_Unlike ?nx_Unlike_place ?nx_Unlike_moment ?xm0 ?xm_NoSpans ?xm_NoText ?xm_NoTable ?xm_Beyond ?xm_TooMany ?xm_NoMoment ?xm_NoReading ?xm_NoShift ?xm_NoName ?xm_NoPlace ?xm_NoEntry ?xm_Taken ?xm_NoMinutes ?xm_NoBond ?xm_NoPaper ?xm_NoLine ?xm_NoWay ?xm_Unwritten ?xm_Unlike ?ic_LogError ?it_LogError ?ic_NoSpans ?it_NoSpans ?ic_NoText ?it_NoText ?ic_NoTable ?it_NoTable ?ic_Beyond ?it_Beyond ?ic_TooMany ?it_TooMany ?ic_NoMoment ?it_NoMoment ?ic_NoReading ?it_NoReading ?ic_NoShift ?it_NoShift ?ic_NoName ?it_NoName ?ic_NoPlace ?it_NoPlace ?ic_NoEntry ?it_NoEntry ?ic_Taken ?it_Taken ?ic_NoMinutes ?it_NoMinutes ?ic_NoBond ?it_NoBond ?ic_NoPaper ?it_NoPaper ?ic_NoLine ?it_NoLine ?ic_NoWay ?it_NoWay ?ic_Unwritten ?it_Unwritten ?ic_Unlike ?it_Unlike ?ndc
    (case aC_LogError => k_is)
    (case aC_NoSpans => k_is)
    (case aC_NoText => k_is)
    (case aC_NoTable => k_is)
    (case aC_Beyond => k_is)
    (case aC_TooMany => k_is)
    (case aC_NoMoment => k_is)
    (case aC_NoReading => k_is)
    (case aC_NoShift => k_is)
    (case aC_NoName => k_is)
    (case aC_NoPlace => k_is)
    (case aC_NoEntry => k_is)
    (case aC_Taken => k_is)
    (case aC_NoMinutes => k_is)
    (case aC_NoBond => k_is)
    (case aC_NoPaper => k_is)
    (case aC_NoLine => k_is)
    (case aC_NoWay => k_is)
    (case aC_Unwritten => k_is)
    (case aC_Unlike => k_is)
    (case a0 => k_is)
    (case l0 => k_is)
    (case c0 => k_is)
    (case k0 => k_is)
    (case a1 => k_is)
    (case l1 => k_is)
    (case c1 => k_is)
    (case k1 => k_is)
    (case a2 => k_is)
    (case l2 => k_is)
    (case c2 => k_is)
    (case k2 => k_is)
    (case a3 => k_is)
    (case l3 => k_is)
    (case c3 => k_is)
    (case k3 => k_is)
    (case a4 => k_is)
    (case l4 => k_is)
    (case c4 => k_is)
    (case k4 => k_is)
    (case a5 => k_is)
    (case l5 => k_is)
    (case c5 => k_is)
    (case k5 => k_is)
    (case a6 => k_is)
    (case l6 => k_is)
    (case c6 => k_is)
    (case k6 => k_is)
    (case a7 => k_is)
    (case l7 => k_is)
    (case c7 => k_is)
    (case k7 => k_is)
    (case a8 => k_is)
    (case l8 => k_is)
    (case c8 => k_is)
    (case k8 => k_is)
    (case a9 => k_is)
    (case i9 => k_is)
    (case l9 => k_is)
    (case c9 => k_is)
    (case k9 => k_is)
    (case a10 => k_is)
    (case i10 => k_is)
    (case l10 => k_is)
    (case c10 => k_is)
    (case k10 => k_is)
    (case a11 => k_is)
    (case i11 => k_is)
    (case l11 => k_is)
    (case c11 => k_is)
    (case k11 => k_is)
    (case a12 => k_is)
    (case i12 => k_is)
    (case l12 => k_is)
    (case c12 => k_is)
    (case k12 => k_is)
    (case a13 => k_is)
    (case i13 => k_is)
    (case l13 => k_is)
    (case c13 => k_is)
    (case k13 => k_is)
    (case a14 => k_is)
    (case i14 => k_is)
    (case l14 => k_is)
    (case c14 => k_is)
    (case k14 => k_is)
    (case a15 => k_is)
    (case i15 => k_is)
    (case l15 => k_is)
    (case c15 => k_is)
    (case k15 => k_is)
    (case a16 => k_is)
    (case i16 => k_is)
    (case l16 => k_is)
    (case c16 => k_is)
    (case k16 => k_is)
    (case a17 => k_is)
    (case i17 => k_is)
    (case l17 => k_is)
    (case c17 => k_is)
    (case k17 => k_is)
    (case a18 => k_is)
    (case i18 => k_is)
    (case l18 => k_is)
    (case c18 => k_is)
    (case k18 => k_is)
    (case a19 => k_is)
    (case i19 => k_is)
    (case l19 => k_is)
    (case c19 => k_is)
    (case k19 => k_is)
    (case a20 => k_is)
    (case i20 => k_is)
    (case l20 => k_is)
    (case c20 => k_is)
    (case k20 => k_is)
    (case a21 => k_is)
    (case i21 => k_is)
    (case l21 => k_is)
    (case c21 => k_is)
    (case k21 => k_is)
    (case a22 => k_is)
    (case i22 => k_is)
    (case l22 => k_is)
    (case c22 => k_is)
    (case k22 => k_is)
    (case a23 => k_is)
    (case i23 => k_is)
    (case l23 => k_is)
    (case c23 => k_is)
    (case k23 => k_is)
    (case a24 => k_is)
    (case i24 => k_is)
    (case l24 => k_is)
    (case c24 => k_is)
    (case k24 => k_is)
    (case a25 => k_is)
    (case i25 => k_is)
    (case l25 => k_is)
    (case c25 => k_is)
    (case k25 => k_is)
    (case a26 => k_is)
    (case i26 => k_is)
    (case l26 => k_is)
    (case c26 => k_is)
    (case k26 => k_is)
    (case a27 => k_is)
    (case i27 => k_is)
    (case l27 => k_is)
    (case c27 => k_is)
    (case k27 => k_is)
    (case a28 => k_is)
    (case i28 => k_is)
    (case l28 => k_is)
    (case c28 => k_is)
    (case k28 => k_is)
    (case z_len => k_is)
    (case z_max => k_is)
    (case z_min => k_is)
    (case z_abs => k_is)
    (case z_isinstance => k_is)
    (case z_range => k_is)
    (case z_repr => k_is)
    (case zV => k_is)
    (case lk_LogError => k_is)
    (case xo_LogError => rfl)
    (case cg => k_is)
    (case ct => k_is)
    (case sg_LogError => k_is)
    (case rd_LogError => k_is)
    (case fc_LogError => k_is)
    (case ga_LogError => k_is)
    (case na_LogError => k_is)
    (case xs_LogError => k_is)
    (case xc_LogError => k_is)
    (case kx_LogError => k_is)
    (case up_LogError => k_is)
    (case lk_NoSpans => k_is)
    (case xo_NoSpans => rfl)
    (case ga_NoSpans => k_is)
    (case na_NoSpans => k_is)
    (case xs_NoSpans => k_is)
    (case xc_NoSpans => k_is)
    (case kx_NoSpans => k_is)
    (case up_NoSpans => k_is)
    (case nx_NoSpans_at => k_is)
    (case lk_NoText => k_is)
    (case xo_NoText => rfl)
    (case ga_NoText => k_is)
    (case na_NoText => k_is)
    (case xs_NoText => k_is)
    (case xc_NoText => k_is)
    (case kx_NoText => k_is)
    (case up_NoText => k_is)
    (case nx_NoText_at => k_is)
    (case lk_NoTable => k_is)
    (case xo_NoTable => rfl)
    (case ga_NoTable => k_is)
    (case na_NoTable => k_is)
    (case xs_NoTable => k_is)
    (case xc_NoTable => k_is)
    (case kx_NoTable => k_is)
    (case up_NoTable => k_is)
    (case nx_NoTable_row => k_is)
    (case lk_Beyond => k_is)
    (case xo_Beyond => rfl)
    (case ga_Beyond => k_is)
    (case na_Beyond => k_is)
    (case xs_Beyond => k_is)
    (case xc_Beyond => k_is)
    (case kx_Beyond => k_is)
    (case up_Beyond => k_is)
    (case nx_Beyond_row => k_is)
    (case lk_TooMany => k_is)
    (case xo_TooMany => rfl)
    (case ga_TooMany => k_is)
    (case na_TooMany => k_is)
    (case xs_TooMany => k_is)
    (case xc_TooMany => k_is)
    (case kx_TooMany => k_is)
    (case up_TooMany => k_is)
    (case nx_TooMany_many => k_is)
    (case lk_NoMoment => k_is)
    (case xo_NoMoment => rfl)
    (case ga_NoMoment => k_is)
    (case na_NoMoment => k_is)
    (case xs_NoMoment => k_is)
    (case xc_NoMoment => k_is)
    (case kx_NoMoment => k_is)
    (case up_NoMoment => k_is)
    (case nx_NoMoment_found => k_is)
    (case lk_NoReading => k_is)
    (case xo_NoReading => rfl)
    (case ga_NoReading => k_is)
    (case na_NoReading => k_is)
    (case xs_NoReading => k_is)
    (case xc_NoReading => k_is)
    (case kx_NoReading => k_is)
    (case up_NoReading => k_is)
    (case nx_NoReading_found => k_is)
    (case lk_NoShift => k_is)
    (case xo_NoShift => rfl)
    (case ga_NoShift => k_is)
    (case na_NoShift => k_is)
    (case xs_NoShift => k_is)
    (case xc_NoShift => k_is)
    (case kx_NoShift => k_is)
    (case up_NoShift => k_is)
    (case nx_NoShift_found => k_is)
    (case lk_NoName => k_is)
    (case xo_NoName => rfl)
    (case ga_NoName => k_is)
    (case na_NoName => k_is)
    (case xs_NoName => k_is)
    (case xc_NoName => k_is)
    (case kx_NoName => k_is)
    (case up_NoName => k_is)
    (case nx_NoName_found => k_is)
    (case lk_NoPlace => k_is)
    (case xo_NoPlace => rfl)
    (case ga_NoPlace => k_is)
    (case na_NoPlace => k_is)
    (case xs_NoPlace => k_is)
    (case xc_NoPlace => k_is)
    (case kx_NoPlace => k_is)
    (case up_NoPlace => k_is)
    (case nx_NoPlace_found => k_is)
    (case lk_NoEntry => k_is)
    (case xo_NoEntry => rfl)
    (case ga_NoEntry => k_is)
    (case na_NoEntry => k_is)
    (case xs_NoEntry => k_is)
    (case xc_NoEntry => k_is)
    (case kx_NoEntry => k_is)
    (case up_NoEntry => k_is)
    (case nx_NoEntry_found => k_is)
    (case lk_Taken => k_is)
    (case xo_Taken => rfl)
    (case ga_Taken => k_is)
    (case na_Taken => k_is)
    (case xs_Taken => k_is)
    (case xc_Taken => k_is)
    (case kx_Taken => k_is)
    (case up_Taken => k_is)
    (case nx_Taken_found => k_is)
    (case lk_NoMinutes => k_is)
    (case xo_NoMinutes => rfl)
    (case ga_NoMinutes => k_is)
    (case na_NoMinutes => k_is)
    (case xs_NoMinutes => k_is)
    (case xc_NoMinutes => k_is)
    (case kx_NoMinutes => k_is)
    (case up_NoMinutes => k_is)
    (case nx_NoMinutes_found => k_is)
    (case lk_NoBond => k_is)
    (case xo_NoBond => rfl)
    (case ga_NoBond => k_is)
    (case na_NoBond => k_is)
    (case xs_NoBond => k_is)
    (case xc_NoBond => k_is)
    (case kx_NoBond => k_is)
    (case up_NoBond => k_is)
    (case nx_NoBond_found => k_is)
    (case lk_NoPaper => k_is)
    (case xo_NoPaper => rfl)
    (case ga_NoPaper => k_is)
    (case na_NoPaper => k_is)
    (case xs_NoPaper => k_is)
    (case xc_NoPaper => k_is)
    (case kx_NoPaper => k_is)
    (case up_NoPaper => k_is)
    (case nx_NoPaper_found => k_is)
    (case lk_NoLine => k_is)
    (case xo_NoLine => rfl)
    (case ga_NoLine => k_is)
    (case na_NoLine => k_is)
    (case xs_NoLine => k_is)
    (case xc_NoLine => k_is)
    (case kx_NoLine => k_is)
    (case up_NoLine => k_is)
    (case nx_NoLine_found => k_is)
    (case lk_NoWay => k_is)
    (case xo_NoWay => rfl)
    (case ga_NoWay => k_is)
    (case na_NoWay => k_is)
    (case xs_NoWay => k_is)
    (case xc_NoWay => k_is)
    (case kx_NoWay => k_is)
    (case up_NoWay => k_is)
    (case nx_NoWay_paper => k_is)
    (case lk_Unwritten => k_is)
    (case xo_Unwritten => rfl)
    (case ga_Unwritten => k_is)
    (case na_Unwritten => k_is)
    (case xs_Unwritten => k_is)
    (case xc_Unwritten => k_is)
    (case kx_Unwritten => k_is)
    (case up_Unwritten => k_is)
    (case nx_Unwritten_name => k_is)
    (case lk_Unlike => k_is)
    (case xo_Unlike => rfl)
    (case ga_Unlike => k_is)
    (case na_Unlike => k_is)
    (case xs_Unlike => k_is)
    (case xc_Unlike => k_is)
    (case kx_Unlike => k_is)
    (case up_Unlike => k_is)
    (case nx_Unlike_place => k_is)
    (case nx_Unlike_moment => k_is)
    (case xm0 => rfl)
    (case xm_NoSpans => rfl)
    (case xm_NoText => rfl)
    (case xm_NoTable => rfl)
    (case xm_Beyond => rfl)
    (case xm_TooMany => rfl)
    (case xm_NoMoment => rfl)
    (case xm_NoReading => rfl)
    (case xm_NoShift => rfl)
    (case xm_NoName => rfl)
    (case xm_NoPlace => rfl)
    (case xm_NoEntry => rfl)
    (case xm_Taken => rfl)
    (case xm_NoMinutes => rfl)
    (case xm_NoBond => rfl)
    (case xm_NoPaper => rfl)
    (case xm_NoLine => rfl)
    (case xm_NoWay => rfl)
    (case xm_Unwritten => rfl)
    (case xm_Unlike => rfl)
    (case ic_LogError => k_is)
    (case it_LogError => k_is)
    (case ic_NoSpans => k_is)
    (case it_NoSpans => k_is)
    (case ic_NoText => k_is)
    (case it_NoText => k_is)
    (case ic_NoTable => k_is)
    (case it_NoTable => k_is)
    (case ic_Beyond => k_is)
    (case it_Beyond => k_is)
    (case ic_TooMany => k_is)
    (case it_TooMany => k_is)
    (case ic_NoMoment => k_is)
    (case it_NoMoment => k_is)
    (case ic_NoReading => k_is)
    (case it_NoReading => k_is)
    (case ic_NoShift => k_is)
    (case it_NoShift => k_is)
    (case ic_NoName => k_is)
    (case it_NoName => k_is)
    (case ic_NoPlace => k_is)
    (case it_NoPlace => k_is)
    (case ic_NoEntry => k_is)
    (case it_NoEntry => k_is)
    (case ic_Taken => k_is)
    (case it_Taken => k_is)
    (case ic_NoMinutes => k_is)
    (case it_NoMinutes => k_is)
    (case ic_NoBond => k_is)
    (case it_NoBond => k_is)
    (case ic_NoPaper => k_is)
    (case it_NoPaper => k_is)
    (case ic_NoLine => k_is)
    (case it_NoLine => k_is)
    (case ic_NoWay => k_is)
    (case it_NoWay => k_is)
    (case ic_Unwritten => k_is)
    (case it_Unwritten => k_is)
    (case ic_Unlike => k_is)
    (case it_Unlike => k_is)
    (case ndc => decide)
