import PyProof.Rows.All
import Wide.All
import OpenK.AllK
import Wide.FinOn
import Lean
import PyProof.EqAt
import PyProof.EqKinds
import PyProof.TupleCall
import PyProof.ZipIter
import PyProof.TupleIter
import PyProof.CompUse
import KE.KRevIter
import KE.KIntText
import PyProof.FString
import PyProof.Rows.StrNews2
import PyProof.Rows.StrSplitCount
import PyProof.Rows.StrClose3
import KE.IntTextText
import PyProof.StrLawsTight
import PyProof.StationsW
import PyProof.PassesOwn
import PyProof.ExcInit
import PyProof.ExcBaseAll.ValueError
import PyProof.InstStoreFacts
import KE.KIsNot
import PyProof.ExcArgs
import PyProof.RulesAs
import KE.KEqDict
import KE.KSortTup
import KE.KSorted
import KE.LcSums
import KE.KListMore
import PyProof.NsDelKeeps
import PyProof.ReprRoads
import PyProof.ReprLen
import PyProof.MeetsStr3
import PyProof.StrOps2
import PyProof.Rows.InDataRows
import KE.KDictList
import KE.KDictSum
import PyProof.Rows.SortStr
import PyProof.Rows.SortWalk
import KE.KDictOf
import PyProof.DictUpdate
import PyProof.AttrMissSeq
import PyProof.Rows.SetFrom
import PyProof.IsInstanceT
import KE.KItemsList
import PyProof.DictItems
import PyProof.DictValues
import PySem.Challenge.RW_foldlog_k37_deeds_one_behind_another
set_option maxHeartbeats 4000000
set_option Elab.async false
set_option linter.all false
set_option maxRecDepth 100000
namespace L2
open PySem PySem.Spec PyProof.Rows
abbrev Key:=Sum Int Str
def qdH:Key->Value->Bool
 | .inl k,v=>Value.isInt k v
 | .inr x,v=>Value.isStrOf x v
def qlb (w:World):Key->Int
 | .inl k=>hashInt k
 | .inr x=>hashStr w x
theorem zh:∀ {k:Key} {v:Value},qdH k v=true->(∃ i t,k=Sum.inl i∧v=Value.int i t)∨(∃ x t,k=Sum.inr x∧v=Value.str x t)
 | .inl i,v,h=>by
   obtain ⟨t,e⟩:=Value.isInt_shape (k:=i) (v:=v) h
   exact .inl ⟨i,t,rfl,e⟩
 | .inr x,v,h=>by
   obtain ⟨t,e⟩:=Value.isStrOf_shape (x:=x) (v:=v) h
   exact .inr ⟨x,t,rfl,e⟩
theorem qf1 (i:Int) (t:Tok):qdH (.inl i) (.int i t)=true:=by simp [qdH,Value.isInt]
theorem qf0 (x:Str) (t:Tok):qdH (.inr x) (.str x t)=true:=by simp [qdH,Value.isStrOf]
theorem qjy (a b:Int):decide ((Sum.inl a:Key)=Sum.inl b)=(a == b):=by
 by_cases e:a=b
 · subst e; simp
 · have h:¬ (Sum.inl a:Key)=Sum.inl b:=fun q=>e (Sum.inl.inj q)
   rw [decide_eq_false h]
   exact (beq_eq_false_iff_ne.mpr e).symm
theorem qjv (a b:Str):decide ((Sum.inr a:Key)=Sum.inr b)=decide (a=b):=by
 by_cases e:a=b
 · subst e; simp
 · have h:¬ (Sum.inr a:Key)=Sum.inr b:=fun q=>e (Sum.inr.inj q)
   rw [decide_eq_false h,decide_eq_false e]
theorem qjx (a:Int) (b:Str):decide ((Sum.inl a:Key)=Sum.inr b)=false:=decide_eq_false (fun q=>nomatch q)
theorem qjw (a:Str) (b:Int):decide ((Sum.inr a:Key)=Sum.inl b)=false:=decide_eq_false (fun q=>nomatch q)
def zg (prog:Program) (w:World):PySem.KeyKind prog w Key where
 is:=qdH
 hash:=qlb w
 inj:=fun v a b ha hb=>by
   rcases zh ha with ⟨i,t,rfl,rfl⟩ | ⟨x,t,rfl,rfl⟩
   · rcases zh hb with ⟨j,u,rfl,e⟩ | ⟨y,u,rfl,e⟩
     · injection e with e1 _; rw [e1]
     · exact nomatch e
   · rcases zh hb with ⟨j,u,rfl,e⟩ | ⟨y,u,rfl,e⟩
     · exact nomatch e
     · injection e with e1 _; rw [e1]
 byValue:=fun k v h=>by
   rcases zh h with ⟨i,t,rfl,rfl⟩ | ⟨x,t,rfl,rfl⟩<;>rfl
 pyHash:=fun hv h=>by
   rcases zh hv with ⟨i,t,rfl,rfl⟩ | ⟨x,t,rfl,rfl⟩
   · exact wpAny_pyHash_int h
   · exact wpAny_pyHash_str h
 eqBool:=fun hu hv h=>by
   rcases zh hu with ⟨i,t,rfl,rfl⟩ | ⟨x,t,rfl,rfl⟩
   · rcases zh hv with ⟨j,u,rfl,rfl⟩ | ⟨y,u,rfl,rfl⟩
     · rw [qjy] at h; exact wpAny_eqBool_int h
     · rw [qjx] at h; exact SeqAt.EqAt.int_str i t y u _ _ _ _ h
   · rcases zh hv with ⟨j,u,rfl,rfl⟩ | ⟨y,u,rfl,rfl⟩
     · rw [qjw] at h; exact SeqAt.EqAt.str_int x t j u _ _ _ _ h
     · rw [qjv] at h; exact wpAny_eqBool_str h
 «strs»:=fun k x t v h=>by
   rcases zh h with ⟨i,u,rfl,e⟩ | ⟨y,u,rfl,e⟩
   · exact nomatch e
   · injection e with e1 _
     subst e1
     cases v<;>rfl
theorem qdD (prog:Program) (w:World) (i:Int) (t:Tok):(zg prog w).is (.inl i) (.int i t)=true:=qf1 i t
theorem qdC (prog:Program) (w:World) (x:Str) (t:Tok):(zg prog w).is (.inr x) (.str x t)=true:=qf0 x t
end L2
namespace L2
open PySem PySem.Spec PyProof.Rows
inductive V where
 | non | bl (b:Bool) | int (i:Int) | str (x:Str) | byt (b:Array UInt8) | flt (b:UInt64) | ref (a:Addr) | ty (n:String)
 deriving DecidableEq
def RelV:V->Value->Prop
 | .non,u=>u=Value.none
 | .bl b,u=>u=Value.bool b
 | .int i,u=>∃ t,u=Value.int i t
 | .str x,u=>∃ t,u=Value.str x t
 | .byt b,u=>∃ t,u=Value.bytes b t
 | .flt b,u=>∃ t,u=Value.float b t
 | .ref a,u=>u=Value.ref a
 | .ty n,u=>u=Value.type n
abbrev Vals:List V->List Value->Prop:=Paired RelV
theorem Vals.length {xs:List V} {us:List Value} (r:Vals xs us):xs.length=us.length:=Paired.length r
theorem Vals.get:∀ {xs:List V} {us:List Value} {i:Nat} {x:V},Vals xs us->xs[i]?=some x->∃ u,us[i]?=some u∧RelV x u
 | _,_,_,_,.nil,e=>by simp at e
 | _,_,0,_,.cons r _,e=>by simp at e; subst e; exact ⟨_,rfl,r⟩
 | _,_,i+1,x,.cons _ t,e=>by
   obtain ⟨u,h1,h2⟩:=Vals.get (i:=i) (x:=x) t (by simpa using e)
   exact ⟨u,by simpa using h1,h2⟩
theorem Vals.set {x:V} {u:Value} (r:RelV x u):∀ {xs:List V} {us:List Value} (i:Nat),Vals xs us->Vals (xs.set i x) (us.set i u)
 | _,_,_,.nil=>.nil
 | _,_,0,.cons _ t=>.cons r t
 | _,_,i+1,.cons q t=>.cons q (Vals.set r i t)
theorem Vals.append:∀ {xs ys:List V} {us ws:List Value},Vals xs us->Vals ys ws->Vals (xs++ys) (us++ws)
 | _,_,_,_,.nil,s=>s
 | _,_,_,_,.cons r t,s=>.cons r (Vals.append t s)
theorem Vals.take:∀ {xs:List V} {us:List Value} (n:Nat),Vals xs us->Vals (xs.take n) (us.take n)
 | _,_,0,_=>.nil
 | _,_,_+1,.nil=>.nil
 | _,_,n+1,.cons r t=>.cons r (Vals.take n t)
theorem Vals.drop:∀ {xs:List V} {us:List Value} (n:Nat),Vals xs us->Vals (xs.drop n) (us.drop n)
 | _,_,0,r=>r
 | _,_,_+1,.nil=>.nil
 | _,_,n+1,.cons _ t=>Vals.drop n t
def RelO:Option V->Option Value->Prop
 | some v,some u=>RelV v u
 | none,none=>True
 | _,_=>False
def KV {κ:Type}:List (κ×V)->List (κ×Value)->Prop:=Paired fun (p:κ×V) (q:κ×Value)=>p.1=q.1∧RelV p.2 q.2
def kV:Key->V
 | .inl i=>.int i
 | .inr x=>.str x
inductive HO where
   | lst (xs:List V)
   | tup (xs:List V)
   | dK (kvs:List (Key×V)) | dT (kvs:List (List Key×V))
   | set (S:Int->Bool) (n:Nat)
   | ins (C dx:Addr) (fs:List (Str×V))
   | own (x:Addr)
   | xd (fs:List (Str×V))
   | met (f x:Addr)
   | rng (lo hi:Int)
   | frz (o:Obj) (u:HO)
   | tbl (ps:Array Value)
   | ext (φ:Heap->Prop)
abbrev Hp:=Addr->Option HO
def upd (H:Hp) (a:Addr) (o:HO):Hp:=fun b=>if b=a then some o else H b
theorem qc {H:Hp} {a:Addr} {o:HO}:upd H a o a=some o:=by unfold upd; rw [if_pos rfl]
theorem qh {H:Hp} {a b:Addr} {o:HO} (h:b≠a):upd H a o b=H b:=by unfold upd; rw [if_neg h]
theorem zi {H:Hp} {a b:Addr} {o u:HO} (h:H a=some o) (h':H b=some u) (d:o≠u):a≠b:=by
 intro e; subst e; rw [h] at h'; exact d (Option.some.inj h')
theorem qi {H:Hp} {a b:Addr} {o:HO} (h:H a=some o) (h':H b=none):a≠b:=by
 intro e; subst e; rw [h] at h'; cases h'
section
variable (P:Program) (w:World)
def ObjOk (H:Hp) (h:Heap) (a:Addr):HO->Prop
 | .lst xs=>xs.length≤sizeLine∧∃ (its:List Value) (n:Nat),Vals xs its∧h.get? a=some { cls:=.type "list",data:=.seq its.toArray n }
 | .tup xs=>xs.length≤sizeLine∧∃ its:List Value,Vals xs its∧IsTup h a its.toArray
 | .dK kvs=>kvs.length≤sizeLine∧(a == sysModules)=false∧∃ vs,KV kvs vs∧h.DictOf (zg P w) a vs
 | .dT kvs=>kvs.length≤sizeLine∧(a == sysModules)=false∧∃ xs:List (List Key×Addr×Value),
     Paired (fun (p:List Key×V) (q:List Key×Addr×Value)=>p.1=q.1∧H q.2.1=some (.tup (p.1.map kV))∧RelV p.2 q.2.2) kvs xs ∧
     ∃ o es ep,h.get? a=some o∧o.ExactDict∧o.data=.dict es ep∧es.toList=xs.map (entryOfKey (tupleKind (zg P w)))∧(xs.map (·.1)).Nodup
 | .set S n=>h.SetOf (intKind P w) a S n
 | .ins C dx fs=>H dx=some (.own a)∧fs.length≤1000∧dx≠a∧h.get? a=some (PySem.W.instObj C dx) ∧
     ∃ mA,h.Ns1 dx mA∧(∀ f,RelO (fs.lookup f) (mA f))∧PySem.Within mA (fs.map (·.1))
 | .own _=>∃ o,h.get? a=some o
 | .xd fs=>∃ mA,h.Ns1 a mA∧∀ f,RelO (fs.lookup f) (mA f)
 | .rng lo hi=>∃ t u v,h.get? a=some { cls:=.type "range",data:=.fields #[.int lo t,.int hi u,.int 1 v] }
 | .frz o u=>h.get? a=some o∧ObjOk H h a u
 | .tbl ps=>h.get? a=some { cls:=.none,data:=.fields ps }
 | .met f x=>h.get? a=some (PySem.W.methodObj (.ref f) (.ref x))
 | .ext φ=>φ h∧(∃ o,h.get? a=some o)∧∀ h1 h2:Heap,φ h1->(∀ o,h1.get? a=some o->h2.get? a=some o)->φ h2
def HOk (H:Hp) (h:Heap):Prop:=∀ a o,H a=some o->ObjOk P w H h a o
end
section
variable {P:Program} {w:World} {H H':Hp} {h h':Heap} {a:Addr} {o:HO}
theorem ObjOk.lt (x:ObjOk P w H h a o):a < h.objs.size:=by
 cases o with
 | lst xs=>obtain ⟨_,_,_,_,e⟩:=x; exact Heap.lt_size e
 | tup xs=>obtain ⟨_,_,_,p⟩:=x; exact p.lt
 | dK kvs=>obtain ⟨_,_,_,_,o,_,_,e,_⟩:=x; exact Heap.lt_size e
 | dT kvs=>obtain ⟨_,_,_,_,o,_,_,e,_⟩:=x; exact Heap.lt_size e
 | set S n=>obtain ⟨o,_,_,_,e,_⟩:=x; exact Heap.lt_size e
 | ins C dx fs=>obtain ⟨_,_,_,e,_⟩:=x; exact Heap.lt_size e
 | own y=>obtain ⟨_,e⟩:=x; exact Heap.lt_size e
 | xd fs=>obtain ⟨_,⟨_,_,_,e,_⟩,_⟩:=x; exact Heap.lt_size e
 | rng lo hi=>obtain ⟨_,_,_,e⟩:=x; exact Heap.lt_size e
 | frz ob u=>obtain ⟨e,_⟩:=x; exact Heap.lt_size e
 | tbl ps=>exact Heap.lt_size (show h.get? a=some _ from x)
 | met f y=>exact Heap.lt_size (show h.get? a=some _ from x)
 | ext φ=>obtain ⟨_,⟨_,e⟩,_⟩:=x; exact Heap.lt_size e
theorem Paired.mapP {α β:Type} {F G:α->β->Prop}:∀ {l₁:List α} {l₂:List β},Paired F l₁ l₂->(∀ a b,F a b->G a b)->Paired G l₁ l₂
 | _,_,.nil,_=>.nil
 | _,_,.cons r t,f=>.cons (f _ _ r) (Paired.mapP t f)
theorem ObjOk.stay (x:ObjOk P w H h a o) (k:∀ b u,(b=a∨H b=some (.own a))->h.get? b=some u->h'.get? b=some u)
   (ho:∀ b,H b=some (.own a)->H' b=some (.own a)) (ht:∀ b xs,H b=some (.tup xs)->H' b=some (.tup xs)):ObjOk P w H' h' a o:=by
 induction o with
 | lst xs=>obtain ⟨z,its,n,r,e⟩:=x; exact ⟨z,its,n,r,k _ _ (.inl rfl) e⟩
 | tup xs=>obtain ⟨z,its,r,ob,e,c⟩:=x; exact ⟨z,its,r,ob,k _ _ (.inl rfl) e,c⟩
 | dK kvs=>obtain ⟨z,y,vs,r,ob,es,ep,e,c⟩:=x; exact ⟨z,y,vs,r,ob,es,ep,k _ _ (.inl rfl) e,c⟩
 | dT kvs =>
   obtain ⟨z,y,xs,r,ob,es,ep,e,c⟩:=x
   exact ⟨z,y,xs,Paired.mapP r fun p q z=>⟨z.1,ht _ _ z.2.1,z.2.2⟩,ob,es,ep,k _ _ (.inl rfl) e,c⟩
 | set S n=>obtain ⟨ob,es,ep,t,e,c⟩:=x; exact ⟨ob,es,ep,t,k _ _ (.inl rfl) e,c⟩
 | ins C dx fs =>
   obtain ⟨d,z,ne,e,mA,⟨od,es,ep,e2,c⟩,r⟩:=x
   exact ⟨ho _ d,z,ne,k _ _ (.inl rfl) e,mA,⟨od,es,ep,k _ _ (.inr d) e2,c⟩,r⟩
 | own y=>obtain ⟨ob,e⟩:=x; exact ⟨ob,k _ _ (.inl rfl) e⟩
 | xd fs=>obtain ⟨mA,⟨od,es,ep,e,c⟩,r⟩:=x; exact ⟨mA,⟨od,es,ep,k _ _ (.inl rfl) e,c⟩,r⟩
 | rng lo hi=>obtain ⟨t,u,v,e⟩:=x; exact ⟨t,u,v,k _ _ (.inl rfl) e⟩
 | frz ob u ih=>obtain ⟨e,q⟩:=x; exact ⟨k _ _ (.inl rfl) e,ih q⟩
 | tbl ps =>
   have e:h.get? a=some { cls:=.none,data:=.fields ps }:=x
   show h'.get? a=some { cls:=.none,data:=.fields ps }
   exact k a _ (.inl rfl) e
 | met f y =>
   have e:h.get? a=some (PySem.W.methodObj (.ref f) (.ref y)):=x
   show h'.get? a=some (PySem.W.methodObj (.ref f) (.ref y))
   exact k a _ (.inl rfl) e
 | ext φ=>obtain ⟨p,⟨o,e⟩,st⟩:=x; exact ⟨st _ _ p fun o q=>k _ _ (.inl rfl) q,⟨o,k _ _ (.inl rfl) e⟩,st⟩
theorem HOk.lt (x:HOk P w H h) (e:H a=some o):a < h.objs.size:=(x a o e).lt
theorem HOk.fresh (x:HOk P w H h) (e:h.objs.size≤a):H a=none:=by
 cases q:H a with
 | none=>rfl
 | some u=>exact absurd (Nat.lt_of_lt_of_le (x.lt q) e) (Nat.lt_irrefl _)
theorem HOk.kept (x:HOk P w H h) (k:∀ b u,h.get? b=some u->h'.get? b=some u):HOk P w H h':=fun a o e =>
 (x a o e).stay (fun b u _ q=>k b u q) (fun _ q=>q) fun _ _ q=>q
theorem HOk.laid (x:HOk P w H h) (k:∀ b u,h.get? b=some u->h'.get? b=some u) (hp:h.objs.size≤a) (new:ObjOk P w (upd H a o) h' a o):HOk P w (upd H a o) h':=fun b u e=>by
 have hn:=x.fresh hp
 by_cases hb:b=a
 · subst hb; rw [qc] at e; cases e; exact new
 · rw [qh hb] at e
   exact (x b u e).stay (fun c v _ q=>k c v q) (fun c q=>by rw [qh (qi q hn)]; exact q) fun c xs q=>by rw [qh (qi q hn)]; exact q
end
def Rd (H:Hp) (a:Addr) (u:HO):Prop:=H a=some u∨∃ o,H a=some (.frz o u)
theorem Rd.ok {P:Program} {w:World} {H:Hp} {h:Heap} {a:Addr} {u:HO} (r:Rd H a u) (x:HOk P w H h):ObjOk P w H h a u:=by
 rcases r with r | ⟨o,r⟩
 · exact x a u r
 · obtain ⟨_,q⟩:=x a _ r
   exact q
def Mut:Option HO->Prop
 | some (.lst _)=>True
 | some (.dK _)=>True
 | some (.dT _)=>True
 | some (.set _ _)=>True
 | some (.ins _ _ _)=>True
 | some (.ext _)=>True
 | _=>False
section
variable {P:Program} {w:World} {H:Hp} {h h':Heap} {x e:Addr} {o':HO}
theorem HOk.write (ok:HOk P w H h) (mu:Mut (H x)) (he:e=x∨H e=some (.own x)) (k:∀ b u,b≠e->h.get? b=some u->h'.get? b=some u) (heo:∃ u,h'.get? e=some u)
   (new:ObjOk P w (upd H x o') h' x o'):HOk P w (upd H x o') h':=fun b u q=>by
 have nown:∀ c y,H c=some (.own y)->c≠x:=fun c y r z=>by subst z; rw [r] at mu; exact mu
 have ntup:∀ c xs,H c=some (.tup xs)->c≠x:=fun c xs r z=>by subst z; rw [r] at mu; exact mu
 by_cases hb:b=x
 · subst hb; rw [qc] at q; cases q; exact new
 · rw [qh hb] at q
   by_cases hbe:b=e
   · have q':H b=some (.own x):=by
       rcases he with z | z
       · exact absurd (hbe.trans z) hb
       · rw [hbe]; exact z
     rw [q] at q'; cases q'
     obtain ⟨v,hv⟩:=heo
     exact ⟨v,by rw [hbe]; exact hv⟩
   · refine (ok b u q).stay (fun c v hc r=>k c v ?_ r) (fun c r=>by rw [qh (nown c b r)]; exact r) fun c xs r=>by rw [qh (ntup c xs r)]; exact r
     rcases hc with rfl | hc
     · exact hbe
     · rintro rfl
       rcases he with z | z
       · exact nown c b hc z
       · rw [hc] at z; cases z; exact hb rfl
end
structure Un (fs ex:List Addr) (H H':Hp) (h h':Heap):Prop where
 keep:∀ b o,h.get? b=some o->H b=none->b∉fs->b∉ex->h'.get? b=some o
 slot:∀ b o,h.get? b=some o->H b=none->b∈fs->b∉ex->∃ sl,h'.get? b=some { o with slots:=sl }
 free:∀ b o,h.get? b=some o->H b=none->b∉ex->H' b=none
 there:∀ b o,h.get? b=some o->b∉ex->∃ o',h'.get? b=some o'
 tups:∀ b xs,H b=some (.tup xs)->H' b=some (.tup xs)
 frzs:∀ b o u,H b=some (.frz o u)->H' b=some (.frz o u)
 tbls:∀ b ps,H b=some (.tbl ps)->∃ more,H' b=some (.tbl (ps++more))
section
variable {fs fs' ex ex':List Addr} {H H1 H2:Hp} {h h1 h2 h':Heap} {a x e:Addr} {o:HO}
theorem Un.any (u:Un fs ex H H1 h h1) {b:Addr} {ob:Obj} (q:h.get? b=some ob) (n:H b=none) (hx:b∉ex):∃ sl,h1.get? b=some { ob with slots:=sl }:=by
 by_cases hb:b∈fs
 · exact u.slot b ob q n hb hx
 · exact ⟨ob.slots,u.keep b ob q n hb hx⟩
theorem Un.kept (k:∀ b u,h.get? b=some u->h'.get? b=some u):Un fs ex H H h h' :=
 ⟨fun b ob q _ _ _=>k b ob q,fun b ob q _ _ _=>⟨ob.slots,k b ob q⟩,fun _ _ _ n _=>n,fun b ob q _=>⟨ob,k b ob q⟩,fun _ _ q=>q,fun _ _ _ q=>q,fun _ ps q=>⟨#[],by rw [q]; simp⟩⟩
theorem Un.refl:Un fs ex H H h h:=Un.kept fun _ _ q=>q
theorem Un.laid (k:∀ b u,h.get? b=some u->h'.get? b=some u) (hp:h.objs.size≤a) (hn:H a=none):Un fs ex H (upd H a o) h h' where
 keep:=fun b u q _ _ _=>k b u q
 slot:=fun b u q _ _ _=>⟨u.slots,k b u q⟩
 free:=fun b u q n _=>by rw [qh (Nat.ne_of_lt (Nat.lt_of_lt_of_le (Heap.lt_size q) hp))]; exact n
 there:=fun b u q _=>⟨u,k b u q⟩
 tups:=fun b xs q=>by rw [qh (qi q hn)]; exact q
 frzs:=fun b u xs q=>by rw [qh (qi q hn)]; exact q
 tbls:=fun b ps q=>⟨#[],by rw [qh (qi q hn),q]; simp⟩
theorem Un.write (mu:Mut (H x)) (he:e=x∨H e=some (.own x)) (k:∀ b u,b≠e->h.get? b=some u->h'.get? b=some u) (heo:∃ u,h'.get? e=some u):Un fs ex H (upd H x o) h h':=by
 have hx:∀ b,H b=none->b≠x:=fun b n z=>by subst z; rw [n] at mu; exact mu
 have hb:∀ b,H b=none->b≠e:=fun b n z=>by
   subst z
   rcases he with r | r
   · exact hx b n r
   · rw [n] at r; cases r
 have hm:∀ b u,H b=some u->¬ Mut (some u)->b≠x:=fun b u q nm z=>by subst z; rw [q] at mu; exact nm mu
 refine ⟨fun b u q n _ _=>k b u (hb b n) q,fun b u q n _ _=>⟨u.slots,k b u (hb b n) q⟩,fun b u q n _=>by rw [qh (hx b n)]; exact n,fun b u q _=>?_,
   fun b xs q=>by rw [qh (hm b _ q fun z=>z)]; exact q,fun b u xs q=>by rw [qh (hm b _ q fun z=>z)]; exact q,fun b ps q=>⟨#[],by rw [qh (hm b _ q fun z=>z),q]; simp⟩⟩
 by_cases hbe:b=e
 · subst hbe; exact heo
 · exact ⟨u,k b u hbe q⟩
end
def trk (h:Heap) (H:Hp):List Addr:=(List.range h.objs.size).filter fun a=>(H a).isSome
def qhh (h:Heap) (H:Hp):Heap:=PySem.W.hideAll h (trk h H)
theorem qf9 (h:Heap) (H:Hp):(qhh h H).objs.size=h.objs.size:=PySem.W.hideAll_size _ _
theorem qhg {h:Heap} {H:Hp} {b:Addr} {o:Obj} (e:h.get? b=some o) (n:H b=none):(qhh h H).get? b=some o :=
 PySem.W.hideAll_get _ e fun hm=>by
   have q:(H b).isSome=true:=(List.mem_filter.mp hm).2
   rw [n] at q; simp at q
theorem qix {h:Heap} {H:Hp} {b:Addr} {o:Obj} (e:(qhh h H).get? b=some o):h.get? b=some o∧H b=none:=by
 have e':h.get? b=some o:=PySem.W.of_hideAll (trk h H) e
 refine ⟨e',?_⟩
 cases q:H b with
 | none=>rfl
 | some x =>
   have hm:b∈trk h H:=List.mem_filter.mpr ⟨List.mem_range.mpr (Heap.lt_size e'),by simp [q]⟩
   have z:(qhh h H).get? b=none:=PySem.W.hideAll_none (trk h H) hm
   rw [z] at e; cases e
end L2
namespace L2
open PySem PySem.Spec PyProof.Rows
structure Mod (K:PySem.W.Frag) (mg:Str->Option Value) (base:Heap):Prop where
 kin:K.In base
 glob:base.Ns mainGlobals mg
 blt:∃ mb,base.Ns builtinsNs mb∧∀ x:Str,x≠"__name__"->mb x=bootBuiltins x
 nolimit:base.NoLimit
structure Cx where
 prog:Program
 w:World
 K:PySem.W.Frag
 mg:Str->Option Value
 base:Heap
 A:Around
 N:List Str
 s₀:Shared
 H₀:Hp
 env:Env
 outer:List Env
 stack:List Env
 ex:List Addr
 fn:Str->Bool
 calm:Bool
 pn:List (Addr×Obj)
 xe:Value->Shared->Prop
def frs (l:List Env):List Addr:=l.filterMap (·.frame)
abbrev Cx.fs (X:Cx):List Addr:=frs X.outer
def Vis (sc:Scope) (x:Str):Prop:=sc.names.lookup x=some .local∨sc.names.lookup x=some .cell∨sc.names.lookup x=some .free
def Loc (sc:Scope) (x:Str):Prop:=sc.names.lookup x=some .local∨sc.names.lookup x=some .cell
def qll (env:Env) (h:Heap) (m:Str->Option Value) (x:Str) (u:Value):Prop :=
 (env.kindOf x=some .local∧m x=some u)∨((env.kindOf x=some .cell∨env.kindOf x=some .free)∧∃ c,env.cells.lookup x=some c∧h.IsCell c (some u))
structure Cx.Ok (X:Cx):Prop where
 mod:Mod X.K X.mg X.base
 kind:X.env.scope.kind=.function
 glob:X.env.globals=mainGlobals
 blt:X.env.builtins=builtinsNs
 above:X.s₀.heap.objs.size≤X.env.locals
 inj:∀ x y c,X.env.cells.lookup x=some c->X.env.cells.lookup y=some c->x=y
 has:∀ x,(X.env.kindOf x=some .cell∨X.env.kindOf x=some .free)->∃ c,X.env.cells.lookup x=some c
 cab:∀ x c,X.fn x=true->X.env.cells.lookup x=some c->X.s₀.heap.objs.size≤c
 hd:X.calm=true->X.A.handled=none
 frames:X.A.frames=some X.stack
 stk:X.stack=X.outer∨(X.stack=X.env::X.outer∧X.env.frame=some X.env.locals)
 exf:∀ b∈X.ex,b≠X.env.locals∧∀ x c,X.env.cells.lookup x=some c->c≠b
 bs:∀ b o,X.base.get? b=some o->X.s₀.heap.get? b=some o∧X.H₀ b=none
 bsz:X.base.objs.size≤X.s₀.heap.objs.size
 noex:∀ b o,X.base.get? b=some o->b∉X.ex
 exfs:∀ b∈X.ex,b∉X.fs
 funs:X.s₀.heap.FunFrames X.base X.outer
 frf:∀ b∈X.fs,X.H₀ b=none
structure Inv (X:Cx) (pins:List (Addr×Obj)) (σ:List (Option V)) (H:Hp) (s:Shared):Prop where
 ok:X.Ok
 os:s.os=X.s₀.os
 bare:AllBare s.gens
 base:Un X.fs X.ex X.H₀ H X.s₀.heap s.heap
 loc:∃ m,s.heap.Ns X.env.locals m∧∀ (i:Nat) (x:Str) (v:V),X.N[i]?=some x->σ[i]?=some (some v)->Vis X.env.scope x->∃ u,RelV v u∧qll X.env s.heap m x u
 cell:∀ x c,X.env.cells.lookup x=some c->∃ v,s.heap.IsCell c v
 free:H X.env.locals=none
 freeC:∀ x c,X.env.cells.lookup x=some c->H c=none
 pin:∀ p∈X.pn++pins,s.heap.get? p.1=some p.2∧H p.1=none∧p.1≠X.env.locals∧p.1∉X.fs∧∀ v,p.2.data≠.cell v
 hok:HOk X.prog X.w H s.heap
 len:σ.length=X.N.length
section
variable {X:Cx} {pins:List (Addr×Obj)} {σ:List (Option V)} {H H':Hp} {s:Shared} {h':Heap}
theorem Cx.Ok.nofr (ok:X.Ok) {b:Addr} {o:Obj} (e:X.base.get? b=some o):b∉X.fs:=fun hb=>by
 have:=(ok.funs.mem hb).1
 rw [e] at this; cases this
theorem Inv.bs (I:Inv X pins σ H s):∀ b o,X.base.get? b=some o->s.heap.get? b=some o∧H b=none:=fun b o e =>
 ⟨I.base.keep b o (I.ok.bs b o e).1 (I.ok.bs b o e).2 (I.ok.nofr e) (I.ok.noex b o e),I.base.free b o (I.ok.bs b o e).1 (I.ok.bs b o e).2 (I.ok.noex b o e)⟩
theorem Inv.bk (I:Inv X pins σ H s):∀ b o,X.base.get? b=some o->s.heap.get? b=some o:=fun b o e=>(I.bs b o e).1
theorem Inv.mod (I:Inv X pins σ H s):Mod X.K X.mg X.base:=I.ok.mod
theorem Inv.kIn (I:Inv X pins σ H s):X.K.In s.heap:=I.ok.mod.kin.keeps I.bk
theorem Inv.fr (I:Inv X pins σ H s):∃ m,Fr X.base X.env.locals s.heap m :=
 let ⟨m,hn,_⟩:=I.loc
 ⟨m,hn,I.bk,Nat.le_trans I.ok.bsz I.ok.above⟩
theorem Inv.lt (I:Inv X pins σ H s):X.env.locals < s.heap.objs.size:=let ⟨_,hn,_⟩:=I.loc; hn.lt
theorem Inv.sz (I:Inv X pins σ H s):X.s₀.heap.objs.size≤s.heap.objs.size:=Nat.le_trans I.ok.above (Nat.le_of_lt I.lt)
theorem Inv.nofs (I:Inv X pins σ H s) {a:Addr} (h:s.heap.objs.size≤a):a∉X.fs:=fun hb=>by
 obtain ⟨_,o,ho,_⟩:=I.ok.funs.mem hb
 exact absurd (Nat.lt_of_lt_of_le (Heap.lt_size ho) (Nat.le_trans I.sz h)) (Nat.lt_irrefl _)
theorem Inv.cne (I:Inv X pins σ H s):∀ x c,X.env.cells.lookup x=some c->c≠X.env.locals:=fun x c e z=>by
 obtain ⟨v,o,ho,hd⟩:=I.cell x c e
 obtain ⟨m,⟨o',es,ep,ho',hd',_⟩,_⟩:=I.loc
 rw [z,ho'] at ho; cases ho; rw [hd'] at hd; cases hd
theorem Inv.funs (I:Inv X pins σ H s):s.heap.FunFrames X.base X.outer:=by
 have all:∀ (l:List Env),(∀ b∈frs l,b∈X.fs)->X.s₀.heap.FunFrames X.base l->s.heap.FunFrames X.base l:=by
   intro l
   induction l with
   | nil=>intro _ _; trivial
   | cons env r ih =>
     intro hs hl
     obtain ⟨hk,⟨L,o,hf,hn,ho,hd⟩,hr⟩:=hl
     have hL:L∈X.fs:=hs L (by unfold frs; rw [List.filterMap_cons,hf]; exact List.mem_cons_self)
     obtain ⟨sl,e⟩:=I.base.slot L o ho (I.ok.frf L hL) hL fun z=>I.ok.exfs L z hL
     exact ⟨hk,⟨L,_,hf,hn,e,hd⟩,ih (fun b hb=>hs b (by unfold frs; rw [List.filterMap_cons,hf]; exact List.mem_cons_of_mem _ hb)) hr⟩
 exact all X.outer (fun _ hb=>hb) I.ok.funs
theorem Inv.stack (I:Inv X pins σ H s):s.heap.FunFrames X.base X.stack:=by
 rcases I.ok.stk with e | ⟨e,hf⟩
 · rw [e]; exact I.funs
 · rw [e]
   obtain ⟨m,hn,_⟩:=I.loc
   refine .cons (by rw [I.ok.kind]; decide) hf hn ?_ I.funs
   exact Heap.get?_none_of_le (Nat.le_trans I.ok.bsz I.ok.above)
theorem Inv.stkSub (I:Inv X pins σ H s):∀ b∈frs X.stack,b∈X.env.locals::X.fs:=fun b hb=>by
 rcases I.ok.stk with e | ⟨e,hf⟩
 · rw [e] at hb; exact List.mem_cons_of_mem _ hb
 · rw [e] at hb
   unfold frs at hb
   rw [List.filterMap_cons,hf] at hb
   exact hb
theorem Inv.stkFree (I:Inv X pins σ H s):∀ b∈frs X.stack,H b=none:=fun b hb=>by
 rcases List.mem_cons.mp (I.stkSub b hb) with e | hb
 · rw [e]; exact I.free
 · obtain ⟨_,o,ho,_⟩:=I.ok.funs.mem hb
   exact I.base.free b o ho (I.ok.frf b hb) fun z=>I.ok.exfs b z hb
theorem Inv.step {g':Array GenState} {t':Nat} {d':Drawn} {ch:List Addr} (I:Inv X pins σ H s)
   (hch:∀ b∈ch,(b∈X.ex∨X.s₀.heap.objs.size≤b)∧b≠X.env.locals∧(∀ x c,X.env.cells.lookup x=some c->c≠b)∧∀ p∈X.pn++pins,p.1≠b)
   (keep:∀ b o,b≠X.env.locals->b∉X.fs->b∉ch->s.heap.get? b=some o->H b=none->h'.get? b=some o)
   (slot:∀ b o,b≠X.env.locals->b∈X.fs->b∉ch->s.heap.get? b=some o->H b=none->∃ sl,h'.get? b=some { o with slots:=sl }) (free:∀ b o,b∉ch->s.heap.get? b=some o->H b=none->H' b=none)
   (there:∀ b o,b∉ch->s.heap.get? b=some o->∃ o',h'.get? b=some o')
   (tups:∀ b xs,H b=some (.tup xs)->H' b=some (.tup xs)) (frzs:∀ b o u,H b=some (.frz o u)->H' b=some (.frz o u)) (tbls:∀ b ps,H b=some (.tbl ps)->∃ more,H' b=some (.tbl (ps++more)))
   (ns:∀ m,s.heap.Ns X.env.locals m->h'.Ns X.env.locals m) (hok:HOk X.prog X.w H' h') (hg:AllBare g') :
   Inv X pins σ H' { s with heap:=h',gens:=g',drawn:=d',toks:=t' }:=by
 have neL:∀ b o,X.s₀.heap.get? b=some o->b≠X.env.locals:=fun b o e=>Nat.ne_of_lt (Nat.lt_of_lt_of_le (Heap.lt_size e) I.ok.above)
 have neC:∀ b o,X.s₀.heap.get? b=some o->b∉X.ex->b∉ch:=fun b o e hx hb=>by
   rcases (hch b hb).1 with z | z
   · exact hx z
   · exact absurd (Nat.lt_of_lt_of_le (Heap.lt_size e) z) (Nat.lt_irrefl _)
 have cellK:∀ x c,X.env.cells.lookup x=some c->∀ v,s.heap.IsCell c v->h'.IsCell c v:=fun x c e v ⟨o,ho,hd⟩=>by
   have nch:c∉ch:=fun z=>(hch c z).2.2.1 x c e rfl
   by_cases hc:c∈X.fs
   · obtain ⟨sl,q⟩:=slot c o (I.cne x c e) hc nch ho (I.freeC x c e)
     exact ⟨_,q,hd⟩
   · exact ⟨o,keep c o (I.cne x c e) hc nch ho (I.freeC x c e),hd⟩
 refine ⟨I.ok,I.os,hg,⟨fun b o e n hb hx=>?_,fun b o e n hb hx=>?_,fun b o e n hx=>?_,fun b o e hx=>?_,fun b xs e=>tups b xs (I.base.tups b xs e),fun b o xs e=>frzs b o xs (I.base.frzs b o xs e),fun b ps e=>?_⟩,?_,fun x c e=>?_,?_,fun x c e=>?_,fun p hp=>?_,hok,I.len⟩
 · exact keep b o (neL b o e) hb (neC b o e hx) (I.base.keep b o e n hb hx) (I.base.free b o e n hx)
 · obtain ⟨sl,e1⟩:=I.base.slot b o e n hb hx
   obtain ⟨sl',e2⟩:=slot b _ (neL b o e) hb (neC b o e hx) e1 (I.base.free b o e n hx)
   exact ⟨sl',e2⟩
 · obtain ⟨o',e1⟩:=I.base.there b o e hx
   exact free b o' (neC b o e hx) e1 (I.base.free b o e n hx)
 · obtain ⟨o',e1⟩:=I.base.there b o e hx
   exact there b o' (neC b o e hx) e1
 · obtain ⟨m1,e1⟩:=I.base.tbls b ps e
   obtain ⟨m2,e2⟩:=tbls b _ e1
   exact ⟨m1++m2,by rw [e2,Array.append_assoc]⟩
 · obtain ⟨m,hn,hl⟩:=I.loc
   refine ⟨m,ns m hn,fun i x v e1 e2 e3=>?_⟩
   obtain ⟨u,r,l⟩:=hl i x v e1 e2 e3
   refine ⟨u,r,?_⟩
   rcases l with l | ⟨k,c,e,z⟩
   · exact .inl l
   · exact .inr ⟨k,c,e,cellK x c e _ z⟩
 · obtain ⟨v,z⟩:=I.cell x c e
   exact ⟨v,cellK x c e v z⟩
 · obtain ⟨m,⟨o,_,_,ho,_⟩,_⟩:=I.loc
   exact free _ o (fun z=>(hch _ z).2.1 rfl) ho I.free
 · obtain ⟨v,o,ho,hd⟩:=I.cell x c e
   exact free c o (fun z=>(hch c z).2.2.1 x c e rfl) ho (I.freeC x c e)
 · obtain ⟨e,n,ne,nf,d⟩:=I.pin p hp
   have nch:p.1∉ch:=fun z=>(hch p.1 z).2.2.2 p hp rfl
   exact ⟨keep p.1 p.2 ne nf nch e n,free p.1 p.2 nch e n,ne,nf,d⟩
theorem Inv.un {t':Nat} (I:Inv X pins σ H s) (u:Un X.fs [] H H' s.heap h') (hok:HOk X.prog X.w H' h'):Inv X pins σ H' { s with heap:=h',toks:=t' }:=by
 obtain ⟨m,⟨o,es,ep,ho,r⟩,_⟩:=id I.loc
 obtain ⟨sl,hL⟩:=u.any ho I.free (by simp)
 exact I.step (g':=s.gens) (d':=s.drawn) (ch:=[]) (fun _ z=>nomatch z) (fun b o _ hb _ e n=>u.keep b o e n hb (by simp)) (fun b o _ hb _ e n=>u.slot b o e n hb (by simp)) (fun b o _ e n=>u.free b o e n (by simp)) (fun b o _ e=>u.there b o e (by simp)) u.tups u.frzs u.tbls (fun m' hm=>by
   obtain ⟨o',es',ep',ho',r'⟩:=hm
   rw [ho] at ho'; cases ho'
   exact ⟨_,es',ep',hL,r'⟩) hok I.bare
theorem Inv.call {g':Array GenState} {t':Nat} {d':Drawn} {ch:List Addr} (I:Inv X pins σ H s) (u:Un (frs X.stack) ch H H' s.heap h') (hok:HOk X.prog X.w H' h') (hg:AllBare g')
   (hch:∀ b∈ch,(b∈X.ex∨X.s₀.heap.objs.size≤b)∧b≠X.env.locals∧(∀ x c,X.env.cells.lookup x=some c->c≠b)∧∀ p∈X.pn++pins,p.1≠b) :
   Inv X pins σ H' { s with heap:=h',gens:=g',drawn:=d',toks:=t' }:=by
 obtain ⟨m,⟨o,es,ep,ho,r⟩,_⟩:=id I.loc
 obtain ⟨sl,hL⟩:=u.any ho I.free fun z=>(hch _ z).2.1 rfl
 exact I.step (ch:=ch) hch (fun b o hL hb hc e n=>u.keep b o e n (fun z=>(List.mem_cons.mp (I.stkSub b z)).elim hL hb) hc) (fun b o _ _ hc e n=>u.any e n hc) (fun b o hc e n=>u.free b o e n hc) (fun b o hc e=>u.there b o e hc) u.tups u.frzs u.tbls (fun m' hm=>by
   obtain ⟨o',es',ep',ho',r'⟩:=hm
   rw [ho] at ho'; cases ho'
   exact ⟨_,es',ep',hL,r'⟩) hok hg
theorem Inv.turned {t':Nat} {it:Addr} (I:Inv X pins σ H s) (k:∀ b o,b≠it->s.heap.get? b=some o->h'.get? b=some o) (hn:H it=none) (hL:it≠X.env.locals)
   (h1:it∈X.ex∨X.s₀.heap.objs.size≤it) (h2:∀ x c,X.env.cells.lookup x=some c->c≠it) (h3:∀ p∈X.pn++pins,p.1≠it):Inv X pins σ H { s with heap:=h',toks:=t' }:=by
 have nit:∀ b u,H b=some u->b≠it:=fun b u e z=>by rw [z,hn] at e; cases e
 refine I.step (g':=s.gens) (d':=s.drawn) (ch:=[it]) (fun b hb=>?_) (fun b o _ _ hc e _=>k b o (fun z=>hc (by simp [z])) e) (fun b o _ _ hc e _=>⟨o.slots,k b o (fun z=>hc (by simp [z])) e⟩) (fun _ _ _ _ n=>n)
   (fun b o hc e=>⟨o,k b o (fun z=>hc (by simp [z])) e⟩) (fun _ _ e=>e) (fun _ _ _ e=>e) (fun b ps e=>⟨#[],by rw [e]; simp⟩) (fun m hm=>?_) (fun b u e=>?_) I.bare
 · have e:b=it:=by simpa using hb
   subst e
   exact ⟨h1,hL,h2,h3⟩
 · obtain ⟨o,es,ep,ho,r⟩:=hm
   exact ⟨o,es,ep,k _ o (Ne.symm hL) ho,r⟩
 · refine (I.hok b u e).stay (fun c v hc q=>k c v ?_ q) (fun _ q=>q) fun _ _ q=>q
   rcases hc with z | z
   · rw [z]; exact nit b u e
   · exact nit c _ z
theorem Inv.tok (I:Inv X pins σ H s) (t:Nat):Inv X pins σ H { s with toks:=t }:=I.un (h':=s.heap) (t':=t) Un.refl I.hok
theorem Inv.kept {t':Nat} (I:Inv X pins σ H s) (k:∀ b u,s.heap.get? b=some u->h'.get? b=some u):Inv X pins σ H { s with heap:=h',toks:=t' }:=I.un (Un.kept k) (I.hok.kept k)
theorem Inv.laid {a:Addr} {o:HO} {t':Nat} (I:Inv X pins σ H s) (k:∀ b u,s.heap.get? b=some u->h'.get? b=some u) (hp:s.heap.objs.size≤a) (new:ObjOk X.prog X.w (upd H a o) h' a o) :
   Inv X pins σ (upd H a o) { s with heap:=h',toks:=t' }:=I.un (Un.laid k hp (I.hok.fresh hp)) (I.hok.laid k hp new)
theorem Inv.write {x e:Addr} {o:HO} {t':Nat} (I:Inv X pins σ H s) (mu:Mut (H x)) (he:e=x∨H e=some (.own x)) (k:∀ b u,b≠e->s.heap.get? b=some u->h'.get? b=some u) (heo:∃ u,h'.get? e=some u)
   (new:ObjOk X.prog X.w (upd H x o) h' x o):Inv X pins σ (upd H x o) { s with heap:=h',toks:=t' }:=I.un (Un.write mu he k heo) (I.hok.write mu he k heo new)
theorem Inv.pins_of {pins':List (Addr×Obj)} (I:Inv X pins σ H s) (h:∀ p∈pins',s.heap.get? p.1=some p.2∧H p.1=none∧p.1≠X.env.locals∧p.1∉X.fs∧∀ v,p.2.data≠.cell v):Inv X pins' σ H s :=
 ⟨I.ok,I.os,I.bare,I.base,I.loc,I.cell,I.free,I.freeC,fun p hp=>(List.mem_append.mp hp).elim (fun z=>I.pin p (List.mem_append_left _ z)) (h p),I.hok,I.len⟩
theorem qcd {N:List Str} (hN:N.Nodup) {i j:Nat} {x:Str} (a:N[i]?=some x) (b:N[j]?=some x):i=j:=by
 obtain ⟨h1,e1⟩:=List.getElem?_eq_some_iff.mp a
 obtain ⟨h2,e2⟩:=List.getElem?_eq_some_iff.mp b
 exact (List.getElem_inj hN).mp (e1.trans e2.symm)
theorem qfd {M:Model} {A:Around} {E:Value->Shared->Prop} {i:Nat} {x:Str} {v:V} {u:Value} {Q:Unit->Shared->Prop} (I:Inv X pins σ H s) (hN:X.N.Nodup) (hi:X.N[i]?=some x) (hx:Loc X.env.scope x) (r:RelV v u)
   (h:∀ s',Inv X pins (σ.set i (some v)) H s'->(∃ a,Heap.SameBut a s.heap s'.heap∧(a=X.env.locals∨X.env.cells.lookup x=some a))->Q () s') (hf:X.fn x=true∨X.env.scope.names.lookup x=some .local:=by first | exact .inl rfl | exact .inr rfl | assumption):wpAny M A (storeName X.env x u) Q E s:=by
 obtain ⟨m,hn,hl⟩:=id I.loc
 have hcls:(X.env.scope.kind == .class || (X.env.scope.kind == .module && X.env.locals != X.env.globals))=false:=by rw [I.ok.kind]; rfl
 have hiσ:i < σ.length:=by rw [I.len]; exact (List.getElem?_eq_some_iff.mp hi).1
 have cne:=I.cne
 have tracked:∀ {a:Addr} {h':Heap},(∃ o,s.heap.get? a=some o∧H a=none)->Heap.SameBut a s.heap h'->HOk X.prog X.w H h':=fun {a h'} ha hs b ob e=>by
   obtain ⟨_,_,hfree⟩:=ha
   refine (I.hok b ob e).stay (fun c w' hc q=>(hs.2 c ?_).trans q) (fun _ q=>q) fun _ _ q=>q
   rintro rfl
   rcases hc with rfl | hc
   · rw [hfree] at e; cases e
   · rw [hfree] at hc; cases hc
 rcases hx with hk | hk
 · refine wpAny_storeName_local hk hn (fun h' hn' hs=>?_) hcls
   obtain ⟨oL,_,_,hoL,_⟩:=id hn
   refine h _ ⟨I.ok,I.os,I.bare,⟨fun b o e n hb hx=>?_,fun b o e n hb hx=>?_,I.base.free,fun b o e hx=>?_,I.base.tups,I.base.frzs,I.base.tbls⟩,⟨_,hn',fun j y v' e1 e2 e3=>?_⟩,fun y c e=>?_,I.free,I.freeC,fun p hp=>?_,tracked ⟨oL,hoL,I.free⟩ hs,by simpa using I.len⟩ ⟨_,hs,.inl rfl⟩
   · exact (hs.2 b (Nat.ne_of_lt (Nat.lt_of_lt_of_le (Heap.lt_size e) I.ok.above))).trans (I.base.keep b o e n hb hx)
   · obtain ⟨sl,e1⟩:=I.base.slot b o e n hb hx
     exact ⟨sl,(hs.2 b (Nat.ne_of_lt (Nat.lt_of_lt_of_le (Heap.lt_size e) I.ok.above))).trans e1⟩
   · obtain ⟨o',e1⟩:=I.base.there b o e hx
     exact ⟨o',(hs.2 b (Nat.ne_of_lt (Nat.lt_of_lt_of_le (Heap.lt_size e) I.ok.above))).trans e1⟩
   · by_cases hj:j=i
     · subst hj
       rw [hi] at e1; cases e1
       rw [List.getElem?_set_self hiσ] at e2
       cases e2
       exact ⟨u,r,.inl ⟨hk,by simp⟩⟩
     · rw [List.getElem?_set_ne (Ne.symm hj)] at e2
       obtain ⟨u',r',q⟩:=hl j y v' e1 e2 e3
       refine ⟨u',r',?_⟩
       rcases q with ⟨k,e⟩ | ⟨k,c,e,z⟩
       · refine .inl ⟨k,?_⟩
         have:y≠x:=fun e=>hj (qcd hN e1 (e▸hi))
         simp [this,e]
       · exact .inr ⟨k,c,e,z.sameBut hs (cne y c e)⟩
   · obtain ⟨w',z⟩:=I.cell y c e
     exact ⟨w',z.sameBut hs (cne y c e)⟩
   · obtain ⟨e,n,ne,nf,d⟩:=I.pin p hp
     exact ⟨(hs.2 p.1 ne).trans e,n,ne,nf,d⟩
 · have hfn:X.fn x=true:=by
     rcases hf with z | z
     · exact z
     · rw [z] at hk; cases hk
   obtain ⟨c,hc⟩:=I.ok.has x (.inl hk)
   obtain ⟨w',z⟩:=I.cell x c hc
   refine wpAny_storeName_cell I.ok.kind hk hc z (fun h' hc' hs=>?_)
   obtain ⟨oc,hoc,hocd⟩:=id z
   refine h { s with heap:=h' } ⟨I.ok,I.os,I.bare,⟨fun b o e n hb hx=>?_,fun b o e n hb hx=>?_,I.base.free,fun b o e hx=>?_,I.base.tups,I.base.frzs,I.base.tbls⟩,⟨m,hn.sameBut hs (Ne.symm (cne x c hc)),fun j y v' e1 e2 e3=>?_⟩,fun y c' e=>?_,I.free,I.freeC,fun p hp=>?_,tracked ⟨oc,hoc,I.freeC x c hc⟩ hs,by simpa using I.len⟩ ⟨c,hs,.inr hc⟩
   · exact (hs.2 b (Nat.ne_of_lt (Nat.lt_of_lt_of_le (Heap.lt_size e) (I.ok.cab x c hfn hc)))).trans (I.base.keep b o e n hb hx)
   · obtain ⟨sl,e1⟩:=I.base.slot b o e n hb hx
     exact ⟨sl,(hs.2 b (Nat.ne_of_lt (Nat.lt_of_lt_of_le (Heap.lt_size e) (I.ok.cab x c hfn hc)))).trans e1⟩
   · obtain ⟨o',e1⟩:=I.base.there b o e hx
     exact ⟨o',(hs.2 b (Nat.ne_of_lt (Nat.lt_of_lt_of_le (Heap.lt_size e) (I.ok.cab x c hfn hc)))).trans e1⟩
   · by_cases hj:j=i
     · subst hj
       rw [hi] at e1; cases e1
       rw [List.getElem?_set_self hiσ] at e2
       cases e2
       exact ⟨u,r,.inr ⟨.inl hk,c,hc,hc'⟩⟩
     · rw [List.getElem?_set_ne (Ne.symm hj)] at e2
       obtain ⟨u',r',q⟩:=hl j y v' e1 e2 e3
       refine ⟨u',r',?_⟩
       rcases q with q | ⟨k,c',e,z'⟩
       · exact .inl q
       · refine .inr ⟨k,c',e,z'.sameBut hs ?_⟩
         rintro rfl
         exact hj (qcd hN e1 (I.ok.inj _ _ _ e hc▸hi))
   · by_cases hcc:c'=c
     · subst hcc; exact ⟨_,hc'⟩
     · obtain ⟨w2,z2⟩:=I.cell y c' e
       exact ⟨w2,z2.sameBut hs hcc⟩
   · obtain ⟨e,n,ne,nf,d⟩:=I.pin p hp
     refine ⟨(hs.2 p.1 ?_).trans e,n,ne,nf,d⟩
     intro q
     rw [q,hoc] at e
     have q':oc=p.2:=Option.some.inj e
     exact d w' (by rw [← q']; exact hocd)
theorem qao {M:Model} {A:Around} {E:Value->Shared->Prop} {i:Nat} {x:Str} {v:V} {u:Value} {Q:Unit->Shared->Prop} (I:Inv X pins σ H s) (hN:X.N.Nodup) (hi:X.N[i]?=some x) (hx:Loc X.env.scope x) (r:RelV v u)
   (h:∀ s',Inv X pins (σ.set i (some v)) H s'->Q () s') (hf:X.fn x=true∨X.env.scope.names.lookup x=some .local:=by first | exact .inl rfl | exact .inr rfl | assumption):wpAny M A (storeName X.env x u) Q E s :=
 qfd I hN hi hx r (fun s' I' _=>h s' I') hf
theorem Inv.call' {s':Shared} {ch:List Addr} (I:Inv X pins σ H s) (ho:s'.os=s.os) (u:Un (frs X.stack) ch H H' s.heap s'.heap) (hok:HOk X.prog X.w H' s'.heap) (hg:AllBare s'.gens)
   (hch:∀ b∈ch,(b∈X.ex∨X.s₀.heap.objs.size≤b)∧b≠X.env.locals∧(∀ x c,X.env.cells.lookup x=some c->c≠b)∧∀ p∈X.pn++pins,p.1≠b):Inv X pins σ H' s':=by
 obtain ⟨h',g',d',t',o'⟩:=s'
 have e:o'=s.os:=ho
 subst e
 exact I.call (g':=g') (t':=t') (d':=d') u hok hg hch
end
abbrev XK:=Value->Option Addr->Hp->Prop
abbrev St:=List (Option V)
abbrev VK:=V->Hp->Prop
abbrev TE:=St->Hp->VK->Prop
abbrev TT:=St->Hp->(Bool->Hp->Prop)->Prop
abbrev TA:=St->Hp->(List V->Hp->Prop)->Prop
structure qeW where
 nx:St->Hp->Prop
 rt:VK
 bk:St->Hp->Prop:=fun _ _=>False
 ct:St->Hp->Prop:=fun _ _=>False
abbrev TS:=qeW->St->Hp->Prop
inductive qkZ (X:Cx) (pins:List (Addr×Obj)) (σ:St) (Q:VK) (u:Value) (s':Shared):Prop
 | mk (v H':_) (h1:Inv X pins σ H' s') (h2:RelV v u) (h3:Q v H'):qkZ X pins σ Q u s'
def EP (X:Cx) (pins:List (Addr×Obj)) (σ:St) (Q:VK) (u:Value) (s':Shared):Prop:=qkZ X pins σ Q u s'
def TP (X:Cx) (pins:List (Addr×Obj)) (σ:St) (Q:Bool->Hp->Prop) (b:Bool) (s':Shared):Prop:=∃ H',Inv X pins σ H' s'∧Q b H'
inductive qk0 (X:Cx) (pins:List (Addr×Obj)) (σ:St) (Q:List V->Hp->Prop) (us:List Value) (s':Shared):Prop
 | mk (vs H':_) (h1:Inv X pins σ H' s') (h2:Vals vs us) (h3:Q vs H'):qk0 X pins σ Q us s'
def AP (X:Cx) (pins:List (Addr×Obj)) (σ:St) (Q:List V->Hp->Prop) (us:List Value) (s':Shared):Prop:=qk0 X pins σ Q us s'
def SP (X:Cx) (pins:List (Addr×Obj)) (D:qeW) (f:Flow) (s':Shared):Prop :=
 match f with
 | .next=>∃ σ' H',Inv X pins σ' H' s'∧D.nx σ' H'
 | .brk=>∃ σ' H',Inv X pins σ' H' s'∧D.bk σ' H'
 | .cont=>∃ σ' H',Inv X pins σ' H' s'∧D.ct σ' H'
 | .ret u=>∃ v σ' H',Inv X pins σ' H' s'∧RelV v u∧D.rt v H'
def PE (X:Cx) (e:Expr) (t:TE):Prop :=
 ∀ (pins:List (Addr×Obj)) (s:Shared) (σ:St) (H:Hp) (Q:VK),Inv X pins σ H s->t σ H Q->wpAny (model X.prog X.w) X.A (eval e X.env) (EP X pins σ Q) X.xe s
def PT (X:Cx) (e:Expr) (t:TT):Prop :=
 ∀ (pins:List (Addr×Obj)) (s:Shared) (σ:St) (H:Hp) (Q:Bool->Hp->Prop),Inv X pins σ H s->t σ H Q->wpAny (model X.prog X.w) X.A (isTrue e X.env (eval e X.env)) (TP X pins σ Q) X.xe s
def PW (X:Cx) (e:Expr) (t:TT):Prop :=
 ∀ (whole:Sem Value) (pins:List (Addr×Obj)) (s:Shared) (σ:St) (H:Hp) (Q:Bool->Hp->Prop),Inv X pins σ H s->t σ H Q->wpAny (model X.prog X.w) X.A (isTrue e X.env whole) (TP X pins σ Q) X.xe s
theorem PW.pt {X:Cx} {e:Expr} {t:TT} (h:PW X e t):PT X e t:=h _
def PA (X:Cx) (es:List Expr) (t:TA):Prop :=
 ∀ (pos:Pos) (pins:List (Addr×Obj)) (s:Shared) (σ:St) (H:Hp) (Q:List V->Hp->Prop),Inv X pins σ H s->t σ H Q->wpAny (model X.prog X.w) X.A (spliced (backTo pos (starEach es X.env))) (AP X pins σ Q) X.xe s
def PS (X:Cx) (st:Stmt) (t:TS):Prop :=
 ∀ (pins:List (Addr×Obj)) (s:Shared) (σ:St) (H:Hp) (D:qeW),Inv X pins σ H s->t D σ H->wpAny (model X.prog X.w) X.A (exec st X.env) (SP X pins D) X.xe s
def PSs (X:Cx) (st:List Stmt) (t:TS):Prop :=
 ∀ (pins:List (Addr×Obj)) (s:Shared) (σ:St) (H:Hp) (D:qeW),Inv X pins σ H s->t D σ H->wpAny (model X.prog X.w) X.A (execs st X.env) (SP X pins D) X.xe s
theorem thn {α:Type} {t:Sem α} {Q Q':α->Shared->Prop} {M:Model} {A:Around} {E:Value->Shared->Prop} {s:Shared} (h:wpAny M A t Q E s) (hQ:∀ a s,Q a s->Q' a s):wpAny M A t Q' E s:=wpAny_mono h hQ fun _ _ x=>x
end L2
namespace L2
open PySem PySem.Spec PyProof.Rows
section
variable {X:Cx}
inductive qhy (i:Nat) (σ:St) (H:Hp) (Q:VK):Prop
 | mk (v:_) (h1:σ[i]?=some (some v)) (h2:Q v H):qhy i σ H Q
def qi0 (i:Nat):TE:=fun σ H Q=>qhy i σ H Q
def tC (v:V):TE:=fun _ H Q=>Q v H
theorem qjo {i:Nat} {x:Str} {pos:Pos} (hN:X.N[i]?=some x) (hv:Vis X.env.scope x) (hd:(x == ("__debug__":Str))=false:=by decide) (hcd:(x == ("__classdict__":Str))=false:=by decide):PE X (.Name x pos) (qi0 i):=by
 intro pins s σ H Q I h
 obtain ⟨v,e,h⟩:=h
 obtain ⟨m,hn,hl⟩:=I.loc
 obtain ⟨u,r,l⟩:=hl i x v hN e hv
 have fin:EP X pins σ Q u s:=⟨v,H,I,r,h⟩
 rcases l with ⟨hk,hm⟩ | ⟨hk,c,hc,hcell⟩
 · exact wpAny_Name (wpAny_loadName_local I.ok.kind hk hn hm fin) hd
 · rcases hk with hk | hk
   · exact wpAny_Name (wpAny_loadName_cell I.ok.kind hk hc hcell fin) hd
   · exact wpAny_Name (wpAny_loadName_free I.ok.kind hk hc hcell fin hcd) hd
theorem qe {i j pos}:PE X (.Constant (.int i) j pos) (tC (.int i)):=fun _ _ _ H _ I h=>wpAny_Constant_int ⟨.int i,H,I.tok _,⟨_,rfl⟩,h⟩
theorem qaM {b j pos}:PE X (.Constant (.bool b) j pos) (tC (.bl b)):=fun _ _ _ H _ I h=>Constant_bool ⟨.bl b,H,I,rfl,h⟩
theorem qz {x j pos}:PE X (.Constant (.str x) j pos) (tC (.str x)):=fun _ _ _ H _ I h=>Calls.Constant_str ⟨.str x,H,I.tok _,⟨_,rfl⟩,h⟩
def Gl (X:Cx) (x:Str):Prop:=X.env.kindOf x=some .globalImplicit
theorem jU {E:Value->Shared->Prop} {pins:List (Addr×Obj)} {s:Shared} {σ:St} {H:Hp} {x:Str} {u:Value} {pos:Pos} {Q:Value->Shared->Prop} (I:Inv X pins σ H s) (hg:Gl X x) (hm:X.mg x=some u) (h:Q u s)
   (hd:(x == ("__debug__":Str))=false:=by decide):wpAny (model X.prog X.w) X.A (eval (.Name x pos) X.env) Q E s :=
 Calls.Name_function_global I.ok.kind hg (Calls.loadGlobal_global (by rw [I.ok.glob]; exact I.mod.glob.keeps I.bk) hm h) hd
theorem qac {E:Value->Shared->Prop} {pins:List (Addr×Obj)} {s:Shared} {σ:St} {H:Hp} {x:Str} {u:Value} {pos:Pos} {Q:Value->Shared->Prop} (I:Inv X pins σ H s) (hg:Gl X x) (hm:X.mg x=none) (hv:bootBuiltins x=some u) (h:Q u s)
   (hn:x≠"__name__":=by decide) (hd:(x == ("__debug__":Str))=false:=by decide):wpAny (model X.prog X.w) X.A (eval (.Name x pos) X.env) Q E s:=by
 obtain ⟨mb,h1,h2⟩:=I.mod.blt
 exact Calls.Name_function_global I.ok.kind hg (Calls.loadGlobal_builtin (by rw [I.ok.glob]; exact I.mod.glob.keeps I.bk) hm (by rw [I.ok.blt]; exact h1.keeps I.bk) ((h2 x hn).trans hv) h) hd
theorem zS {x:Str} {v:V} {u:Value} {pos:Pos} (hg:Gl X x) (hm:X.mg x=some u) (r:RelV v u) (hd:(x == ("__debug__":Str))=false:=by decide):PE X (.Name x pos) (tC v) :=
 fun _ _ _ H _ I h=>jU I hg hm ⟨v,H,I,r,h⟩ hd
theorem Q0 {x:Str} {v:V} {u:Value} {pos:Pos} (hg:Gl X x) (hm:X.mg x=none) (hv:bootBuiltins x=some u) (r:RelV v u) (hn:x≠"__name__":=by decide) (hd:(x == ("__debug__":Str))=false:=by decide):PE X (.Name x pos) (tC v) :=
 fun _ _ _ H _ I h=>qac I hg hm hv ⟨v,H,I,r,h⟩ hn hd
variable {a b:Expr} {ta tb:TE} {pos:Pos}
inductive qkD (Q:(Bool->Hp->Prop)) (x:V) (H1:Hp):Prop
 | mk (c:_) (h1:x=.bl c) (h2:Q c H1):qkD Q x H1
def tB (t:TE):TT:=fun σ H Q=>t σ H fun x H1=>qkD Q x H1
theorem zx {e:Expr} {t:TE} (h:PE X e t) (he:∀ whole,isTrue e X.env whole=(do let v ← whole; standAt e.pos; holding [v] (truthy v)):=by intro _; rfl):PT X e (tB t):=by
 intro pins s σ H Q I hw
 refine isTrue_plain (thn (h pins s σ H _ I hw) fun v s1 zz_=>?_) (he _)
 obtain ⟨x,H1,I1,r1,q1⟩:=zz_
 obtain ⟨d,rfl,q⟩:=q1
 cases r1
 exact wpAny_truthy_bool ⟨H1,I1,q⟩
variable {tA tB':TT} {rest:List Expr}
def qk5 (t u:TT):TT:=fun σ H Q=>t σ H fun c H1=>if c=true then u σ H1 Q else Q false H1
def tOr (t u:TT):TT:=fun σ H Q=>t σ H fun c H1=>if c=true then Q true H1 else u σ H1 Q
def qk3 (t:TT):TT:=fun σ H Q=>t σ H fun c H1=>Q (!c) H1
theorem jS (ha:PT X a tA):PW X (.BoolOp .And [a] pos) tA:=by
 intro wh pins s σ H Q I h
 refine isTrue_and (thn (ha pins s σ H Q I h) fun c s1 e=>?_)
 cases c with
 | true=>exact isTrue_and_nil e
 | false=>exact e
theorem jH (ha:PT X a tA):PW X (.BoolOp .Or [a] pos) tA:=by
 intro wh pins s σ H Q I h
 refine isTrue_or (thn (ha pins s σ H Q I h) fun c s1 e=>?_)
 cases c with
 | false=>exact isTrue_or_nil e
 | true=>exact e
theorem J1 (ha:PT X a tA) (hb:PW X (.BoolOp .And (b::rest) pos) tB'):PW X (.BoolOp .And (a::b::rest) pos) (qk5 tA tB'):=by
 intro wh pins s σ H Q I h
 refine isTrue_and (thn (ha pins s σ H _ I h) fun c s1 zz_=>?_)
 obtain ⟨H1,I1,q1⟩:=zz_
 cases c with
 | true=>exact hb wh pins s1 σ H1 Q I1 q1
 | false=>exact ⟨H1,I1,q1⟩
theorem qaJ (ha:PT X a tA) (hb:PW X (.BoolOp .Or (b::rest) pos) tB'):PW X (.BoolOp .Or (a::b::rest) pos) (tOr tA tB'):=by
 intro wh pins s σ H Q I h
 refine isTrue_or (thn (ha pins s σ H _ I h) fun c s1 zz_=>?_)
 obtain ⟨H1,I1,q1⟩:=zz_
 cases c with
 | true=>exact ⟨H1,I1,q1⟩
 | false=>exact hb wh pins s1 σ H1 Q I1 q1
theorem zy (ha:PT X a tA):PT X (.UnaryOp .Not a pos) (qk3 tA):=by
 intro pins s σ H Q I h
 exact isTrue_not (ha pins s σ H (fun c H1=>Q (!c) H1) I h)
def qj9 (ta tb:TE):TE:=fun σ H Q=>ta σ H fun x H1=>∃ c,x=.bl c∧if c=true then tb σ H1 Q else Q (.bl false) H1
inductive qfa (Q:VK) (x:V) (H1:Hp):Prop
 | mk (c:_) (h1:x=.bl c) (h2:Q (.bl (!c)) H1):qfa Q x H1
def qj5 (ta:TE):TE:=fun σ H Q=>ta σ H fun x H1=>qfa Q x H1
theorem qcS {op} {t:TE} (h:PE X a t):PE X (.BoolOp op [a] pos) t:=fun pins s σ H Q I hw=>BoolOp_one (h pins s σ H Q I hw)
theorem qaN (ha:PE X a ta) (hb:PE X (.BoolOp .And (b::rest) pos) tb):PE X (.BoolOp .And (a::b::rest) pos) (qj9 ta tb):=by
 intro pins s σ H Q I h
 refine BoolOp_and (thn (ha pins s σ H _ I h) fun v s1 zz_=>?_)
 obtain ⟨x,H1,I1,r1,q1⟩:=zz_
 obtain ⟨c,rfl,q1⟩:=q1
 cases r1
 refine wpAny_truthy_bool ?_
 cases c with
 | true=>exact hb pins s1 σ H1 Q I1 q1
 | false=>exact ⟨.bl false,H1,I1,rfl,q1⟩
theorem qjp (ha:PE X a ta):PE X (.UnaryOp .Not a pos) (qj5 ta):=by
 intro pins s σ H Q I h
 refine UnaryOp_ (thn (ha pins s σ H _ I h) fun v s1 zz_=>?_)
 obtain ⟨x,H1,I1,r1,q1⟩:=zz_
 obtain ⟨c,rfl,q1⟩:=q1
 cases r1
 exact not_of (wpAny_truthy_bool ⟨.bl (!c),H1,I1,rfl,q1⟩)
end
end L2
namespace L2
open PySem PySem.Spec PyProof.Rows
def SqL (K:PySem.W.Frag) (H:Hp) (a:Addr) (xs:List V):Prop :=
 Rd H a (.lst xs) ∨
   ∃ (o:Obj) (its:Array Value) (n:Nat),K.lookup a=some o∧o.cls=.type "list"∧o.dict=none∧o.data=.seq its n∧its.size≤sizeLine∧Vals xs its.toList
def SqT (K:PySem.W.Frag) (H:Hp) (a:Addr) (xs:List V):Prop :=
 Rd H a (.tup xs) ∨
   ∃ (o:Obj) (its:Array Value) (n:Nat),K.lookup a=some o∧o.cls=.type "tuple"∧o.data=.seq its n∧its.size≤sizeLine∧Vals xs its.toList
def qlj:Value->Option V
 | .none=>some .non
 | .bool b=>some (.bl b)
 | .int i _=>some (.int i)
 | .str x _=>some (.str x)
 | .bytes b _=>some (.byt b)
 | .float b _=>some (.flt b)
 | .ref a=>some (.ref a)
 | .type n=>some (.ty n)
 | _=>none
theorem RelV.abs {x:V} {u:Value} (r:RelV x u):qlj u=some x:=by
 cases x with
 | non=>cases r; rfl
 | bl _=>cases r; rfl
 | int _=>obtain ⟨t,rfl⟩:=r; rfl
 | str _=>obtain ⟨t,rfl⟩:=r; rfl
 | byt _=>obtain ⟨t,rfl⟩:=r; rfl
 | flt _=>obtain ⟨t,rfl⟩:=r; rfl
 | ref _=>cases r; rfl
 | ty _=>cases r; rfl
theorem RelV.inj {x y:V} {u:Value} (r:RelV x u) (q:RelV y u):x=y:=Option.some.inj (r.abs.symm.trans q.abs)
theorem Vals.inj:∀ {xs ys:List V} {us:List Value},Vals xs us->Vals ys us->xs=ys
 | _,_,_,.nil,.nil=>rfl
 | _,_,_,.cons r t,.cons r' t'=>by rw [r.inj r',Vals.inj t t']
section
variable {X:Cx} {pins:List (Addr×Obj)} {σ:St} {H:Hp} {s:Shared} {a:Addr} {xs ys:List V}
theorem SqL.of {K:PySem.W.Frag} (h:H a=some (.lst xs)):SqL K H a xs:=.inl (.inl h)
theorem SqT.of {K:PySem.W.Frag} (h:H a=some (.tup xs)):SqT K H a xs:=.inl (.inl h)
theorem Inv.list (I:Inv X pins σ H s) (h:SqL X.K H a xs):∃ its:List Value,Vals xs its∧PlainL s.heap a its.toArray∧xs.length≤sizeLine:=by
 rcases h with h | ⟨o,its,n,hk,hc,hd,hs,hz,r⟩
 · obtain ⟨z,its,n,r,e⟩:=h.ok I.hok
   exact ⟨its,r,⟨_,n,e,rfl,rfl,rfl⟩,z⟩
 · refine ⟨its.toList,r,⟨o,n,I.kIn a o hk,hc,hd,by simpa using hs⟩,?_⟩
   have e:=r.length
   simp only [Array.length_toList] at e
   omega
theorem Inv.tuple (I:Inv X pins σ H s) (h:SqT X.K H a xs):∃ its:List Value,Vals xs its∧IsTup s.heap a its.toArray∧xs.length≤sizeLine:=by
 rcases h with h | ⟨o,its,n,hk,hc,hs,hz,r⟩
 · obtain ⟨z,its,r,p⟩:=h.ok I.hok
   exact ⟨its,r,p,z⟩
 · refine ⟨its.toList,r,⟨o,I.kIn a o hk,hc,n,by simpa using hs⟩,?_⟩
   have e:=r.length
   simp only [Array.length_toList] at e
   omega
theorem Inv.list_inj (I:Inv X pins σ H s) (h:SqL X.K H a xs) (h':SqL X.K H a ys):xs=ys:=by
 obtain ⟨its,r,⟨o,n,e,_,_,d⟩,_⟩:=I.list h
 obtain ⟨its',r',⟨o',n',e',_,_,d'⟩,_⟩:=I.list h'
 rw [e] at e'; cases e'
 rw [d] at d'
 injection d' with d1 _
 have:its=its':=by simpa using congrArg Array.toList d1
 subst this
 exact r.inj r'
theorem Inv.tuple_inj (I:Inv X pins σ H s) (h:SqT X.K H a xs) (h':SqT X.K H a ys):xs=ys:=by
 obtain ⟨its,r,⟨o,e,_,n,d⟩,_⟩:=I.tuple h
 obtain ⟨its',r',⟨o',e',_,n',d'⟩,_⟩:=I.tuple h'
 rw [e] at e'; cases e'
 rw [d] at d'
 injection d' with d1 _
 have:its=its':=by simpa using congrArg Array.toList d1
 subst this
 exact r.inj r'
end
abbrev Cx.wish (X:Cx) (E:Value->Shared->Prop):Cx:={ X with xe:=E }
abbrev Cx.nox (X:Cx):Cx:=X.wish fun _ _=>False
theorem Cx.Ok.wish {X:Cx} (ok:X.Ok) (E:Value->Shared->Prop):(X.wish E).Ok :=
 ⟨ok.mod,ok.kind,ok.glob,ok.blt,ok.above,ok.inj,ok.has,ok.cab,ok.hd,ok.frames,ok.stk,ok.exf,ok.bs,ok.bsz,ok.noex,ok.exfs,ok.funs,ok.frf⟩
theorem Cx.Ok.unwish {X:Cx} {E:Value->Shared->Prop} (ok:(X.wish E).Ok):X.Ok :=
 ⟨ok.mod,ok.kind,ok.glob,ok.blt,ok.above,ok.inj,ok.has,ok.cab,ok.hd,ok.frames,ok.stk,ok.exf,ok.bs,ok.bsz,ok.noex,ok.exfs,ok.funs,ok.frf⟩
section
variable {X:Cx} {pins:List (Addr×Obj)} {σ:St} {H:Hp} {s:Shared} {E:Value->Shared->Prop}
theorem Inv.wish (I:Inv X pins σ H s) (E:Value->Shared->Prop):Inv (X.wish E) pins σ H s:=⟨I.ok.wish E,I.os,I.bare,I.base,I.loc,I.cell,I.free,I.freeC,I.pin,I.hok,I.len⟩
theorem Inv.unwish (I:Inv (X.wish E) pins σ H s):Inv X pins σ H s:=⟨I.ok.unwish,I.os,I.bare,I.base,I.loc,I.cell,I.free,I.freeC,I.pin,I.hok,I.len⟩
theorem SP.unwish {D:qeW} {f:Flow} {s':Shared} (h:SP (X.wish E) pins D f s'):SP X pins D f s':=by
 cases f with
 | next=>obtain ⟨σ',H',I,q⟩:=h; exact ⟨σ',H',I.unwish,q⟩
 | brk=>obtain ⟨σ',H',I,q⟩:=h; exact ⟨σ',H',I.unwish,q⟩
 | cont=>obtain ⟨σ',H',I,q⟩:=h; exact ⟨σ',H',I.unwish,q⟩
 | ret u=>obtain ⟨v,σ',H',I,r,q⟩:=h; exact ⟨v,σ',H',I.unwish,r,q⟩
theorem PSs.nox {st:List Stmt} {t:TS} (h:PSs X.nox st t):PSs X st t:=fun pins s σ H D I hw =>
 wpAny_mono (h pins s σ H D (I.wish _) hw) (fun _ _ q=>q.unwish) fun _ _ z=>False.elim z
end
section
variable {X:Cx} {st:Stmt} {rest:List Stmt} {t u:TS} {e:Expr} {te:TE} {pos:Pos}
def qX:TS:=fun D σ H=>D.nx σ H
def qj2 (t u:TS):TS:=fun D σ H=>t { D with nx:=u D } σ H
theorem qw:PSs X [] qX:=fun _ _ σ H _ I h=>wpAny_execs_nil ⟨σ,H,I,h⟩
theorem qf (h1:PS X st t) (h2:PSs X rest u):PSs X (st::rest) (qj2 t u):=by
 intro pins s σ H D I h
 refine wpAny_execs_cons (thn (h1 pins s σ H { D with nx:=u D } I h) fun f s1 q=>?_)
 cases f with
 | next =>
   obtain ⟨σ',H',I',q⟩:=q
   exact h2 pins s1 σ' H' D I' q
 | ret v=>exact q
 | brk=>exact q
 | cont=>exact q
theorem qg (h1:PS X st t):PSs X [st] t:=by
 intro pins s σ H D I h
 refine wpAny_execs_cons (thn (h1 pins s σ H D I h) fun f s1 q=>?_)
 cases f with
 | next=>exact wpAny_execs_nil q
 | ret v=>exact q
 | brk=>exact q
 | cont=>exact q
theorem Inv.quiet {pins:List (Addr×Obj)} {σ:St} {H:Hp} {s:Shared} (I:Inv X pins σ H s):interactive X.env=false:=by simp [interactive,I.ok.kind]
def qj6 (te:TE):TS:=fun D σ H=>te σ H fun _ H1=>D.nx σ H1
theorem qF (he:PE X e te) (hs:swapsWith e none pos.line X.env=pure false:=by rfl):PS X (.Expr e pos) (qj6 te):=by
 intro pins s σ H D I h
 exact wpAny_Expr_any (thn (he pins s σ H _ I h) fun v s1 ⟨x,H1,I1,r1,q1⟩=>⟨σ,H1,I1,q1⟩) I.quiet hs
def qh9 (te:TE):TS:=fun D σ H=>te σ H D.rt
theorem qy (he:PE X e te):PS X (.Return (some e) pos) (qh9 te):=by
 intro pins s σ H D I h
 exact wpAny_Return_some (thn (he pins s σ H _ I h) fun v s1 ⟨x,H1,I1,r1,q1⟩=>⟨x,σ,H1,I1,r1,q1⟩)
def qj3:TS:=fun D _ H=>D.rt .non H
theorem qdy:PS X (.Return none pos) qj3:=fun _ _ σ H _ I h=>wpAny_Return_none ⟨.non,σ,H,I,rfl,h⟩
def qi6 (c:TT) (t u:TS):TS:=fun D σ H=>c σ H fun b H1=>if b=true then t D σ H1 else u D σ H1
theorem qR {c:Expr} {a b:List Stmt} {tc:TT} (hc:PT X c tc) (ha:PSs X a t) (hb:PSs X b u):PS X (.If c a b pos) (qi6 tc t u):=by
 intro pins s σ H D I h
 refine wpAny_If (thn (hc pins s σ H _ I h) fun d s1 zz_=>?_)
 obtain ⟨H1,I1,q1⟩:=zz_
 cases d with
 | true=>exact ha pins s1 σ H1 D I1 q1
 | false=>exact hb pins s1 σ H1 D I1 q1
def qi4:TS:=fun _ _ _=>False
theorem qT:PS X st qi4:=fun _ _ _ _ _ _ h=>h.elim
end
abbrev TG:=V->St->Hp->(St->Hp->Prop)->Prop
abbrev TGs:=List V->St->Hp->(St->Hp->Prop)->Prop
def PG (X:Cx) (target:Expr) (t:TG):Prop :=
 ∀ (pins:List (Addr×Obj)) (s:Shared) (σ:St) (H:Hp) (v:V) (u:Value) (Q:St->Hp->Prop),Inv X pins σ H s->RelV v u->t v σ H Q ->
   wpAny (model X.prog X.w) X.A (assign target X.env u) (fun _ s'=>∃ σ' H',Inv X pins σ' H' s'∧Q σ' H') X.xe s
def PGs (X:Cx) (ts:List Expr) (t:TGs):Prop :=
 ∀ (pins:List (Addr×Obj)) (s:Shared) (σ:St) (H:Hp) (vs:List V) (us:List Value) (Q:St->Hp->Prop),Inv X pins σ H s->Vals vs us->t vs σ H Q ->
   wpAny (model X.prog X.w) X.A (assignInOrder ((assignEach ts X.env).map (·.2)) us) (fun _ s'=>∃ σ' H',Inv X pins σ' H' s'∧Q σ' H') X.xe s
abbrev qkz:=V->V->V->Hp->(Hp->Prop)->Prop
def qkX (X:Cx) (t:qkz):Prop :=
 ∀ (pins:List (Addr×Obj)) (s:Shared) (σ:St) (H:Hp) (o i v:V) (ov iv u:Value) (Q:Hp->Prop),Inv X pins σ H s->RelV o ov->RelV i iv->RelV v u->t o i v H Q ->
   wpAny (model X.prog X.w) X.A (setItem ov iv u) (fun _ s'=>∃ H',Inv X pins σ H' s'∧Q H') X.xe s
section
variable {X:Cx} {pos:Pos}
def qhk (i:Nat):TG:=fun v σ H Q=>Q (σ.set i (some v)) H
theorem qv {i:Nat} {x:Str} (hN:X.N.Nodup) (hi:X.N[i]?=some x) (hx:Loc X.env.scope x) (hf:X.fn x=true∨X.env.scope.names.lookup x=some .local:=by first | exact .inl rfl | exact .inr rfl | assumption):PG X (.Name x pos) (qhk i):=by
 intro pins s σ H v u Q I r h
 exact wpAny_assign_Name (qao I hN hi hx r (fun s' I'=>⟨_,H,I',h⟩) hf)
def qlh:TGs:=fun vs σ H Q=>vs=[]∧Q σ H
inductive qga (t:TG) (u:TGs) (vs:List V) (σ:St) (H:Hp) (Q:(St->Hp->Prop)):Prop
 | mk (v r:_) (h1:vs=v::r) (h2:t v σ H fun σ' H'=>u r σ' H' Q):qga t u vs σ H Q
def qkq (t:TG) (u:TGs):TGs:=fun vs σ H Q=>qga t u vs σ H Q
theorem QE:PGs X [] qlh:=by
 intro pins s σ H vs us Q I r h
 obtain ⟨e,h⟩:=h
 subst e
 cases r
 exact assignInOrder_nil ⟨σ,H,I,h⟩
theorem qD {e:Expr} {es:List Expr} {t:TG} {u:TGs} (h1:PG X e t) (h2:PGs X es u)
   (hs:(assignEach (e::es) X.env).map (·.2)=assign e X.env::(assignEach es X.env).map (·.2):=by rfl):PGs X (e::es) (qkq t u):=by
 intro pins s σ H vs us Q I r h
 obtain ⟨v,vr,e1,h⟩:=h
 subst e1
 cases r with
 | cons r rr =>
   rw [hs]
   refine assignInOrder_cons (thn (h1 pins s σ H _ _ _ I r h) fun _ s1 zz_=>?_)
   obtain ⟨σ1,H1,I1,q1⟩:=zz_
   exact h2 pins s1 σ1 H1 _ _ Q I1 rr q1
inductive qhV (K:PySem.W.Frag) (n:Nat) (t:TGs) (v:V) (σ:St) (H:Hp) (Q:(St->Hp->Prop)):Prop
 | mk (a xs:_) (h1:v=.ref a) (h2:SqT K H a xs) (h3:xs.length=n) (h4:t xs σ H Q):qhV K n t v σ H Q
def qiO (K:PySem.W.Frag) (n:Nat) (t:TGs):TG:=fun v σ H Q=>qhV K n t v σ H Q
theorem ZL {es:List Expr} {k:Nat} {t:TGs} {n:Nat} (hc:X.calm=true) (h:PGs X es t)
   (hn:(assignEach es X.env).length=n:=by rfl) (hst:(assignEach es X.env).findIdx? (·.1)=none:=by rfl):PG X (.Tuple es k pos) (qiO X.K n t):=by
 intro pins s σ H v u Q I r hw
 obtain ⟨a,xs,e1,hq,hl,hw⟩:=hw
 subst e1
 cases r
 obtain ⟨its,rv,ht,hz⟩:=I.tuple hq
 refine assign_Tuple_tuple (I.ok.hd hc) ht (by simp [hn,← hl,rv.length]) hst fun h' hx=>?_
 have I1:Inv X pins σ H { s with heap:=h' }:=I.kept (t':=s.toks) fun b o e=>hx b o (Nat.ne_of_lt (Heap.lt_size e)) e
 exact h pins _ σ H xs _ Q I1 (by simpa using rv) hw
def qlg (to ti:TE) (t:qkz):TG:=fun v σ H Q=>to σ H fun o H1=>ti σ H1 fun i H2=>t o i v H2 fun H3=>Q σ H3
theorem qaL {o i:Expr} {to ti:TE} {t:qkz} (ho:PE X o to) (hi:PE X i ti) (hs:qkX X t)
   (ha:∀ v,assign (.Subscript o i pos) X.env v=(do
     let ov ← holding [v] (eval o X.env)
     let iv ← holding [v,ov] (eval i X.env)
     standAt pos
     holding [v,ov,iv] (setItem ov iv v)
     release [v,ov,iv] []):=by intro _; rfl):PG X (.Subscript o i pos) (qlg to ti t):=by
 intro pins s σ H v u Q I r h
 rw [ha]
 refine wpAny_bind (wpAny_holding (thn (ho pins s σ H _ I h) fun ov s1 zz_=>?_))
 obtain ⟨x,H1,I1,r1,q1⟩:=zz_
 refine wpAny_bind (wpAny_holding (thn (hi pins s1 σ H1 _ I1 q1) fun iv s2 zz_=>?_))
 obtain ⟨y,H2,I2,r2,q2⟩:=zz_
 refine wpAny_bind (wpAny_standAt (wpAny_bind (wpAny_holding (thn (hs pins s2 σ H2 x y v ov iv u _ I2 r1 r2 r q2) fun _ s3 zz_=>?_))))
 obtain ⟨H3,I3,q3⟩:=zz_
 exact wpAny_release ⟨σ,H3,I3,q3⟩
def qjR (te:TE) (g:TG):TS:=fun D σ H=>te σ H fun x H1=>g x σ H1 D.nx
theorem jJ {tg e:Expr} {te:TE} {g:TG} (he:PE X e te) (hg:PG X tg g) (hs:swapsWithSole [tg] e pos.line X.env=pure false:=by rfl) (hw:swappedStores [tg] e X.env=pure none:=by rfl)
   (h1:(assignEach [tg] X.env).map (·.2)=[assign tg X.env]:=by rfl):PS X (.Assign [tg] e pos) (qjR te g):=by
 intro pins s σ H D I h
 refine wpAny_Assign_stores (thn (he pins s σ H _ I h) fun v s1 zz_=>?_) hs hw
 obtain ⟨x,H1,I1,r1,q1⟩:=zz_
 rw [h1]
 exact thn (hg pins s1 σ H1 x v _ I1 r1 q1) fun _ s2 q=>q
theorem qH {i:Nat} {x:Str} {e:Expr} {te:TE} {pos':Pos} (hN:X.N.Nodup) (hi:X.N[i]?=some x) (hx:Loc X.env.scope x) (he:PE X e te) (hs:swapsWith e (some (.Name x pos')) pos.line X.env=pure false:=by rfl) (hf:X.fn x=true∨X.env.scope.names.lookup x=some .local:=by first | exact .inl rfl | exact .inr rfl | assumption) :
   PS X (.Assign [.Name x pos'] e pos) (qjR te (qhk i)):=by
 intro pins s σ H D I h
 refine wpAny_Assign_Name (thn (he pins s σ H _ I h) fun v s1 zz_=>?_) hs
 obtain ⟨y,H1,I1,r1,q1⟩:=zz_
 exact qao I1 hN hi hx r1 (fun s2 I2=>⟨_,H1,I2,q1⟩) hf
end
section
variable {X:Cx} {pos:Pos}
end
structure It where
 go:Nat->Hp->Prop
 yld:Nat->Hp->V->Hp->Prop
 stop:Nat->Hp->Prop
def qeU (X:Cx) (pins:List (Addr×Obj)) (H:Hp) (b:Addr):Prop :=
 H b=none∧b≠X.env.locals∧b∉X.fs∧(b∈X.ex∨X.s₀.heap.objs.size≤b)∧(∀ x c,X.env.cells.lookup x=some c->c≠b)∧∀ p∈X.pn++pins,p.1≠b
theorem Inv.fpOk {X:Cx} {pins:List (Addr×Obj)} {σ:St} {H H':Hp} {s:Shared} {b:Addr} (I:Inv X pins σ H s) (hb:s.heap.objs.size≤b) (hn:H' b=none):qeU X pins H' b:=by
 refine ⟨hn,Nat.ne_of_gt (Nat.lt_of_lt_of_le I.lt hb),I.nofs hb,.inr (Nat.le_trans I.sz hb),fun x c e z=>?_,fun p hp z=>?_⟩
 · obtain ⟨v,q⟩:=I.cell x c e
   exact absurd (Nat.lt_of_lt_of_le q.lt (by rw [z]; exact hb)) (Nat.lt_irrefl _)
 · exact absurd (Nat.lt_of_lt_of_le (Heap.lt_size (I.pin p hp).1) (by rw [z]; exact hb)) (Nat.lt_irrefl _)
structure qiM (P:Program) (w:World) (K:PySem.W.Frag) (tg:Expr) (J:It) (fp:List Addr) (it:Addr) (tn:Nat->Heap->Prop):Prop where
 mem:it∈fp
 obj:∀ i h,tn i h->∀ b∈fp,∃ o,h.get? b=some o∧∀ v,o.data≠.cell v
 keep:∀ i h h',tn i h->(∀ b∈fp,∀ o,h.get? b=some o->h'.get? b=some o)->tn i h'
 item:∀ (X:Cx),X.prog=P->X.w=w->X.K=K->X.calm=true->∀ (i:Nat) (pins:List (Addr×Obj)) (s:Shared) (σ:St) (H:Hp) (E:Value->Shared->Prop),Inv X pins σ H s->(∀ b∈fp,qeU X pins H b)->tn i s.heap->J.go i H ->
   wpAny (model P w) X.A (pyNext (.ref it)) (fun r s1=>∃ u,r=some u ∧
     wpAny (model P w) X.A (letOwnedTupleGo tg (.ref it) u) (fun _ s2=>∃ x H',Inv X pins σ H' s2∧RelV x u∧J.yld i H x H'∧tn (i+1) s2.heap∧∀ b∈fp,H' b=none) E s1) E s
 done:∀ (X:Cx),X.prog=P->X.w=w->X.K=K->X.calm=true->∀ (i:Nat) (pins:List (Addr×Obj)) (s:Shared) (σ:St) (H:Hp) (E:Value->Shared->Prop),Inv X pins σ H s->(∀ b∈fp,qeU X pins H b)->tn i s.heap->J.stop i H ->
   wpAny (model P w) X.A (pyNext (.ref it)) (fun r s1=>r=none∧Inv X pins σ H s1) E s
 self:∀ (A:Around) (i:Nat) (s:Shared) (Q:Value->Shared->Prop) (E:Value->Shared->Prop),tn i s.heap->Q (.ref it) s->wpAny (model P w) A (pyIter (.ref it)) Q E s
abbrev TI:=St->Hp->(It->Hp->Prop)->Prop
def PIE (X:Cx) (pins:List (Addr×Obj)) (σ:St) (tg:Expr) (R:It->Hp->Prop) (itv:Value) (s2:Shared):Prop :=
 ∃ (it:Addr) (fp:List Addr) (tn:Nat->Heap->Prop) (J:It) (H':Hp),itv=.ref it∧Inv X pins σ H' s2∧qiM X.prog X.w X.K tg J fp it tn∧tn 0 s2.heap∧(∀ b∈fp,qeU X pins H' b)∧R J H'
def PI (X:Cx) (tg iter:Expr) (wi:TI):Prop :=
 ∀ (pins:List (Addr×Obj)) (s:Shared) (σ:St) (H:Hp) (R:It->Hp->Prop),Inv X pins σ H s->wi σ H R ->
   wpAny (model X.prog X.w) X.A (eval iter X.env) (fun v s1=>wpAny (model X.prog X.w) X.A (pyIter v) (PIE X pins σ tg R) X.xe s1) X.xe s
theorem qiF {M:Model} {A:Around} {E:Value->Shared->Prop} {s:Shared} {tg:Expr} {it:Addr} {u:Value} {o:Obj} {n:String} {vs:Array Value} {Q:Unit->Shared->Prop} (ho:s.heap.get? it=some o) (hc:o.cls=.type n) (hd:o.data=.fields vs)
   (hn:["enumerate","zip","dict_itemiterator","dict_reverseitemiterator","odict_iterator","itertools.zip_longest","itertools.pairwise"].contains n=false) (hQ:Q () s):wpAny M A (letOwnedTupleGo tg (.ref it) u) Q E s:=by
 unfold letOwnedTupleGo
 cases tg<;>first
   | exact wpAny_pure hQ
   | (cases u<;>first
       | exact wpAny_pure hQ
       | (refine wpAny_bind (wpAny_load ho ?_)
          rw [hc,hd]
          show wpAny M A (if (["enumerate","zip","dict_itemiterator","dict_reverseitemiterator","odict_iterator","itertools.zip_longest","itertools.pairwise"].contains n && vs[0]? == some (rawInt _))=true then _ else _) Q E s
          rw [if_neg (by intro h; rw [hn,Bool.false_and] at h; cases h)]
          exact wpAny_pure hQ))
def Itl (K:PySem.W.Frag) (a:Addr):It :=
 ⟨fun i H=>∃ xs x,SqL K H a xs∧xs[i]?=some x,fun i H x H'=>H'=H∧∀ xs,SqL K H a xs->xs[i]?=some x,fun i H=>∃ xs,SqL K H a xs∧xs.length≤i⟩
def Itt (K:PySem.W.Frag) (a:Addr):It :=
 ⟨fun i H=>∃ xs x,SqT K H a xs∧xs[i]?=some x,fun i H x H'=>H'=H∧∀ xs,SqT K H a xs->xs[i]?=some x,fun i H=>∃ xs,SqT K H a xs∧xs.length≤i⟩
def Itr (lo:Int) (n:Nat):It:=⟨fun i _=>i < n,fun i H x H'=>H'=H∧x=.int (lo+i),fun i _=>n≤i⟩
theorem qe0 {P:Program} {w:World} {K:PySem.W.Frag} {tg:Expr} (a it:Addr):qiM P w K tg (Itl K a) [it] it (fun i h=>h.IsListIter it a i) where
 mem:=by simp
 obj:=fun i h st b hb=>by
   have e:b=it:=by simpa using hb
   subst e
   obtain ⟨o,e,c,d⟩:=st
   exact ⟨o,e,fun v z=>by rw [d] at z; cases z⟩
 keep:=fun i h h' st k=>st.at fun o e=>k it (by simp) o e
 item:=by
   intro X hP hw hK hc i pins s σ H E I hf st hg
   subst hP hw hK
   obtain ⟨xs,x,hq,hx⟩:=hg
   obtain ⟨its,rv,p,hz⟩:=I.list hq
   obtain ⟨u,hu,ru⟩:=rv.get hx
   obtain ⟨f0,f1,f2,f3,f4,f5⟩:=hf it (by simp)
   refine wpAny_pyNext_list_item st p.isList (x:=u) (by simpa using hu) fun h' st' sb=>?_
   have I1:Inv X pins σ H { s with heap:=h' }:=I.turned (t':=s.toks) (fun b o hb e=>(sb.2 b hb).trans e) f0 f1 f3 f4 f5
   obtain ⟨o,e,c,d⟩:=id st'
   exact ⟨u,rfl,qiF (s:={ s with heap:=h' }) e c d (by decide) ⟨x,H,I1,ru,⟨rfl,fun ys hy=>by rw [I.list_inj hy hq]; exact hx⟩,st',fun b hb=>(hf b hb).1⟩⟩
 done:=by
   intro X hP hw hK hc i pins s σ H E I hf st hg
   subst hP hw hK
   obtain ⟨xs,hq,hx⟩:=hg
   obtain ⟨its,rv,p,hz⟩:=I.list hq
   obtain ⟨f0,f1,f2,f3,f4,f5⟩:=hf it (by simp)
   have hl:=rv.length
   exact wpAny_pyNext_list_end (I.ok.hd hc) st p.isList (by simp; omega) fun h' eb=>⟨rfl,I.turned (t':=s.toks) (fun b o hb e=>eb b o hb e) f0 f1 f3 f4 f5⟩
 self:=fun _ _ _ _ _ st h=>wpAny_pyIter_listiter st h
theorem qeA {P:Program} {w:World} {K:PySem.W.Frag} {tg:Expr} (a it:Addr):qiM P w K tg (Itt K a) [it] it (fun i h=>h.IsTupleIter it a i) where
 mem:=by simp
 obj:=fun i h st b hb=>by
   have e:b=it:=by simpa using hb
   subst e
   obtain ⟨o,e,c,d⟩:=st
   exact ⟨o,e,fun v z=>by rw [d] at z; cases z⟩
 keep:=fun i h h' st k=>st.at fun o e=>k it (by simp) o e
 item:=by
   intro X hP hw hK hc i pins s σ H E I hf st hg
   subst hP hw hK
   obtain ⟨xs,x,hq,hx⟩:=hg
   obtain ⟨its,rv,p,hz⟩:=I.tuple hq
   obtain ⟨u,hu,ru⟩:=rv.get hx
   obtain ⟨f0,f1,f2,f3,f4,f5⟩:=hf it (by simp)
   refine wpAny_pyNext_tuple_item st (show s.heap.IsTuple a its.toArray from p) (x:=u) (by simpa using hu) fun h' st' sb=>?_
   have I1:Inv X pins σ H { s with heap:=h' }:=I.turned (t':=s.toks) (fun b o hb e=>(sb.2 b hb).trans e) f0 f1 f3 f4 f5
   obtain ⟨o,e,c,d⟩:=id st'
   exact ⟨u,rfl,qiF (s:={ s with heap:=h' }) e c d (by decide) ⟨x,H,I1,ru,⟨rfl,fun ys hy=>by rw [I.tuple_inj hy hq]; exact hx⟩,st',fun b hb=>(hf b hb).1⟩⟩
 done:=by
   intro X hP hw hK hc i pins s σ H E I hf st hg
   subst hP hw hK
   obtain ⟨xs,hq,hx⟩:=hg
   obtain ⟨its,rv,p,hz⟩:=I.tuple hq
   obtain ⟨f0,f1,f2,f3,f4,f5⟩:=hf it (by simp)
   have hl:=rv.length
   exact wpAny_pyNext_tuple_end (I.ok.hd hc) st (show s.heap.IsTuple a its.toArray from p) (by simp; omega) fun h' eb=>⟨rfl,I.turned (t':=s.toks) (fun b o hb e=>eb b o hb e) f0 f1 f3 f4 f5⟩
 self:=fun _ _ _ _ _ st h=>wpAny_pyIter_tupleiter st h
theorem qeB {P:Program} {w:World} {K:PySem.W.Frag} {tg:Expr} (it:Addr) (lo:Int) (n:Nat):qiM P w K tg (Itr lo n) [it] it (fun i h=>IsRangeIter h it (lo+(i:Nat) * 1) ((n:Int) - (i:Nat)) 1) where
 mem:=by simp
 obj:=fun i h st b hb=>by
   have e:b=it:=by simpa using hb
   subst e
   exact ⟨_,st,fun v z=>by
     have z':Data.fields _=Data.cell v:=z
     cases z'⟩
 keep:=fun i h h' st k=>k it (by simp) _ st
 item:=by
   intro X hP hw hK hc i pins s σ H E I hf st hg
   subst hP hw hK
   obtain ⟨f0,f1,f2,f3,f4,f5⟩:=hf it (by simp)
   have W:=Walks.range (prog:=X.prog) (w:=X.w) (I.ok.hd hc) it lo 1 n
   refine W.item i s _ _ hg st fun v h' tk hv st' kk=>?_
   obtain ⟨t,rfl⟩:=hv
   have I1:Inv X pins σ H { s with heap:=h',toks:=tk }:=I.turned (fun b o hb e=>kk b o (by simpa using hb) e) f0 f1 f3 f4 f5
   refine ⟨_,rfl,qiF (s:={ s with heap:=h',toks:=tk }) (n:="range_iterator") st' rfl rfl (by decide) ⟨.int (lo+i),H,I1,⟨t,?_⟩,⟨rfl,rfl⟩,st',fun b hb=>(hf b hb).1⟩⟩
   rw [Int.mul_one]
 done:=by
   intro X hP hw hK hc i pins s σ H E I hf st hg
   subst hP hw hK
   obtain ⟨f0,f1,f2,f3,f4,f5⟩:=hf it (by simp)
   exact wpAny_pyNext_range_end (I.ok.hd hc) st (by have:n≤i:=hg; omega) fun h' eb=>⟨rfl,I.turned (t':=s.toks) (fun b o hb e=>eb b o hb e) f0 f1 f3 f4 f5⟩
 self:=fun _ _ _ _ _ st h=>wpAny_pyIter_rangeiter st h
end L2
namespace L2
open PySem PySem.Spec PyProof.Rows
section
variable {X:Cx} {tg:Expr}
inductive qf7 (K:PySem.W.Frag) (R:(It->Hp->Prop)) (x:V) (H1:Hp):Prop
 | mk (a:_) (h1:x=.ref a) (h2:(∃ xs,SqL K H1 a xs)) (h3:R (Itl K a) H1):qf7 K R x H1
def qko (K:PySem.W.Frag) (tl:TE):TI:=fun σ H R=>tl σ H fun x H1=>qf7 K R x H1
def qle (K:PySem.W.Frag) (tl:TE):TI:=fun σ H R=>tl σ H fun x H1=>∃ a,x=.ref a∧(∃ xs,SqT K H1 a xs)∧R (Itt K a) H1
theorem zJ {l:Expr} {tl:TE} (hl:PE X l tl):PI X tg l (qko X.K tl):=by
 intro pins s σ H R I h
 refine thn (hl pins s σ H _ I h) fun v s1 zz_=>?_
 obtain ⟨x,H1,I1,r1,q1⟩:=zz_
 obtain ⟨a,e,⟨xs,hq⟩,q⟩:=q1
 subst e
 cases r1
 obtain ⟨its,rv,p,hz⟩:=I1.list hq
 refine wpAny_pyIter_list p.isList ?_
 refine ⟨s1.heap.objs.size,[s1.heap.objs.size],_,_,H1,rfl,I1.kept (t':=s1.toks) fun b o e=>Heap.get?_push_of_some _ e,qe0 a _,⟨_,Heap.get?_push_size _ rfl,rfl,rfl⟩,fun b hb=>?_,q⟩
 have e:b=s1.heap.objs.size:=by simpa using hb
 subst e
 exact I1.fpOk (Nat.le_refl _) (I1.hok.fresh (Nat.le_refl _))
theorem qjm {l:Expr} {tl:TE} (hl:PE X l tl):PI X tg l (qle X.K tl):=by
 intro pins s σ H R I h
 refine thn (hl pins s σ H _ I h) fun v s1 zz_=>?_
 obtain ⟨x,H1,I1,r1,q1⟩:=zz_
 obtain ⟨a,e,⟨xs,hq⟩,q⟩:=q1
 subst e
 cases r1
 obtain ⟨its,rv,p,hz⟩:=I1.tuple hq
 refine wpAny_pyIter_tuple (show s1.heap.IsTuple a its.toArray from p) ?_
 refine ⟨s1.heap.objs.size,[s1.heap.objs.size],_,_,H1,rfl,I1.kept (t':=s1.toks) fun b o e=>Heap.get?_push_of_some _ e,qeA a _,⟨_,Heap.get?_push_size _ rfl,rfl,rfl⟩,fun b hb=>?_,q⟩
 have e:b=s1.heap.objs.size:=by simpa using hb
 subst e
 exact I1.fpOk (Nat.le_refl _) (I1.hok.fresh (Nat.le_refl _))
theorem qec {pins:List (Addr×Obj)} {σ:St} {H:Hp} {s:Shared} {R:It->Hp->Prop} {E:Value->Shared->Prop} {lo hi:Int} {t u v:Tok} {tk:Nat} (I:Inv X pins σ H s) (h1:-(2 ^ 62)≤lo) (h2:lo < 2 ^ 62) (h3:-(2 ^ 62)≤hi) (h4:hi < 2 ^ 62)
   (q:R (Itr lo (hi - lo).toNat) H):wpAny (model X.prog X.w) X.A (pyIter (.ref s.heap.objs.size)) (PIE X pins σ tg R) E { s with heap:=s.heap.push { cls:=.type "range",data:=.fields #[.int lo t,.int hi u,.int 1 v] },toks:=tk }:=by
 refine wpAny_pyIter_range (IsRange.new ..) (small_one h1 h2 h3 h4) ?_
 have I1:Inv X pins σ H { s with heap:=s.heap.push { cls:=.type "range",data:=.fields #[.int lo t,.int hi u,.int 1 v] },toks:=tk }:=I.kept fun b o e=>Heap.get?_push_of_some _ e
 refine ⟨(s.heap.push { cls:=.type "range",data:=.fields #[.int lo t,.int hi u,.int 1 v] }).objs.size,[(s.heap.push { cls:=.type "range",data:=.fields #[.int lo t,.int hi u,.int 1 v] }).objs.size],_,_,H,rfl,
   I1.kept (t':=tk) fun b o e=>Heap.get?_push_of_some _ e,qeB _ lo (hi - lo).toNat,?_,fun b hb=>?_,q⟩
 · have e1:lo+((0:Nat):Int) * 1=lo:=by simp
   have e2:(((hi - lo).toNat:Nat):Int) - ((0:Nat):Int)=Builtin.Range.rangeSize lo hi 1:=by rw [rangeSize_one]; split<;>omega
   show IsRangeIter _ _ (lo+((0:Nat):Int) * 1) ((((hi - lo).toNat:Nat):Int) - ((0:Nat):Int)) 1
   rw [e1,e2]
   exact Heap.get?_push_size _ rfl
 · have e:b=(s.heap.push { cls:=.type "range",data:=.fields #[.int lo t,.int hi u,.int 1 v] }).objs.size:=by simpa using hb
   subst e
   exact I1.fpOk (Nat.le_refl _) (I1.hok.fresh (Nat.le_refl _))
inductive qf6 (R:(It->Hp->Prop)) (vs:List V) (H1:Hp):Prop
 | mk (j:Int) (h1:vs=[.int j]) (h2:-(2 ^ 62)≤j) (h3:j < 2 ^ 62) (h4:R (Itr 0 j.toNat) H1):qf6 R vs H1
def qkn (ta:TA):TI:=fun σ H R=>ta σ H fun vs H1=>qf6 R vs H1
inductive qf5 (R:(It->Hp->Prop)) (vs:List V) (H1:Hp):Prop
 | mk (i j:Int) (h1:vs=[.int i,.int j]) (h2:(-(2 ^ 62)≤i∧i < 2 ^ 62∧-(2 ^ 62)≤j∧j < 2 ^ 62)) (h3:R (Itr i (j - i).toNat) H1):qf5 R vs H1
def qkm (ta:TA):TI:=fun σ H R=>ta σ H fun vs H1=>qf5 R vs H1
theorem Z5 {a:Expr} {ta:TA} {p pos:Pos} (hg:Gl X "range") (hm:X.mg "range"=none) (ha:PA X [a] ta) (hs:starEach [a] X.env=[(false,eval a X.env)]:=by rfl):PI X tg (.Call (.Name "range" p) [a] [] pos) (qkn ta):=by
 intro pins s σ H R I h
 refine Call_ (qac I hg hm boot_range (PyProof.Rows.callWith_type1 (thn (ha pos pins s σ H _ I h) fun us s1 zz_=>?_) hs rfl))
 obtain ⟨vs,H1,I1,r1,q1⟩:=zz_
 obtain ⟨j,e,q1,q2,q⟩:=q1
 subst e
 cases r1 with
 | cons r rr =>
   cases rr
   obtain ⟨t,rfl⟩:=r
   exact call_range_1 (qec I1 (by omega) (by omega) q1 q2 (by simpa using q))
theorem qfx {a b:Expr} {ta:TA} {p pos:Pos} (hg:Gl X "range") (hm:X.mg "range"=none) (ha:PA X [a,b] ta) (hs:starEach [a,b] X.env=[(false,eval a X.env),(false,eval b X.env)]:=by rfl) (hs2:starEach [b] X.env=[(false,eval b X.env)]:=by rfl) :
   PI X tg (.Call (.Name "range" p) [a,b] [] pos) (qkm ta):=by
 intro pins s σ H R I h
 refine Call_ (qac I hg hm boot_range (PyProof.Rows.callWith_type1 (thn (ha pos pins s σ H _ I h) fun us s1 zz_=>?_) (by rw [hs,hs2]) (by rw [hs2]; rfl)))
 obtain ⟨vs,H1,I1,r1,q1⟩:=zz_
 obtain ⟨i,j,e,⟨q1,q2,q3,q4⟩,q⟩:=q1
 subst e
 cases r1 with
 | cons r rr =>
   cases rr with
   | cons r' rr =>
     cases rr
     obtain ⟨t,rfl⟩:=r
     obtain ⟨t',rfl⟩:=r'
     exact call_range_2 (qec I1 q1 q2 q3 q4 q)
def qi7 (wi:TI) (g:TG) (tb:TS):TS:=fun D σ H=>wi σ H fun J H1=>∃ W:Nat->Nat->St->Hp->Prop,(∃ m,W 0 m σ H1)∧∀ i m σ H,W i m σ H ->
 (J.stop i H∧D.nx σ H)∨(J.go i H∧∃ N:St->Hp->Prop,(∀ σ' H',N σ' H'->∃ m',m' < m∧W (i+1) m' σ' H')∧∀ x H',J.yld i H x H'->g x σ H' fun σ2 H2=>tb { D with nx:=N,ct:=N,bk:=D.nx } σ2 H2)
def qby (fp:List Addr) (h:Heap):List (Addr×Obj):=fp.filterMap fun b=>(h.get? b).map fun o=>(b,o)
theorem Qz {fp:List Addr} {h:Heap} {b:Addr} {o:Obj} (hb:b∈fp) (e:h.get? b=some o):(b,o)∈qby fp h:=List.mem_filterMap.mpr ⟨b,hb,by rw [e]; rfl⟩
theorem qfN {fp:List Addr} {h:Heap} {p:Addr×Obj} (hp:p∈qby fp h):p.1∈fp∧h.get? p.1=some p.2:=by
 obtain ⟨b,hb,e⟩:=List.mem_filterMap.mp hp
 cases q:h.get? b with
 | none=>rw [q] at e; cases e
 | some o =>
   rw [q] at e
   have e':(b,o)=p:=Option.some.inj e
   subst e'
   exact ⟨hb,q⟩
theorem Inv.pinned {pins:List (Addr×Obj)} {σ:St} {H:Hp} {s:Shared} {fp:List Addr} (I:Inv X pins σ H s) (hf:∀ b∈fp,qeU X pins H b) (ho:∀ b∈fp,∃ o,s.heap.get? b=some o∧∀ v,o.data≠.cell v):Inv X (pins++qby fp s.heap) σ H s :=
 I.pins_of fun p hp=>(List.mem_append.mp hp).elim (fun z=>I.pin p (List.mem_append_right _ z)) fun z=>by
   obtain ⟨hb,e⟩:=qfN z
   obtain ⟨f0,f1,f2,_⟩:=hf p.1 hb
   obtain ⟨o,e',d⟩:=ho p.1 hb
   rw [e] at e'; cases e'
   exact ⟨e,f0,f1,f2,d⟩
theorem Inv.unpinned {pins pl:List (Addr×Obj)} {σ:St} {H:Hp} {s:Shared} (I:Inv X (pins++pl) σ H s):Inv X pins σ H s:=I.pins_of fun p hp=>I.pin p (List.mem_append_right _ (List.mem_append_left _ hp))
theorem Zu {iter:Expr} {body:List Stmt} {wi:TI} {g:TG} {tb:TS} {pos:Pos} (hp:PassesOwn (model X.prog X.w) X.A X.env X.xe) (hc:X.calm=true) (hi:PI X tg iter wi) (hg:PG X tg g) (hb:PSs X body tb)
   (hs:∀ x,foldedSetIterable iter X.env x=pure x:=by intro _; rfl):PS X (.For tg iter body [] pos) (qi7 wi g tb):=by
 intro pins s σ H D I h
 refine wpAny_For (thn (hi pins s σ H _ I h) fun v s1 h1=>thn h1 fun itv s2 h2=>?_) hs
 obtain ⟨it,fp,tn,J,H2,e,I2,T,st2,f2,W,⟨m0,w0⟩,turn⟩:=h2
 subst e
 -- what stays true of the iterator's objects through the loop
 have stat:∀ {H':Hp},(∀ b∈fp,H' b=none)->∀ b∈fp,qeU X pins H' b:=fun hn b hb=>⟨hn b hb,(f2 b hb).2⟩
 refine codeAny_forLoop_any (fun n s'=>∃ i σ' H',Inv X pins σ' H' s'∧tn i s'.heap∧(∀ b∈fp,H' b=none)∧W i n σ' H') ?_ m0 ⟨0,σ,H2,I2,st2,fun b hb=>(f2 b hb).1,w0⟩
 rintro n s3 ⟨i,σ3,H3,I3,st3,fr3,w3⟩
 rcases turn i n σ3 H3 w3 with ⟨stop,qn⟩ | ⟨go,N,hN,step⟩
 · refine wpAny_passesOwn hp (thn (T.done X rfl rfl rfl hc i pins s3 σ3 H3 X.xe I3 (stat fr3) st3 stop) fun r s4 ⟨hr,I4⟩=>?_)
   subst hr
   exact wpAny_execs_nil ⟨σ3,H3,I4,qn⟩
 · refine wpAny_passesOwn hp (thn (T.item X rfl rfl rfl hc i pins s3 σ3 H3 X.xe I3 (stat fr3) st3 go) fun r s4 ⟨u,hr,h4⟩=>?_)
   subst hr
   refine wpAny_passesOwn hp (thn h4 fun _ s5 zz_=>?_)
   obtain ⟨x,H5,I5,r5,y5,st5,fr5⟩:=zz_
   have I5':=I5.pinned (stat fr5) (T.obj _ _ st5)
   refine wpAny_passesOwn hp (thn (hg _ s5 σ3 H5 x u _ I5' r5 (step x H5 y5)) fun _ s6 zz_=>?_)
   obtain ⟨σ6,H6,I6,q6⟩:=zz_
   refine wpAny_passesOwn hp (thn (hb _ s6 σ6 H6 _ I6 q6) fun f s7 q7=>?_)
   have again:∀ {σ7:St} {H7:Hp},Inv X (pins++qby fp s5.heap) σ7 H7 s7->N σ7 H7->∃ m,m < n∧∃ i σ' H',Inv X pins σ' H' s7∧tn i s7.heap∧(∀ b∈fp,H' b=none)∧W i m σ' H':=fun {σ7 H7} I7 n7=>by
     obtain ⟨m',hm,w7⟩:=hN σ7 H7 n7
     refine ⟨m',hm,i+1,σ7,H7,I7.unpinned,T.keep _ _ _ st5 fun b hb o e=>(I7.pin (b,o) (List.mem_append_right _ (List.mem_append_right _ (Qz hb e)))).1,fun b hb=>?_,w7⟩
     obtain ⟨o,e,d⟩:=T.obj _ _ st5 b hb
     exact (I7.pin (b,o) (List.mem_append_right _ (List.mem_append_right _ (Qz hb e)))).2.1
   cases f with
   | next=>obtain ⟨σ7,H7,I7,n7⟩:=q7; exact again I7 n7
   | cont=>obtain ⟨σ7,H7,I7,n7⟩:=q7; exact again I7 n7
   | brk=>obtain ⟨σ7,H7,I7,q7⟩:=q7; exact ⟨σ7,H7,I7.unpinned,q7⟩
   | ret v=>obtain ⟨x7,σ7,H7,I7,r7,q7⟩:=q7; exact ⟨x7,σ7,H7,I7.unpinned,r7,q7⟩
end
theorem ju {K:PySem.W.Frag} {a:Addr} {xs:List V} {g:TG} {tb:TS} {D:qeW} {σ:St} {H:Hp} (Pv:Nat->St->Hp->Prop) (h0:Pv 0 σ H) (hl:∀ i σ H,i≤xs.length->Pv i σ H->SqL K H a xs)
   (hs:∀ i x σ H,xs[i]?=some x->Pv i σ H->g x σ H fun σ2 H2=>tb { D with nx:=Pv (i+1),ct:=Pv (i+1),bk:=D.nx } σ2 H2) (hd:∀ σ H,Pv xs.length σ H->D.nx σ H) :
   ∃ W:Nat->Nat->St->Hp->Prop,(∃ m,W 0 m σ H)∧∀ i m σ H,W i m σ H ->
     ((Itl K a).stop i H∧D.nx σ H)∨((Itl K a).go i H∧∃ N:St->Hp->Prop,(∀ σ' H',N σ' H'->∃ m',m' < m∧W (i+1) m' σ' H')∧∀ x H',(Itl K a).yld i H x H'->g x σ H' fun σ2 H2=>tb { D with nx:=N,ct:=N,bk:=D.nx } σ2 H2):=by
 refine ⟨fun i m σ H=>m=xs.length - i∧i≤xs.length∧Pv i σ H,⟨xs.length,by simp,Nat.zero_le _,h0⟩,?_⟩
 rintro i m σ H ⟨rfl,hi,p⟩
 have q:=hl i σ H hi p
 by_cases hlt:i < xs.length
 · refine .inr ⟨⟨xs,xs[i],q,by simp [hlt]⟩,Pv (i+1),fun σ' H' p'=>⟨xs.length - (i+1),by omega,rfl,hlt,p'⟩,fun x H' y=>?_⟩
   obtain ⟨e,y⟩:=y
   subst e
   exact hs i x σ _ (y xs q) p
 · have e:i=xs.length:=by omega
   subst e
   exact .inl ⟨⟨xs,q,Nat.le_refl _⟩,hd σ H p⟩
theorem jd {lo:Int} {n:Nat} {g:TG} {tb:TS} {D:qeW} {σ:St} {H:Hp} (Pv:Nat->St->Hp->Prop) (h0:Pv 0 σ H)
   (hs:∀ i σ H,i < n->Pv i σ H->g (.int (lo+i)) σ H fun σ2 H2=>tb { D with nx:=Pv (i+1),ct:=Pv (i+1),bk:=D.nx } σ2 H2) (hd:∀ σ H,Pv n σ H->D.nx σ H) :
   ∃ W:Nat->Nat->St->Hp->Prop,(∃ m,W 0 m σ H)∧∀ i m σ H,W i m σ H ->
     ((Itr lo n).stop i H∧D.nx σ H)∨((Itr lo n).go i H∧∃ N:St->Hp->Prop,(∀ σ' H',N σ' H'->∃ m',m' < m∧W (i+1) m' σ' H')∧∀ x H',(Itr lo n).yld i H x H'->g x σ H' fun σ2 H2=>tb { D with nx:=N,ct:=N,bk:=D.nx } σ2 H2):=by
 refine ⟨fun i m σ H=>m=n - i∧i≤n∧Pv i σ H,⟨n,by simp,Nat.zero_le _,h0⟩,?_⟩
 rintro i m σ H ⟨rfl,hi,p⟩
 by_cases hlt:i < n
 · refine .inr ⟨hlt,Pv (i+1),fun σ' H' p'=>⟨n - (i+1),by omega,rfl,hlt,p'⟩,fun x H' y=>?_⟩
   obtain ⟨e,y⟩:=y
   subst e y
   exact hs i σ _ hlt p
 · have e:i=n:=by omega
   subst e
   exact .inl ⟨Nat.le_refl _,hd σ H p⟩
end L2
namespace L2
open PySem PySem.Spec PyProof.Rows
abbrev R2:=V->V->Hp->VK->Prop
def OpR (X:Cx) (f:Value->Value->Sem Value) (r:R2):Prop :=
 ∀ (pins:List (Addr×Obj)) (s:Shared) (σ:St) (H:Hp) (x y:V) (v u:Value) (Q:VK),Inv X pins σ H s->RelV x v->RelV y u->r x y H Q ->
   wpAny (model X.prog X.w) X.A (f v u) (EP X pins σ Q) X.xe s
def UnR (X:Cx) (f:Value->Sem Value) (r:V->Hp->VK->Prop):Prop :=
 ∀ (pins:List (Addr×Obj)) (s:Shared) (σ:St) (H:Hp) (x:V) (v:Value) (Q:VK),Inv X pins σ H s->RelV x v->r x H Q ->
   wpAny (model X.prog X.w) X.A (f v) (EP X pins σ Q) X.xe s
def jX (X:Cx) (f:Value) (r:List V->Hp->VK->Prop):Prop :=
 ∀ (pins:List (Addr×Obj)) (s:Shared) (σ:St) (H:Hp) (xs:List V) (us:List Value) (Q:VK),Inv X pins σ H s->Vals xs us->r xs H Q ->
   wpAny (model X.prog X.w) X.A (call f us) (EP X pins σ Q) X.xe s
def qlk (X:Cx) (r:V->Hp->(Bool->Hp->Prop)->Prop):Prop :=
 ∀ (pins:List (Addr×Obj)) (s:Shared) (σ:St) (H:Hp) (x:V) (v:Value) (Q:Bool->Hp->Prop),Inv X pins σ H s->RelV x v->r x H Q ->
   wpAny (model X.prog X.w) X.A (truthy v) (TP X pins σ Q) X.xe s
def tOp (r:R2) (ta tb:TE):TE:=fun σ H Q=>ta σ H fun x H1=>tb σ H1 fun y H2=>r x y H2 Q
def tUn (r:V->Hp->VK->Prop) (ta:TE):TE:=fun σ H Q=>ta σ H fun x H1=>r x H1 Q
inductive qkN (C:Int->Int->Prop) (g:Int->Int->V) (x:V) (y:V) (H:Hp) (Q:VK):Prop
 | mk (i j:_) (h1:x=.int i) (h2:y=.int j) (h3:C i j) (h4:Q (g i j) H):qkN C g x y H Q
def rI (C:Int->Int->Prop) (g:Int->Int->V):R2:=fun x y H Q=>qkN C g x y H Q
inductive qjh (g:Int->Int->V) (x:V) (y:V) (H:Hp) (Q:VK):Prop
 | mk (i j:_) (h1:x=.int i) (h2:y=.int j) (h3:Q (g i j) H):qjh g x y H Q
def rI0 (g:Int->Int->V):R2:=fun x y H Q=>qjh g x y H Q
inductive qkF (g:Int->V) (x:V) (H:Hp) (Q:VK):Prop
 | mk (i:_) (h1:x=.int i) (h2:Q (g i) H):qkF g x H Q
def rU (g:Int->V):V->Hp->VK->Prop:=fun x H Q=>qkF g x H Q
section
variable {X:Cx} {a b c:Expr} {ta tb tc:TE} {pos:Pos}
theorem qkv (ha:PE X a ta) (hb:PE X b tb) {pins:List (Addr×Obj)} {s:Shared} {σ:St} {H:Hp} {R:V->V->Hp->Prop} (I:Inv X pins σ H s)
   (h:ta σ H fun x H1=>tb σ H1 fun y H2=>R x y H2) {Q:Value->Shared->Prop} {f:Value->Value->Sem Value}
   (hf:∀ v u s2 x y H2,Inv X pins σ H2 s2->RelV x v->RelV y u->R x y H2->wpAny (model X.prog X.w) X.A (f v u) Q X.xe s2) :
   wpAny (model X.prog X.w) X.A (eval a X.env) (fun v s₁=>wpAny (model X.prog X.w) X.A (eval b X.env) (fun u s₂=>wpAny (model X.prog X.w) X.A (f v u) Q X.xe s₂) X.xe s₁) X.xe s:=by
 refine thn (ha pins s σ H _ I h) fun v s1 zz_=>?_
 obtain ⟨x,H1,I1,r1,q1⟩:=zz_
 refine thn (hb pins s1 σ H1 _ I1 q1) fun u s2 zz_=>?_
 obtain ⟨y,H2,I2,r2,q2⟩:=zz_
 exact hf v u s2 x y H2 I2 r1 r2 q2
theorem qB {op:Operator} {r:R2} (ho:OpR X (binaryOp op) r) (ha:PE X a ta) (hb:PE X b tb):PE X (.BinOp a op b pos) (tOp r ta tb):=by
 intro pins s σ H Q I h
 exact wpAny_BinOp (qkv ha hb I h fun v u s2 x y H2 I2 rx ry q=>ho pins s2 σ H2 x y v u Q I2 rx ry q)
theorem jx {op:UnaryOp} {r:V->Hp->VK->Prop} (ho:UnR X (unaryOp op) r) (ha:PE X a ta):PE X (.UnaryOp op a pos) (tUn r ta):=by
 intro pins s σ H Q I h
 exact UnaryOp_ (thn (ha pins s σ H _ I h) fun v s1 ⟨x,H1,I1,r1,q1⟩=>ho pins s1 σ H1 x v Q I1 r1 q1)
theorem opI {f:Value->Value->Sem Value} {C:Int->Int->Prop} {g:Int->Int->Int}
   (rule:∀ (i j:Int) (t u:Tok) (s:Shared) (Q:Value->Shared->Prop) (E:Value->Shared->Prop),C i j->Q (.int (g i j) s.toks) { s with toks:=s.toks+1 }->wpAny (model X.prog X.w) X.A (f (.int i t) (.int j u)) Q E s) :
   OpR X f (rI C fun i j=>.int (g i j)):=by
 intro pins s σ H x y v u Q I rx ry h
 obtain ⟨i,j,rfl,rfl,hc,q⟩:=h
 obtain ⟨t,rfl⟩:=rx
 obtain ⟨t',rfl⟩:=ry
 exact rule i j t t' s _ _ hc ⟨.int (g i j),H,I.tok _,⟨_,rfl⟩,q⟩
theorem qkQ {f:Value->Value->Sem Value} {g:Int->Int->Int}
   (rule:∀ (i j:Int) (t u:Tok) (s:Shared) (Q:Value->Shared->Prop) (E:Value->Shared->Prop),Q (.int (g i j) s.toks) { s with toks:=s.toks+1 }->wpAny (model X.prog X.w) X.A (f (.int i t) (.int j u)) Q E s) :
   OpR X f (rI0 fun i j=>.int (g i j)):=by
 intro pins s σ H x y v u Q I rx ry h
 obtain ⟨i,j,rfl,rfl,q⟩:=h
 obtain ⟨t,rfl⟩:=rx
 obtain ⟨t',rfl⟩:=ry
 exact rule i j t t' s _ _ ⟨.int (g i j),H,I.tok _,⟨_,rfl⟩,q⟩
theorem qjU {f:Value->Value->Sem Value} {g:Int->Int->Bool}
   (rule:∀ (i j:Int) (t u:Tok) (s:Shared) (Q:Value->Shared->Prop) (E:Value->Shared->Prop),Q (.bool (g i j)) s->wpAny (model X.prog X.w) X.A (f (.int i t) (.int j u)) Q E s) :
   OpR X f (rI0 fun i j=>.bl (g i j)):=by
 intro pins s σ H x y v u Q I rx ry h
 obtain ⟨i,j,rfl,rfl,q⟩:=h
 obtain ⟨t,rfl⟩:=rx
 obtain ⟨t',rfl⟩:=ry
 exact rule i j t t' s _ _ ⟨.bl (g i j),H,I,rfl,q⟩
def qlo (i j:Int):Prop:=0 < j∧j < 1073741824
def qln (i j:Int):Prop:=0≤j∧j≤1000000∧i.natAbs < 2 ^ 64
def CMul (i j:Int):Prop:=(-(2 ^ 64) < i∧i < 2 ^ 64)∨(-(2 ^ 64) < j∧j < 2 ^ 64)
theorem CMul.ok {i j:Int} (h:CMul i j):IntMulOk i j:=by
 rcases h with ⟨h1,h2⟩ | ⟨h1,h2⟩
 · exact .of_left (intBits_le_64 h1 h2)
 · exact .of_right (intBits_le_64 h1 h2)
theorem op_add:OpR X (binaryOp .Add) (rI0 fun i j=>.int (i+j)):=qkQ fun _ _ _ _ _ _ _ q=>add_int q
theorem zH:OpR X (binaryOp .Sub) (rI0 fun i j=>.int (i - j)):=qkQ fun _ _ _ _ _ _ _ q=>sub_int q
theorem ZM:OpR X (binaryOp .Mult) (rI CMul fun i j=>.int (i * j)):=opI fun _ _ _ _ _ _ _ hc q=>mul_int q hc.ok
theorem qfB:OpR X (binaryOp .FloorDiv) (rI qlo fun i j=>.int (i / j)):=opI fun i j _ _ _ _ _ hc q=>by
 have h1:(0:Int) < j:=hc.1
 have h2:j < 1073741824:=hc.2
 exact floordiv_int (by omega) (by rw [Int.fdiv_eq_ediv_of_nonneg i (by omega)]; exact q) (.inl (PyProof.noPylong_small (by omega)))
theorem J6:OpR X (binaryOp .Mod) (rI (fun _ j=>0 < j) fun i j=>.int (i % j)):=opI fun i j _ _ _ _ _ hc q=>by
 have h1:(0:Int) < j:=hc
 exact mod_int' (by omega) (by rw [Int.fmod_eq_emod_of_nonneg i (by omega)]; exact q)
theorem Qo:OpR X (binaryOp .Pow) (rI qln fun i j=>.int (i ^ j.toNat)):=opI fun _ _ _ _ _ _ _ hc q=>pow_int_small hc.1 hc.2.1 hc.2.2 q
theorem unI {f:Value->Sem Value} {g:Int->Int}
   (rule:∀ (i:Int) (t:Tok) (s:Shared) (Q:Value->Shared->Prop) (E:Value->Shared->Prop),Q (.int (g i) s.toks) { s with toks:=s.toks+1 }->wpAny (model X.prog X.w) X.A (f (.int i t)) Q E s) :
   UnR X f (rU fun i=>.int (g i)):=by
 intro pins s σ H x v Q I rx h
 obtain ⟨i,rfl,q⟩:=h
 obtain ⟨t,rfl⟩:=rx
 exact rule i t s _ _ ⟨.int (g i),H,I.tok _,⟨_,rfl⟩,q⟩
theorem QH:UnR X (unaryOp .USub) (rU fun i=>.int (-i)):=unI fun _ _ _ _ _ q=>neg_int q
end
def qkE:V->V->Bool
 | .non,.non=>true | .non,.int _=>true | .int _,.non=>true | .non,.bl _=>true | .bl _,.non=>true | .non,.str _=>true | .str _,.non=>true
 | .int _,.int _=>true | .bl _,.bl _=>true | .str _,.str _=>true | .byt _,.byt _=>true
 | .int _,.str _=>true | .str _,.int _=>true | .bl _,.str _=>true | .str _,.bl _=>true
 | _,_=>false
def rEq:R2:=fun x y H Q=>qkE x y=true∧Q (.bl (decide (x=y))) H
def rNe:R2:=fun x y H Q=>qkE x y=true∧Q (.bl (!decide (x=y))) H
theorem qgf {i j:Int}:decide (V.int i=V.int j)=(i == j):=by
 rw [Bool.eq_iff_iff]
 simp
theorem qhX {i j:Bool}:decide (V.bl i=V.bl j)=(i == j):=by
 rw [Bool.eq_iff_iff]
 simp
theorem qge {i j:Str}:decide (V.str i=V.str j)=(i == j):=by
 rw [Bool.eq_iff_iff]
 simp
theorem qgg {i j:Array UInt8}:decide (V.byt i=V.byt j)=(i.toList == j.toList):=by
 rw [Bool.eq_iff_iff]
 cases i
 cases j
 simp
section
variable {X:Cx} {a b c:Expr} {ta tb tc:TE} {pos:Pos}
theorem q8 {pins:List (Addr×Obj)} {σ:St} {H:Hp} {s:Shared} {Q:VK} {k k':Bool} (I:Inv X pins σ H s) (q:Q (.bl k) H) (e:k=k'):EP X pins σ Q (.bool k') s:=by
 subst e
 exact ⟨.bl k,H,I,rfl,q⟩
theorem op_eq:OpR X (compareOp .Eq) rEq:=by
 intro pins s σ H x y v u Q I rx ry h
 obtain ⟨hs,q⟩:=h
 cases x with
 | non =>
   cases rx
   cases y with
   | non=>cases ry; exact PySem.EqNone.eq_none_none (q8 I q (by simp))
   | bl j=>cases ry; exact PySem.EqNone.eq_none_bool (q8 I q (by simp))
   | int j=>obtain ⟨t',rfl⟩:=ry; exact PySem.EqNone.eq_none_int (q8 I q (by simp))
   | str j=>obtain ⟨t',rfl⟩:=ry; exact PySem.EqNone.eq_none_str (q8 I q (by simp))
   | _=>exact absurd (show false=true from hs) Bool.false_ne_true
 | bl i =>
   cases rx
   cases y with
   | non=>cases ry; exact PySem.EqNone.eq_bool_none (q8 I q (by simp))
   | bl j=>cases ry; exact eq_bool (q8 I q qhX)
   | str j=>obtain ⟨t',rfl⟩:=ry; exact PySem.EqMixed.eq_bool_str (q8 I q (by simp))
   | _=>exact absurd (show false=true from hs) Bool.false_ne_true
 | int i =>
   obtain ⟨t,rfl⟩:=rx
   cases y with
   | non=>cases ry; exact PySem.EqNone.eq_int_none (q8 I q (by simp))
   | int j=>obtain ⟨t',rfl⟩:=ry; exact eq_int (q8 I q qgf)
   | str j=>obtain ⟨t',rfl⟩:=ry; exact PySem.EqMixed.eq_int_str (q8 I q (by simp))
   | _=>exact absurd (show false=true from hs) Bool.false_ne_true
 | str i =>
   obtain ⟨t,rfl⟩:=rx
   cases y with
   | non=>cases ry; exact PySem.EqNone.eq_str_none (q8 I q (by simp))
   | bl j=>cases ry; exact PySem.EqMixed.eq_str_bool (q8 I q (by simp))
   | int j=>obtain ⟨t',rfl⟩:=ry; exact PySem.EqMixed.eq_str_int (q8 I q (by simp))
   | str j=>obtain ⟨t',rfl⟩:=ry; exact eq_str (q8 I q qge)
   | _=>exact absurd (show false=true from hs) Bool.false_ne_true
 | byt i =>
   obtain ⟨t,rfl⟩:=rx
   cases y with
   | byt j=>obtain ⟨t',rfl⟩:=ry; exact PySem.W.eq_bytes (q8 I q qgg)
   | _=>exact absurd (show false=true from hs) Bool.false_ne_true
 | _=>cases y<;>exact absurd (show false=true from hs) Bool.false_ne_true
theorem op_ne:OpR X (compareOp .NotEq) rNe:=by
 intro pins s σ H x y v u Q I rx ry h
 obtain ⟨hs,q⟩:=h
 cases x with
 | non =>
   cases rx
   cases y with
   | non=>cases ry; exact PySem.EqNone.ne_none_none (q8 I q (by simp))
   | bl j=>cases ry; exact PySem.EqNone.ne_none_bool (q8 I q (by simp))
   | int j=>obtain ⟨t',rfl⟩:=ry; exact PySem.EqNone.ne_none_int (q8 I q (by simp))
   | str j=>obtain ⟨t',rfl⟩:=ry; exact PySem.EqNone.ne_none_str (q8 I q (by simp))
   | _=>exact absurd (show false=true from hs) Bool.false_ne_true
 | bl i =>
   cases rx
   cases y with
   | non=>cases ry; exact PySem.EqNone.ne_bool_none (q8 I q (by simp))
   | bl j=>cases ry; exact ne_bool (q8 I q (congrArg not qhX))
   | str j=>obtain ⟨t',rfl⟩:=ry; exact PySem.EqMixed.ne_bool_str (q8 I q (by simp))
   | _=>exact absurd (show false=true from hs) Bool.false_ne_true
 | int i =>
   obtain ⟨t,rfl⟩:=rx
   cases y with
   | non=>cases ry; exact PySem.EqNone.ne_int_none (q8 I q (by simp))
   | int j=>obtain ⟨t',rfl⟩:=ry; exact ne_int (q8 I q (congrArg not qgf))
   | str j=>obtain ⟨t',rfl⟩:=ry; exact PySem.EqMixed.ne_int_str (q8 I q (by simp))
   | _=>exact absurd (show false=true from hs) Bool.false_ne_true
 | str i =>
   obtain ⟨t,rfl⟩:=rx
   cases y with
   | non=>cases ry; exact PySem.EqNone.ne_str_none (q8 I q (by simp))
   | bl j=>cases ry; exact PySem.EqMixed.ne_str_bool (q8 I q (by simp))
   | int j=>obtain ⟨t',rfl⟩:=ry; exact PySem.EqMixed.ne_str_int (q8 I q (by simp))
   | str j=>obtain ⟨t',rfl⟩:=ry; exact ne_str (q8 I q (congrArg not qge))
   | _=>exact absurd (show false=true from hs) Bool.false_ne_true
 | byt i =>
   obtain ⟨t,rfl⟩:=rx
   cases y with
   | byt j=>obtain ⟨t',rfl⟩:=ry; exact PySem.W.ne_bytes (q8 I q (congrArg not qgg))
   | _=>exact absurd (show false=true from hs) Bool.false_ne_true
 | _=>cases y<;>exact absurd (show false=true from hs) Bool.false_ne_true
theorem qgV:OpR X (compareOp .Lt) (rI0 fun i j=>.bl (decide (i < j))):=qjU fun _ _ _ _ _ _ _ q=>lt_int q
theorem qb4:OpR X (compareOp .LtE) (rI0 fun i j=>.bl (decide (i≤j))):=qjU fun _ _ _ _ _ _ _ q=>le_int q
theorem qgW:OpR X (compareOp .Gt) (rI0 fun i j=>.bl (decide (j < i))):=qjU fun _ _ _ _ _ _ _ q=>gt_int q
theorem qgX:OpR X (compareOp .GtE) (rI0 fun i j=>.bl (decide (j≤i))):=qjU fun _ _ _ _ _ _ _ q=>ge_int q
theorem OpR.or {f:Value->Value->Sem Value} {r r':R2} (h:OpR X f r) (h':OpR X f r'):OpR X f (fun x y H Q=>r x y H Q∨r' x y H Q):=by
 intro pins s σ H x y v u Q I rx ry q
 rcases q with q | q
 · exact h pins s σ H x y v u Q I rx ry q
 · exact h' pins s σ H x y v u Q I rx ry q
theorem qG (b:Expr) {op:CmpOp} (h:op≠.In:=by decide) (h2:op≠.NotIn:=by decide):behindInMarks op b=false:=by
 have e1:(op == CmpOp.In)=false:=by cases op<;>first | rfl | exact absurd rfl h
 have e2:(op == CmpOp.NotIn)=false:=by cases op<;>first | rfl | exact absurd rfl h2
 cases b<;>simp [behindInMarks,e1,e2]
theorem Z6 {op:CmpOp} {r:R2} (ho:OpR X (compareOp op) r) (ha:PE X a ta) (hb:PE X b tb) (hm:behindInMarks op b=false):PE X (.Compare a [op] [b] pos) (tOp r ta tb):=by
 intro pins s σ H Q I h
 exact wpAny_Compare1 (qkv ha hb I h fun v u s2 x y H2 I2 rx ry q=>ho pins s2 σ H2 x y v u Q I2 rx ry q) hm
inductive qe7 (Q:(Bool->Hp->Prop)) (x:V) (H':Hp):Prop
 | mk (k:_) (h1:x=.bl k) (h2:Q k H'):qe7 Q x H'
def qi2 (t:TE):TT:=fun σ H Q=>t σ H fun x H'=>qe7 Q x H'
theorem qu {op:CmpOp} {r:R2} (ho:OpR X (compareOp op) r) (ha:PE X a ta) (hb:PE X b tb) (hm:behindInMarks op b=false):PT X (.Compare a [op] [b] pos) (qi2 (tOp r ta tb)):=by
 intro pins s σ H Q I h
 refine wpAny_isTrue_Compare1 (thn (ha pins s σ H _ I h) fun v s1 ⟨x,H1,I1,r1,q1⟩=>thn (hb pins s1 σ H1 _ I1 q1) fun u s2 ⟨y,H2,I2,r2,q2⟩ =>
   thn (ho pins s2 σ H2 x y v u _ I2 r1 r2 q2) fun c s3 ⟨z,H3,I3,r3,k,e,q3⟩=>?_) hm
 subst e
 cases r3
 exact wpAny_truthy_bool ⟨H3,I3,q3⟩
def qhB (r r':R2) (ta tb tc:TE):TE:=fun σ H Q=>ta σ H fun x H1=>tb σ H1 fun y H2=>r x y H2 fun z H3=>∃ k,z=.bl k ∧
 (if k=true then tc σ H3 fun w' H4=>r' y w' H4 Q else Q (.bl false) H3)
theorem qei {op op':CmpOp} {r r':R2} (ho:OpR X (compareOp op) r) (ho':OpR X (compareOp op') r') (ha:PE X a ta) (hb:PE X b tb) (hc:PE X c tc)
   (hm:lastMarks [op,op'] [b,c]=false:=by with_unfolding_all rfl):PE X (.Compare a [op,op'] [b,c] pos) (qhB r r' ta tb tc):=by
 intro pins s σ H Q I h
 refine Compare_chain (thn (ha pins s σ H _ I h) fun v s1 ⟨x,H1,I1,r1,q1⟩=>chain_link (thn (hb pins s1 σ H1 _ I1 q1) fun u s2 ⟨y,H2,I2,r2,q2⟩ =>
   thn (ho pins s2 σ H2 x y v u _ I2 r1 r2 q2) fun d s3 ⟨z,H3,I3,r3,k,e,q3⟩=>?_)) hm
 subst e
 cases r3
 refine wpAny_truthy_bool ?_
 cases k with
 | false=>exact ite_ff ⟨.bl false,H3,I3,rfl,q3⟩
 | true=>exact ite_tt (chain_last (thn (hc pins s3 σ H3 _ I3 q3) fun w' s4 ⟨z',H4,I4,r4,q4⟩=>ho' pins s4 σ H4 y z' u w' Q I4 r2 r4 q4))
theorem qgN {op op':CmpOp} {r r':R2} (ho:OpR X (compareOp op) r) (ho':OpR X (compareOp op') r') (ha:PE X a ta) (hb:PE X b tb) (hc:PE X c tc)
   (hm:lastMarks [op,op'] [b,c]=false:=by with_unfolding_all rfl):PT X (.Compare a [op,op'] [b,c] pos) (qi2 (qhB r r' ta tb tc)):=by
 intro pins s σ H Q I h
 refine isTrue_chain (thn (ha pins s σ H _ I h) fun v s1 ⟨x,H1,I1,r1,q1⟩=>test_link (thn (hb pins s1 σ H1 _ I1 q1) fun u s2 ⟨y,H2,I2,r2,q2⟩ =>
   thn (ho pins s2 σ H2 x y v u _ I2 r1 r2 q2) fun d s3 ⟨z,H3,I3,r3,k,e,q3⟩=>?_)) hm
 subst e
 cases r3
 refine wpAny_truthy_bool ?_
 cases k with
 | false =>
   obtain ⟨k',e',q'⟩:=q3
   cases e'
   exact ite_ff ⟨H3,I3,q'⟩
 | true =>
   refine ite_tt (test_last (thn (hc pins s3 σ H3 _ I3 q3) fun w' s4 ⟨z',H4,I4,r4,q4⟩=>thn (ho' pins s4 σ H4 y z' u w' _ I4 r2 r4 q4) fun d' s5 zz_=>?_))
   obtain ⟨z2,H5,I5,r5,k2,e2,q5⟩:=zz_
   subst e2
   cases r5
   exact wpAny_truthy_bool ⟨H5,I5,q5⟩
def qkU (K:PySem.W.Frag) (x:V) (H:Hp) (k:Bool):Prop :=
 match x with
 | .non=>k=false
 | .bl b=>k=b
 | .int i=>k=(i != 0)
 | .str y=>y.length≤sizeLine∧k=((y.length:Int) != 0)
 | .byt y=>y.size≤sizeLine∧k=((y.size:Int) != 0)
 | .ref p=>(∃ xs,SqL K H p xs∧k=!xs.isEmpty)∨(∃ xs,SqT K H p xs∧k=!xs.isEmpty)∨∃ kvs,H p=some (.dK kvs)∧k=!kvs.isEmpty
 | _=>False
theorem qeO {κ:Type} {kvs:List (κ×V)} {vs:List (κ×Value)} (r:KV kvs vs):(!vs.isEmpty)=!kvs.isEmpty:=by
 cases r<;>rfl
theorem qbE {xs:List V} {its:List Value} (r:Vals xs its):(!its.toArray.isEmpty)=!xs.isEmpty:=by
 cases r<;>simp
theorem qbD:(sizeLine:Nat) < 2 ^ 63:=by rw [sizeLine_eq]; decide
theorem qiV:qlk X (fun x H Q=>∃ k,qkU X.K x H k∧Q k H):=by
 intro pins s σ H x v Q I rx h
 obtain ⟨k,e,q⟩:=h
 have hl:=qbD
 have hs:sizeLine=16777216:=sizeLine_eq
 cases x with
 | non =>
   cases rx
   have e':k=false:=e
   subst e'
   exact truthy_none ⟨H,I,q⟩
 | bl b =>
   cases rx
   have e':k=b:=e
   subst e'
   exact wpAny_truthy_bool ⟨H,I,q⟩
 | int i =>
   obtain ⟨t,rfl⟩:=rx
   have e':k=(i != 0):=e
   subst e'
   exact PySem.P.truthy_int ⟨H,I,q⟩
 | str y =>
   obtain ⟨t,rfl⟩:=rx
   obtain ⟨hy,e'⟩:y.length≤sizeLine∧k=((y.length:Int) != 0):=e
   subst e'
   exact PySem.P.truthy_str (by omega) ⟨H,I.tok _,q⟩
 | byt y =>
   obtain ⟨t,rfl⟩:=rx
   obtain ⟨hy,e'⟩:y.size≤sizeLine∧k=((y.size:Int) != 0):=e
   subst e'
   exact PySem.W.truthy_bytes (by omega) ⟨H,I.tok _,q⟩
 | ref p =>
   cases rx
   have e':(∃ xs,SqL X.K H p xs∧k=!xs.isEmpty)∨(∃ xs,SqT X.K H p xs∧k=!xs.isEmpty)∨∃ kvs,H p=some (.dK kvs)∧k=!kvs.isEmpty:=e
   rcases e' with ⟨xs,hx,e'⟩ | ⟨xs,hx,e'⟩ | ⟨kvs,hx,e'⟩
   · subst e'
     obtain ⟨its,r,pl,hz⟩:=I.list hx
     have hlen:=r.length
     exact wpAny_truthy_list pl.isList (by simp only [List.size_toArray]; omega) ⟨H,I.tok _,by rw [qbE r]; exact q⟩
   · subst e'
     obtain ⟨its,r,pl,hz⟩:=I.tuple hx
     have hlen:=r.length
     exact truthy_tuple pl (by simp only [List.size_toArray]; omega) ⟨H,I.tok _,by rw [qbE r]; exact q⟩
   · subst e'
     obtain ⟨hz,hS,vs,r,m⟩:kvs.length≤sizeLine∧(p == sysModules)=false∧∃ vs,KV kvs vs∧s.heap.DictOf (zg X.prog X.w) p vs:=I.hok p _ hx
     have hlen:kvs.length=vs.length:=Paired.length r
     exact wpAny_truthy_dict hS m (by omega) ⟨H,I.tok _,by rw [qeO r]; exact q⟩
 | _=>exact (show False from e).elim
theorem qgM (ha:PE X a ta) (he:∀ whole,isTrue a X.env whole=(do let v ← whole; standAt a.pos; holding [v] (truthy v))) :
   PT X a (fun σ H Q=>ta σ H fun x H'=>∃ k,qkU X.K x H' k∧Q k H'):=by
 intro pins s σ H Q I h
 exact isTrue_plain (thn (ha pins s σ H _ I h) fun v s1 ⟨x,H1,I1,r1,q1⟩=>qiV pins s1 σ H1 x v Q I1 r1 q1) (he _)
theorem qeH:OpR X (binaryOp .Add) (fun x y H Q=>∃ i j,x=.str i∧y=.str j∧i.length+j.length≤sizeLine∧Q (.str (i++j)) H):=by
 intro pins s σ H x y v u Q I rx ry h
 obtain ⟨i,j,rfl,rfl,hz,q⟩:=h
 obtain ⟨t,rfl⟩:=rx
 obtain ⟨t',rfl⟩:=ry
 exact add_str (fun t' tk=>⟨.str (i++j),H,I.tok _,⟨_,rfl⟩,q⟩) hz
theorem qae {x:V} {us:List Value} (r:Vals [x] us):∃ u,us=[u]∧RelV x u:=by
 cases r with
 | cons r1 r2=>cases r2; exact ⟨_,rfl,r1⟩
theorem qeZ {x y:V} {us:List Value} (r:Vals [x,y] us):∃ u w',us=[u,w']∧RelV x u∧RelV y w':=by
 cases r with
 | cons r1 r2 =>
   cases r2 with
   | cons r3 r4=>cases r4; exact ⟨_,_,rfl,r1,r3⟩
theorem Ql (hc:X.calm=true):jX X (.builtin "max") (fun xs H Q=>∃ i j,xs=[.int i,.int j]∧Q (.int (if j > i then j else i)) H):=by
 intro pins s σ H xs us Q I r h
 obtain ⟨i,j,rfl,q⟩:=h
 obtain ⟨u,w',rfl,⟨t,rfl⟩,⟨t',rfl⟩⟩:=qeZ r
 refine max_two_ints (I.ok.hd hc) fun h' tk k=>⟨_,H,I.kept k,?_,q⟩
 by_cases hj:j > i
 · rw [if_pos hj,if_pos hj]; exact ⟨_,rfl⟩
 · rw [if_neg hj,if_neg hj]; exact ⟨_,rfl⟩
theorem Zx (hc:X.calm=true):jX X (.builtin "min") (fun xs H Q=>∃ i j,xs=[.int i,.int j]∧Q (.int (if j < i then j else i)) H):=by
 intro pins s σ H xs us Q I r h
 obtain ⟨i,j,rfl,q⟩:=h
 obtain ⟨u,w',rfl,⟨t,rfl⟩,⟨t',rfl⟩⟩:=qeZ r
 refine min_two_ints (I.ok.hd hc) fun h' tk k=>⟨_,H,I.kept k,?_,q⟩
 by_cases hj:j < i
 · rw [if_pos hj,if_pos hj]; exact ⟨_,rfl⟩
 · rw [if_neg hj,if_neg hj]; exact ⟨_,rfl⟩
theorem qa8:jX X (.type "int") (fun xs H Q=>(∃ i,xs=[.int i]∧Q (.int i) H)∨∃ k,xs=[.bl k]∧Q (.int (if k then 1 else 0)) H):=by
 intro pins s σ H xs us Q I r h
 rcases h with ⟨i,rfl,q⟩ | ⟨k,rfl,q⟩
 · obtain ⟨u,rfl,t,rfl⟩:=qae r
   exact call_int_int ⟨.int i,H,I,⟨_,rfl⟩,q⟩
 · obtain ⟨u,rfl,r1⟩:=qae r
   cases r1
   exact call_int_bool ⟨.int (if k then 1 else 0),H,I.tok _,⟨_,rfl⟩,q⟩
def qlm (K:PySem.W.Frag) (x:V) (H:Hp) (n:Nat):Prop :=
 match x with
 | .str y=>y.length≤sizeLine∧n=y.length
 | .byt y=>y.size≤sizeLine∧n=y.size
 | .ref p=>(∃ xs,SqL K H p xs∧n=xs.length)∨∃ xs,SqT K H p xs∧n=xs.length
 | _=>False
theorem qU:jX X (.builtin "len") (fun xs H Q=>∃ x n,xs=[x]∧qlm X.K x H n∧Q (.int n) H):=by
 intro pins s σ H xs us Q I r h
 obtain ⟨x,n,rfl,e,q⟩:=h
 obtain ⟨u,rfl,rx⟩:=qae r
 have hl:=qbD
 have hs:sizeLine=16777216:=sizeLine_eq
 cases x with
 | str y =>
   obtain ⟨t,rfl⟩:=rx
   obtain ⟨hy,e'⟩:y.length≤sizeLine∧n=y.length:=e
   subst e'
   exact len_str (by omega) ⟨.int _,H,I.tok _,⟨_,rfl⟩,q⟩
 | byt y =>
   obtain ⟨t,rfl⟩:=rx
   obtain ⟨hy,e'⟩:y.size≤sizeLine∧n=y.size:=e
   subst e'
   exact PySem.W.len_bytes (by omega) ⟨.int _,H,I.tok _,⟨_,rfl⟩,q⟩
 | ref p =>
   cases rx
   have e':(∃ xs,SqL X.K H p xs∧n=xs.length)∨∃ xs,SqT X.K H p xs∧n=xs.length:=e
   rcases e' with ⟨xs,hx,e'⟩ | ⟨xs,hx,e'⟩
   · subst e'
     obtain ⟨its,r',pl,hz⟩:=I.list hx
     have hlen:=r'.length
     exact Calls.call_len_list pl.isList (by simp only [List.size_toArray]; omega) ⟨.int xs.length,H,I.tok _,⟨_,by simp only [List.size_toArray]; rw [hlen]⟩,q⟩
   · subst e'
     obtain ⟨its,r',pl,hz⟩:=I.tuple hx
     have hlen:=r'.length
     exact len_tuple pl (by simp only [List.size_toArray]; omega) ⟨.int xs.length,H,I.tok _,⟨_,by simp only [List.size_toArray]; rw [hlen]⟩,q⟩
 | _=>exact (show False from e).elim
end
end L2
namespace L2
open PySem PySem.Spec PyProof.Rows
structure ObjM (h:Heap) (x dx C:Addr) (mA:Str->Option Value):Prop where
 obj:h.get? x=some (PySem.W.instObj C dx)
 ns:h.Ns1 dx mA
 ne:dx≠x
theorem qc2 {h:Heap} {dx:Addr} {mA:Str->Option Value} (n:h.Ns1 dx mA):∃ od,h.get? dx=some od∧∀ name,PySem.W.lookIn name od=some (mA name):=by
 obtain ⟨o,es,ep,ho,hd,hk,_,hm⟩:=n
 refine ⟨o,ho,fun name=>?_⟩
 have e:=hm name
 unfold nsFind findBy at e
 rw [← Array.find?_toList] at e
 unfold PySem.W.lookIn
 rw [hd]
 dsimp only
 split
 · rename_i y q
   rw [q] at e
   exact congrArg some e
 · rename_i q
   rw [q] at e
   have a:es.toList.any (·.refKey)=false:=by
     rw [List.any_eq_false]
     intro y hy
     obtain ⟨z,t,hkey⟩:=hk y (Array.mem_toList_iff.mp hy)
     simp [DictEntry.refKey,hkey]
   have a':¬ es.toList.any (·.refKey)=true:=by rw [a]; exact Bool.false_ne_true
   rw [if_neg a']
   exact congrArg some e
theorem ObjM.look {h:Heap} {x dx C:Addr} {mA:Str->Option Value} (I:ObjM h x dx C mA):∃ od,PySem.W.InstAt h x (PySem.W.instObj C dx) C (some od)∧∀ name,PySem.W.lookIn name od=some (mA name) :=
 let ⟨od,ho,hl⟩:=qc2 I.ns
 ⟨od,⟨I.obj,rfl,rfl,ho⟩,hl⟩
section
variable {prog:Program} {w:World} {A:Around} {E:Value->Shared->Prop} {s:Shared} {K:PySem.W.Frag} {x dx C f:Addr} {mA:Str->Option Value} {name:Str} {v:Value}
theorem qiG {expr:Bool} {Q:Value->Shared->Prop} (X:K.In s.heap) (I:ObjM s.heap x dx C mA) (hg:PySem.W.plainGet K C name=true) (hh:PySem.W.hasDictIn K C=true)
   (ha:PySem.W.findIn K (.ref C) name=some none) (hv:mA name=some v) (hv':PySem.W.handedIn v=true) (h:Q v { s with toks:=s.toks+1 }) :
   wpAny (model prog w) A (getAttr (.ref x) name expr) Q E s:=by
 obtain ⟨od,J,hl⟩:=I.look
 exact PySem.W.get_value X J (PySem.W.plainGet_of hg).1 (PySem.W.findObj_own hh ha rfl (by rw [hl,hv])) hv' h
theorem qhj {pl:Sem Bool} {Q:Value×List Value->Shared->Prop} (X:K.In s.heap) (I:ObjM s.heap x dx C mA) (hg:PySem.W.plainGet K C name=true)
   (hf:PySem.W.findIn K (.ref C) name=some (some (.ref f))) (ht:PySem.W.isFn K (.ref f)=true) (hv:mA name=none) (h:Q (.ref f,[.ref x]) s) :
   wpAny (model prog w) A (getMethod (.ref x) name pl) Q E s:=by
 obtain ⟨od,J,hl⟩:=I.look
 exact PySem.W.method_fn X J (PySem.W.plainGet_of hg).1 (PySem.W.plainGet_of hg).2 hf (beq_iff_eq.mp ht) (by show (PySem.W.lookIn name od).map (·.isSome)=some false; rw [hl,hv]; rfl) h
theorem qij {ns:List Str} {Q:Unit->Shared->Prop} (X:K.In s.heap) (I:ObjM s.heap x dx C mA)
   (hs:PySem.W.findIn K (.ref C) "__setattr__"=some (some (.builtin "object.__setattr__"))) (hp:PySem.W.plainOver K C=true) (ht:PySem.W.takerIn K C name=some none) (hh:PySem.W.hasDictIn K C=true)
   (hw:PySem.Within mA ns) (hsz:ns.length≤sizeLine)
   (h:∀ h',ObjM h' x dx C (fun y=>if y=name then some v else mA y)->Heap.SameBut dx s.heap h'->Q () { s with heap:=h',toks:=s.toks+2 }) :
   wpAny (model prog w) A (setAttr (.ref x) name v) Q E s:=by
 obtain ⟨od,J,hl⟩:=I.look
 refine PySem.W.set_plain X J hs (PySem.W.osa_open (s:={ s with toks:=s.toks+1 }) (r:=none) X J hp ht fun b=>?_)
 obtain ⟨cd,hc,hd'⟩:=PySem.W.any_some hh
 have hx:s.heap.get? x=some ⟨.ref C,some dx,.plain,#[]⟩:=I.obj
 refine wpAny_bind (wpAny_pure (wpAny_bind (wpAny_bind (wpAny_loadPart hx (wpAny_bind (PySem.W.Looks.here (s:={ s with toks:=s.toks+1 }) (PySem.W.looks_clsIn X hc) ?_))))))
 rw [hd']
 refine wpAny_pure (a:=some dx) (wpAny_bind (wpAny_pure (wpAny_bind ?_)))
 refine wpAny_nsSet1 (s:={ s with toks:=s.toks+1 }) I.ns fun h' hn2 hs2=>?_
 obtain ⟨oD,esD,epD,hoD,hdD,hcD⟩:=hn2.count (PySem.Within.cons name v hw)
 refine wpAny_bind (wpAny_lookBehind hoD (by rw [hdD]; exact pastItsLine_dict (Nat.le_trans hcD (by rw [List.length_cons]; omega))) ?_)
 exact wpAny_pure (h _ ⟨(hs2.2 _ (Ne.symm I.ne)).trans I.obj,hn2,I.ne⟩ hs2)
theorem qhb {R:Result->Shared->Prop} {vs:List Value} {kw:List (Str×Value)} (X:K.In s.heap) (hm:PySem.W.makesIn K C=true)
   (hi:PySem.W.findIn K (.ref C) "__init__"=some (some (.ref f))) (hf:PySem.W.typeIn K (.ref f)=some (.type "function"))
   (h:codeAny (model prog w) (A.under (.builtin "type.__call__" ⟨.ref C::vs,kw⟩)) (.call (.ref f) ⟨.ref (s.heap.objs.size+1)::vs,kw⟩) (PySem.W.InitBack (s.heap.objs.size+1) R)
     { s with heap:=(s.heap.push PySem.W.emptyDict).push (PySem.W.instObj C s.heap.objs.size) }) :
   codeAny (model prog w) A (.call (.ref C) ⟨vs,kw⟩) R s:=by
 obtain ⟨hh,g,d,t,os⟩:=s
 exact PySem.W.make_core (PySem.W.makes_of X hm) (PySem.W.looks_findIn X hi) (fun self=>PySem.W.bind_fn X self hf) (.inl rfl) h
end
def qcs (f:Str) (v:V):List (Str×V)->List (Str×V)
 | []=>[(f,v)]
 | (g,x)::r=>if g=f then (g,v)::r else (g,x)::qcs f v r
theorem ZG (f g:Str) (v:V):∀ fs:List (Str×V),(qcs f v fs).lookup g=if g=f then some v else fs.lookup g
 | []=>by
   show List.lookup g [(f,v)]=_
   by_cases h:g=f
   · have hb:(g == f)=true:=beq_iff_eq.mpr h
     simp only [List.lookup,hb,if_pos h]
   · have hb:(g == f)=false:=beq_eq_false_iff_ne.mpr h
     simp only [List.lookup,hb,if_neg h]
 | (k,x)::r=>by
   have ih:=ZG f g v r
   rw [show qcs f v ((k,x)::r)=(if k=f then (k,v)::r else (k,x)::qcs f v r) from rfl]
   by_cases hk:k=f
   · rw [if_pos hk]
     by_cases h:g=k
     · have hb:(g == k)=true:=beq_iff_eq.mpr h
       simp only [List.lookup,hb,if_pos (h.trans hk)]
     · have hb:(g == k)=false:=beq_eq_false_iff_ne.mpr h
       simp only [List.lookup,hb,if_neg (fun e:g=f=>h (e.trans hk.symm))]
   · rw [if_neg hk]
     by_cases h:g=k
     · have hb:(g == k)=true:=beq_iff_eq.mpr h
       simp only [List.lookup,hb,if_neg (fun e:g=f=>hk (h.symm.trans e))]
     · have hb:(g == k)=false:=beq_eq_false_iff_ne.mpr h
       simp only [List.lookup,hb]
       exact ih
theorem qaZ (f:Str) (v:V):∀ fs:List (Str×V),f∈(qcs f v fs).map (·.1)∧∀ g,g∈fs.map (·.1)->g∈(qcs f v fs).map (·.1)
 | []=>⟨by simp [qcs],fun g h=>by simp at h⟩
 | (k,x)::r=>by
   obtain ⟨i1,i2⟩:=qaZ f v r
   rw [show qcs f v ((k,x)::r)=(if k=f then (k,v)::r else (k,x)::qcs f v r) from rfl]
   by_cases hk:k=f
   · rw [if_pos hk]
     subst hk
     exact ⟨by simp,fun g h=>by simpa using h⟩
   · rw [if_neg hk]
     refine ⟨?_,fun g h=>?_⟩
     · rw [List.map_cons]
       exact List.mem_cons_of_mem _ i1
     · rw [List.map_cons] at h ⊢
       rcases List.mem_cons.mp h with e | e
       · exact List.mem_cons.mpr (.inl e)
       · exact List.mem_cons_of_mem _ (i2 g e)
theorem qaX (f:Str) (v:V):∀ fs:List (Str×V),(qcs f v fs).length≤fs.length+1
 | []=>by simp [qcs]
 | (k,x)::r=>by
   have ih:=qaX f v r
   rw [show qcs f v ((k,x)::r)=(if k=f then (k,v)::r else (k,x)::qcs f v r) from rfl]
   by_cases hk:k=f
   · rw [if_pos hk,List.length_cons,List.length_cons]; omega
   · rw [if_neg hk,List.length_cons,List.length_cons]; omega
theorem RelO.some_of {v:V} {o:Option Value} (r:RelO (some v) o):∃ u,o=some u∧RelV v u:=by
 cases o with
 | none=>exact (show False from r).elim
 | some u=>exact ⟨u,rfl,r⟩
theorem RelO.none_of {o:Option Value} (r:RelO none o):o=none:=by
 cases o with
 | none=>rfl
 | some u=>exact (show False from r).elim
theorem qc9 {v:V} {u:Value} (r:RelV v u):PySem.W.handedIn u=true:=by
 cases v with
 | non=>cases (show u=Value.none from r); rfl
 | bl b=>cases (show u=Value.bool b from r); rfl
 | int i=>obtain ⟨t,e⟩:=(show ∃ t,u=Value.int i t from r); cases e; rfl
 | str x=>obtain ⟨t,e⟩:=(show ∃ t,u=Value.str x t from r); cases e; rfl
 | byt b=>obtain ⟨t,e⟩:=(show ∃ t,u=Value.bytes b t from r); cases e; rfl
 | flt b=>obtain ⟨t,e⟩:=(show ∃ t,u=Value.float b t from r); cases e; rfl
 | ref a=>cases (show u=Value.ref a from r); rfl
 | ty n=>cases (show u=Value.type n from r); rfl
section
variable {P:Program} {w:World} {H H':Hp} {h h':Heap} {a C dx:Addr} {fs fs':List (Str×V)}
theorem qcn (hok:HOk P w H h) (e:H a=some (.ins C dx fs)):∃ mA,ObjM h a dx C mA∧(∀ f,RelO (fs.lookup f) (mA f))∧PySem.Within mA (fs.map (·.1))∧fs.length≤1000∧H dx=some (.own a):=by
 obtain ⟨d,z,ne,ob,mA,n,r,q⟩:=(show ObjOk P w H h a (.ins C dx fs) from hok a _ e)
 exact ⟨mA,⟨ob,n,ne⟩,r,q,z,d⟩
end
structure Cls (K:PySem.W.Frag) (C:Addr):Prop where
 pg:PySem.W.plainGet K C Str.empty=true
 hd:PySem.W.hasDictIn K C=true
 po:PySem.W.plainOver K C=true
 sa:PySem.W.findIn K (.ref C) "__setattr__"=some (some (.builtin "object.__setattr__"))
theorem Cls.get {K:PySem.W.Frag} {C:Addr} (c:Cls K C) (f:Str):PySem.W.plainGet K C f=true:=c.pg
def NoAttr (K:PySem.W.Frag) (C:Addr) (f:Str):Prop:=PySem.W.findIn K (.ref C) f=some none
theorem NoAttr.taker {K:PySem.W.Frag} {C:Addr} {f:Str} (n:NoAttr K C f):PySem.W.takerIn K C f=some none:=by
 unfold PySem.W.takerIn
 rw [show PySem.W.findIn K (.ref C) f=some none from n]
 rfl
structure qgz (K:PySem.W.Frag) (C:Addr) (m:Str) (f:Addr):Prop where
 at_:PySem.W.findIn K (.ref C) m=some (some (.ref f))
 fn:PySem.W.isFn K (.ref f)=true
 kp:PySem.W.keepIn K (.ref f)=true
section
variable {X:Cx} {pins:List (Addr×Obj)} {σ:St} {H:Hp} {s:Shared} {a C dx:Addr} {fs:List (Str×V)} {f:Str} {v:V} {A:Around} {E:Value->Shared->Prop}
theorem qeP {b:Bool} {Q:Value->Shared->Prop} (I:Inv X pins σ H s) (e:H a=some (.ins C dx fs)) (c:Cls X.K C) (n:NoAttr X.K C f) (l:fs.lookup f=some v)
   (h:∀ u s',Inv X pins σ H s'->RelV v u->Q u s'):wpAny (model X.prog X.w) A (getAttr (.ref a) f b) Q E s:=by
 obtain ⟨mA,O,r,_,_,_⟩:=qcn I.hok e
 obtain ⟨u,hu,ru⟩:=RelO.some_of (v:=v) (o:=mA f) (by rw [← l]; exact r f)
 exact qiG I.kIn O (c.get f) c.hd n hu (qc9 ru) (h u _ (I.tok _) ru)
theorem JN {m:Str} {g:Addr} {pl:Sem Bool} {Q:Value×List Value->Shared->Prop} (I:Inv X pins σ H s) (e:H a=some (.ins C dx fs)) (c:Cls X.K C) (k:qgz X.K C m g) (l:fs.lookup m=none)
   (h:Q (.ref g,[.ref a]) s):wpAny (model X.prog X.w) A (getMethod (.ref a) m pl) Q E s:=by
 obtain ⟨mA,O,r,_,_,_⟩:=qcn I.hok e
 have hn:mA m=none:=RelO.none_of (by rw [← l]; exact r m)
 exact qhj I.kIn O (c.get m) k.at_ k.fn hn h
theorem qeD {y:V} {u:Value} {Q:Unit->Shared->Prop} (I:Inv X pins σ H s) (e:H a=some (.ins C dx fs)) (c:Cls X.K C) (n:NoAttr X.K C f) (hl:fs.length < 1000) (ry:RelV y u)
   (h:∀ s',Inv X pins σ (upd H a (.ins C dx (qcs f y fs))) s'->Q () s'):wpAny (model X.prog X.w) A (setAttr (.ref a) f u) Q E s:=by
 obtain ⟨mA,O,r,wi,_,ho⟩:=qcn I.hok e
 have hz:(fs.map (·.1)).length≤sizeLine:=by rw [List.length_map,sizeLine_eq]; omega
 refine qij I.kIn O c.sa c.po n.taker c.hd wi hz fun h' O' sb=>h _ ?_
 have hd:∃ o,h'.get? dx=some o:=let ⟨o,_,_,e',_⟩:=O'.ns; ⟨o,e'⟩
 refine I.write (x:=a) (e:=dx) (by rw [e]; exact True.intro) (.inr ho) (fun b q hb z=>(sb.2 b hb).trans z) hd ?_
 refine ⟨by rw [qh O.ne]; exact ho,?_,O.ne,O'.obj,_,O'.ns,fun g=>?_,fun g hg=>?_⟩
 · have:=qaX f y fs; omega
 · show RelO ((qcs f y fs).lookup g) (if g=f then some u else mA g)
   rw [ZG]
   by_cases q:g=f
   · rw [if_pos q,if_pos q]; exact ry
   · rw [if_neg q,if_neg q]; exact r g
 · by_cases q:g=f
   · rw [q]; exact (qaZ f y fs).1
   · refine (qaZ f y fs).2 g (wi g fun z=>hg ?_)
     show (if g=f then some u else mA g)=none
     rw [if_neg q]; exact z
theorem Inv.made (I:Inv X pins σ H s):Inv X pins σ (upd (upd H s.heap.objs.size (.own (s.heap.objs.size+1))) (s.heap.objs.size+1) (.ins C s.heap.objs.size []))
   { s with heap:=(s.heap.push PySem.W.emptyDict).push (PySem.W.instObj C s.heap.objs.size) }:=by
 have e1:(s.heap.push PySem.W.emptyDict).get? s.heap.objs.size=some PySem.W.emptyDict:=Heap.get?_push_size s.heap rfl
 have e2:((s.heap.push PySem.W.emptyDict).push (PySem.W.instObj C s.heap.objs.size)).get? (s.heap.objs.size+1)=some (PySem.W.instObj C s.heap.objs.size):=by
   have:=Heap.get?_push_size (s.heap.push PySem.W.emptyDict) (o:=PySem.W.instObj C s.heap.objs.size) rfl
   rwa [Heap.size_push] at this
 have e3:(s.heap.push PySem.W.emptyDict).Ns s.heap.objs.size (fun _=>none):=⟨PySem.W.emptyDict,#[],_,e1,rfl,(fun e he=>absurd he (by simp)),fun _=>rfl⟩
 have I1:=I.laid (a:=s.heap.objs.size) (o:=.own (s.heap.objs.size+1)) (h':=s.heap.push PySem.W.emptyDict) (t':=s.toks) (fun b u q=>Heap.get?_push_of_some _ q) (Nat.le_refl _) ⟨_,e1⟩
 refine I1.laid (a:=s.heap.objs.size+1) (o:=.ins C s.heap.objs.size []) (t':=s.toks) (fun b u q=>Heap.get?_push_of_some _ q) (Nat.le_of_eq (Heap.size_push _ _)) ?_
 have ne:s.heap.objs.size≠s.heap.objs.size+1:=Nat.ne_of_lt (Nat.lt_succ_self _)
 refine ⟨by rw [qh ne,qc],Nat.zero_le _,ne,e2,fun _=>none,(Heap.Ns1.of_empty e3).at fun o q=>Heap.get?_push_of_some _ q,fun _=>True.intro,fun y hy=>absurd rfl hy⟩
theorem qgt {prog:Program} {w:World} {env:Env} {e:Expr} {f:Str} {pos:Pos} {s:Shared} {Q:Value->Shared->Prop} (hb:attributeBase e f env (eval e env)=eval e env)
   (h:wpAny (model prog w) A (eval e env) (fun o s₁=>wpAny (model prog w) A (getAttr o f true) Q E s₁) E s):wpAny (model prog w) A (eval (.Attribute e f pos) env) Q E s :=
 Attribute_any_ h (by rw [arm_eval_Attribute,hb])
end
inductive qhz (K:PySem.W.Frag) (f:Str) (Q:VK) (x:V) (H1:Hp):Prop
 | mk (a C dx fs v:_) (h1:x=.ref a) (h2:H1 a=some (.ins C dx fs)) (h3:Cls K C) (h4:NoAttr K C f) (h5:fs.lookup f=some v) (h6:Q v H1):qhz K f Q x H1
def qk4 (K:PySem.W.Frag) (ta:TE) (f:Str):TE:=fun σ H Q=>ta σ H fun x H1=>qhz K f Q x H1
def qk6 (K:PySem.W.Frag) (ta tv:TE) (f:Str):TS:=fun D σ H=>tv σ H fun y H1=>ta σ H1 fun x H2=>∃ a C dx fs,x=.ref a∧H2 a=some (.ins C dx fs)∧Cls K C∧NoAttr K C f∧fs.length < 1000 ∧
 D.nx σ (upd H2 a (.ins C dx (qcs f y fs)))
section
variable {X:Cx} {o e value:Expr} {f:Str} {pos pos' tpos:Pos} {ta tv:TE}
theorem qP (he:PE X e ta) (hb:attributeBase e f X.env (eval e X.env)=eval e X.env):PE X (.Attribute e f pos) (qk4 X.K ta f):=by
 intro pins s σ H Q I h
 refine qgt hb (thn (he pins s σ H _ I h) fun u s1 zz_=>?_)
 obtain ⟨x,H1,I1,rx,a,C,dx,fs,v,ex,ea,c,n,l,q⟩:=zz_
 subst ex
 obtain rfl:u=Value.ref a:=rx
 exact qeP I1 ea c n l fun u' s2 I2 ru=>⟨v,H1,I2,ru,q⟩
theorem Q8 (ha:PE X o ta) (hv:PE X value tv) (hs:swapsWith value (some (.Attribute o f pos')) pos.line X.env=pure false):PS X (.Assign [.Attribute o f pos'] value pos) (qk6 X.K ta tv f):=by
 intro pins s σ H D I h
 refine plainObj_wpAny_Assign_Attribute (thn (hv pins s σ H _ I h) fun u s1 ⟨y,H1,I1,ry,q⟩=>thn (ha pins s1 σ H1 _ I1 q) fun ov s2 zz_=>?_) hs
 obtain ⟨x,H2,I2,rx,a,C,dx,fs,ex,ea,c,n,l,q2⟩:=zz_
 subst ex
 obtain rfl:ov=Value.ref a:=rx
 exact qeD I2 ea c n l ry fun s3 I3=>⟨σ,_,I3,q2⟩
end
section
variable {X:Cx} {pins:List (Addr×Obj)} {σ:St} {H:Hp} {s:Shared} {A:Around} {E:Value->Shared->Prop} {Q:Value->Shared->Prop} {c:Value} {b:Bool}
inductive qdn (K:PySem.W.Frag) (H:Hp):V->Value->Prop where
 | non:qdn K H .non (.type "NoneType")
 | bl (x:Bool):qdn K H (.bl x) (.type "bool")
 | int (i:Int):qdn K H (.int i) (.type "int")
 | str (x:Str):qdn K H (.str x) (.type "str")
 | flt (x:UInt64):qdn K H (.flt x) (.type "float")
 | lst {a:Addr} {xs:List V} (e:H a=some (.lst xs)):qdn K H (.ref a) (.type "list")
 | frz {a:Addr} {o:Obj} {xs:List V} (e:H a=some (.frz o (.lst xs))):qdn K H (.ref a) (.type "list")
 | tup {a:Addr} {xs:List V} (e:H a=some (.tup xs)):qdn K H (.ref a) (.type "tuple")
 | dK {a:Addr} {kvs:List (Key×V)} (e:H a=some (.dK kvs)):qdn K H (.ref a) (.type "dict")
 | dT {a:Addr} {kvs:List (List Key×V)} (e:H a=some (.dT kvs)):qdn K H (.ref a) (.type "dict")
 | ins {a C dx:Addr} {fs:List (Str×V)} (e:H a=some (.ins C dx fs)) (cl:Cls K C) (ha:PySem.W.findIn K (.ref C) "__class__"=some (some (.builtin "object.__class__")))
     (hn:PySem.W.specialIn K (.builtin "object.__class__") "__get__"=some (some (.builtin "getset_descriptor.__get__"))) (htk:PySem.W.takesIn K (.builtin "object.__class__")=some true)
     (hm:PySem.W.mroIn K C (.type "object")=some true):qdn K H (.ref a) (.ref C)
theorem qc8 {x:V} {u t:Value} (I:Inv X pins σ H s) (rx:RelV x u) (ty:qdn X.K H x t) (e:PySem.W.kitOne X.K t c=some b) (h:∀ tk,Q (.bool b) { s with toks:=tk }) :
   wpAny (model X.prog X.w) A (call (.builtin "isinstance") [u,c]) Q E s:=by
 cases ty with
 | non=>cases (show u=Value.none from rx); exact PySem.W.kia_one PySem.W.kitx_none I.kIn True.intro e (fun z=>nomatch z) h
 | bl y=>cases (show u=Value.bool y from rx); exact PySem.W.kia_one PySem.W.kitx_bool I.kIn True.intro e (fun z=>nomatch z) h
 | int i=>obtain ⟨t,q⟩:=(show ∃ t,u=Value.int i t from rx); cases q; exact PySem.W.kia_one PySem.W.kitx_int I.kIn True.intro e (fun z=>nomatch z) h
 | str y=>obtain ⟨t,q⟩:=(show ∃ t,u=Value.str y t from rx); cases q; exact PySem.W.kia_one PySem.W.kitx_str I.kIn True.intro e (fun z=>nomatch z) h
 | flt y=>obtain ⟨t,q⟩:=(show ∃ t,u=Value.float y t from rx); cases q; exact PySem.W.kia_one PySem.W.kitx_float I.kIn True.intro e (fun z=>nomatch z) h
 | @lst a xs ea =>
   cases (show u=Value.ref a from rx)
   obtain ⟨_,_,n,_,h1⟩:=(show ObjOk X.prog X.w H s.heap a (.lst xs) from I.hok a _ ea)
   exact PySem.W.kia_one PySem.W.kitx_list I.kIn ⟨_,h1,rfl⟩ e (fun z=>nomatch z) h
 | @frz a ob xs ea =>
   cases (show u=Value.ref a from rx)
   obtain ⟨_,_,_,n,_,h1⟩:=(show ObjOk X.prog X.w H s.heap a (.frz ob (.lst xs)) from I.hok a _ ea)
   exact PySem.W.kia_one PySem.W.kitx_list I.kIn ⟨_,h1,rfl⟩ e (fun z=>nomatch z) h
 | @tup a xs ea =>
   cases (show u=Value.ref a from rx)
   obtain ⟨_,_,_,p⟩:=(show ObjOk X.prog X.w H s.heap a (.tup xs) from I.hok a _ ea)
   obtain ⟨o,h1,h2,_⟩:=p
   exact PySem.W.kia_one PySem.W.kitx_tuple I.kIn ⟨o,h1,h2⟩ e (fun z=>nomatch z) h
 | @dK a kvs ea =>
   cases (show u=Value.ref a from rx)
   obtain ⟨_,_,vs,_,p⟩:=(show ObjOk X.prog X.w H s.heap a (.dK kvs) from I.hok a _ ea)
   obtain ⟨o,es,ep,h1,h2,_⟩:=p
   exact PySem.W.kia_one PySem.W.kitx_dict I.kIn ⟨o,h1,h2.1⟩ e (fun z=>nomatch z) h
 | @dT a kvs ea =>
   cases (show u=Value.ref a from rx)
   obtain ⟨_,_,xs,_,o,es,ep,h1,h2,_⟩:=(show ObjOk X.prog X.w H s.heap a (.dT kvs) from I.hok a _ ea)
   exact PySem.W.kia_one PySem.W.kitx_dict I.kIn ⟨o,h1,h2.1⟩ e (fun z=>nomatch z) h
 | @ins a C dx fs ea cl ha hn htk hm =>
   cases (show u=Value.ref a from rx)
   obtain ⟨mA,O,_⟩:=qcn I.hok ea
   obtain ⟨od,J,_⟩:=O.look
   exact PySem.W.kia_one (PySem.W.kitx_own (cl.get _) cl.hd ha hn htk hm) I.kIn J e (fun z=>nomatch z) h
end
end L2
namespace L2
open PySem PySem.Spec PyProof.Rows
structure Room (k:Nat) (A:Around):Prop where
 hd:A.handled=none
 dp:A.depth+3 * k+5 < recursionLimit
 un:A.units+16 * k+200 < cLine
 gd:A.guards=some []
theorem Room.mono {j k:Nat} {A:Around} (r:Room k A) (h:j≤k):Room j A:=⟨r.hd,by have:=r.dp; omega,by have:=r.un; omega,r.gd⟩
theorem Room.deeper {k:Nat} {A:Around} (r:Room (k+1) A) (env:Env):Room k (A.deeper env) :=
 ⟨r.hd,by have:=r.dp; show A.depth+1+3 * k+5 < _; omega,by have:=r.un; show A.units+3+16 * k+200 < _; omega,r.gd⟩
theorem qeN {A:Around} {C:Addr} {us:List Value} {kw:List (Str×Value)}:(A.under (.builtin "type.__call__" ⟨.ref C::us,kw⟩)).depth=A.depth+1:=by
 first | rfl | simp [Around.under,Code.weight,Code.isCreation,Code.isGuard,Code.isCaller,Code.frames,Code.isFrame,guardIds]
theorem qeM {A:Around} {C:Addr} {us:List Value} {kw:List (Str×Value)}:(A.under (.builtin "type.__call__" ⟨.ref C::us,kw⟩)).units=A.units+1:=by
 first | rfl | simp [Around.under,Code.cUnits,Code.frames,Code.isFrame]
theorem Room.make {k:Nat} {A:Around} (r:Room (k+1) A) (C:Addr) (us:List Value) (kw:List (Str×Value)):Room k (A.under (.builtin "type.__call__" ⟨.ref C::us,kw⟩)) :=
 ⟨r.hd,by have:=r.dp; rw [qeN]; omega,by have:=r.un; rw [qeM]; omega,r.gd⟩
theorem Room.depth {k:Nat} {A:Around} (r:Room k A):A.depth < recursionLimit:=by have:=r.dp; omega
theorem Room.units {k:Nat} {A:Around} (r:Room k A):A.units+64 < cLine:=by have:=r.un; omega
def qdY:TA:=fun _ H Q=>Q [] H
def qj8 (ta:TE) (tr:TA):TA:=fun σ H Q=>ta σ H fun x H1=>tr σ H1 fun xs H2=>Q (x::xs) H2
section
variable {X:Cx} {e:Expr} {es:List Expr} {te:TE} {t:TA} {pos:Pos}
theorem qb:PA X [] qdY:=fun _ _ _ _ H Q I h=>Calls.spliced_nil ⟨[],H,I,.nil,h⟩
theorem qa (ha:PE X e te) (hr:PA X es t) (hs:starEach (e::es) X.env=(false,eval e X.env)::starEach es X.env:=by rfl):PA X (e::es) (qj8 te t):=by
 intro pos pins s σ H Q I h
 rw [hs]
 show wpAny _ _ (spliced ((false,eval e X.env)::backTo pos (starEach es X.env))) _ _ s
 refine Calls.spliced_cons (thn (ha pins s σ H _ I h) fun u s1 zz_=>?_)
 obtain ⟨x,H1,I1,r1,q1⟩:=zz_
 exact thn (hr pos pins s1 σ H1 _ I1 q1) fun us s2 ⟨xs,H2,I2,r2,q2⟩=>⟨x::xs,H2,I2,.cons r1 r2,q2⟩
def qk2 (t:TA):TE:=fun σ H Q=>t σ H fun xs H1=>xs.length≤sizeLine∧∀ p,H1 p=none->Q (.ref p) (upd H1 p (.tup xs))
def qib (t:TA):TE:=fun σ H Q=>t σ H fun xs H1=>xs.length≤sizeLine∧∀ p,H1 p=none->Q (.ref p) (upd H1 p (.lst xs))
theorem zR {x1} (h:PA X es t):PE X (.Tuple es x1 pos) (qk2 t):=by
 intro pins s σ H Q I hq
 refine wpAny_Tuple_spliced (thn (h pos pins s σ H _ I hq) fun us s1 ⟨xs,H1,I1,r,z,q⟩=>⟨by rw [← r.length]; exact z,?_⟩)
 have hf:H1 s1.heap.objs.size=none:=I1.hok.fresh (Nat.le_refl _)
 refine ⟨.ref s1.heap.objs.size,upd H1 s1.heap.objs.size (.tup xs),I1.laid (t':=s1.toks) (fun b u e=>Heap.get?_push_of_some _ e) (Nat.le_refl _) ?_,rfl,q _ hf⟩
 exact ⟨z,us,r,⟨_,Heap.get?_push_size _ rfl,rfl,_,rfl⟩⟩
theorem qQ (h:PA X es t):PE X (.List es pos) (qib t):=by
 intro pins s σ H Q I hq
 refine wpAny_List_spliced (thn (h pos pins s σ H _ I hq) fun us s1 ⟨xs,H1,I1,r,z,q⟩=>⟨by rw [← r.length]; exact z,?_⟩)
 have hf:H1 s1.heap.objs.size=none:=I1.hok.fresh (Nat.le_refl _)
 refine ⟨.ref s1.heap.objs.size,upd H1 s1.heap.objs.size (.lst xs),I1.laid (t':=s1.toks) (fun b u e=>Heap.get?_push_of_some _ e) (Nat.le_refl _) ?_,rfl,q _ hf⟩
 exact ⟨z,us,0,r,Heap.get?_push_size _ rfl⟩
end
abbrev Sp:=List V->Hp->VK->XK->Prop
abbrev CXT:=List Env->Hp->Shared->XK->Value->Shared->Prop
structure Env0 (P:Program) (w:World) (K:PySem.W.Frag) (mg:Str->Option Value) (base:Heap) (A:Around) (outer:List Env) (s:Shared) (H:Hp):Prop where
 frames:A.frames=some outer
 mod:Mod K mg base
 bs:∀ b o,base.get? b=some o->s.heap.get? b=some o∧H b=none
 bsz:base.objs.size≤s.heap.objs.size
 funs:s.heap.FunFrames base outer
 frf:∀ b∈frs outer,H b=none
 hok:HOk P w H s.heap
 bare:AllBare s.gens
def CE (outer:List Env) (P:Program) (w:World) (H:Hp) (s:Shared) (Q:VK) (u:Value) (s':Shared):Prop :=
 ∃ v H',s'.os=s.os∧AllBare s'.gens∧Un (frs outer) [] H H' s.heap s'.heap∧HOk P w H' s'.heap∧RelV v u∧Q v H'
def CR (CX:CXT) (outer:List Env) (P:Program) (w:World) (H:Hp) (s:Shared) (Q:VK) (E:XK) (r:Result) (s':Shared):Prop :=
 match r with
 | .ok (.ret u)=>CE outer P w H s Q u s'
 | .ok _=>False
 | .error e=>CX outer H s E e s'
structure qA (P:Program) (w:World) (K:PySem.W.Frag) (mg:Str->Option Value) (base:Heap) (CX:CXT) (k:Nat) (f:Addr) (fd:FuncData) (ps:List Str) (sp:Sp):Prop where
 len:∀ vs H Q E,sp vs H Q E->vs.length=ps.length
 run:∀ (A:Around) (outer:List Env) (s:Shared) (H:Hp) (args:Args) (us:List Value) (vs:List V) (Q:VK) (E:XK),Room k A->Env0 P w K mg base A outer s H->BindsTo s fd args (ps.zip us)->Vals vs us->sp vs H Q E ->
   codeAny (model P w) A (.call (.ref f) args) (CR CX outer P w H s Q E) s
theorem Env0.make {P:Program} {w:World} {K:PySem.W.Frag} {mg:Str->Option Value} {base:Heap} {A:Around} {outer:List Env} {s:Shared} {H:Hp} (e:Env0 P w K mg base A outer s H) (C:Addr) (us:List Value) (kw:List (Str×Value)) :
   Env0 P w K mg base (A.under (.builtin "type.__call__" ⟨.ref C::us,kw⟩)) outer s H:=⟨by first | exact e.frames | (simpa [Around.under,Code.envs,Code.isFrame,pushEnvs] using e.frames),e.mod,e.bs,e.bsz,e.funs,e.frf,e.hok,e.bare⟩
section
variable {X:Cx} {pins:List (Addr×Obj)} {σ:St} {H:Hp} {s s':Shared}
theorem Inv.env0 (I:Inv X pins σ H s):Env0 X.prog X.w X.K X.mg X.base X.A X.stack s H :=
 ⟨I.ok.frames,I.ok.mod,I.bs,Nat.le_trans I.ok.bsz I.sz,I.stack,I.stkFree,I.hok,I.bare⟩
theorem Inv.after {Q:VK} {u:Value} (I:Inv X pins σ H s) (h:CE X.stack X.prog X.w H s Q u s'):EP X pins σ Q u s':=by
 obtain ⟨v,H',os,bare,un,hok,r,q⟩:=h
 obtain ⟨hh,g,d,t,os'⟩:=s'
 obtain rfl:os'=s.os:=os
 exact ⟨v,H',I.call (h':=hh) (g':=g) (d':=d) (t':=t) (ch:=[]) un hok bare (fun b z=>absurd z (by simp)),r,q⟩
end
def qja (sp:Sp) (dvs:List V) (E:XK) (t:TA):TE:=fun σ H Q=>t σ H fun vs H1=>sp (vs++dvs) H1 Q E
inductive qfb (C:Addr) (m:Str) (sp:Sp) (dvs:List V) (E:XK) (t:TA) (σ:St) (Q:VK) (x:V) (H1:Hp):Prop
 | mk (a dx fs:_) (h1:x=.ref a) (h2:H1 a=some (.ins C dx fs)) (h3:fs.lookup m=none) (h4:t σ H1 fun vs H2=>sp (x::(vs++dvs)) H2 Q E):qfb C m sp dvs E t σ Q x H1
def qag (C:Addr) (m:Str) (sp:Sp) (dvs:List V) (E:XK) (ta:TE) (t:TA):TE:=fun σ H Q=>ta σ H fun x H1=>qfb C m sp dvs E t σ Q x H1
def qi5 (C:Addr) (sp:Sp) (dvs:List V) (E:XK) (t:TA):TE:=fun σ H Q=>t σ H fun vs H1=>∀ x dx,H1 x=none->H1 dx=none->dx≠x ->
 sp (.ref x::(vs++dvs)) (upd (upd H1 dx (.own x)) x (.ins C dx [])) (fun v H2=>v=.non∧Q (.ref x) H2) E
def Binds (K:PySem.W.Frag) (fd:FuncData) (ps:List Str) (ds:List Value):Prop :=
 ∀ (s:Shared) (us:List Value),K.In s.heap->(us++ds).length=ps.length->BindsTo s fd ⟨us,[]⟩ (ps.zip (us++ds))
theorem Binds.all {K:PySem.W.Frag} {fd:FuncData} {ps:List Str} (h:∀ us:List Value,us.length=ps.length->bindArgs fd ⟨us,[]⟩=pure (ps.zip us)):Binds K fd ps []:=fun s us _ hl=>by
 rw [List.append_nil] at hl ⊢
 exact .of_eq (h us hl)
def jN (CX:CXT) (X:Cx) (E:XK):Prop:=∀ (pins:List (Addr×Obj)) (σ:St) (H:Hp) (s:Shared) (e:Value) (s':Shared),Inv X pins σ H s->CX X.stack H s E e s'->X.xe e s'
section
variable {X:Cx} {CX:CXT} {k:Nat} {f C:Addr} {fd:FuncData} {ps:List Str} {sp:Sp} {dvs:List V} {ds:List Value} {E:XK} {x m:Str} {p pos apos:Pos} {e o:Expr} {es:List Expr} {ta:TE} {t:TA}
theorem qeb {pins:List (Addr×Obj)} {σ:St} {H:Hp} {s:Shared} {Q:VK} {us:List Value} {vs:List V} (F:qA X.prog X.w X.K X.mg X.base CX k f fd ps sp) (hr:Room k X.A) (hb:Binds X.K fd ps ds) (hd:Vals dvs ds) (hx:jN CX X E)
   (I:Inv X pins σ H s) (r:Vals vs us) (h:sp (vs++dvs) H Q E):wpAny (model X.prog X.w) X.A (call (.ref f) us) (EP X pins σ Q) X.xe s:=by
 have r2:Vals (vs++dvs) (us++ds):=r.append hd
 have hl:(us++ds).length=ps.length:=by rw [← r2.length]; exact F.len _ _ _ _ h
 refine wpAny_call (codeAny_mono (F.run X.A X.stack s H ⟨us,[]⟩ (us++ds) (vs++dvs) Q E hr I.env0 (hb s us I.kIn hl) r2 h) fun r s' hq=>?_)
 cases r with
 | error e=>exact hx pins σ H s e s' I hq
 | ok fl =>
   cases fl with
   | ret u=>exact I.after hq
   | next=>exact False.elim hq
   | brk=>exact False.elim hq
   | cont=>exact False.elim hq
theorem qj (F:qA X.prog X.w X.K X.mg X.base CX k f fd ps sp) (hr:Room k X.A) (hg:Gl X x) (hm:X.mg x=some (.ref f)) (hk:PySem.W.keepIn X.K (.ref f)=true) (hb:Binds X.K fd ps ds) (hd:Vals dvs ds) (hx:jN CX X E)
   (ha:PA X (e::es) t) (hdb:(x == ("__debug__":Str))=false:=by decide) (he:starEach (e::es) X.env=(false,eval e X.env)::starEach es X.env:=by rfl) (hpl:(backTo pos (starEach es X.env)).any (·.1)=false:=by rfl) :
   PE X (.Call (.Name x p) (e::es) [] pos) (qja sp dvs E t):=by
 intro pins s σ H Q I h
 refine wpAny_Call_Name_kw (jU I hg hm ?_ hdb)
 refine PySem.W.callWith_K (h₀:=X.base) I.ok.mod.kin hk (thn (ha pos pins s σ H _ I h) fun us s1 ⟨vs,H1,I1,r,q⟩=>⟨I1.kIn,?_⟩) he hpl
 exact qeb F hr hb hd hx I1 r q
theorem q9 {pl:Sem Bool} (he:PE X o ta) (c:Cls X.K C) (hm:qgz X.K C m f) (F:qA X.prog X.w X.K X.mg X.base CX k f fd ps sp) (hr:Room k X.A) (hb:Binds X.K fd ps ds) (hd:Vals dvs ds) (hx:jN CX X E) (ha:PA X (e::es) t)
   (hst:starEach (e::es) X.env=(false,eval e X.env)::starEach es X.env:=by rfl) (hpl:(backTo pos (starEach es X.env)).any (·.1)=false:=by rfl)
   (ht:eval (.Call (.Attribute o m apos) (e::es) [] pos) X.env=(do
     let ov ← eval o X.env
     standAt apos.atName
     let (f,first) ← holding [ov] (getMethod ov m pl)
     callWith pos f first (backTo pos (starEach (e::es) X.env)) (backToKw pos (keywordEach [] X.env))):=by rfl) :
   PE X (.Call (.Attribute o m apos) (e::es) [] pos) (qag C m sp dvs E ta t):=by
 intro pins s σ H Q I h
 refine PySem.W.methodCall_KW (pl:=pl) (thn (he pins s σ H _ I h) fun u s1 zz_=>?_) ht
 obtain ⟨x,H1,I1,rx,a,dx,fs,ex,ea,l,q⟩:=zz_
 subst ex
 obtain rfl:u=Value.ref a:=rx
 refine JN I1 ea c hm l ?_
 refine PySem.W.callWith_K (first:=[.ref a]) (h₀:=X.base) I.ok.mod.kin hm.kp (thn (ha pos pins s1 σ H1 _ I1 q) fun us s2 ⟨vs,H2,I2,r,q2⟩=>⟨I2.kIn,?_⟩) hst hpl
 exact qeb (us:=.ref a::us) (vs:=.ref a::vs) F hr hb hd hx I2 (.cons rfl r) q2
theorem Qh {pl:Sem Bool} (he:PE X o ta) (c:Cls X.K C) (hm:qgz X.K C m f) (F:qA X.prog X.w X.K X.mg X.base CX k f fd ps sp) (hr:Room k X.A) (hb:Binds X.K fd ps ds) (hd:Vals dvs ds) (hx:jN CX X E)
   (ht:eval (.Call (.Attribute o m apos) [] [] pos) X.env=(do
     let ov ← eval o X.env
     standAt apos.atName
     let (f,first) ← holding [ov] (getMethod ov m pl)
     callWith pos f first (backTo pos (starEach [] X.env)) (backToKw pos (keywordEach [] X.env))):=by rfl) :
   PE X (.Call (.Attribute o m apos) [] [] pos) (qag C m sp dvs E ta qdY):=by
 intro pins s σ H Q I h
 refine PySem.W.methodCall_KW (pl:=pl) (thn (he pins s σ H _ I h) fun u s1 zz_=>?_) ht
 obtain ⟨x,H1,I1,rx,a,dx,fs,ex,ea,l,q⟩:=zz_
 subst ex
 obtain rfl:u=Value.ref a:=rx
 refine JN I1 ea c hm l ?_
 exact PySem.W.callWith_K0 (first:=[.ref a]) I1.kIn hm.kp (qeb (us:=[.ref a]) (vs:=[.ref a]) F hr hb hd hx I1 (.cons rfl .nil) q)
structure Mk (K:PySem.W.Frag) (C f:Addr):Prop where
 makes:PySem.W.makesIn K C=true
 init:PySem.W.findIn K (.ref C) "__init__"=some (some (.ref f))
 fn:PySem.W.isFn K (.ref f)=true
 kp:PySem.W.keepIn K (.ref C)=true
theorem qea {pins:List (Addr×Obj)} {σ:St} {H:Hp} {s:Shared} {Q:VK} {us:List Value} {vs:List V} (M:Mk X.K C f) (F:qA X.prog X.w X.K X.mg X.base CX k f fd ps sp) (hr:Room (k+1) X.A) (hb:Binds X.K fd ps ds) (hd:Vals dvs ds)
   (hx:jN CX X E) (I:Inv X pins σ H s) (r:Vals vs us)
   (h:∀ x dx,H x=none->H dx=none->dx≠x->sp (.ref x::(vs++dvs)) (upd (upd H dx (.own x)) x (.ins C dx [])) (fun v H2=>v=.non∧Q (.ref x) H2) E) :
   wpAny (model X.prog X.w) X.A (call (.ref C) us) (EP X pins σ Q) X.xe s:=by
 have hq:=h (s.heap.objs.size+1) s.heap.objs.size (I.hok.fresh (Nat.le_succ _)) (I.hok.fresh (Nat.le_refl _)) (Nat.ne_of_lt (Nat.lt_succ_self _))
 have I2:=Inv.made (C:=C) I
 have r2:Vals (V.ref (s.heap.objs.size+1)::(vs++dvs)) (Value.ref (s.heap.objs.size+1)::(us++ds)):=.cons rfl (r.append hd)
 have hl:(Value.ref (s.heap.objs.size+1)::us++ds).length=ps.length:=by
   have e:=r2.length
   rw [F.len _ _ _ _ hq] at e
   exact e.symm
 refine wpAny_call (qhb (f:=f) I.kIn M.makes M.init (beq_iff_eq.mp M.fn) (codeAny_mono (F.run _ X.stack _ _ ⟨Value.ref (s.heap.objs.size+1)::us,[]⟩ (Value.ref (s.heap.objs.size+1)::(us++ds)) _ _ E (hr.make C us [])
   (I2.env0.make C us []) (hb _ (Value.ref (s.heap.objs.size+1)::us) I2.kIn hl) r2 hq) fun r s' hq'=>?_))
 cases r with
 | error e=>exact hx pins σ _ _ e s' I2 hq'
 | ok fl =>
   cases fl with
   | ret u =>
     obtain ⟨v,H',I3,rv,ev,q3⟩:=I2.after hq'
     subst ev
     exact ⟨rv,⟨V.ref (s.heap.objs.size+1),H',I3,rfl,q3⟩⟩
   | next=>exact False.elim hq'
   | brk=>exact False.elim hq'
   | cont=>exact False.elim hq'
theorem JK (M:Mk X.K C f) (F:qA X.prog X.w X.K X.mg X.base CX k f fd ps sp) (hr:Room (k+1) X.A) (hg:Gl X x) (hm:X.mg x=some (.ref C)) (hb:Binds X.K fd ps ds) (hd:Vals dvs ds) (hx:jN CX X E)
   (ha:PA X (e::es) t) (hdb:(x == ("__debug__":Str))=false:=by decide) (he:starEach (e::es) X.env=(false,eval e X.env)::starEach es X.env:=by rfl) (hpl:(backTo pos (starEach es X.env)).any (·.1)=false:=by rfl) :
   PE X (.Call (.Name x p) (e::es) [] pos) (qi5 C sp dvs E t):=by
 intro pins s σ H Q I h
 refine wpAny_Call_Name_kw (jU I hg hm ?_ hdb)
 refine PySem.W.callWith_K (h₀:=X.base) I.ok.mod.kin M.kp (thn (ha pos pins s σ H _ I h) fun us s1 ⟨vs,H1,I1,r,q⟩=>⟨I1.kIn,?_⟩) he hpl
 exact qea M F hr hb hd hx I1 r q
theorem qeh (M:Mk X.K C f) (F:qA X.prog X.w X.K X.mg X.base CX k f fd ps sp) (hr:Room (k+1) X.A) (hg:Gl X x) (hm:X.mg x=some (.ref C)) (hb:Binds X.K fd ps ds) (hd:Vals dvs ds) (hx:jN CX X E)
   (hdb:(x == ("__debug__":Str))=false:=by decide):PE X (.Call (.Name x p) [] [] pos) (qi5 C sp dvs E qdY):=by
 intro pins s σ H Q I h
 refine wpAny_Call_Name_kw (jU I hg hm ?_ hdb)
 exact PySem.W.callWith_K0 I.kIn M.kp (qea (us:=[]) M F hr hb hd hx I .nil h)
end
section
variable {X:Cx} {CX:CXT} {k:Nat} {f C:Addr} {fd:FuncData} {ps ks:List Str} {sp:Sp} {E:XK} {x m:Str} {p pos apos kpos:Pos} {e o:Expr} {es:List Expr} {kws:List Keyword} {te ta:TE} {t tk:TA} {nm:Option Str}
variable {g:List Value->List Value->List Value} {gV:List V->List V->List V}
end
structure qm (N P:List Str) (sc:Scope):Prop where
 kind:sc.kind=.function
 co:sc.isCoroutine=false
 gen:sc.isGenerator=false
 nd:N.Nodup
 pre:N.take P.length=P
 par:∀ x∈P,sc.names.lookup x=some .local∨sc.names.lookup x=some .cell
 nofree:∀ y∈sc.names,y.2≠.free
theorem qdi {kindOf:Str->Option NameKind} {x:Str}:∀ {binds:List (Str×Value)} {m:Str->Option Value},(∀ v,(x,v)∉binds)->bindL kindOf binds m x=m x
 | [],_,_=>rfl
 | (n,v)::r,m,h=>by
   unfold bindL
   rw [qdi fun w hw=>h w (List.mem_cons_of_mem _ hw)]
   split
   · have:x≠n:=by rintro rfl; exact h v List.mem_cons_self
     simp [this]
   · rfl
theorem qdk {kindOf:Str->Option NameKind} {x:Str}:∀ {binds:List (Str×Value)} {m:Str->Option Value},(∀ v,(x,v)∉binds)->bindC kindOf binds m x=m x
 | [],_,_=>rfl
 | (n,v)::r,m,h=>by
   unfold bindC
   rw [qdk fun w hw=>h w (List.mem_cons_of_mem _ hw)]
   split
   · rfl
   · have:x≠n:=by rintro rfl; exact h v List.mem_cons_self
     simp [this]
theorem qdj {kindOf:Str->Option NameKind} {x:Str} {v:Value}:∀ {P:List Str} {vs:List Value} {i:Nat} {m:Str->Option Value},P.Nodup->P[i]?=some x->vs[i]?=some v->kindOf x=some .local ->
   bindL kindOf (P.zip vs) m x=some v
 | [],_,_,_,_,h,_,_=>by simp at h
 | _::_,[],_,_,_,_,h,_=>by simp at h
 | p::P,w::vs,0,m,nd,h1,h2,hk=>by
   simp at h1 h2; subst h1; subst h2
   show bindL kindOf ((p,w)::P.zip vs) m p=_
   unfold bindL
   rw [qdi fun v hv=>(List.nodup_cons.mp nd).1 (List.of_mem_zip hv).1,if_pos hk]
   simp
 | p::P,w::vs,i+1,m,nd,h1,h2,hk=>by
   show bindL kindOf ((p,w)::P.zip vs) m x=_
   unfold bindL
   exact qdj (i:=i) (List.nodup_cons.mp nd).2 (by simpa using h1) (by simpa using h2) hk
theorem qdl {kindOf:Str->Option NameKind} {x:Str} {v:Value}:∀ {P:List Str} {vs:List Value} {i:Nat} {m:Str->Option Value},P.Nodup->P[i]?=some x->vs[i]?=some v->kindOf x≠some .local ->
   bindC kindOf (P.zip vs) m x=some v
 | [],_,_,_,_,h,_,_=>by simp at h
 | _::_,[],_,_,_,_,h,_=>by simp at h
 | p::P,w::vs,0,m,nd,h1,h2,hk=>by
   simp at h1 h2; subst h1; subst h2
   show bindC kindOf ((p,w)::P.zip vs) m p=_
   unfold bindC
   rw [qdk fun v hv=>(List.nodup_cons.mp nd).1 (List.of_mem_zip hv).1,if_neg hk]
   simp
 | p::P,w::vs,i+1,m,nd,h1,h2,hk=>by
   show bindC kindOf ((p,w)::P.zip vs) m x=_
   unfold bindC
   exact qdl (i:=i) (List.nodup_cons.mp nd).2 (by simpa using h1) (by simpa using h2) hk
def qbO (N:List Str) (vs:List V):St:=vs.map some++List.replicate (N.length - vs.length) none
def zv (CX:CXT) (P:Program) (w:World) (K:PySem.W.Frag) (mg:Str->Option Value) (base:Heap) (N:List Str) (qual:Str) (scope:Scope) (f:Addr) (cd:Value) (A:Around) (outer:List Env) (s:Shared) (H:Hp) (E:XK):Cx where
 prog:=P
 w:=w
 K:=K
 mg:=mg
 base:=base
 A:=A.deeper (envOfC qual scope s.heap.objs.size f cd)
 N:=N
 s₀:=s
 H₀:=H
 env:=envOfC qual scope s.heap.objs.size f cd
 outer:=outer
 stack:=envOfC qual scope s.heap.objs.size f cd::outer
 ex:=[]
 calm:=true
 fn:=fun _=>true
 pn:=[]
 xe:=fun e s'=>wpAny (model P w) (A.deeper (envOfC qual scope s.heap.objs.size f cd)) (leaving (envOfC qual scope s.heap.objs.size f cd) e) (fun _ s''=>CX outer H s E e s'') (fun e' s''=>CX outer H s E e' s'') s'
theorem qez {sc:Scope} {n:Nat} {x:Str} (h:sc.names.lookup x=some .cell):∃ c,(cellsFrom n sc.names []).lookup x=some c:=by
 have q:=PySem.W.cellsFrom_some sc.names n [] (.inl h)
 exact Option.isSome_iff_exists.mp q
theorem qf4 {CX:CXT} {P:Program} {w:World} {K:PySem.W.Frag} {mg:Str->Option Value} {base:Heap} {N ps:List Str} {qual:Str} {scope:Scope} {f:Addr} {cd:Value} {A:Around} {outer:List Env} {s s1:Shared} {H:Hp} {E:XK} {us:List Value} {vs:List V}
   (S:qm N ps scope) (hd:A.handled=none) (e0:Env0 P w K mg base A outer s H) (hl:vs.length=ps.length) (r:Vals vs us)
   (x:InCallC s s.heap.objs.size (bindL (envOfC qual scope s.heap.objs.size f cd).kindOf (ps.zip us) fun _=>none) (cellsFrom (s.heap.objs.size+1) scope.names []) (bindC (envOfC qual scope s.heap.objs.size f cd).kindOf (ps.zip us) fun _=>none) s1) :
   Inv (zv CX P w K mg base N qual scope f cd A outer s H E) [] (qbO N vs) H s1:=by
 have hpl:ps.length≤N.length:=by have:=congrArg List.length S.pre; rw [List.length_take] at this; omega
 obtain ⟨h1,tk,rfl,hk⟩:=x.done
 have noA:∀ b:Addr,b∉(zv CX P w K mg base N qual scope f cd A outer s H E).ex:=fun b z=>absurd (show b∈([]:List Addr) from z) (by simp)
 refine ⟨⟨e0.mod,S.kind,rfl,rfl,Nat.le_refl _,fun y z c h1 h2=>?_,fun y hy=>?_,fun y c _ h=>?_,fun _=>hd,Around.frames_deeper e0.frames,.inr ⟨rfl,rfl⟩,fun b z=>absurd z (noA b),e0.bs,e0.bsz,fun b _ _=>noA b,fun b z=>absurd z (noA b),e0.funs,e0.frf⟩,
   rfl,e0.bare,Un.kept hk,⟨_,x.toInCall.ns,fun i y v h1 h2 h3=>?_⟩,fun y c h=>⟨_,x.cell y c h⟩,e0.hok.fresh (Nat.le_refl _),fun y c h=>?_,fun p hp=>absurd (show p∈([]:List (Addr×Obj)) from hp) (by simp),e0.hok.kept hk,?_⟩
 · exact name_of_addr x.apart (PySem.mem_of_lookup h1) (PySem.mem_of_lookup h2)
 · have hy:scope.names.lookup y=some .cell∨scope.names.lookup y=some .free:=hy
   rcases hy with hy | hy
   · exact qez hy
   · exact absurd rfl (S.nofree _ (PySem.mem_of_lookup hy))
 · exact Nat.le_of_lt (x.above y c (PySem.mem_of_lookup h))
 · have hi:i < vs.length:=by
     unfold qbO at h2
     by_cases hi:i < vs.length
     · exact hi
     · rw [List.getElem?_append_right (by simpa using hi)] at h2
       rw [List.getElem?_replicate] at h2
       split at h2<;>cases h2
   have ha:vs[i]?=some v:=by
     unfold qbO at h2
     rw [List.getElem?_append_left (by simpa using hi),List.getElem?_map] at h2
     cases e:vs[i]? with
     | none=>rw [e] at h2; cases h2
     | some a=>rw [e] at h2; cases h2; rfl
   obtain ⟨u,hu,rv⟩:=r.get ha
   have hp:ps[i]?=some y:=by
     rw [← S.pre,List.getElem?_take_of_lt (by omega)]; exact h1
   have ndP:ps.Nodup:=by rw [← S.pre]; exact S.nd.sublist (List.take_sublist _ _)
   refine ⟨u,rv,?_⟩
   rcases S.par y (List.mem_of_getElem? hp) with k | k
   · exact .inl ⟨k,qdj ndP hp hu k⟩
   · obtain ⟨c,e⟩:=qez (n:=s.heap.objs.size+1) k
     refine .inr ⟨.inl k,c,e,?_⟩
     have q:=x.cell y c e
     rw [qdl ndP hp hu (by show scope.names.lookup y≠_; rw [k]; decide)] at q
     exact q
 · exact e0.hok.fresh (Nat.le_of_lt (x.above y c (PySem.mem_of_lookup h)))
 · unfold qbO
   show _=N.length
   rw [List.length_append,List.length_map,List.length_replicate]
   omega
theorem qjF {CX:CXT} {P:Program} {w:World} {K:PySem.W.Frag} {mg:Str->Option Value} {base:Heap} {k:Nat} {f:Addr} {name qual:Str} {params:Arguments} {body:List Stmt} {scope:Scope} {dV kV doc pm cdv ct oc:Value} {an od:Option Addr}
   {osl:Array (Option Value)} {N ps:List Str} {sp:Sp} (lk:K.lookup f=some ⟨oc,od,.func (PySem.W.fnOf name qual params body scope dV kV doc pm an cdv ct),osl⟩) (hcd:PySem.W.codeIn K cdv qual=true) (S:qm N ps scope)
   (len:∀ vs H Q E,sp vs H Q E->vs.length=ps.length)
   (hbody:∀ (A:Around) (outer:List Env) (s:Shared) (H:Hp) (vs:List V) (Q:VK) (E:XK),Room k (A.deeper (envOfC qual scope s.heap.objs.size f cdv))->sp vs H Q E ->
     ∃ t,PSs (zv CX P w K mg base N qual scope f cdv A outer s H E) body t∧t { nx:=fun _ H'=>Q .non H',rt:=Q } (qbO N vs) H) :
   qA P w K mg base CX (k+1) f (PySem.W.fnOf name qual params body scope dV kV doc pm an cdv ct) ps sp:=by
 refine ⟨len,fun A outer s H args us vs Q E hr e0 hb r hsp=>?_⟩
 have hl:=len _ _ _ _ hsp
 have KX:K.In s.heap:=e0.mod.kin.keeps fun b o e=>(e0.bs b o e).1
 have lim:s.heap.NoLimit:=e0.mod.nolimit.keeps fun b o e=>(e0.bs b o e).1
 have hkind:∀ y∈ps.zip us,scope.names.lookup y.1=some .local∨(scope.names.lookup y.1=some .cell∧((cellsFrom (s.heap.objs.size+1) scope.names []).lookup y.1).isSome=true):=fun ⟨n,v⟩ hy=>by
   rcases S.par n (List.of_mem_zip hy).1 with q | q
   · exact .inl q
   · exact .inr ⟨q,PySem.W.cellsFrom_some _ _ _ (.inl q)⟩
 refine codeAny_call_function hr.depth (KX _ _ lk) rfl S.co S.gen rfl (PySem.W.codeRec_of KX hcd) (hb _ _ _ _ ?_)
 refine wpAny_newFunctionEnv_cells S.kind hkind fun env he s1 x=>?_
 subst he
 refine ⟨lim.keeps x.toInCall.keep,codeAny_func ?_⟩
 obtain ⟨t,ht,hq⟩:=hbody A outer s H vs Q E (hr.deeper _) hsp
 have I:Inv (zv CX P w K mg base N qual scope f cdv A outer s H E) [] (qbO N vs) H s1:=qf4 S hr.hd e0 hl r x
 refine wpAny_mono (ht [] s1 (qbO N vs) H _ I hq) (fun fl s' hs=>?_) fun e s' hs=>hs
 have fin:∀ {σ':St} {H':Hp} {v:V} {u:Value},Inv (zv CX P w K mg base N qual scope f cdv A outer s H E) [] σ' H' s'->RelV v u->Q v H'->CE outer P w H s Q u s' :=
   fun {σ' H' v u} J rv q=>⟨v,H',J.os,J.bare,J.base,J.hok,rv,q⟩
 cases fl with
 | ret u =>
   obtain ⟨v,σ',H',J,rv,q⟩:=hs
   exact fin J rv q
 | next =>
   obtain ⟨σ',H',J,q⟩:=hs
   exact fin (v:=V.non) (u:=Value.none) J rfl q
 | brk =>
   obtain ⟨_,_,_,q⟩:=hs
   exact False.elim q
 | cont =>
   obtain ⟨_,_,_,q⟩:=hs
   exact False.elim q
end L2
namespace L2
open PySem PySem.Spec PyProof.Rows
section
variable {X:Cx} {x:Str} {p pos:Pos} {e:Expr} {es:List Expr} {t:TA} {id T:String} {r:List V->Hp->VK->Prop}
def tCB (r:List V->Hp->VK->Prop) (t:TA):TE:=fun σ H Q=>t σ H fun vs H1=>r vs H1 Q
theorem qp (hc:jX X (.builtin id) r) (hg:Gl X x) (hm:X.mg x=none) (hv:bootBuiltins x=some (.builtin id)) (ha:PA X (e::es) t) (hn:x≠"__name__":=by decide) (hdb:(x == ("__debug__":Str))=false:=by decide)
   (he:starEach (e::es) X.env=(false,eval e X.env)::starEach es X.env:=by rfl) (hpl:(backTo pos (starEach es X.env)).any (·.1)=false:=by rfl):PE X (.Call (.Name x p) (e::es) [] pos) (tCB r t):=by
 intro pins s σ H Q I h
 refine wpAny_Call_Name_kw (qac I hg hm hv ?_ hn hdb)
 exact PyProof.Rows.callWith_builtin1 (thn (ha pos pins s σ H _ I h) fun us s1 ⟨vs,H1,I1,r1,q1⟩=>hc pins s1 σ H1 vs us Q I1 r1 q1) he hpl
theorem qY (hc:jX X (.type T) r) (hg:Gl X x) (hm:X.mg x=none) (hv:bootBuiltins x=some (.type T)) (ha:PA X (e::es) t) (hn:x≠"__name__":=by decide) (hdb:(x == ("__debug__":Str))=false:=by decide)
   (he:starEach (e::es) X.env=(false,eval e X.env)::starEach es X.env:=by rfl) (hpl:(backTo pos (starEach es X.env)).any (·.1)=false:=by rfl):PE X (.Call (.Name x p) (e::es) [] pos) (tCB r t):=by
 intro pins s σ H Q I h
 refine wpAny_Call_Name_kw (qac I hg hm hv ?_ hn hdb)
 exact PyProof.Rows.callWith_type1 (thn (ha pos pins s σ H _ I h) fun us s1 ⟨vs,H1,I1,r1,q1⟩=>hc pins s1 σ H1 vs us Q I1 r1 q1) he hpl
end
end L2
namespace HT
open PySem PyProof.Rows
section
open PySem.SeqAt
open PySem.AutoSeq1 (wpAny_loadPart')
open PySem.MeetsSeq PySem.MeetsSeq2 PySem.MeetsSeq3
end
section
variable {prog:Program} {w:World} {A:Around} {E:Value->Shared->Prop} {s:Shared}
def sIx (n d:Nat):Option Int->Nat
 | none=>d
 | some v=>if v < 0 then (v+(n:Int)).toNat else min v.toNat n
theorem sIx_none (n d:Nat):sIx n d none=d:=rfl
theorem sIx_nat (n d k:Nat):sIx n d (some (k:Int))=min k n:=by
 show (if (k:Int) < 0 then ((k:Int)+(n:Int)).toNat else min (k:Int).toNat n)=min k n
 rw [if_neg (by omega),Int.toNat_natCast]
end
end HT
namespace L2
open PySem PySem.Spec PyProof.Rows
abbrev TO:=St->Hp->(Option Int->Hp->Prop)->Prop
def PO (X:Cx) (e:Option Expr) (t:TO):Prop :=
 ∀ (pins:List (Addr×Obj)) (s:Shared) (σ:St) (H:Hp) (Q:Option Int->Hp->Prop),Inv X pins σ H s->t σ H Q ->
   wpAny (model X.prog X.w) X.A (evalPart e X.env) (fun u s'=>∃ o H',Inv X pins σ H' s'∧IsPart u o∧Q o H') X.xe s
def qia:TO:=fun _ H Q=>Q none H
inductive qe8 (Q:(Option Int->Hp->Prop)) (x:V) (H1:Hp):Prop
 | mk (i:_) (h1:x=.int i) (h2:Q (some i) H1):qe8 Q x H1
def qj4 (t:TE):TO:=fun σ H Q=>t σ H fun x H1=>qe8 Q x H1
section
variable {X:Cx} {e:Expr} {te:TE} {lo hi:Option Expr} {tl th:TO} {pos p2:Pos}
theorem qb1:PO X none qia:=by
 intro pins s σ H Q I h
 rw [evalPart_none]
 exact wpAny_pure ⟨none,H,I,.none,h⟩
theorem JJ (h:PE X e te):PO X (some e) (qj4 te):=by
 intro pins s σ H Q I hw
 rw [evalPart_some]
 refine thn (h pins s σ H _ I hw) fun u s1 zz_=>?_
 obtain ⟨x,H1,I1,r1,q1⟩:=zz_
 obtain ⟨i,rfl,q⟩:=q1
 obtain ⟨t,rfl⟩:=r1
 exact ⟨some i,H1,I1,.int i t,q⟩
def SlR (X:Cx) (r:V->Option Int->Option Int->Hp->VK->Prop):Prop :=
 ∀ (pins:List (Addr×Obj)) (s:Shared) (σ:St) (H:Hp) (x:V) (v vl vu:Value) (lo hi:Option Int) (sl:Addr) (Q:VK),Inv X pins σ H s->RelV x v->s.heap.IsSliceOf sl vl vu .none->IsPart vl lo->IsPart vu hi->r x lo hi H Q ->
   ∃ T id,typeLookup (.type T) "__getitem__"=pure (some (.builtin id))∧s.TypeIs v T∧wpAny (model X.prog X.w) X.A (getItem v (.ref sl)) (EP X pins σ Q) X.xe s
theorem SlR.or {r r':V->Option Int->Option Int->Hp->VK->Prop} (h:SlR X r) (h':SlR X r'):SlR X (fun x lo hi H Q=>r x lo hi H Q∨r' x lo hi H Q):=by
 intro pins s σ H x v vl vu lo hi sl Q I rx hs pl pu q
 rcases q with q | q
 · exact h pins s σ H x v vl vu lo hi sl Q I rx hs pl pu q
 · exact h' pins s σ H x v vl vu lo hi sl Q I rx hs pl pu q
def tSl (r:V->Option Int->Option Int->Hp->VK->Prop) (te:TE) (tl th:TO):TE:=fun σ H Q=>te σ H fun x H1=>tl σ H1 fun l H2=>th σ H2 fun u H3=>r x l u H3 Q
theorem Ji {r:V->Option Int->Option Int->Hp->VK->Prop} (hr:SlR X r) (he:PE X e te) (hl:PO X lo tl) (hu:PO X hi th):PE X (.Subscript e (.Slice lo hi none p2) pos) (tSl r te tl th):=by
 intro pins s σ H Q I h
 refine Subscript_ (thn (he pins s σ H _ I h) fun v s1 zz_=>?_)
 obtain ⟨x,H1,I1,r1,q1⟩:=zz_
 refine wpAny_Slice (thn (hl pins s1 σ H1 _ I1 q1) fun vl s2 ⟨l,H2,I2,pl,q2⟩=>thn (hu pins s2 σ H2 _ I2 q2) fun vu s3 zz_=>?_)
 obtain ⟨u,H3,I3,pu,q3⟩:=zz_
 rw [evalPart_none]
 refine wpAny_pure ?_
 have I4:Inv X pins σ H3 { s3 with heap:=s3.heap.push { cls:=.type "slice",data:=.fields #[vl,vu,.none] } }:=I3.kept (t':=s3.toks) fun b ob q=>Heap.get?_push_of_some _ q
 obtain ⟨T,id,hT,ht,hg⟩:=hr pins { s3 with heap:=s3.heap.push { cls:=.type "slice",data:=.fields #[vl,vu,.none] } } σ H3 x v vl vu l u s3.heap.objs.size Q I4 r1 (Heap.IsSliceOf.new ..) pl pu q3
 show wpAny (model X.prog X.w) X.A (subscriptTail e (.Slice lo hi none p2) v (.ref s3.heap.objs.size)) (EP X pins σ Q) X.xe { s3 with heap:=s3.heap.push { cls:=.type "slice",data:=.fields #[vl,vu,.none] } }
 exact tail_any (ops:=[.ref s3.heap.objs.size,v]) ht hT hg (by with_unfolding_all rfl)
def qeV (xs:List V) (lo hi:Option Int):List V:=(xs.drop (HT.sIx xs.length 0 lo)).take (HT.sIx xs.length xs.length hi - HT.sIx xs.length 0 lo)
theorem qdQ (xs:List V) (lo hi:Option Int):(qeV xs lo hi).length≤xs.length:=by
 unfold qeV
 refine Nat.le_trans (List.length_take_le' _ _) ?_
 rw [List.length_drop]
 exact Nat.sub_le _ _
end
end L2
namespace L2
open PySem PySem.Spec PyProof.Rows
def ixN (n:Nat) (i:Int):Option Nat:=if 0≤i then (if i < n then some i.toNat else none) else if -(n:Int)≤i then some (i+n).toNat else none
def atI {α:Type} (xs:List α) (i:Int):Option α:=(ixN xs.length i).bind fun j=>xs[j]?
theorem qa1 {n:Nat} {i:Int} {j:Nat} (h:ixN n i=some j):seqIndex? i n=some j∧j < n∧-(n:Int)≤i∧i < n:=by
 unfold ixN at h
 by_cases h0:0≤i
 · rw [if_pos h0] at h
   by_cases h1:i < n
   · rw [if_pos h1] at h
     have e:i.toNat=j:=Option.some.inj h
     exact ⟨by rw [seqIndex_of h0 h1,e],by omega,by omega,h1⟩
   · rw [if_neg h1] at h; cases h
 · rw [if_neg h0] at h
   by_cases h1:-(n:Int)≤i
   · rw [if_pos h1] at h
     have e:(i+n).toNat=j:=Option.some.inj h
     exact ⟨by rw [seqIndex_neg (by omega) h1,e],by omega,h1,by omega⟩
   · rw [if_neg h1] at h; cases h
theorem qdR {α:Type} {xs:List α} {i:Int} {v:α} (h:atI xs i=some v):∃ j,seqIndex? i xs.length=some j∧xs[j]?=some v∧j < xs.length∧-(xs.length:Int)≤i∧i < xs.length:=by
 unfold atI at h
 cases e:ixN xs.length i with
 | none=>rw [e] at h; cases h
 | some j =>
   rw [e] at h
   obtain ⟨h1,h2,h3,h4⟩:=qa1 e
   exact ⟨j,h1,h,h2,h3,h4⟩
theorem QA {α:Type} {xs:List α} {j:Nat} {v:α} (h:xs[j]?=some v):atI xs (j:Int)=some v:=by
 have hj:j < xs.length:=(List.getElem?_eq_some_iff.mp h).1
 have e:ixN xs.length (j:Int)=some j:=by
   unfold ixN
   rw [if_pos (by omega),if_pos (by omega)]; simp
 unfold atI; rw [e]; exact h
def qiN (b:Expr):Prop:=∀ o i,subscripted b false o i=operate [o,i] (getItem o i)
def IxR (X:Cx) (r:R2):Prop :=
 ∀ (value slice:Expr) (pins:List (Addr×Obj)) (s:Shared) (σ:St) (H:Hp) (x y:V) (v u:Value) (Q:VK),Inv X pins σ H s->RelV x v->RelV y u->r x y H Q ->
   subscripted slice false v u=operate [v,u] (getItem v u)->wpAny (model X.prog X.w) X.A (subscriptTail value slice v u) (EP X pins σ Q) X.xe s
def MtR (X:Cx) (id:String) (r:V->List V->Hp->VK->Prop):Prop :=
 ∀ (pins:List (Addr×Obj)) (s:Shared) (σ:St) (H:Hp) (x:V) (xs:List V) (v:Value) (us:List Value) (Q:VK),Inv X pins σ H s->RelV x v->Vals xs us->r x xs H Q ->
   wpAny (model X.prog X.w) X.A (call (.builtin id) (v::us)) (EP X pins σ Q) X.xe s
section
variable {X:Cx} {a b:Expr} {ta tb:TE} {pos:Pos}
theorem IxR.or {r r':R2} (h:IxR X r) (h':IxR X r'):IxR X (fun x y H Q=>r x y H Q∨r' x y H Q):=by
 intro value slice pins s σ H x y v u Q I rx ry q hs
 rcases q with q | q
 · exact h value slice pins s σ H x y v u Q I rx ry q hs
 · exact h' value slice pins s σ H x y v u Q I rx ry q hs
theorem qC {r:R2} (hr:IxR X r) (ha:PE X a ta) (hb:PE X b tb) (hs:qiN b):PE X (.Subscript a b pos) (tOp r ta tb):=by
 intro pins s σ H Q I h
 exact Subscript_ (qkv ha hb I h fun v u s2 x y H2 I2 rx ry q=>hr a b pins s2 σ H2 x y v u Q I2 rx ry q (hs _ _))
inductive qhH (K:PySem.W.Frag) (x:V) (y:V) (H:Hp) (Q:VK):Prop
 | mk (p xs i v:_) (h1:x=.ref p) (h2:y=.int i) (h3:SqL K H p xs) (h4:atI xs i=some v) (h5:Q v H):qhH K x y H Q
def qkL (K:PySem.W.Frag):R2:=fun x y H Q=>qhH K x y H Q
inductive qhG (K:PySem.W.Frag) (x:V) (y:V) (H:Hp) (Q:VK):Prop
 | mk (p xs i v:_) (h1:x=.ref p) (h2:y=.int i) (h3:SqT K H p xs) (h4:atI xs i=some v) (h5:Q v H):qhG K x y H Q
def qkJ (K:PySem.W.Frag):R2:=fun x y H Q=>qhG K x y H Q
def qkK:R2:=fun x y H Q=>∃ z i c,x=.str z∧y=.int i∧z.length≤sizeLine∧atI z.cps.toList i=some c∧Q (.str ⟨#[c]⟩) H
theorem ix_list:IxR X (qkL X.K):=by
 intro value slice pins s σ H x y v u Q I rx ry h hs
 obtain ⟨p,xs,i,z,rfl,rfl,hq,he,q⟩:=h
 cases rx
 obtain ⟨t,rfl⟩:=ry
 obtain ⟨its,r,pl,hz⟩:=I.list hq
 obtain ⟨j,h1,h2,h3,h4,h5⟩:=qdR he
 obtain ⟨w,ew,rw'⟩:=r.get h2
 have hl:=r.length
 have hn:=qbD
 have fin:EP X pins σ Q w s:=⟨z,H,I,rw',q⟩
 by_cases h0:0≤i
 · have hj:i.toNat=j:=by
     rw [seqIndex_of h0 h5] at h1
     exact Option.some.inj h1
   exact item_listR pl.isList h0 (by omega) (by rw [hj]; simpa using ew) fin hs
 · have hj:(i+(its.toArray.size:Int)).toNat=j:=by
     rw [seqIndex_neg (by omega) h4] at h1
     rw [List.size_toArray,← hl]
     exact Option.some.inj h1
   exact subscriptTail_builtinR (x:=w) pl.isList.typeIs slot_list_getitem.lookup
     (wpAny_getItem_list_neg (Q:=fun r s'=>r=w∧EP X pins σ Q r s') pl.isList (by omega) (by rw [List.size_toArray]<;>omega) (by omega) (by rw [hj]; simpa using ew) ⟨rfl,fin⟩) hs
theorem ix_tup:IxR X (qkJ X.K):=by
 intro value slice pins s σ H x y v u Q I rx ry h hs
 obtain ⟨p,xs,i,z,rfl,rfl,hq,he,q⟩:=h
 cases rx
 obtain ⟨t,rfl⟩:=ry
 obtain ⟨its,r,pl,hz⟩:=I.tuple hq
 obtain ⟨j,h1,h2,h3,h4,h5⟩:=qdR he
 obtain ⟨w,ew,rw'⟩:=r.get h2
 have hl:=r.length
 have hn:=qbD
 have fin:EP X pins σ Q w s:=⟨z,H,I,rw',q⟩
 exact subscriptTail_builtinR (x:=w) pl.typeIs slot_tuple_getitem.lookup
   (getItem_tuple (j:=j) (Q:=fun r s'=>r=w∧EP X pins σ Q r s') pl (by omega) (by omega) (by rw [List.size_toArray,← hl]; exact h1) (by simpa using ew) ⟨rfl,fin⟩) hs
theorem qjA:IxR X qkK:=by
 intro value slice pins s σ H x y v u Q I rx ry h hs
 obtain ⟨z,i,c,rfl,rfl,hz,he,q⟩:=h
 obtain ⟨t,rfl⟩:=rx
 obtain ⟨t',rfl⟩:=ry
 obtain ⟨j,h1,h2,h3,h4,h5⟩:=qdR he
 have hl:z.cps.toList.length=z.length:=by simp [Str.length]
 rw [hl] at h1 h4 h5
 have hn:=qbD
 exact tail_any (typeIs_str s z t) slot_str_getitem.lookup (getItem_str (c:=c) (by
   have e1:decide (i < -(2 ^ 63:Int))=false:=decide_eq_false (by omega)
   have e2:decide (i ≥ 2 ^ 63)=false:=decide_eq_false (by omega)
   rw [e1,e2,Bool.or_false]) (by rw [h1]; simpa using h2) ⟨.str ⟨#[c]⟩,H,I.tok _,⟨_,rfl⟩,q⟩) hs
def rIx (K:PySem.W.Frag):R2:=fun x y H Q=>qkL K x y H Q∨qkJ K x y H Q∨qkK x y H Q
theorem qr:IxR X (rIx X.K):=ix_list.or (ix_tup.or qjA)
theorem qeL (its:List Value) (n j:Nat) (u:Value):Obj.mapSeq (·.setIfInBounds j u) { cls:=.type "list",data:=.seq its.toArray n }={ cls:=.type "list",data:=.seq (its.set j u).toArray n }:=by
 simp [Obj.mapSeq]
theorem Inv.lst {pins:List (Addr×Obj)} {σ:St} {H:Hp} {s:Shared} {p:Addr} {xs:List V} (I:Inv X pins σ H s) (h:H p=some (.lst xs)) :
   ∃ (its:List Value) (n:Nat),Vals xs its∧s.heap.get? p=some { cls:=.type "list",data:=.seq its.toArray n }∧xs.length≤sizeLine:=by
 obtain ⟨z,its,n,r,e⟩:=I.hok p _ h
 exact ⟨its,n,r,e,z⟩
theorem Inv.lstUpd {pins:List (Addr×Obj)} {σ:St} {H:Hp} {s:Shared} {p:Addr} {xs ys:List V} {its its':List Value} {n n':Nat} {f:Obj->Obj} (I:Inv X pins σ H s) (h:H p=some (.lst xs))
   (ho:s.heap.get? p=some { cls:=.type "list",data:=.seq its.toArray n }) (hf:f { cls:=.type "list",data:=.seq its.toArray n }={ cls:=.type "list",data:=.seq its'.toArray n' }) (r:Vals ys its') (hz:ys.length≤sizeLine) (t:Nat) :
   Inv X pins σ (upd H p (.lst ys)) { s with heap:=s.heap.update p f,toks:=t }:=by
 have e:(s.heap.update p f).get? p=some { cls:=.type "list",data:=.seq its'.toArray n' }:=by
   rw [Heap.get?_update_self f ho (by rw [hf]<;>rfl),hf]
 refine I.write (x:=p) (e:=p) (by rw [h]; trivial) (.inl rfl) (fun b u hb q=>(Heap.get?_update_other _ _ (Ne.symm hb)).trans q) ⟨_,e⟩ ?_
 exact ⟨hz,its',n',r,e⟩
inductive qfq (o:V) (i:V) (v:V) (H:Hp) (Q:(Hp->Prop)):Prop
 | mk (p xs k j:_) (h1:o=.ref p) (h2:i=.int k) (h3:H p=some (.lst xs)) (h4:ixN xs.length k=some j) (h5:Q (upd H p (.lst (xs.set j v)))):qfq o i v H Q
def qkd:V->V->V->Hp->(Hp->Prop)->Prop:=fun o i v H Q=>qfq o i v H Q
theorem ZD:qkX X qkd:=by
 intro pins s σ H o i v ov iv u Q I ro ri rv h
 obtain ⟨p,xs,k,j,rfl,rfl,hp,hj,q⟩:=h
 cases ro
 obtain ⟨t,rfl⟩:=ri
 obtain ⟨its,n,r,ho,hz⟩:=I.lst hp
 obtain ⟨h1,h2,h3,h4⟩:=qa1 hj
 have hl:=r.length
 have hn:=qbD
 have I':Inv X pins σ (upd H p (.lst (xs.set j v))) { s with heap:=s.heap.update p (Obj.mapSeq (·.setIfInBounds j u)) } :=
   I.lstUpd hp ho (qeL its n j u) (r.set rv j) (by rw [List.length_set]; exact hz) s.toks
 by_cases h0:0≤k
 · have hk:k.toNat=j:=by
     rw [seqIndex_of h0 h4] at h1
     exact Option.some.inj h1
   exact PySem.W.ki_setAt ho h0 (by omega) (by rw [List.size_toArray,← hl]; exact h4) (by rw [hk]; exact ⟨_,I',q⟩)
 · have hk:(k+(its.toArray.size:Int)).toNat=j:=by
     rw [seqIndex_neg (by omega) h3] at h1
     rw [List.size_toArray,← hl]
     exact Option.some.inj h1
   exact PySem.W.ki_setBack ho (by omega) (by rw [List.size_toArray,← hl]; exact h3) (by omega) (by rw [hk]; exact ⟨_,I',q⟩)
theorem tn_ (n:Nat):((-1:Int)+(n:Int)).toNat=n - 1:=by
 rw [Int.add_comm]; exact Int.toNat_sub n 1
theorem qhC (i:Int) (n:Nat):max 0 (min (if i < 0 then i+(n:Int) else i) (n:Int))=((if i < 0 then (i+(n:Int)).toNat else min i.toNat n:Nat):Int):=by
 by_cases h:i < 0
 · have h':i+(n:Int)≤n:=by have:=Int.add_le_add_right (Int.le_of_lt h) n; rwa [Int.zero_add] at this
   rw [if_pos h,if_pos h,Int.min_eq_left h',Int.ofNat_toNat,Int.max_comm]
 · obtain ⟨k,rfl⟩:=Int.eq_ofNat_of_zero_le (Int.not_lt.mp h)
   rw [if_neg h,if_neg h,Int.toNat_natCast]
   rcases Nat.le_total k n with g | g
   · rw [Nat.min_eq_left g,Int.min_eq_left (Int.ofNat_le.mpr g),Int.max_eq_right (Int.natCast_nonneg _)]
   · rw [Nat.min_eq_right g,Int.min_eq_right (Int.ofNat_le.mpr g),Int.max_eq_right (Int.natCast_nonneg _)]
theorem qcG (lo hi:Option Int) (n:Nat):(sliceBounds lo hi none n).1=((HT.sIx n 0 lo:Nat):Int)∧(sliceBounds lo hi none n).2.1=((HT.sIx n n hi:Nat):Int)∧(sliceBounds lo hi none n).2.2=1:=by
 refine ⟨?_,?_,rfl⟩
 · cases lo with
   | none=>simp [sliceBounds,HT.sIx]
   | some i =>
     simp only [sliceBounds,HT.sIx,Option.getD_none,show (1:Int) > 0 by decide,if_true]
     exact qhC i n
 · cases hi with
   | none=>simp [sliceBounds,HT.sIx]
   | some i =>
     simp only [sliceBounds,HT.sIx,Option.getD_none,show (1:Int) > 0 by decide,if_true]
     exact qhC i n
theorem qbQ (its:List Value) (lo hi:Option Int):slicePick its.toArray lo hi none=((its.drop (HT.sIx its.length 0 lo)).take (HT.sIx its.length its.length hi - HT.sIx its.length 0 lo)).toArray:=by
 obtain ⟨h1,h2,h3⟩:=qcG lo hi its.toArray.size
 unfold slicePick
 rw [h1,h2,h3]
 simp only [sliceRange_one,pick_run,List.size_toArray]<;>rfl
inductive qhE (K:PySem.W.Frag) (x:V) (lo:Option Int) (hi:Option Int) (H:Hp) (Q:VK):Prop
 | mk (a xs:_) (h1:x=.ref a) (h2:SqL K H a xs) (h3:∀ p,H p=none->Q (.ref p) (upd H p (.lst (qeV xs lo hi)))):qhE K x lo hi H Q
def qkH (K:PySem.W.Frag):V->Option Int->Option Int->Hp->VK->Prop:=fun x lo hi H Q=>qhE K x lo hi H Q
theorem sl_list:SlR X (qkH X.K):=by
 intro pins s σ H x v vl vu lo hi sl Q I rx hs pl pu h
 obtain ⟨a,xs,rfl,hx,q⟩:=h
 cases rx
 obtain ⟨its,r,ht,hz⟩:=I.list hx
 have hlen:=r.length
 refine ⟨"list",_,slot_list_getitem.lookup,ht.isList.typeIs,?_⟩
 refine wpAny_getItem_list_slice ht.isList hs pl pu .none (by simp) ?_ (by rw [List.size_toArray]<;>omega)
 rw [qbQ,← hlen]
 refine ⟨.ref s.heap.objs.size,_,I.laid (t':=s.toks) (o:=.lst (qeV xs lo hi)) (fun b ob q=>Heap.get?_push_of_some _ q) (Nat.le_refl _) ?_,rfl,q _ (I.hok.fresh (Nat.le_refl _))⟩
 exact ⟨Nat.le_trans (qdQ xs lo hi) hz,_,0,(r.drop (HT.sIx xs.length 0 lo)).take (HT.sIx xs.length xs.length hi - HT.sIx xs.length 0 lo),Heap.get?_push_size _ rfl⟩
def qcp:V->Bool
 | .non=>true
 | .bl _=>true
 | .int _=>true
 | .str _=>true
 | _=>false
def eqV:V->V->Bool
 | .non,.non=>true
 | .bl a,.bl b=>a == b
 | .bl a,.int b=>(if a then 1 else 0) == b
 | .int a,.bl b=>a == (if b then 1 else 0)
 | .int a,.int b=>a == b
 | .str a,.str b=>a == b
 | _,_=>false
theorem qjH {A:Around} {s:Shared} {y x:V} {u v:Value} (ry:RelV y u) (rx:RelV x v) (fy:qcp y=true) (fx:qcp x=true):SeqAt.EqAt A s u v (eqV y x):=by
 cases y with
 | non =>
   cases ry
   cases x with
   | non=>cases rx; exact SeqAt.EqAt.same _
   | bl b=>cases rx; exact SeqAt.EqAt.none_bool b
   | int b=>obtain ⟨t,rfl⟩:=rx; exact SeqAt.EqAt.none_int b t
   | str b=>obtain ⟨t,rfl⟩:=rx; exact SeqAt.EqAt.none_str b t
   | _=>exact absurd (show false=true from fx) Bool.false_ne_true
 | bl a =>
   cases ry
   cases x with
   | non=>cases rx; exact SeqAt.EqAt.bool_none a
   | bl b=>cases rx; exact SeqAt.EqAt.bool_bool a b
   | int b=>obtain ⟨t,rfl⟩:=rx; exact SeqAt.EqAt.bool_int a b t
   | str b=>obtain ⟨t,rfl⟩:=rx; exact SeqAt.EqAt.bool_str a b t
   | _=>exact absurd (show false=true from fx) Bool.false_ne_true
 | int a =>
   obtain ⟨t',rfl⟩:=ry
   cases x with
   | non=>cases rx; exact SeqAt.EqAt.int_none a t'
   | bl b=>cases rx; exact SeqAt.EqAt.int_bool a t' b
   | int b=>obtain ⟨t,rfl⟩:=rx; exact SeqAt.EqAt.int_int a t' b t
   | str b=>obtain ⟨t,rfl⟩:=rx; exact SeqAt.EqAt.int_str a t' b t
   | _=>exact absurd (show false=true from fx) Bool.false_ne_true
 | str a =>
   obtain ⟨t',rfl⟩:=ry
   cases x with
   | non=>cases rx; exact SeqAt.EqAt.str_none a t'
   | bl b=>cases rx; exact SeqAt.EqAt.str_bool a t' b
   | int b=>obtain ⟨t,rfl⟩:=rx; exact SeqAt.EqAt.str_int a t' b t
   | str b=>obtain ⟨t,rfl⟩:=rx; exact SeqAt.EqAt.str_str a t' b t
   | _=>exact absurd (show false=true from fx) Bool.false_ne_true
 | _=>exact absurd (show false=true from fy) Bool.false_ne_true
def eqU (x:V) (u:Value):Bool:=match u with
 | .none=>eqV .non x
 | .bool b=>eqV (.bl b) x
 | .int i _=>eqV (.int i) x
 | .str z _=>eqV (.str z) x
 | _=>false
theorem qhW {x y:V} {u:Value} (r:RelV y u) (f:qcp y=true):eqU x u=eqV y x:=by
 cases y with
 | non=>cases r; rfl
 | bl b=>cases r; rfl
 | int i=>obtain ⟨t,rfl⟩:=r; rfl
 | str z=>obtain ⟨t,rfl⟩:=r; rfl
 | _=>exact absurd (show false=true from f) Bool.false_ne_true
theorem qa9 {x:V}:∀ {xs:List V} {us:List Value},Vals xs us->xs.all qcp=true->us.any (eqU x)=xs.any fun y=>eqV y x
 | _,_,.nil,_=>rfl
 | y::xs,u::us,.cons r t,f=>by
   rw [List.all_cons,Bool.and_eq_true] at f
   rw [List.any_cons,List.any_cons,qhW r f.1,qa9 t f.2]
theorem Jp {A:Around} {s:Shared} {x:V} {v:Value} (rx:RelV x v) (fx:qcp x=true):∀ {xs:List V} {us:List Value},Vals xs us->xs.all qcp=true->∀ u∈us,SeqAt.EqAt A s u v (eqU x u)
 | _,_,.nil,_=>fun u hu=>by cases hu
 | y::xs,u::us,.cons r t,f=>fun u' hu=>by
   rw [List.all_cons,Bool.and_eq_true] at f
   rcases List.mem_cons.mp hu with rfl | hu
   · rw [qhW r f.1]; exact qjH r rx f.1 fx
   · exact Jp rx fx t f.2 u' hu
def inV (x:V) (xs:List V):Bool:=xs.any fun y=>eqV y x
inductive qjg (K:PySem.W.Frag) (neg:Bool) (x:V) (y:V) (H:Hp) (Q:VK):Prop
 | mk (p xs:_) (h1:y=.ref p) (h2:(SqL K H p xs∨SqT K H p xs)) (h3:qcp x=true) (h4:xs.all qcp=true) (h5:Q (.bl (if neg then !inV x xs else inV x xs)) H):qjg K neg x y H Q
def rIn (K:PySem.W.Frag) (neg:Bool):R2:=fun x y H Q=>qjg K neg x y H Q
theorem qcU:OpR X (compareOp .In) (rIn X.K false):=by
 intro pins s σ H x y v u Q I rx ry h
 obtain ⟨p,xs,rfl,hq,fx,fs,q⟩:=h
 cases ry
 rcases hq with hq | hq
 · obtain ⟨its,r,pl,hz⟩:=I.list hq
   refine SeqAt.in_listAt (eqU x) pl.isList (fun w hw=>Jp rx fx r fs w (by simpa using hw)) ⟨.bl _,H,I,rfl,?_⟩
   rw [show its.toArray.any (eqU x)=its.any (eqU x) by simp,qa9 r fs]
   exact q
 · obtain ⟨its,r,pl,hz⟩:=I.tuple hq
   refine SeqAt.in_tupleAt (eqU x) pl (fun w hw=>Jp rx fx r fs w (by simpa using hw)) ⟨.bl _,H,I,rfl,?_⟩
   rw [show its.toArray.any (eqU x)=its.any (eqU x) by simp,qa9 r fs]
   exact q
theorem Z8:OpR X (compareOp .NotIn) (rIn X.K true):=by
 intro pins s σ H x y v u Q I rx ry h
 obtain ⟨p,xs,rfl,hq,fx,fs,q⟩:=h
 cases ry
 rcases hq with hq | hq
 · obtain ⟨its,r,pl,hz⟩:=I.list hq
   refine SeqAt.notIn_listAt (eqU x) pl.isList (fun w hw=>Jp rx fx r fs w (by simpa using hw)) ⟨.bl _,H,I,rfl,?_⟩
   rw [show its.toArray.any (eqU x)=its.any (eqU x) by simp,qa9 r fs]
   exact q
 · obtain ⟨its,r,pl,hz⟩:=I.tuple hq
   refine SeqAt.notIn_tupleAt (eqU x) pl (fun w hw=>Jp rx fx r fs w (by simpa using hw)) ⟨.bl _,H,I,rfl,?_⟩
   rw [show its.toArray.any (eqU x)=its.any (eqU x) by simp,qa9 r fs]
   exact q
theorem zN:jX X (.type "list") (fun xs H Q=>∃ p ys,xs=[.ref p]∧(SqL X.K H p ys∨SqT X.K H p ys)∧∀ l,H l=none->Q (.ref l) (upd H l (.lst ys))):=by
 intro pins s σ H xs us Q I r h
 obtain ⟨p,ys,rfl,hq,q⟩:=h
 obtain ⟨u,rfl,rx⟩:=qae r
 cases rx
 have fin:∀ (its:List Value),Vals ys its->ys.length≤sizeLine->∀ (h':Heap) (c':Nat),(∀ b o',s.heap.get? b=some o'->h'.get? b=some o') ->
     h'.get? s.heap.objs.size=some { cls:=.type "list",dict:=none,data:=.seq its.toArray c',slots:=#[] }->EP X pins σ Q (.ref s.heap.objs.size) { s with heap:=h' }:=fun its r' hz h' c' kp e =>
   ⟨.ref s.heap.objs.size,_,I.laid (t':=s.toks) kp (Nat.le_refl _) (show ObjOk X.prog X.w _ h' _ (.lst ys) from ⟨hz,its,c',r',e⟩),rfl,q _ (I.hok.fresh (Nat.le_refl _))⟩
 rcases hq with hq | hq
 · obtain ⟨its,r',pl,hz⟩:=I.list hq
   have hlen:=r'.length
   obtain ⟨o,ho,hc,n,hd⟩:=pl.isList
   exact call_list_seq p (.inl rfl) ho hc hd (fun h' c' kp e=>fin its r' hz h' c' kp e) (by simp only [List.size_toArray]<;>omega)
 · obtain ⟨its,r',pl,hz⟩:=I.tuple hq
   have hlen:=r'.length
   obtain ⟨o,ho,hc,n,hd⟩:=pl
   exact call_list_seq p (.inr rfl) ho hc hd (fun h' c' kp e=>fin its r' hz h' c' kp e) (by simp only [List.size_toArray]<;>omega)
def tyV (K:PySem.W.Frag) (T:String) (x:V) (H:Hp):Prop:=match x with
 | .str _=>T="str"
 | .int _=>T="int"
 | .ref p=>(T="list"∧∃ xs,SqL K H p xs)∨(T="tuple"∧∃ o,K.lookup p=some o∧o.cls=.type "tuple"∧o.dict=none) ∨
     (T="dict"∧((∃ kvs,H p=some (.dK kvs))∨∃ kvs,H p=some (.dT kvs)))∨(T="set"∧∃ S n,H p=some (.set S n))
 | _=>False
theorem qiT {pins:List (Addr×Obj)} {σ:St} {H:Hp} {s:Shared} {T:String} {x:V} {v:Value} (I:Inv X pins σ H s) (r:RelV x v) (ty:tyV X.K T x H) :
   s.TypeIs v T∧∀ a,v=.ref a->∃ ob,s.heap.get? a=some ob∧ob.dict=none:=by
 cases x with
 | str z =>
   obtain ⟨t,rfl⟩:=r
   cases (show T="str" from ty)
   exact ⟨typeIs_str s z t,fun _ e=>nomatch e⟩
 | int i =>
   obtain ⟨t,rfl⟩:=r
   cases (show T="int" from ty)
   exact ⟨typeIs_int s i t,fun _ e=>nomatch e⟩
 | ref p =>
   cases r
   rcases ty with ⟨rfl,xs,hq⟩ | ⟨rfl,o,hk,hc,hd⟩ | ⟨rfl,hk⟩ | ⟨rfl,S,n,hk⟩
   · obtain ⟨its,_,pl,_⟩:=I.list hq
     refine ⟨pl.isList.typeIs,fun a e=>?_⟩
     cases e
     obtain ⟨o,n,e,c,hd,_⟩:=pl
     exact ⟨o,e,hd⟩
   · refine ⟨⟨o,I.kIn p o hk,hc⟩,fun a e=>?_⟩
     cases e
     exact ⟨o,I.kIn _ o hk,hd⟩
   · have z:∃ o,s.heap.get? p=some o∧o.ExactDict:=by
       rcases hk with ⟨kvs,hk⟩ | ⟨kvs,hk⟩
       · obtain ⟨_,_,_,_,o,_,_,e,ex,_⟩:=I.hok p _ hk
         exact ⟨o,e,ex⟩
       · obtain ⟨_,_,_,_,o,_,_,e,ex,_⟩:=I.hok p _ hk
         exact ⟨o,e,ex⟩
     obtain ⟨o,e,ex⟩:=z
     refine ⟨⟨o,e,ex.1⟩,fun a e2=>?_⟩
     cases e2
     exact ⟨o,e,ex.2.1⟩
   · obtain ⟨o,_,_,_,e,ex,_⟩:=I.hok p _ hk
     refine ⟨⟨o,e,ex.1⟩,fun a e2=>?_⟩
     cases e2
     exact ⟨o,e,ex.2.1⟩
 | _=>exact False.elim ty
def tBM (K:PySem.W.Frag) (T:String) (r:V->List V->Hp->VK->Prop) (to:TE) (t:TA):TE:=fun σ H Q=>to σ H fun x H1=>tyV K T x H1∧t σ H1 fun xs H2=>r x xs H2 Q
variable {o e:Expr} {es:List Expr} {to:TE} {t:TA} {name:Str} {apos cpos:Pos} {T id:String} {r:V->List V->Hp->VK->Prop}
theorem Jk (pa:PlainAttrs T) (slot:Slot T name id) (hty:typeOf (.builtin id)=pure (.type "method_descriptor")) (hm:MtR X id r) (ho:PE X o to) (ha:PA X (e::es) t)
   (hbase:attributeBase o name X.env (eval o X.env)=eval o X.env:=by rfl)
   (hfew:((backTo cpos (starEach (e::es) X.env)).all (fun x=>!x.1) && (backToKw cpos (keywordEach [] X.env)).all (fun x=>x.1.isSome)
     && decide ((e::es).length+([]:List Keyword).length+(if ([]:List Keyword).isEmpty then 0 else 1) < 30))=true:=by rfl)
   (hline:(apos.endLine == cpos.line)=true:=by rfl) (hs:starEach (e::es) X.env=(false,eval e X.env)::starEach es X.env:=by rfl) (hplain:(backTo cpos (starEach es X.env)).any (·.1)=false:=by rfl) :
   PE X (.Call (.Attribute o name apos) (e::es) [] cpos) (tBM X.K T r to t):=by
 intro pins s σ H Q I h
 refine wpAny_Call_method_late hbase hfew hline rfl (thn (ho pins s σ H _ I h) fun v s1 zz_=>?_)
 obtain ⟨x,H1,I1,r1,ty,q1⟩:=zz_
 obtain ⟨h1,h2⟩:=qiT I1 r1 ty
 refine ⟨T,id,pa,slot,hty,h1,h2,?_⟩
 have hA:=ha cpos pins s1 σ H1 _ I1 q1
 rw [hs] at hA ⊢
 refine Calls.callWith_builtin (by show (false || (backTo cpos (starEach es X.env)).any (·.1))=false; rw [hplain]<;>rfl) (Calls.evalArgs_plain ?_)
 exact thn hA fun us s2 ⟨vs,H2,I2,r2,q2⟩=>hm pins s2 σ H2 x vs v us Q I2 r1 r2 q2
end
end L2
namespace L2
open PySem PySem.Spec PyProof.Rows
def MtM (X:Cx) (id:String) (r:V->List V->Hp->VK->Prop):Prop :=
 ∀ (pins:List (Addr×Obj)) (s:Shared) (σ:St) (H:Hp) (x:V) (xs:List V) (v:Value) (us:List Value) (Q:VK),Inv X pins σ H s->RelV x v->Vals xs us->r x xs H Q ->
   wpAny (model X.prog X.w) X.A (call (.builtin id) (v::us)) (EP X pins σ Q) X.xe s
theorem Vals.one {x:V} {us:List Value} (h:Vals [x] us):∃ u,us=[u]∧RelV x u:=by
 cases h with
 | cons r t=>cases t; exact ⟨_,rfl,r⟩
theorem Vals.eraseIdx:∀ {xs:List V} {us:List Value} (i:Nat),Vals xs us->Vals (xs.eraseIdx i) (us.eraseIdx i)
 | _,_,_,.nil=>.nil
 | _,_,0,.cons _ t=>t
 | _,_,i+1,.cons r t=>.cons r (Vals.eraseIdx i t)
theorem qc3 {α:Type}:∀ (l:List α) (i:Nat),(l.eraseIdx i).length≤l.length
 | [],_=>Nat.le_refl _
 | _::_,0=>Nat.le_succ _
 | _::r,i+1=>Nat.succ_le_succ (qc3 r i)
section
variable {X:Cx} {pins:List (Addr×Obj)} {σ:St} {H:Hp} {s:Shared} {l b:Addr} {xs ys zs:List V}
theorem Inv.lset {its its':List Value} {n:Nat} {f:Array Value->Array Value} {t':Nat} (I:Inv X pins σ H s) (hH:H l=some (.lst xs))
   (e:s.heap.get? l=some { cls:=.type "list",data:=.seq its.toArray n }) (hf:f its.toArray=its'.toArray) (hv:Vals ys its') (hz:ys.length≤sizeLine) :
   Inv X pins σ (upd H l (.lst ys)) { s with heap:=s.heap.update l (Obj.mapSeq f),toks:=t' }:=by
 have q:=PySem.IsL.update e f
 rw [hf] at q
 refine I.write (x:=l) (e:=l) (by rw [hH]; exact trivial) (.inl rfl) (fun b' u hb hu=>(Heap.get?_update_other s.heap (Obj.mapSeq f) (Ne.symm hb)).trans hu) ⟨_,q⟩ ?_
 exact ⟨hz,its',_,hv,q⟩
theorem Inv.lnew {its:List Value} {t':Nat} (I:Inv X pins σ H s) (hv:Vals ys its) (hz:ys.length≤sizeLine) :
   Inv X pins σ (upd H s.heap.objs.size (.lst ys)) { s with heap:=s.heap.push { cls:=.type "list",data:=.seq its.toArray },toks:=t' } :=
 I.laid (fun _ _ q=>Heap.get?_push_of_some _ q) (Nat.le_refl _) ⟨hz,its,0,hv,Heap.get?_push_size _ rfl⟩
theorem Inv.fresh (I:Inv X pins σ H s):H s.heap.objs.size=none:=I.hok.fresh (Nat.le_refl _)
theorem Inv.lstM (I:Inv X pins σ H s) (hH:H l=some (.lst xs)):xs.length≤sizeLine∧∃ (its:List Value) (n:Nat),Vals xs its∧xs.length=its.length∧s.heap.get? l=some { cls:=.type "list",data:=.seq its.toArray n }:=by
 obtain ⟨z,its,n,r,e⟩:=I.hok l _ hH
 exact ⟨z,its,n,r,r.length,e⟩
end
section
variable {X:Cx}
inductive qcR (x:V) (vs:List V) (H:Hp) (Q:VK):Prop
 | mk (l xs y:_) (h1:x=.ref l) (h2:vs=[y]) (h3:H l=some (.lst xs)) (h4:xs.length < sizeLine) (h5:Q .non (upd H l (.lst (xs++[y])))):qcR x vs H Q
def qip:V->List V->Hp->VK->Prop:=fun x vs H Q=>qcR x vs H Q
theorem zK:MtM X "list.append" qip:=by
 intro pins s σ H x vs v us Q I rx rv h
 obtain ⟨l,xs,y,rfl,rfl,hH,hz,q⟩:=h
 cases rx
 obtain ⟨u,rfl,ru⟩:=rv.one
 obtain ⟨z,its,n,r,hl,e⟩:=I.lstM hH
 refine call_meets F.slot_list_append ⟨_,e,rfl⟩ F.entry_list_append (F.args_list_append_2 _ _) (PySem.list_append l its.toArray n u (by rw [List.size_toArray]; omega)) ⟨e,?_⟩
 refine ⟨.non,_,I.lset (its':=its++[u]) hH e (by simp) (r.append (.cons ru .nil)) ?_,rfl,q⟩
 rw [List.length_append,List.length_singleton]
 omega
def qjf:V->List V->Hp->VK->Prop:=fun x vs H Q=>∃ l xs i k y,x=.ref l∧vs=[.int i]∧H l=some (.lst xs)∧-(2 ^ 63)≤i∧i < 2 ^ 63∧seqIndex? i xs.length=some k∧xs[k]?=some y∧Q y (upd H l (.lst (xs.eraseIdx k)))
theorem qcf:MtM X "list.pop" qjf:=by
 intro pins s σ H x vs v us Q I rx rv h
 obtain ⟨l,xs,i,k,y,rfl,rfl,hH,h1,h2,hk,hy,q⟩:=h
 cases rx
 obtain ⟨u,rfl,ru⟩:=rv.one
 obtain ⟨t,rfl⟩:=ru
 obtain ⟨z,its,n,r,hl,e⟩:=I.lstM hH
 obtain ⟨w,hw,rw'⟩:=r.get hy
 refine call_meets F.slot_list_pop ⟨_,e,rfl⟩ F.entry_list_pop (F.args_list_pop_2 _ _)
   (MeetsSeq.list_pop_at l its.toArray n i t k w (fitsIndex_both h1 h2) (by rw [List.size_toArray,← hl]; exact hk) (by rw [← Array.getElem?_toList]; exact hw) (by rw [List.size_toArray]; omega)) ⟨e,?_⟩
 refine ⟨y,_,I.lset (its':=its.eraseIdx k) hH e ?_ (r.eraseIdx k) ?_,rw',q⟩
 · show its.toArray.eraseIdxIfInBounds k=(its.eraseIdx k).toArray
   rw [List.eraseIdxIfInBounds_toArray]
 · have:=qc3 xs k
   omega
inductive qhK (x:V) (y:V) (H:Hp) (Q:VK):Prop
 | mk (l b xs zs:_) (h1:x=.ref l) (h2:y=.ref b) (h3:H l=some (.lst xs)) (h4:H b=some (.lst zs)) (h5:xs.length+zs.length≤sizeLine) (h6:∀ p,H p=none->Q (.ref p) (upd H p (.lst (xs++zs)))):qhK x y H Q
def qkP:R2:=fun x y H Q=>qhK x y H Q
theorem op_cat:OpR X (binaryOp .Add) qkP:=by
 intro pins s σ H x y v u Q I rx ry h
 obtain ⟨l,b,xs,zs,rfl,rfl,hH,hB,hz,q⟩:=h
 cases rx
 cases ry
 obtain ⟨z,its,n,r,hl,e⟩:=I.lstM hH
 obtain ⟨z2,its2,n2,r2,hl2,e2⟩:=I.lstM hB
 refine PySem.P.add_list e e2 ?_ (by rw [List.size_toArray,List.size_toArray]; omega)
 have ea:its.toArray++its2.toArray=(its++its2).toArray:=by simp
 rw [ea]
 exact ⟨.ref _,_,I.lnew (t':=s.toks) (r.append r2) (by rw [List.length_append]; omega),rfl,q _ I.fresh⟩
end
section
variable {prog:Program} {w:World} {A:Around} {E:Value->Shared->Prop} {s:Shared}
end
section
variable {X:Cx}
end
end L2
namespace L2
open PySem PySem.Spec PyProof.Rows
section
variable {κ:Type} [DecidableEq κ]
def qaf (kvs:List (κ×V)) (k:κ):Option V:=(kvs.find? fun kv=>decide (kv.1=k)).map (·.2)
def qbb (kvs:List (κ×V)) (k:κ) (v:V):List (κ×V) :=
 if (kvs.any fun kv=>decide (kv.1=k))=true then kvs.map (fun kv=>if kv.1=k then (kv.1,v) else kv) else kvs++[(k,v)]
def qdN (kvs:List (κ×V)) (k:κ):List (κ×V):=kvs.filter fun kv=>decide (kv.1≠k)
theorem Zz {p:κ×V} {r:List (κ×V)} {k:κ} (e:p.1=k):qaf (p::r) k=some p.2:=by simp [qaf,List.find?_cons,e]
theorem QK {p:κ×V} {r:List (κ×V)} {k:κ} (e:¬ p.1=k):qaf (p::r) k=qaf r k:=by simp [qaf,List.find?_cons,e]
theorem qbM (k:κ):∀ kvs:List (κ×V),(kvs.any fun kv=>decide (kv.1=k))=(qaf kvs k).isSome
 | []=>rfl
 | p::r=>by
   rw [List.any_cons]
   by_cases e:p.1=k
   · simp only [Zz e,decide_eq_true e,Bool.true_or,Option.isSome_some]
   · rw [QK e,decide_eq_false e,Bool.false_or]; exact qbM k r
theorem jT (kvs:List (κ×V)) (k:κ) (v:V):(qbb kvs k v).length≤kvs.length+1:=by
 unfold qbb
 split
 · rw [List.length_map]; omega
 · rw [List.length_append,List.length_cons,List.length_nil]; omega
theorem qgL {kvs:List (κ×V)} {k:κ} (v:V) (h:qaf kvs k=none):qbb kvs k v=kvs++[(k,v)]:=by
 unfold qbb
 rw [qbM,h]
 exact if_neg (by decide)
theorem RelO.isSome_eq {o:Option V} {u:Option Value} (r:RelO o u):o.isSome=u.isSome:=by
 cases o with
 | none=>cases u with
   | none=>rfl
   | some _=>exact (show False from r).elim
 | some _=>cases u with
   | none=>exact (show False from r).elim
   | some _=>rfl
theorem KV.val {kvs:List (κ×V)} {vs:List (κ×Value)} (r:KV kvs vs) (k:κ):RelO (qaf kvs k) (valueAt vs k):=by
 unfold KV at r
 induction r with
 | nil=>exact True.intro
 | @cons p q ps qs h t ih =>
   obtain ⟨h1,h2⟩:=h
   by_cases e:p.1=k
   · have e':q.1=k:=h1.symm.trans e
     have b:valueAt (q::qs) k=some q.2:=by simp [valueAt,List.find?_cons,e']
     rw [Zz e,b]; exact h2
   · have e':¬ q.1=k:=fun z=>e (h1.trans z)
     have b:valueAt (q::qs) k=valueAt qs k:=by simp [valueAt,List.find?_cons,e']
     rw [QK e,b]; exact ih
theorem KV.any {kvs:List (κ×V)} {vs:List (κ×Value)} (r:KV kvs vs) (k:κ):(kvs.any fun kv=>decide (kv.1=k))=vs.any fun kv=>decide (kv.1=k):=by
 unfold KV at r
 induction r with
 | nil=>rfl
 | cons h t ih=>rw [List.any_cons,List.any_cons,ih,h.1]
theorem KV.repl {kvs:List (κ×V)} {vs:List (κ×Value)} (r:KV kvs vs) (k:κ) {y:V} {u:Value} (ry:RelV y u) :
   KV (kvs.map fun kv=>if kv.1=k then (kv.1,y) else kv) (vs.map fun kv=>if kv.1=k then (kv.1,u) else kv):=by
 unfold KV at r ⊢
 induction r with
 | nil=>exact .nil
 | @cons p q ps qs h t ih =>
   rw [List.map_cons,List.map_cons]
   refine .cons ?_ ih
   obtain ⟨h1,h2⟩:=h
   by_cases e:p.1=k
   · rw [if_pos e,if_pos (h1.symm.trans e)]; exact ⟨h1,ry⟩
   · rw [if_neg e,if_neg (fun z=>e (h1.trans z))]; exact ⟨h1,h2⟩
theorem KV.put {kvs:List (κ×V)} {vs:List (κ×Value)} (r:KV kvs vs) (k:κ) {y:V} {u:Value} (ry:RelV y u):KV (qbb kvs k y) (stored vs k u):=by
 unfold qbb stored
 rw [r.any k]
 by_cases e:(vs.any fun kv=>decide (kv.1=k))=true
 · rw [if_pos e,if_pos e]; exact r.repl k ry
 · rw [if_neg e,if_neg e]; exact Paired.snoc r ⟨rfl,ry⟩
theorem KV.drop {kvs:List (κ×V)} {vs:List (κ×Value)} (r:KV kvs vs) (k:κ):KV (qdN kvs k) (without vs k):=by
 unfold KV at r ⊢
 unfold qdN without
 induction r with
 | nil=>exact .nil
 | @cons p q ps qs h t ih =>
   obtain ⟨h1,h2⟩:=h
   rw [List.filter_cons,List.filter_cons]
   by_cases e:p.1=k
   · have a:¬ decide (p.1≠k)=true:=by simp [e]
     have b:¬ decide (q.1≠k)=true:=by simp [h1.symm.trans e]
     rw [if_neg a,if_neg b]; exact ih
   · have e':¬ q.1=k:=fun z=>e (h1.trans z)
     have a:decide (p.1≠k)=true:=by simp [e]
     have b:decide (q.1≠k)=true:=by simp [e']
     rw [if_pos a,if_pos b]; exact .cons ⟨h1,h2⟩ ih
theorem KV.length {kvs:List (κ×V)} {vs:List (κ×Value)} (r:KV kvs vs):kvs.length=vs.length:=Paired.length r
theorem qhn (kvs:List (κ×V)) (k:κ):(qdN kvs k).length≤kvs.length:=List.length_filter_le _ _
end
theorem qdI {P:Program} {w:World} {k:Key} {u:Value} (r:RelV (kV k) u):(zg P w).is k u=true:=by
 cases k with
 | inl i=>obtain ⟨t,e⟩:=(show ∃ t,u=Value.int i t from r); subst e; exact qdD P w i t
 | inr x=>obtain ⟨t,e⟩:=(show ∃ t,u=Value.str x t from r); subst e; exact qdC P w x t
theorem qc7 {P:Program} {w:World}:∀ {ks:List Key} {us:List Value},Vals (ks.map kV) us->ItemsAre (zg P w) ks us
 | [],_,r=>by rw [List.map_nil] at r; cases r; exact .nil
 | k::ks,_,r=>by
   rw [List.map_cons] at r
   cases r with
   | cons h t=>exact .cons (qdI h) (qc7 t)
abbrev KT (H:Hp):List (List Key×V)->List (List Key×Addr×Value)->Prop:=Paired fun p q=>p.1=q.1∧H q.2.1=some (.tup (p.1.map kV))∧RelV p.2 q.2.2
theorem KT.val {H:Hp} {kvs:List (List Key×V)} {xs:List (List Key×Addr×Value)} (r:KT H kvs xs) (k:List Key):RelO (qaf kvs k) ((atKey xs k).map (·.2)):=by
 induction r with
 | nil=>exact True.intro
 | @cons p q ps qs h t ih =>
   obtain ⟨h1,_,h2⟩:=h
   by_cases e:p.1=k
   · have e':q.1=k:=h1.symm.trans e
     have b:atKey (q::qs) k=some q.2:=by simp [atKey,List.find?_cons,e']
     rw [Zz e,b]; exact h2
   · have e':¬ q.1=k:=fun z=>e (h1.trans z)
     have b:atKey (q::qs) k=atKey qs k:=by simp [atKey,List.find?_cons,e']
     rw [QK e,b]; exact ih
theorem KT.repl {H:Hp} {kvs:List (List Key×V)} {xs:List (List Key×Addr×Value)} (r:KT H kvs xs) (k:List Key) {y:V} {u:Value} (ry:RelV y u) :
   KT H (kvs.map fun kv=>if kv.1=k then (kv.1,y) else kv) (xs.map (putAt k u)):=by
 induction r with
 | nil=>exact .nil
 | @cons p q ps qs h t ih =>
   rw [List.map_cons,List.map_cons]
   refine .cons ?_ ih
   obtain ⟨h1,h2,h3⟩:=h
   unfold putAt
   by_cases e:p.1=k
   · rw [if_pos e,if_pos (h1.symm.trans e)]; exact ⟨h1,h2,ry⟩
   · rw [if_neg e,if_neg (fun z=>e (h1.trans z))]; exact ⟨h1,h2,h3⟩
theorem KT.put {H:Hp} {kvs:List (List Key×V)} {xs:List (List Key×Addr×Value)} (r:KT H kvs xs) (k:List Key) {b:Addr} {y:V} {u:Value} (hb:H b=some (.tup (k.map kV))) (ry:RelV y u) :
   KT H (qbb kvs k y) (storedH xs k b u):=by
 have e:(kvs.any fun kv=>decide (kv.1=k))=(atKey xs k).isSome:=by
   rw [qbM,(r.val k).isSome_eq,Option.isSome_map]
 unfold qbb storedH
 rw [e]
 by_cases q:(atKey xs k).isSome=true
 · rw [if_pos q,if_pos q]; exact r.repl k ry
 · rw [if_neg q,if_neg q]; exact Paired.snoc r ⟨rfl,hb,ry⟩
theorem KT.keeps {H H':Hp} {kvs:List (List Key×V)} {xs:List (List Key×Addr×Value)} (r:KT H kvs xs) (ht:∀ b ys,H b=some (.tup ys)->H' b=some (.tup ys)):KT H' kvs xs :=
 Paired.mapP r fun _ _ z=>⟨z.1,ht _ _ z.2.1,z.2.2⟩
section
variable {P:Program} {w:World} {H:Hp} {h:Heap} {a:Addr}
theorem qjd {u:HO} (ok:HOk P w H h) (e:Rd H a u):ObjOk P w H h a u:=e.ok ok
theorem qa5 {kvs:List (Key×V)} (ok:HOk P w H h) (e:Rd H a (.dK kvs)):kvs.length≤sizeLine∧(a == sysModules)=false∧∃ vs,KV kvs vs∧h.DictOf (zg P w) a vs :=
 show ObjOk P w H h a (.dK kvs) from qjd ok e
theorem qho {kvs:List (Key×V)} (ok:HOk P w H h) (e:H a=some (.dK kvs)):kvs.length≤sizeLine∧(a == sysModules)=false∧∃ vs,KV kvs vs∧h.DictOf (zg P w) a vs:=qa5 ok (.inl e)
theorem qc5 {ks:List Key} (ok:HOk P w H h) (e:H a=some (.tup (ks.map kV))):(tupleKind (zg P w)).is h ks a:=by
 obtain ⟨_,its,r,o,h1,h2,n,h3⟩:=(show ObjOk P w H h a (.tup (ks.map kV)) from ok a _ e)
 exact ⟨o,its.toArray,n,h1,h2,h3,by simpa using qc7 r⟩
theorem qeQ {kvs:List (List Key×V)} (ok:HOk P w H h) (e:Rd H a (.dT kvs)):kvs.length≤sizeLine∧(a == sysModules)=false ∧
   ∃ xs,KT H kvs xs∧h.DictOfH (tupleKind (zg P w)) a xs:=by
 obtain ⟨z,y,xs,r,o,es,ep,h1,h2,h3,h4,h5⟩:=(show ObjOk P w H h a (.dT kvs) from qjd ok e)
 refine ⟨z,y,xs,r,o,es,ep,h1,h2,h3,h4,fun x hx=>?_,h5⟩
 have all:∀ {l:List (List Key×V)} {m:List (List Key×Addr×Value)},KT H l m->∀ x∈m,(tupleKind (zg P w)).is h x.1 x.2.1:=by
   intro l m q
   induction q with
   | nil=>intro x hx; exact nomatch hx
   | @cons p q ps qs hq t ih =>
     intro x hx
     rcases List.mem_cons.mp hx with e | hx
     · subst e
       exact qc5 ok (by rw [← hq.1]; exact hq.2.1)
     · exact ih x hx
 exact all r x hx
theorem qkr {kvs:List (List Key×V)} (ok:HOk P w H h) (e:H a=some (.dT kvs)):kvs.length≤sizeLine∧(a == sysModules)=false ∧
   ∃ xs,KT H kvs xs∧h.DictOfH (tupleKind (zg P w)) a xs:=qeQ ok (.inl e)
end
def qbf (H:Hp) (a:Addr) (y:V) (r:Option V):Prop :=
 (∃ kvs k,Rd H a (.dK kvs)∧y=kV k∧r=qaf kvs k)∨∃ kvs k b,Rd H a (.dT kvs)∧y=.ref b∧H b=some (.tup (k.map kV))∧r=qaf kvs k
def DPut (H:Hp) (a:Addr) (y v:V) (H':Hp):Prop :=
 (∃ kvs k,H a=some (.dK kvs)∧y=kV k∧kvs.length < sizeLine∧H'=upd H a (.dK (qbb kvs k v))) ∨
 ∃ kvs k b,H a=some (.dT kvs)∧y=.ref b∧H b=some (.tup (k.map kV))∧kvs.length < sizeLine∧H'=upd H a (.dT (qbb kvs k v))
theorem DPut.k {H:Hp} {a:Addr} {kvs:List (Key×V)} {k:Key} {v:V} (e:H a=some (.dK kvs)) (hl:kvs.length < sizeLine):DPut H a (kV k) v (upd H a (.dK (qbb kvs k v))):=.inl ⟨kvs,k,e,rfl,hl,rfl⟩
section
variable {X:Cx} {pins:List (Addr×Obj)} {σ:St} {H:Hp} {s:Shared} {a:Addr} {y v:V} {u r:Value} {o:Option V} {A:Around} {E:Value->Shared->Prop}
theorem Inv.big (I:Inv X pins σ H s):sysModules < s.heap.objs.size:=by
 have h:mainGlobals < s.heap.objs.size:=(I.mod.glob.keeps I.bk).lt
 exact Nat.lt_trans (by decide) h
theorem qgj {Q:Value->Shared->Prop} (hu:A.units+1 < cLine) (I:Inv X pins σ H s) (g:qbf H a y (some v)) (ry:RelV y u) (h:∀ w' s',Inv X pins σ H s'->RelV v w'->Q w' s') :
   wpAny (model X.prog X.w) A (getItem (.ref a) u) Q E s:=by
 rcases g with ⟨kvs,k,e,ey,l⟩ | ⟨kvs,k,b,e,ey,eb,l⟩
 · subst ey
   obtain ⟨z,hd,vs,rel,dd⟩:=qa5 I.hok e
   obtain ⟨w',hw,rw'⟩:=RelO.some_of (v:=v) (o:=valueAt vs k) (by rw [l]; exact rel.val k)
   exact wpAny_getItem_of (qdI ry) dd.mapOf hw (h w' _ (I.tok _) rw')
 · subst ey
   cases (show u=Value.ref b from ry)
   obtain ⟨z,hd,xs,rel,dd⟩:=qeQ I.hok e
   obtain ⟨w',hw,rw'⟩:=RelO.some_of (v:=v) (o:=(atKey xs k).map (·.2)) (by rw [l]; exact rel.val k)
   obtain ⟨p,hp,hp2⟩:=Option.map_eq_some_iff.mp hw
   refine wpAny_getItem_heap (tupleKind_room_in1 hu) (qc5 I.hok eb) dd hp ?_
   rw [hp2]
   exact h w' _ (I.tok _) rw'
theorem qli {Q:Value->Shared->Prop} (hu:A.units+1 < cLine) (I:Inv X pins σ H s) (g:qbf H a y o) (ry:RelV y u) (h:∀ s',Inv X pins σ H s'->Q (.bool o.isSome) s') :
   wpAny (model X.prog X.w) A (compareOp .In u (.ref a)) Q E s:=by
 rcases g with ⟨kvs,k,e,ey,l⟩ | ⟨kvs,k,b,e,ey,eb,l⟩
 · subst ey
   obtain ⟨z,hd,vs,rel,dd⟩:=qa5 I.hok e
   refine wpAny_in_of (qdI ry) hd dd.mapOf ?_
   rw [← (rel.val k).isSome_eq,← l]
   exact h _ (I.tok _)
 · subst ey
   cases (show u=Value.ref b from ry)
   obtain ⟨z,hd,xs,rel,dd⟩:=qeQ I.hok e
   refine wpAny_in_heap (tupleKind_room_in1 hu) (qc5 I.hok eb) hd dd ?_
   have q:=(rel.val k).isSome_eq
   rw [Option.isSome_map] at q
   rw [← q,← l]
   exact h _ (I.tok _)
theorem qiJ {Q:Value->Shared->Prop} (hu:A.units+1 < cLine) (I:Inv X pins σ H s) (g:qbf H a y o) (ry:RelV y u) (h:∀ s',Inv X pins σ H s'->Q (.bool (!o.isSome)) s') :
   wpAny (model X.prog X.w) A (compareOp .NotIn u (.ref a)) Q E s:=by
 rcases g with ⟨kvs,k,e,ey,l⟩ | ⟨kvs,k,b,e,ey,eb,l⟩
 · subst ey
   obtain ⟨z,hd,vs,rel,dd⟩:=qa5 I.hok e
   refine wpAny_notIn_of (qdI ry) hd dd.mapOf ?_
   rw [← (rel.val k).isSome_eq,← l]
   exact h _ (I.tok _)
 · subst ey
   cases (show u=Value.ref b from ry)
   obtain ⟨z,hd,xs,rel,dd⟩:=qeQ I.hok e
   refine wpAny_notIn_heap (tupleKind_room_in1 hu) (qc5 I.hok eb) hd dd ?_
   have q:=(rel.val k).isSome_eq
   rw [Option.isSome_map] at q
   rw [← q,← l]
   exact h _ (I.tok _)
theorem qcr {h':Heap} {t':Nat} {ob:HO} (I:Inv X pins σ H s) (mu:Mut (H a)) (hs:Heap.SameBut a s.heap h') (he:∃ q,h'.get? a=some q) (new:ObjOk X.prog X.w (upd H a ob) h' a ob) :
   Inv X pins σ (upd H a ob) { s with heap:=h',toks:=t' } :=
 I.write (x:=a) (e:=a) mu (.inl rfl) (fun b q hb z=>(hs.2 b hb).trans z) he new
theorem qgd {P:Program} {w:World} {H':Hp} {h':Heap} {kvs:List (Key×V)} {vs:List (Key×Value)} (z:kvs.length≤sizeLine) (hd:(a == sysModules)=false) (rel:KV kvs vs) (dd:h'.DictOf (zg P w) a vs) :
   ObjOk P w H' h' a (.dK kvs):=⟨z,hd,vs,rel,dd⟩
theorem qgi {H':Hp} {Q:Unit->Shared->Prop} (hu:A.units+1 < cLine) (I:Inv X pins σ H s) (g:DPut H a y v H') (ry:RelV y u) (rv:RelV v r) (h:∀ s',Inv X pins σ H' s'->Q () s') :
   wpAny (model X.prog X.w) A (setItem (.ref a) u r) Q E s:=by
 rcases g with ⟨kvs,k,e,ey,l,eH⟩ | ⟨kvs,k,b,e,ey,eb,l,eH⟩
 · subst ey eH
   obtain ⟨z,hd,vs,rel,dd⟩:=qho I.hok e
   have hz:vs.length≤sizeLine:=by rw [← rel.length]; exact z
   have hl:(qbb kvs k v).length≤sizeLine:=by have:=jT kvs k v; omega
   refine wpAny_setItem_pairs (hsz:=hz) (qdI ry) dd fun h' dd' hs=>h _ ?_
   have he:∃ q,h'.get? a=some q:=let ⟨q,_,_,hq,_⟩:=dd'; ⟨q,hq⟩
   exact qcr I (by rw [e]; exact True.intro) hs he (qgd hl hd (rel.put k rv) dd')
 · subst ey eH
   cases (show u=Value.ref b from ry)
   obtain ⟨z,hd,xs,rel,dd⟩:=qkr I.hok e
   have hz:xs.length≤sizeLine:=by rw [← Paired.length rel]; exact z
   have hl:(qbb kvs k v).length≤sizeLine:=by have:=jT kvs k v; omega
   refine wpAny_setItem_heap (hsz:=hz) (tupleKind_room_in1 hu) (qc5 I.hok eb) dd fun h' dd' hs=>h _ ?_
   obtain ⟨q,es,ep,hq,h2,h3,h4,_,h5⟩:=dd'
   refine qcr I (by rw [e]; exact True.intro) hs ⟨q,hq⟩ ⟨hl,hd,_,(rel.put k eb rv).keeps fun c ys ec=>?_,q,es,ep,hq,h2,h3,h4,h5⟩
   rw [qh (zi ec e (fun z=>nomatch z))]
   exact ec
end
section
variable {X:Cx} {pins:List (Addr×Obj)} {σ:St} {H:Hp} {s:Shared} {a:Addr} {kvs:List (Key×V)} {k:Key} {u:Value} {A:Around} {E:Value->Shared->Prop}
theorem qks {v:V} {more:List Value} {Q:Value->Shared->Prop} (I:Inv X pins σ H s) (e:H a=some (.dK kvs)) (ry:RelV (kV k) u) (l:qaf kvs k=some v) (hm:more=[]∨∃ x,more=[x])
   (h:∀ w' s',Inv X pins σ (upd H a (.dK (qdN kvs k))) s'->RelV v w'->Q w' s'):wpAny (model X.prog X.w) A (call (.builtin "dict.pop") (.ref a::u::more)) Q E s:=by
 obtain ⟨z,hd,vs,rel,dd⟩:=qho I.hok e
 obtain ⟨w',hw,rw'⟩:=RelO.some_of (v:=v) (o:=valueAt vs k) (by rw [← l]; exact rel.val k)
 have hp:(keyPart u).isSome=true:=by
   cases k with
   | inl i=>obtain ⟨t,q⟩:=(show ∃ t,u=Value.int i t from ry); subst q; rfl
   | inr x=>obtain ⟨t,q⟩:=(show ∃ t,u=Value.str x t from ry); subst q; rfl
 have ha:argsOk "dict.pop" ⟨.ref a::u::more,[]⟩:=by
   rcases hm with q | ⟨x,q⟩
   · subst q; exact PySem.F.args_dict_pop_2 _ _
   · subst q; exact PySem.F.args_dict_pop_3 _ _ _
 refine call_meetsIn PySem.F.slot_dict_pop dd.typeIs PySem.F.entry_dict_pop ha (meets_dict_pop_there (zg X.prog X.w) a (qdI ry) more hm hp)
   ⟨vs,w',dd,by rw [← rel.length]; exact z,hw,fun h' dd' hs=>h w' _ ?_ rw'⟩
 have he:∃ q,h'.get? a=some q:=let ⟨q,_,_,hq,_⟩:=dd'; ⟨q,hq⟩
 exact qcr I (by rw [e]; exact True.intro) hs he (qgd (Nat.le_trans (qhn kvs k) z) hd (rel.drop k) dd')
theorem qkt {Q:Value->Shared->Prop} (I:Inv X pins σ H s) (e:Rd H a (.dK kvs)) (h:∀ t s',Inv X pins σ H s'->Q (.int kvs.length t) s'):wpAny (model X.prog X.w) A (call (.builtin "len") [.ref a]) Q E s:=by
 obtain ⟨z,hd,vs,rel,dd⟩:=qa5 I.hok e
 refine call_len_dict hd dd (by rw [← rel.length]; rw [sizeLine_eq] at z; omega) ?_
 rw [← rel.length]
 exact h _ _ (I.tok _)
end
def qkY (i:Expr):Prop:=∀ ov iv,subscripted i false ov iv=operate [ov,iv] (getItem ov iv)
theorem qid {prog:Program} {w:World} {A:Around} {E:Value->Shared->Prop} {s:Shared} {env:Env} {value slice:Expr} {pos:Pos} {T id:String} {Q:Value->Shared->Prop}
   (hl:typeLookup (.type T) "__getitem__"=pure (some (.builtin id))) (hs:qkY slice)
   (h:wpAny (model prog w) A (eval value env) (fun o s₁=>wpAny (model prog w) A (eval slice env) (fun i s₂=>s₂.TypeIs o T∧wpAny (model prog w) A (getItem o i) Q E s₂) E s₁) E s) :
   wpAny (model prog w) A (eval (.Subscript value slice pos) env) Q E s:=by
 refine Subscript_ (wpAny_mono h (fun o s₁ h₁=>wpAny_mono h₁ (fun i s₂ h₂=>?_) fun _ _ x=>x) fun _ _ x=>x)
 obtain ⟨hT,h₂⟩:=h₂
 unfold subscriptTail
 refine wpAny_bind ?_
 rw [getitemInPython_of_ne hT.not_modules]
 refine wpAny_bind (wpAny_specialOf hT hl ?_)
 have fin:wpAny (model prog w) A (subscripted slice false o i) (fun r s₃=>wpAny (model prog w) A (letTemporaryGo value o r >>= fun _=>pure r) Q E s₃) E s₂:=by
   rw [hs o i]
   exact wpAny_operating (wpAny_mono h₂ (fun r s₃ h₃=>wpAny_bind (wpAny_letTemporaryGo (wpAny_pure h₃))) fun _ _ x=>x)
 first
   | exact wpAny_pure (wpAny_bind fin)
   | exact wpAny_bind (wpAny_pure (wpAny_bind fin))
   | exact wpAny_bind fin
theorem qdP {X:Cx} {pins:List (Addr×Obj)} {σ:St} {H:Hp} {s:Shared} {a:Addr} {y:V} {o:Option V} (I:Inv X pins σ H s) (g:qbf H a y o):s.TypeIs (.ref a) "dict":=by
 rcases g with ⟨kvs,k,e,_,_⟩ | ⟨kvs,k,b,e,_,_,_⟩
 · obtain ⟨_,_,vs,_,dd⟩:=qa5 I.hok e
   exact dd.typeIs
 · obtain ⟨_,_,xs,_,dd⟩:=qeQ I.hok e
   exact dd.typeIs
def qj7 (td ty:TE):TE:=fun σ H Q=>td σ H fun x H1=>ty σ H1 fun y H2=>∃ a v,x=.ref a∧qbf H2 a y (some v)∧Q v H2
def qkb (td ty tv:TE):TS:=fun D σ H=>tv σ H fun v H1=>td σ H1 fun x H2=>ty σ H2 fun y H3=>∃ a H4,x=.ref a∧DPut H3 a y v H4∧D.nx σ H4
section
variable {X:Cx} {o i e value:Expr} {pos pos' tpos:Pos} {td ty tv:TE}
theorem qL (hu:X.A.units+1 < cLine) (ho:PE X o td) (hi:PE X i ty) (hs:qkY i):PE X (.Subscript o i pos) (qj7 td ty):=by
 intro pins s σ H Q I h
 refine qid PySem.F.slot_dict_getitem.lookup hs (thn (ho pins s σ H _ I h) fun u s1 ⟨x,H1,I1,rx,q1⟩=>thn (hi pins s1 σ H1 _ I1 q1) fun iv s2 zz_=>?_)
 obtain ⟨y,H2,I2,ry,a,v,ex,g,q2⟩:=zz_
 subst ex
 obtain rfl:u=Value.ref a:=rx
 exact ⟨qdP I2 g,qgj hu I2 g ry fun w' s3 I3 rw'=>⟨v,H2,I3,rw',q2⟩⟩
theorem qb0 (hu:X.A.units+1 < cLine) (ho:PE X o td) (hi:PE X i ty) (hv:PE X value tv) (hs:swapsWith value (some (.Subscript o i pos')) pos.line X.env=pure false) :
   PS X (.Assign [.Subscript o i pos'] value pos) (qkb td ty tv):=by
 intro pins s σ H D I h
 refine wpAny_Assign_Subscript (thn (hv pins s σ H _ I h) fun r s1 ⟨v,H1,I1,rv,q1⟩=>thn (ho pins s1 σ H1 _ I1 q1) fun u s2 ⟨x,H2,I2,rx,q2⟩=>thn (hi pins s2 σ H2 _ I2 q2) fun iv s3 zz_=>?_) hs
 obtain ⟨y,H3,I3,ry,a,H4,ex,g,q3⟩:=zz_
 subst ex
 obtain rfl:u=Value.ref a:=rx
 exact qgi hu I3 g ry rv fun s4 I4=>⟨σ,H4,I4,q3⟩
end
theorem qew {P:Program} {w:World} {H:Hp} (h:Heap) (hb:sysModules < h.objs.size):ObjOk P w H (h.push { cls:=.type "dict",data:=.dict #[] }) h.objs.size (.dK []) :=
 ⟨Nat.zero_le _,beq_eq_false_iff_ne.mpr (Ne.symm (Nat.ne_of_lt hb)),[],.nil,Heap.DictOf.new h⟩
def qhA:TE:=fun _ H Q=>∀ p,H p=none->Q (.ref p) (upd H p (.dK []))
section
variable {X:Cx} {pos:Pos}
theorem qap:PE X (.Dict [] [] pos) qhA:=fun pins s σ H Q I h =>
 wpAny_Dict_empty ⟨.ref s.heap.objs.size,_,I.laid (a:=s.heap.objs.size) (o:=.dK []) (t':=s.toks) (fun _ _ q=>Heap.get?_push_of_some _ q) (Nat.le_refl _) (qew s.heap I.big),rfl,h _ (I.hok.fresh (Nat.le_refl _))⟩
end
def qe9:List (TE×TE)->St->Hp->(List (V×V)->Hp->Prop)->Prop
 | [],_,H,Q=>Q [] H
 | (tk,tv)::r,σ,H,Q=>tk σ H fun x H1=>tv σ H1 fun y H2=>qe9 r σ H2 fun ps H3=>Q ((x,y)::ps) H3
abbrev VV:List (V×V)->List (Value×Value)->Prop:=Paired fun p q=>RelV p.1 q.1∧RelV p.2 q.2
def PPs (X:Cx) (pos:Pos) (keys:List (Option Expr)) (values:List Expr) (trs:List (TE×TE)):Prop :=
 ∀ (pins:List (Addr×Obj)) (s:Shared) (σ:St) (H:Hp) (Q:List (V×V)->Hp->Prop),Inv X pins σ H s->qe9 trs σ H Q ->
   wpAny (model X.prog X.w) X.A (evalPairs (pairTrees keys values X.env pos)) (fun vs s'=>∃ ps H',Inv X pins σ H' s'∧VV ps vs∧Q ps H') X.xe s
theorem qfu {X:Cx} {pos:Pos}:PPs X pos [] [] []:=fun pins s σ H Q I h=>pairTrees_nil_walk ⟨[],H,I,.nil,h⟩
theorem Q9 {X:Cx} {pos:Pos} {k v:Expr} {ks:List (Option Expr)} {vs:List Expr} {tk tv:TE} {trs:List (TE×TE)} (hk:PE X k tk) (hv:PE X v tv) (hr:PPs X pos ks vs trs) :
   PPs X pos (some k::ks) (v::vs) ((tk,tv)::trs):=fun pins s σ H Q I h =>
 pairTrees_cons_walk (thn (hk pins s σ H _ I h) fun u s1 ⟨x,H1,I1,rx,q1⟩=>thn (hv pins s1 σ H1 _ I1 q1) fun w2 s2 ⟨y,H2,I2,ry,q2⟩ =>
   thn (hr pins s2 σ H2 _ I2 q2) fun ws s3 ⟨ps,H3,I3,rel,q3⟩=>⟨(x,y)::ps,H3,I3,.cons ⟨rx,ry⟩ rel,q3⟩)
def qc0 (kvs more:List (Key×V)):List (Key×V):=more.foldl (fun acc kv=>qbb acc kv.1 kv.2) kvs
theorem KV.merge:∀ {more:List (Key×V)} {rs:List (Key×Value)} {kvs:List (Key×V)} {vs:List (Key×Value)},KV more rs->KV kvs vs->KV (qc0 kvs more) (merged vs rs):=by
 intro more rs kvs vs r
 unfold KV at r
 induction r generalizing kvs vs with
 | nil=>intro q; exact q
 | @cons p q ps qs h t ih =>
   intro r0
   have e:KV (qbb kvs p.1 p.2) (stored vs q.1 q.2):=by
     have:=r0.put p.1 h.2
     rw [← h.1]; exact this
   exact ih e
theorem Jq:∀ (more kvs:List (Key×V)),(qc0 kvs more).length≤kvs.length+more.length
 | [],kvs=>by show kvs.length≤kvs.length+0; omega
 | p::r,kvs=>by
   have h1:=Jq r (qbb kvs p.1 p.2)
   have h2:=jT kvs p.1 p.2
   show (qc0 (qbb kvs p.1 p.2) r).length≤_
   rw [List.length_cons]; omega
theorem qbH {P:Program} {w:World}:∀ {kvs:List (Key×V)} {ws:List (Value×Value)},VV (kvs.map fun kv=>(kV kv.1,kv.2)) ws->∃ rs,Carries (zg P w) ws rs∧KV kvs rs
 | [],_,r=>by rw [List.map_nil] at r; cases r; exact ⟨[],True.intro,.nil⟩
 | p::kvs,_,r=>by
   rw [List.map_cons] at r
   cases r with
   | @cons a b as bs h t =>
     obtain ⟨rs,c,q⟩:=qbH (P:=P) (w:=w) t
     obtain ⟨b1,b2⟩:=b
     exact ⟨(p.1,b2)::rs,⟨qdI h.1,rfl,c⟩,.cons ⟨rfl,h.2⟩ q⟩
def qic (trs:List (TE×TE)):TE:=fun σ H Q=>∀ p,H p=none->qe9 trs σ (upd H p (.dK [])) fun ps H2=>H2 p=some (.dK [])∧∃ kvs:List (Key×V),ps=kvs.map (fun kv=>(kV kv.1,kv.2))∧kvs.length≤15∧Q (.ref p) (upd H2 p (.dK (qc0 [] kvs)))
theorem qfz {X:Cx} {pos:Pos} {keys:List (Option Expr)} {values:List Expr} {trs:List (TE×TE)} (h:PPs X pos keys values trs) (hall:keys.all (·.isSome)=true) (hl:keys.length=values.length) (h0:keys≠[])
   (h15:keys.length≤15):PE X (.Dict keys values pos) (qic trs):=by
 intro pins s σ H Q I q
 have hn:=I.hok.fresh (Nat.le_refl s.heap.objs.size)
 have I1:=I.laid (a:=s.heap.objs.size) (o:=.dK []) (h':=s.heap.push { cls:=.type "dict",data:=.dict #[] }) (t':=s.toks) (fun _ _ q=>Heap.get?_push_of_some _ q) (Nat.le_refl _) (qew s.heap I.big)
 refine wpAny_Dict_walk (knd:=zg X.prog X.w) hall hl h0 h15 (thn (h pins _ σ _ _ I1 (q _ hn)) fun ws s2 zz_=>?_)
 obtain ⟨ps,H2,I2,rel,e,kvs,ep,lk,q2⟩:=zz_
 subst ep
 obtain ⟨rs,c,rk⟩:=qbH (P:=X.prog) (w:=X.w) rel
 obtain ⟨z,hd,vs0,r0,dd⟩:=qho I2.hok e
 cases r0
 refine ⟨rs,c,dd,fun h' dd' hs=>⟨.ref s.heap.objs.size,_,?_,rfl,q2⟩⟩
 have hz:(qc0 [] kvs).length≤sizeLine:=by
   have h1:=Jq kvs []
   rw [List.length_nil] at h1
   rw [sizeLine_eq]; omega
 have he:∃ q,h'.get? s.heap.objs.size=some q:=let ⟨q,_,_,hq,_⟩:=dd'; ⟨q,hq⟩
 exact qcr I2 (by rw [e]; exact True.intro) hs he (qgd hz hd (rk.merge .nil) dd')
structure M1 (X:Cx) (o:Expr) (m:Str) (apos:Pos) (e:Expr) (cpos:Pos):Prop where
 base:attributeBase o m X.env (eval o X.env)=eval o X.env
 few:((backTo cpos (starEach [e] X.env)).all (fun x=>!x.1) && (backToKw cpos (keywordEach [] X.env)).all (fun x=>x.1.isSome)
   && decide (([e]:List Expr).length+([]:List Keyword).length+(if ([]:List Keyword).isEmpty then 0 else 1) < 30))=true
 line:(apos.endLine == cpos.line)=true
 trees:backTo cpos (starEach [e] X.env)=[(false,eval e X.env)]
def IsD (H:Hp) (a:Addr):Prop:=(∃ kvs,Rd H a (.dK kvs))∨∃ kvs,Rd H a (.dT kvs)
theorem qjD {X:Cx} {pins:List (Addr×Obj)} {σ:St} {H:Hp} {s:Shared} {a:Addr} (I:Inv X pins σ H s) (d:IsD H a) :
   s.TypeIs (.ref a) "dict"∧(∀ b,Value.ref a=.ref b->∃ ob,s.heap.get? b=some ob∧ob.dict=none)∧(a == sysModules)=false:=by
 rcases d with ⟨kvs,e⟩ | ⟨kvs,e⟩
 · obtain ⟨_,hd,vs,_,dd⟩:=qa5 I.hok e
   refine ⟨dd.typeIs,fun b q=>?_,hd⟩
   cases q
   obtain ⟨ob,_,_,h1,h2,_⟩:=dd
   exact ⟨ob,h1,h2.2.1⟩
 · obtain ⟨_,hd,xs,_,dd⟩:=qeQ I.hok e
   refine ⟨dd.typeIs,fun b q=>?_,hd⟩
   cases q
   obtain ⟨ob,_,_,h1,h2,_⟩:=dd
   exact ⟨ob,h1,h2.2.1⟩
section
variable {X:Cx} {pins:List (Addr×Obj)} {σ:St} {H:Hp} {s:Shared} {a:Addr} {y d:V} {u r:Value} {o:Option V} {A:Around} {E:Value->Shared->Prop}
end
def qi8 (td ty:TE):TE:=fun σ H Q=>td σ H fun x H1=>∃ a,x=.ref a∧IsD H1 a∧ty σ H1 fun y H2=>∃ kvs k v,H2 a=some (.dK kvs)∧y=kV k∧qaf kvs k=some v∧Q v (upd H2 a (.dK (qdN kvs k)))
section
variable {X:Cx} {o e f:Expr} {apos cpos:Pos} {td ty tx:TE}
theorem qgT (ho:PE X o td) (he:PE X e ty) (m:M1 X o "pop" apos e cpos):PE X (.Call (.Attribute o "pop" apos) [e] [] cpos) (qi8 td ty):=by
 intro pins s σ H Q I h
 refine wpAny_Call_method m.base m.few m.line PySem.F.plainAttrs_dict PySem.F.slot_dict_pop PySem.F.type_dict_pop (thn (ho pins s σ H _ I h) fun u s1 zz_=>?_)
 obtain ⟨x,H1,I1,rx,a,ex,d,q1⟩:=zz_
 subst ex
 obtain rfl:u=Value.ref a:=rx
 obtain ⟨t1,t2,_⟩:=qjD I1 d
 refine ⟨t1,t2,?_⟩
 rw [m.trees]
 refine Calls.callWith_builtin rfl (Calls.evalArgs_plain (Calls.spliced_cons (thn (he pins s1 σ H1 _ I1 q1) fun iv s2 ⟨y,H2,I2,ry,kvs,k,v,ea,ey,l,q2⟩=>Calls.spliced_nil ?_)))
 subst ey
 exact qks I2 ea ry l (.inl rfl) fun w' s3 I3 rw'=>⟨v,_,I3,rw',q2⟩
end
section
variable {X:Cx} {pins:List (Addr×Obj)} {σ:St} {H:Hp} {s:Shared} {a:Addr} {kvs:List (Key×V)} {A:Around} {E:Value->Shared->Prop}
end
section
variable {X:Cx} {pins:List (Addr×Obj)} {σ:St} {H:Hp} {s:Shared} {a:Addr} {y:V} {u:Value} {A:Around} {E:Value->Shared->Prop}
end
end L2
namespace Att
open PySem PySem.W PySem.Calls PyProof.Rows
theorem qa2 {P:Params} {h:Heap}:∀ (ns:List Int) (vs:List Value),WellAll P h vs (ns.map WData.int)->IntsAre vs ns:=by
 intro ns
 induction ns with
 | nil =>
   intro vs w
   rw [List.map_nil] at w
   cases w
   exact .nil
 | cons n ns ih =>
   intro vs w
   rw [List.map_cons] at w
   cases w with
   | cons a b =>
     cases a
     exact .cons _ _ (ih _ b)
theorem qfg {l:OpenLaw} {n:Nat} (hn:l.most=some n) {P:Params} {h:Heap} {args:List WData} {vals:List Value}
   (hpre:l.row.toRowW.claim.pre args=true) (hwl:WellAll P h vals args) :
   ∃ a vs ns,vals=[Value.ref a]∧args=[WData.list (ns.map WData.int)]∧h.get? a=some { cls:=.type "list",data:=.seq vs.toArray }∧IntsAre vs ns∧ns.length≤n:=by
 have hsh:WShape.hasAll [] args [.list .int]=true:=(pre_splitW hpre).1
 have hc:l.pre.holds [] { args:=args }=true:=(pre_splitW hpre).2
 obtain ⟨d,r,rfl,h1,h2⟩:=hasAllW_cons hsh
 obtain rfl:=hasAllW_nil h2
 obtain ⟨xs,rfl,h3⟩:=hasW_list h1
 obtain ⟨ns,rfl⟩:=items_int h3
 have hlen:ns.length≤n:=by
   unfold OpenLaw.pre at hc
   have h4:(WTm.not (.lt (.lit (.int (n:Int))) (.len (.arg 0)))).holds [] { args:=[.list (ns.map .int)] }=true:=by
     have h4:=(holds_andW hc).1
     rw [hn] at h4
     exact h4
   have h5:=condW_of h4 (w_not (w_lt w_lit (w_len_list (w_arg rfl))))
   rw [List.length_map] at h5
   refine Nat.le_of_not_lt fun q=>?_
   have q':(n:Int) < ((ns.length:Nat):Int):=by omega
   first
     | (rw [decide_eq_true q'] at h5; exact absurd h5 (by decide))
     | (simp at h5; omega)
 cases hwl with
 | cons w1 w2 =>
   cases w2
   cases w1 with
   | list ho hall=>exact ⟨_,_,ns,rfl,rfl,ho,qa2 ns _ hall,hlen⟩
theorem qfv (l:OpenLaw) (args:List WData):l.row.toRowW.claim.post args (.bool true) args=true :=
 postW_of (r:=l.row.toRowW) (X:=(true == true))
   (show WShape.has [] (.bool true) .bool=true by first | rfl | decide | simp [WShape.has,WShape.arms,WShape.armsAll])
   (show (WTm.eq .res (.lit (.bool true))).value [] { args:=args,res:=some (.bool true),after:=args }=some (.bool (true == true)) from w_eq_bool (w_res rfl) w_lit) rfl
theorem attach_call {l:OpenLaw} {n:Nat} {q:Program} {loose:List Str} {XP:(Str->Option Value)->Heap->Prop} {YP:World->Heap->Prop} {d:DefRec}
   (hn:l.most=some n) (hdf:d.params.defaults=[])
   (call:∀ (w:World) (s₀ s₁:Shared) (mg mb:Str->Option Value) (fa:Addr) (o:Obj) (pm cd doc:Value) (a:Addr) (vs:List Value) (ns:List Int),
     Ground q loose [] XP w s₀ mg mb s₁.heap->YP w s₁.heap ->
     s₁.heap.get? fa=some o->o.data=.func (docDef d.name d.params d.body d.scope pm cd doc)->s₁.heap.CodeRec cd d.name->mg d.name=some (.ref fa) ->
     s₁.heap.get? a=some { cls:=.type "list",data:=.seq vs.toArray }->IntsAre vs ns->ns.length≤n->s₁.gens=#[] ->
     codeAny (model l.prog w) callerA (.call (.ref fa) ⟨[.ref a],[]⟩) (fun r s'=>r=.ok (.ret (.bool true))∧OldK s₁.heap s'.heap∧s'.os=s₁.os∧AllBare s'.gens) s₁) :
   WalkO q loose XP YP l.row.toRowW d [] (fun f vs=>PySem.call f vs):=by
 intro w s₀ s₁ mg mb G Y fa o pm cd doc dV kV ho hd hcd hD hmg hg args vals as hpre hlay hrd hwl hlo
 obtain rfl:dV=.none:=Dflts.none hD hdf
 obtain rfl:kV=.none:=Dflts.noKw hD
 obtain ⟨a,vs,ns,rfl,rfl,hobj,hints,hlen⟩:=qfg hn hpre hwl
 refine enter_call (codeAny_mono (call w s₀ s₁ mg mb fa o pm cd doc a vs ns G Y ho (fd_plain hd) hcd hmg hobj hints hlen hg) fun r s' hq=>?_)
 obtain ⟨rfl,h2,h3,h4⟩:=hq
 exact ⟨.inl ⟨.bool true,.bool true,[],rfl,fun _=>rfl,.bool true,qfv l _,fun _=>⟨List.Pairwise.nil,fun _ hm=>(nomatch hm)⟩⟩,h2,h3,h4⟩
section
variable {prog:Program} {w:World} {A:Around} {E:Value->Shared->Prop} {s:Shared} {K:Frag}
end
end Att
namespace L2
open PySem PySem.Spec PyProof.Rows
theorem qct:∀ {vs:List Value} {ns:List Int},IntsAre vs ns->Vals (ns.map V.int) vs
 | _,_,.nil=>.nil
 | _,_,.cons n t h=>.cons ⟨t,rfl⟩ (qct h)
def qkA (H:Hp):Prop:=∀ b,H b=none∨∃ o xs,H b=some (.frz o (.lst xs))
theorem law_call {P:Program} {w:World} {K:PySem.W.Frag} {mg mb:Str->Option Value} {CX:CXT} {k:Nat} {fa a:Addr} {fd:FuncData} {x:Str} {sp:Sp} {s₁:Shared} {vs:List Value} {ns:List Int}
   (KX:K.In s₁.heap) (hns:s₁.heap.Ns mainGlobals mg) (hb:s₁.heap.Ns builtinsNs mb) (hbb:∀ x:Str,x≠"__name__"->mb x=bootBuiltins x) (hlim:s₁.heap.NoLimit) (hg:s₁.gens=#[])
   (ha:s₁.heap.get? a=some { cls:=.type "list",data:=.seq vs.toArray }) (hi:IntsAre vs ns) (hl:ns.length≤sizeLine) (hr:Room k callerA)
   (F:∀ base:Heap,K.In base->base.Ns mainGlobals mg->qA P w K mg base CX k fa fd [x] sp) (hbind:∀ (s:Shared) (u:Value),BindsTo s fd ⟨[u],[]⟩ [(x,u)])
   (hsp:∀ H:Hp,qkA H->SqL K H a (ns.map V.int)->sp [.ref a] H (fun v _=>v=.bl true) fun _ _ _=>False)
   (hCX:∀ H e s',CX [] H s₁ (fun _ _ _=>False) e s'->False) :
   codeAny (model P w) callerA (.call (.ref fa) ⟨[.ref a],[]⟩) (fun r s'=>r=.ok (.ret (.bool true))∧OldK s₁.heap s'.heap∧s'.os=s₁.os∧AllBare s'.gens) s₁:=by
 have rv:=qct hi
 have lenV:=hi.length
 -- from an abstract heap in which nothing but the script may be tracked
 have core:∀ H:Hp,qkA H->SqL K H a (ns.map V.int)->HOk P w H s₁.heap->(∀ b,H b≠none->b=a)->(H a≠none->K.lookup a=none) ->
     codeAny (model P w) callerA (.call (.ref fa) ⟨[.ref a],[]⟩) (fun r s'=>r=.ok (.ret (.bool true))∧OldK s₁.heap s'.heap∧s'.os=s₁.os∧AllBare s'.gens) s₁:=by
   intro H hO hS hok hA hK
   have base_of:∀ {b:Addr} {o:Obj},s₁.heap.get? b=some o->H b=none->(qhh s₁.heap H).get? b=some o:=fun e n=>qhg e n
   have noA:∀ {b:Addr} {o:Obj} {es:Array DictEntry} {ep:Nat},s₁.heap.get? b=some o->o.data=.dict es ep->H b=none:=fun {b o es ep} e d=>by
     cases q:H b with
     | none=>rfl
     | some u =>
       have e':b=a:=hA b (by rw [q]; simp)
       subst e'
       rw [ha] at e; cases e
       have d':Data.seq vs.toArray _=Data.dict es ep:=d
       cases d'
   have nsK:∀ {b:Addr} {m:Str->Option Value},s₁.heap.Ns b m->(qhh s₁.heap H).Ns b m:=fun {b m} ⟨o,es,ep,e,d,r⟩=>⟨o,es,ep,base_of e (noA e d),d,r⟩
   have hKb:K.In (qhh s₁.heap H):=fun b o e=>base_of (KX b o e) (by
     cases q:H b with
     | none=>rfl
     | some u =>
       have e':b=a:=hA b (by rw [q]; simp)
       subst e'
       rw [hK (by rw [q]; simp)] at e; cases e)
   have hM:Mod K mg (qhh s₁.heap H):=⟨hKb,nsK hns,⟨mb,nsK hb,hbb⟩,let ⟨mc,h1,h2⟩:=hlim; ⟨mc,nsK h1,h2⟩⟩
   have e0:Env0 P w K mg (qhh s₁.heap H) callerA [] s₁ H:=⟨rfl,hM,fun b o e=>qix e,Nat.le_of_eq (qf9 _ _),trivial,fun b hb=>absurd (show b∈([]:List Addr) from hb) (by simp),hok,.of_eq hg⟩
   refine codeAny_mono ((F _ hKb (nsK hns)).run callerA [] s₁ H ⟨[.ref a],[]⟩ [.ref a] [.ref a] _ _ hr e0 (hbind s₁ (.ref a)) (.cons rfl .nil) (hsp H hO hS)) fun r s' h=>?_
   cases r with
   | error e=>exact (hCX H e s' h).elim
   | ok fl =>
     cases fl with
     | next=>exact False.elim h
     | brk=>exact False.elim h
     | cont=>exact False.elim h
     | ret u =>
       obtain ⟨v,H',os,bare,un,hok',r',q⟩:=h
       have q':v=.bl true:=q
       subst q'
       obtain rfl:u=Value.bool true:=r'
       refine ⟨rfl,OldK.of_keep fun b o e=>?_,os,bare⟩
       cases q:H b with
       | none=>exact un.keep b o e q (by intro z; exact absurd (show b∈([]:List Addr) from z) (by simp)) (by simp)
       | some u =>
         rcases hO b with z | ⟨ob,xs,z⟩
         · rw [q] at z; cases z
         · have z2:=un.frzs b ob _ z
           obtain ⟨e1,_⟩:=hok b _ z
           obtain ⟨e2,_⟩:=hok' b _ z2
           rw [e] at e1; cases e1
           exact e2
 cases hk:K.lookup a with
 | some o =>
   -- the script is one of the module's own objects
   have e:=KX a o hk
   rw [ha] at e
   cases e
   refine core (fun _=>none) (fun _=>.inl rfl) (.inr ⟨_,vs.toArray,_,hk,rfl,rfl,rfl,by rw [List.size_toArray,lenV]; exact hl,by simpa using rv⟩) (fun b u z=>by have z':(none:Option HO)=some u:=z; cases z') (fun b z=>absurd rfl z) fun z=>absurd rfl z
 | none =>
   refine core (fun b=>if b=a then some (.frz { cls:=.type "list",data:=.seq vs.toArray } (.lst (ns.map V.int))) else none) (fun b=>?_) (.inl (.inr ⟨{ cls:=.type "list",data:=.seq vs.toArray },if_pos rfl⟩)) (fun b u z=>?_) (fun b z=>?_) fun _=>hk
   · by_cases hb:b=a
     · exact .inr ⟨_,_,if_pos hb⟩
     · exact .inl (if_neg hb)
   · by_cases hb:b=a
     · have z':=(if_pos hb).symm.trans z
       cases z'
       subst hb
       exact ⟨ha,by rw [List.length_map]; exact hl,vs,_,rv,ha⟩
     · have z':=(if_neg hb).symm.trans z
       cases z'
   · by_cases hb:b=a
     · exact hb
     · exact absurd (if_neg hb) z
end L2
namespace L2
open PySem PySem.Spec PyProof.Rows
theorem walk_of {l:PySem.W.OpenLaw} {n k:Nat} {q:Program} {loose:List Str} {XP:(Str->Option Value)->Heap->Prop} {YP:World->Heap->Prop} {d:DefRec} {K:Params->PySem.W.Frag} {CX:World->CXT} {sp:World->Sp} {x:Str}
   (hn:l.most=some n) (hn2:n≤sizeLine) (hdf:d.params.defaults=[]) (hr:Room k callerA)
   (hY:∀ (w:World) (h:Heap),YP w h->(K w.params).In h)
   (F:∀ (w:World) (mg:Str->Option Value) (fa:Addr) (h:Heap),(K w.params).In h->h.Ns mainGlobals mg->mg d.name=some (.ref fa) ->
     ∃ fd:FuncData,(∀ (s:Shared) (u:Value),BindsTo s fd ⟨[u],[]⟩ [(x,u)]) ∧
       ∀ base:Heap,(K w.params).In base->base.Ns mainGlobals mg->qA l.prog w (K w.params) mg base (CX w) k fa fd [x] (sp w))
   (hsp:∀ (w:World) (H:Hp) (a:Addr) (ns:List Int),ns.length≤n->qkA H->SqL (K w.params) H a (ns.map V.int)->sp w [.ref a] H (fun v _=>v=.bl true) fun _ _ _=>False)
   (hCX:∀ (w:World) (H:Hp) (s:Shared) (e:Value) (s':Shared),CX w [] H s (fun _ _ _=>False) e s'->False) :
   PySem.W.WalkO q loose XP YP l.row.toRowW d [] (fun f vs=>PySem.call f vs):=by
 refine Att.attach_call hn hdf fun w s₀ s₁ mg mb fa o pm cd doc a vs ns G Y ho hd hcd hmg hobj hints hlen hg=>?_
 have KX:=hY w _ Y
 obtain ⟨fd,hb,hF⟩:=F w mg fa _ KX G.T.g hmg
 exact law_call KX G.T.g G.T.b G.T.builtins G.T.nolimit hg hobj hints (Nat.le_trans hlen hn2) hr hF hb (fun H hO hS=>hsp w H a ns hlen hO hS) fun H e s'=>hCX w H s₁ e s'
end L2
namespace L2
open PySem PySem.Spec PyProof.Rows
def qM (s:Stmt) (j:Nat):Stmt:=match s with
 | .ClassDef _ _ _ body _ _ _ _ _ _ _=>body.getD j (.Pass ⟨0,0,0,0⟩)
 | _=>.Pass ⟨0,0,0,0⟩
def ql (s:Stmt):Arguments:=match s with
 | .FunctionDef _ a _ _ _ _ _ _ _ _=>a
 | _=>{ posonlyargs:=[],args:=[],vararg:=none,kwonlyargs:=[],kw_defaults:=[],kwarg:=none,defaults:=[] }
def qk (s:Stmt):List Stmt:=match s with
 | .FunctionDef _ _ b _ _ _ _ _ _ _=>b
 | _=>[]
def qd (s:Stmt):Scope:=match s with
 | .FunctionDef _ _ _ _ _ _ sc _ _ _=>sc
 | _=>{ kind:=.function,names:=[],isGenerator:=false,isCoroutine:=false }
abbrev CX0:CXT:=fun _ _ _ _ _ _=>False
abbrev E0:XK:=fun _ _ _=>False
theorem qq {X:Cx}:jN CX0 X E0:=fun _ _ _ _ _ _ _ h=>h.elim
structure Fun (K:PySem.W.Frag) (x qual:Str) (st:Stmt) (f:Addr) (fd:FuncData):Prop where
 ex:∃ (oc:Value) (od:Option Addr) (kV doc pm:Value) (an:Option Addr) (cdv ct:Value) (osl:Array (Option Value)),
   fd=PySem.W.fnOf x qual (ql st) (qk st) (qd st) .none kV doc pm an cdv ct∧K.lookup f=some ⟨oc,od,.func fd,osl⟩∧PySem.W.codeIn K cdv qual=true
 kp:PySem.W.keepIn K (.ref f)=true
section
variable {P:Program} {w:World} {K:PySem.W.Frag} {mg:Str->Option Value} {base:Heap}
theorem Fun.ok {x qual:Str} {st:Stmt} {f:Addr} {fd:FuncData} {N ps:List Str} {k:Nat} {sp:Sp} (F:Fun K x qual st f fd) (S:qm N ps (qd st)) (len:∀ vs H Q E,sp vs H Q E->vs.length=ps.length)
   (hbody:∀ (cdv:Value) (A:Around) (outer:List Env) (s:Shared) (H:Hp) (vs:List V) (Q:VK) (E:XK),Room k (A.deeper (envOfC qual (qd st) s.heap.objs.size f cdv))->sp vs H Q E ->
     ∃ t,PSs (zv CX0 P w K mg base N qual (qd st) f cdv A outer s H E).nox (qk st) t∧t { nx:=fun _ H'=>Q .non H',rt:=Q } (qbO N vs) H):qA P w K mg base CX0 (k+1) f fd ps sp:=by
 obtain ⟨oc,od,kV,doc,pm,an,cdv,ct,osl,rfl,lk,hcd⟩:=F.ex
 refine qjF lk hcd S len fun A outer s H vs Q E hr hsp=>?_
 obtain ⟨t,h,q⟩:=hbody cdv A outer s H vs Q E hr hsp
 exact ⟨t,h.nox,q⟩
theorem Fun.binds {x qual:Str} {st:Stmt} {f:Addr} {fd:FuncData} {ps:List Str} (F:Fun K x qual st f fd)
   (h:∀ (kV doc pm:Value) (an:Option Addr) (cdv ct:Value) (us:List Value),us.length=ps.length->bindArgs (PySem.W.fnOf x qual (ql st) (qk st) (qd st) .none kV doc pm an cdv ct) ⟨us,[]⟩=pure (ps.zip us)):Binds K fd ps []:=by
 obtain ⟨oc,od,kV,doc,pm,an,cdv,ct,osl,rfl,lk,hcd⟩:=F.ex
 exact .all (h kV doc pm an cdv ct)
theorem qt {x qual:Str} {st:Stmt} {f:Addr} {oc:Value} {od an:Option Addr} {osl:Array (Option Value)} {kV doc pm cdv ct:Value} (l:K.lookup f=some ⟨oc,od,.func (PySem.W.fnOf x qual (ql st) (qk st) (qd st) .none kV doc pm an cdv ct),osl⟩)
   (c:PySem.W.codeIn K cdv qual=true) (k:PySem.W.keepIn K (.ref f)=true):Fun K x qual st f (PySem.W.fnOf x qual (ql st) (qk st) (qd st) .none kV doc pm an cdv ct):=⟨⟨oc,od,kV,doc,pm,an,cdv,ct,osl,rfl,l,c⟩,k⟩
end
theorem qJ {A:Around} {k:Nat} (hr:Room k A):A.units+1 < cLine:=Nat.lt_of_le_of_lt (Nat.add_le_add_left (by decide:1≤64) _) hr.units
theorem qx {n:Nat} (h:n≤1000):n < sizeLine:=Nat.lt_of_le_of_lt h (by decide)
section
variable {X:Cx}
theorem pv (i:Nat) {x:Str} {pos:Pos} (hN:X.N[i]?=some x:=by rfl) (hv:Vis X.env.scope x:=by first | exact Or.inl rfl | exact Or.inr (Or.inl rfl) | exact Or.inr (Or.inr rfl)) (hd:(x == ("__debug__":Str))=false:=by decide)
   (hcd:(x == ("__classdict__":Str))=false:=by decide):PE X (.Name x pos) (qi0 i):=qjo hN hv hd hcd
theorem qdg:jX X (.builtin "len") (fun xs H Q=>∃ a kvs,xs=[V.ref a]∧H a=some (.dK kvs)∧Q (.int kvs.length) H):=by
 intro pins s σ H xs us Q I r h
 obtain ⟨a,kvs,rfl,ha,q⟩:=h
 obtain ⟨u,rfl,ru⟩:=qae r
 cases ru
 exact qkt I (.inl ha) fun t s' I'=>⟨.int kvs.length,H,I',⟨t,rfl⟩,q⟩
end
theorem qep {A B:Prop} (h:B):if false=true then A else B:=by
 rw [if_neg Bool.false_ne_true]
 exact h
theorem qf3 {A B:Prop} (h:A):if true=true then A else B:=by
 rw [if_pos rfl]
 exact h
def Same (H H':Hp):Prop:=∀ b o,H b=some o->H' b=some o
theorem Same.refl (H:Hp):Same H H:=fun _ _ h=>h
theorem Same.trans {H H1 H2:Hp} (a:Same H H1) (b:Same H1 H2):Same H H2:=fun c o h=>b c o (a c o h)
theorem Same.seq {K:PySem.W.Frag} {H H':Hp} {a:Addr} {xs:List V} (e:Same H H') (h:SqL K H a xs):SqL K H' a xs:=by
 rcases h with (h | ⟨o,h⟩) | h
 · exact .inl (.inl (e _ _ h))
 · exact .inl (.inr ⟨o,e _ _ h⟩)
 · exact .inr h
section
variable {κ:Type} [DecidableEq κ]
end
end L2
namespace L2
open PySem PySem.Spec PyProof.Rows
section
variable {X:Cx} {pins:List (Addr×Obj)} {σ:St} {H:Hp} {s:Shared} {h':Heap}
theorem Inv.turnLaid {ch:List Addr} {a:Addr} {o:HO} {t':Nat} (I:Inv X pins σ H s) (k:∀ b u,b∉ch->s.heap.get? b=some u->h'.get? b=some u) (hf:∀ b∈ch,qeU X pins H b)
   (hp:s.heap.objs.size≤a) (new:ObjOk X.prog X.w (upd H a o) h' a o):Inv X pins σ (upd H a o) { s with heap:=h',toks:=t' }:=by
 have hn:H a=none:=I.hok.fresh hp
 refine I.step (g':=s.gens) (d':=s.drawn) (ch:=ch) (fun b hb=>?_) (fun b u _ _ hc e _=>k b u hc e) (fun b u _ _ hc e _=>⟨u.slots,k b u hc e⟩)
   (fun b u _ e n=>?_) (fun b u hc e=>⟨u,k b u hc e⟩) (fun b xs e=>?_) (fun b u v e=>?_) (fun b ps e=>?_) (fun m hm=>?_) (fun b u e=>?_) I.bare
 · obtain ⟨_,f1,_,f3,f4,f5⟩:=hf b hb
   exact ⟨f3,f1,f4,f5⟩
 · rw [qh (Nat.ne_of_lt (Nat.lt_of_lt_of_le (Heap.lt_size e) hp))]; exact n
 · rw [qh (qi e hn)]; exact e
 · rw [qh (qi e hn)]; exact e
 · exact ⟨#[],by rw [qh (qi e hn),e]; simp⟩
 · obtain ⟨ob,es,ep,ho,r⟩:=hm
   exact ⟨ob,es,ep,k _ ob (fun z=>(hf _ z).2.1 rfl) ho,r⟩
 · by_cases hb:b=a
   · subst hb; rw [qc] at e; cases e; exact new
   · rw [qh hb] at e
     refine (I.hok b u e).stay (fun c v hc q=>k c v ?_ q) (fun c q=>by rw [qh (qi q hn)]; exact q) fun c xs q=>by rw [qh (qi q hn)]; exact q
     intro z
     have zz:=(hf c z).1
     rcases hc with rfl | hc
     · rw [e] at zz; cases zz
     · rw [hc] at zz; cases zz
theorem Inv.turnL {ch:List Addr} {t':Nat} (I:Inv X pins σ H s) (k:∀ b u,b∉ch->s.heap.get? b=some u->h'.get? b=some u) (hf:∀ b∈ch,qeU X pins H b) :
   Inv X pins σ H { s with heap:=h',toks:=t' }:=by
 refine I.step (g':=s.gens) (d':=s.drawn) (ch:=ch) (fun b hb=>?_) (fun b u _ _ hc e _=>k b u hc e) (fun b u _ _ hc e _=>⟨u.slots,k b u hc e⟩)
   (fun b u _ e n=>n) (fun b u hc e=>⟨u,k b u hc e⟩) (fun b xs e=>e) (fun b u v e=>e) (fun b ps e=>⟨#[],by rw [e]; simp⟩) (fun m hm=>?_) (fun b u e=>?_) I.bare
 · obtain ⟨_,f1,_,f3,f4,f5⟩:=hf b hb
   exact ⟨f3,f1,f4,f5⟩
 · obtain ⟨ob,es,ep,ho,r⟩:=hm
   exact ⟨ob,es,ep,k _ ob (fun z=>(hf _ z).2.1 rfl) ho,r⟩
 · refine (I.hok b u e).stay (fun c v hc q=>k c v ?_ q) (fun c q=>q) fun c xs q=>q
   intro z
   have zz:=(hf c z).1
   rcases hc with rfl | hc
   · rw [e] at zz; cases zz
   · rw [hc] at zz; cases zz
end
def Ite (K:PySem.W.Frag) (a:Addr):It :=
 ⟨fun i H=>∃ xs x,SqL K H a xs∧xs[i]?=some x,
  fun i H x H'=>∃ p v,H p=none∧x=.ref p∧(∀ xs,SqL K H a xs->xs[i]?=some v)∧H'=upd H p (.tup [.int i,v]),
  fun i H=>∃ xs,SqL K H a xs∧xs.length≤i⟩
theorem qe1 {P:Program} {w:World} {K:PySem.W.Frag} {elts:List Expr} {k:Nat} {pos:Pos} (a e it:Addr) (hne:e≠it) :
   qiM P w K (.Tuple elts k pos) (Ite K a) [e,it] e (fun i h=>(∃ old,IsEnum h e it i old)∧h.IsListIter it a i) where
 mem:=by simp
 obj:=fun i h st b hb=>by
   obtain ⟨⟨old,he⟩,hit⟩:=st
   rcases List.mem_cons.mp hb with rfl | hb
   · exact ⟨_,he,fun v z=>by cases z⟩
   · have e1:b=it:=by simpa using hb
     subst e1
     obtain ⟨o,q,c,d⟩:=hit
     exact ⟨o,q,fun v z=>by rw [d] at z; cases z⟩
 keep:=fun i h h' st kk=>by
   obtain ⟨⟨old,he⟩,hit⟩:=st
   exact ⟨⟨old,kk e (by simp) _ he⟩,hit.at fun o q=>kk it (by simp) o q⟩
 item:=by
   intro X hP hw hK hc i pins s σ H E I hf st hg
   subst hP hw hK
   obtain ⟨xs,x,hq,hx⟩:=hg
   obtain ⟨its,rv,p,hz⟩:=I.list hq
   obtain ⟨u,hu,ru⟩:=rv.get hx
   obtain ⟨⟨old,he⟩,hit⟩:=st
   refine wpAny_pyNext_enum_item he hit p.isList (x:=u) (by simpa using hu) hne fun h1 ho hit1 hT hsz hk=>?_
   refine ⟨_,rfl,wpAny_letOwnedTupleGo_enum (s:={ s with heap:=h1,toks:=s.toks+1 }) ho fun h2 he2 hs2=>?_⟩
   have hel:e < s.heap.objs.size:=Heap.lt_size he
   have hil:it < s.heap.objs.size:=by obtain ⟨_,q,_⟩:=hit; exact Heap.lt_size q
   have hT2:h2.get? s.heap.objs.size=some { cls:=.type "tuple",data:=.seq #[.int i s.toks,u] }:=(hs2.2 _ (Nat.ne_of_gt hel)).trans hT
   have I1:Inv X pins σ (upd H s.heap.objs.size (.tup [.int i,x])) { s with heap:=h2,toks:=s.toks+1 }:=by
     refine I.turnLaid (ch:=[e,it]) (fun b o hb q=>?_) hf (Nat.le_refl _) ⟨by show 2≤sizeLine; decide,[.int i s.toks,u],.cons ⟨_,rfl⟩ (.cons ru .nil),⟨_,hT2,rfl,_,rfl⟩⟩
     have b1:b≠e:=fun z=>hb (by simp [z])
     have b2:b≠it:=fun z=>hb (by simp [z])
     exact (hs2.2 b b1).trans (hk b o b1 b2 q)
   refine ⟨.ref s.heap.objs.size,_,I1,rfl,⟨_,x,I.hok.fresh (Nat.le_refl _),rfl,fun ys hy=>by rw [I.list_inj hy hq]; exact hx,rfl⟩,⟨⟨_,by simpa using he2⟩,hit1.at fun o q=>(hs2.2 it hne.symm).trans q⟩,fun b hb=>?_⟩
   have hbl:b < s.heap.objs.size:=by
     rcases List.mem_cons.mp hb with rfl | hb
     · exact hel
     · have e1:b=it:=by simpa using hb
       rw [e1]; exact hil
   rw [qh (Nat.ne_of_lt hbl)]
   exact (hf b hb).1
 done:=by
   intro X hP hw hK hc i pins s σ H E I hf st hg
   subst hP hw hK
   obtain ⟨xs,hq,hx⟩:=hg
   obtain ⟨its,rv,p,hz⟩:=I.list hq
   obtain ⟨⟨old,he⟩,hit⟩:=st
   have hl:=rv.length
   refine wpAny_pyNext_enum_end (I.ok.hd hc) he hit p.isList (by simp; omega) fun h' eb=>⟨rfl,I.turnL (t':=s.toks) (ch:=[e,it]) (fun b o hb q=>eb b o (fun z=>hb (by simp [z])) q) hf⟩
 self:=fun _ _ _ _ _ st h=>by
   obtain ⟨⟨old,he⟩,_⟩:=st
   exact wpAny_pyIter_enum he h
theorem qgq:bootBuiltins "enumerate"=some (.type "enumerate"):=by decide +kernel
inductive qf8 (K:PySem.W.Frag) (R:(It->Hp->Prop)) (vs:List V) (H1:Hp):Prop
 | mk (a:_) (h1:vs=[.ref a]) (h2:(∃ xs,SqL K H1 a xs)) (h3:R (Ite K a) H1):qf8 K R vs H1
def qkp (K:PySem.W.Frag) (ta:TA):TI:=fun σ H R=>ta σ H fun vs H1=>qf8 K R vs H1
section
variable {X:Cx}
theorem qfy {a:Expr} {ta:TA} {p pos tp:Pos} {elts:List Expr} {kk:Nat} (hg:Gl X "enumerate") (hm:X.mg "enumerate"=none) (ha:PA X [a] ta) (hs:starEach [a] X.env=[(false,eval a X.env)]:=by rfl) :
   PI X (.Tuple elts kk tp) (.Call (.Name "enumerate" p) [a] [] pos) (qkp X.K ta):=by
 intro pins s σ H R I h
 refine Call_ (qac I hg hm qgq (PyProof.Rows.callWith_type1 (thn (ha pos pins s σ H _ I h) fun us s1 zz_=>?_) hs rfl))
 obtain ⟨vs,H1,I1,r1,q1⟩:=zz_
 obtain ⟨l,e,⟨xs,hq⟩,q⟩:=q1
 subst e
 obtain ⟨u,rfl,ru⟩:=qae r1
 cases ru
 obtain ⟨its,rv,pl,hz⟩:=I1.list hq
 refine call_enumerate_list pl.isList fun h' he hit hsz hk=>?_
 have I2:Inv X pins σ H1 { s1 with heap:=h' }:=I1.kept (t':=s1.toks) hk
 refine wpAny_pyIter_enum he ⟨s1.heap.objs.size+1,[s1.heap.objs.size+1,s1.heap.objs.size],_,Ite X.K l,H1,rfl,I2,qe1 l _ _ (Nat.succ_ne_self _),⟨⟨_,he⟩,hit⟩,fun b hb=>?_,q⟩
 have hb1:s1.heap.objs.size≤b:=by
   rcases List.mem_cons.mp hb with e1 | hb
   · rw [e1]; exact Nat.le_succ _
   · have e1:b=s1.heap.objs.size:=by simpa using hb
     rw [e1]; exact Nat.le_refl _
 exact I1.fpOk hb1 (I1.hok.fresh hb1)
end
theorem qes {K:PySem.W.Frag} {a:Addr} {xs:List V} {g:TG} {tb:TS} {D:qeW} {σ:St} {H:Hp} (Pv:Nat->St->Hp->Prop) (h0:Pv 0 σ H) (hl:∀ i σ H,i≤xs.length->Pv i σ H->SqL K H a xs)
   (hs:∀ i x σ H p,xs[i]?=some x->Pv i σ H->H p=none->g (.ref p) σ (upd H p (.tup [.int i,x])) fun σ2 H2=>tb { D with nx:=Pv (i+1),ct:=Pv (i+1),bk:=D.nx } σ2 H2) (hd:∀ σ H,Pv xs.length σ H->D.nx σ H) :
   ∃ W:Nat->Nat->St->Hp->Prop,(∃ m,W 0 m σ H)∧∀ i m σ H,W i m σ H ->
     ((Ite K a).stop i H∧D.nx σ H)∨((Ite K a).go i H∧∃ N:St->Hp->Prop,(∀ σ' H',N σ' H'->∃ m',m' < m∧W (i+1) m' σ' H')∧∀ x H',(Ite K a).yld i H x H'->g x σ H' fun σ2 H2=>tb { D with nx:=N,ct:=N,bk:=D.nx } σ2 H2):=by
 refine ⟨fun i m σ H=>m=xs.length - i∧i≤xs.length∧Pv i σ H,⟨xs.length,by simp,Nat.zero_le _,h0⟩,?_⟩
 rintro i m σ H ⟨rfl,hi,p⟩
 have q:=hl i σ H hi p
 by_cases hlt:i < xs.length
 · refine .inr ⟨⟨xs,xs[i],q,by simp [hlt]⟩,Pv (i+1),fun σ' H' p'=>⟨xs.length - (i+1),by omega,rfl,hlt,p'⟩,fun x H' y=>?_⟩
   obtain ⟨t,v,hn,rfl,y,rfl⟩:=y
   exact hs i v σ _ t (y xs q) p hn
 · have e:i=xs.length:=by omega
   subst e
   exact .inl ⟨⟨xs,q,Nat.le_refl _⟩,hd σ H p⟩
def tyN (H:Hp):V->Option String
 | .non=>some "NoneType"
 | .bl _=>some "bool"
 | .int _=>some "int"
 | .str _=>some "str"
 | .ref a=>match H a with
   | some (.lst _)=>some "list"
   | some (.tup _)=>some "tuple"
   | some (.dK _)=>some "dict"
   | _=>none
 | _=>none
def qkS (c t:String):Bool:=t == c || (t == "bool" && c == "int")
theorem qgD {K:PySem.W.Frag} {H:Hp} {v:V} {t:String} (h:tyN H v=some t):qdn K H v (.type t):=by
 cases v with
 | non=>cases h; exact .non
 | bl b=>cases h; exact .bl b
 | int b=>cases h; exact .int b
 | str b=>cases h; exact .str b
 | byt b=>cases h
 | flt b=>cases h
 | ty b=>cases h
 | ref a =>
   simp only [tyN] at h
   split at h
   · rename_i e; cases h; exact .lst e
   · rename_i e; cases h; exact .tup e
   · rename_i e; cases h; exact .dK e
   · cases h
def qdq:List String:=["NoneType","bool","int","str","list","tuple","dict"]
theorem qh8 {H:Hp} {v:V} {t:String} (h:tyN H v=some t):t∈qdq:=by
 cases v with
 | non=>cases h; decide
 | bl b=>cases h; decide
 | int b=>cases h; decide
 | str b=>cases h; decide
 | byt b=>cases h
 | flt b=>cases h
 | ty b=>cases h
 | ref a =>
   simp only [tyN] at h
   split at h<;>first | (cases h; decide) | cases h
def qcm:List String:=["bool","int","str","list","tuple","dict"]
theorem qjC (K:PySem.W.Frag) {t c:String} (ht:t∈qdq) (hc:c∈qcm):PySem.W.kitOne K (.type t) (.type c)=some (qkS c t):=by
 simp only [qdq,qcm,List.mem_cons,List.not_mem_nil,or_false] at ht hc
 rcases ht with rfl | rfl | rfl | rfl | rfl | rfl | rfl<;>rcases hc with rfl | rfl | rfl | rfl | rfl | rfl<;>(unfold PySem.W.kitOne PySem.W.kitCls; rfl)
inductive qhI (xs:List V) (H:Hp) (Q:VK):Prop
 | mk (x c t:_) (h1:xs=[x,.ty c]) (h2:c∈qcm) (h3:tyN H x=some t) (h4:Q (.bl (qkS c t)) H):qhI xs H Q
def qk7:List V->Hp->VK->Prop:=fun xs H Q=>qhI xs H Q
section
variable {X:Cx}
theorem Qm:jX X (.builtin "isinstance") qk7:=by
 intro pins s σ H xs us Q I r h
 obtain ⟨x,c,t,rfl,hc,ht,q⟩:=h
 obtain ⟨u,w',rfl,ru,rw'⟩:=qeZ r
 cases (show w'=Value.type c from rw')
 exact qc8 I ru (qgD ht) (qjC X.K (qh8 ht) hc) fun tk=>⟨.bl _,H,I.tok tk,rfl,q⟩
end
section
variable {X:Cx}
end
mutual
inductive DV (H:Hp):V->PyData->Prop
 | non:DV H .non .none
 | bl (b):DV H (.bl b) (.bool b)
 | int (i):DV H (.int i) (.int i)
 | str (x):DV H (.str x) (.str x)
 | lst {a xs ds}:Rd H a (.lst xs)->DVs H xs ds->DV H (.ref a) (.list ds)
 | tup {a xs ds}:Rd H a (.tup xs)->DVs H xs ds->DV H (.ref a) (.tuple ds)
inductive DVs (H:Hp):List V->List PyData->Prop
 | nil:DVs H [] []
 | cons {x xs d ds}:DV H x d->DVs H xs ds->DVs H (x::xs) (d::ds)
end
section
variable {P:Program} {w:World} {H:Hp} {h:Heap}
mutual
theorem DV.reads (ok:HOk P w H h):∀ {v:V} {d:PyData} {u:Value},DV H v d->RelV v u->∃ as,Reads h u d as
 | _,_,u,.non,r=>by cases (show u=Value.none from r); exact ⟨_,.none⟩
 | _,_,u,.bl b,r=>by cases (show u=Value.bool b from r); exact ⟨_,.bool b⟩
 | _,_,u,.int i,r=>by obtain ⟨t,q⟩:=(show ∃ t,u=Value.int i t from r); cases q; exact ⟨_,.int i t⟩
 | _,_,u,.str x,r=>by obtain ⟨t,q⟩:=(show ∃ t,u=Value.str x t from r); cases q; exact ⟨_,.str x t⟩
 | _,_,u,.lst (a:=a) rd q,r=>by
   cases (show u=Value.ref a from r)
   obtain ⟨_,its,n,rv,e⟩:=rd.ok ok
   obtain ⟨as,z⟩:=DVs.reads ok q rv
   exact ⟨_,.list e rfl rfl z⟩
 | _,_,u,.tup (a:=a) rd q,r=>by
   cases (show u=Value.ref a from r)
   obtain ⟨_,its,rv,ob,e,c,n,d⟩:=rd.ok ok
   obtain ⟨as,z⟩:=DVs.reads ok q rv
   exact ⟨_,.tuple e c d z⟩
theorem DVs.reads (ok:HOk P w H h):∀ {vs:List V} {ds:List PyData} {us:List Value},DVs H vs ds->Vals vs us->∃ as,ReadsAll h us ds as
 | _,_,_,.nil,.nil=>⟨_,.nil⟩
 | _,_,_,.cons a b,.cons r t=>by
   obtain ⟨as,z⟩:=DV.reads ok a r
   obtain ⟨bs,y⟩:=DVs.reads ok b t
   exact ⟨_,.cons z y⟩
end
end
section
variable {X:Cx}
inductive qhJ (x:V) (y:V) (H:Hp) (Q:VK):Prop
 | mk (d e:_) (h1:DV H x d) (h2:DV H y e) (h3:SeqAt.shaped d=true) (h4:SeqAt.shaped e=true) (h5:Q (.bl (PyData.eqv d e)) H):qhJ x y H Q
def qkO:R2:=fun x y H Q=>qhJ x y H Q
inductive qhF (x:V) (y:V) (H:Hp) (Q:VK):Prop
 | mk (d e:_) (h1:DV H x d) (h2:DV H y e) (h3:SeqAt.shaped d=true) (h4:SeqAt.shaped e=true) (h5:Q (.bl (!PyData.eqv d e)) H):qhF x y H Q
def qkI:R2:=fun x y H Q=>qhF x y H Q
theorem qjr (hu:X.A.units+64 < cLine):OpR X (compareOp .Eq) qkO:=by
 intro pins s σ H x y v u Q I rx ry h
 obtain ⟨d,e,hd,he,sd,se,q⟩:=h
 obtain ⟨as,ra⟩:=hd.reads I.hok rx
 obtain ⟨bs,rb⟩:=he.reads I.hok ry
 exact eq_dataH ra rb sd se hu ⟨.bl _,H,I,rfl,q⟩
theorem qjq (hu:X.A.units+64 < cLine):OpR X (compareOp .NotEq) qkI:=by
 intro pins s σ H x y v u Q I rx ry h
 obtain ⟨d,e,hd,he,sd,se,q⟩:=h
 obtain ⟨as,ra⟩:=hd.reads I.hok rx
 obtain ⟨bs,rb⟩:=he.reads I.hok ry
 exact ne_dataH ra rb sd se hu ⟨.bl _,H,I,rfl,q⟩
end
section
variable {X:Cx}
end
section
variable {X:Cx}
def qkg:R2:=fun x y H Q=>rI0 (fun i j=>.int (i+j)) x y H Q∨qkP x y H Q∨∃ i j,x=.str i∧y=.str j∧i.length+j.length≤sizeLine∧Q (.str (i++j)) H
theorem jY:OpR X (binaryOp .Add) qkg:=op_add.or (op_cat.or qeH)
def qk9:R2:=fun x y H Q=>rEq x y H Q∨qkO x y H Q
def qjT:R2:=fun x y H Q=>rNe x y H Q∨qkI x y H Q
theorem uEq (hU:X.A.units+64 < cLine):OpR X (compareOp .Eq) qk9:=op_eq.or (qjr hU)
theorem uNe (hU:X.A.units+64 < cLine):OpR X (compareOp .NotEq) qjT:=op_ne.or (qjq hU)
end
theorem jV:bootBuiltins "tuple"=some (.type "tuple"):=by decide +kernel
theorem zf:bootBuiltins "list"=some (.type "list"):=by decide +kernel
theorem Jt:bootBuiltins "int"=some (.type "int"):=by decide +kernel
theorem qbL:bootBuiltins "bool"=some (.type "bool"):=by decide +kernel
theorem qdh:bootBuiltins "str"=some (.type "str"):=by decide +kernel
theorem JP:bootBuiltins "dict"=some (.type "dict"):=by decide +kernel
theorem qK:bootBuiltins "len"=some (.builtin "len"):=by decide +kernel
theorem Qn:bootBuiltins "max"=some (.builtin "max"):=by decide +kernel
theorem Zy:bootBuiltins "min"=some (.builtin "min"):=by decide +kernel
theorem qE:bootBuiltins "isinstance"=some (.builtin "isinstance"):=by decide +kernel
structure Df (K:PySem.W.Frag) (mg:Str->Option Value) (x:Str) (st:Stmt) (ps:List Str) (f:Addr) (fd:FuncData):Prop where
 F:Fun K x x st f fd
 b:Binds K fd ps []
 m:mg x=some (.ref f)
 k:PySem.W.keepIn K (.ref f)=true
theorem Same.new {H:Hp} {p:Addr} (o:HO) (h:H p=none):Same H (upd H p o):=fun b u e=>by rw [qh (qi e h)]; exact e
theorem Same.then {H H1:Hp} (s:Same H H1) {p:Addr} (o:HO) (h:H1 p=none):Same H (upd H1 p o):=s.trans (Same.new o h)
def But (p:Addr) (H H':Hp):Prop:=∀ b o,H b=some o->b≠p->H' b=some o
theorem But.refl (p:Addr) (H:Hp):But p H H:=fun _ _ h _=>h
theorem But.trans {p:Addr} {H H1 H2:Hp} (a:But p H H1) (b:But p H1 H2):But p H H2:=fun c o h n=>b c o (a c o h n) n
theorem But.put {p:Addr} {H H1:Hp} (s:But p H H1) (o:HO):But p H (upd H1 p o):=fun b u e n=>by rw [qh n]; exact s b u e n
theorem But.same {p:Addr} {H H1 H2:Hp} (a:But p H H1) (b:Same H1 H2):But p H H2:=fun c o h n=>b c o (a c o h n)
theorem qo {n:Nat} (h:n≤1000):n≤sizeLine:=Nat.le_of_lt (qx h)
theorem zj {b:Bool} {A B:Prop} (e:b=false) (h:B):if b=true then A else B:=by rw [e]; exact qep h
theorem Jr {b:Bool} {A B:Prop} (e:b=true) (h:A):if b=true then A else B:=by rw [e]; exact qf3 h
theorem qhd {b:Bool} {A B:Prop} (h1:b=true->A) (h2:b=false->B):if b=true then A else B:=by
 cases b
 · exact qep (h2 rfl)
 · exact qf3 (h1 rfl)
theorem Zf {c A B:Prop} [Decidable c] (h1:c->A) (h2:¬ c->B):if (decide c)=true then A else B:=by
 by_cases h:c
 · rw [decide_eq_true h]; exact qf3 (h1 h)
 · rw [decide_eq_false h]; exact qep (h2 h)
theorem qjB {c A B:Prop} [Decidable c] (h1:¬ c->A) (h2:c->B):if (!decide c)=true then A else B:=by
 by_cases h:c
 · rw [decide_eq_true h]; exact qep (h2 h)
 · rw [decide_eq_false h]; exact qf3 (h1 h)
end L2
namespace L2
open PySem PySem.Spec PyProof.Rows
section
variable {prog:Program} {w:World} {A:Around} {R:Result->Shared->Prop} {s:Shared}
abbrev noE:Value->Shared->Prop:=fun _ _=>False
theorem qa7 {elt target iter:Expr} {ifs:List Expr} {scope:Scope} {pos:Pos} {it acc:Value} {env:Env} (I:Nat->Shared->Prop)
   (turn:∀ n s,I n s->wpAny (model prog w) A (pyNext it) (fun r s₁=>match r with
     | none=>R (.ok .next) s₁
     | some v=>wpAny (model prog w) A (letOwnedTupleGo target it v) (fun _ s₀=>wpAny (model prog w) A (assign target env v) (fun _ s₂ =>
         wpAny (model prog w) A (forIn ifs true fun c r=>if r=true then do let ok ← isTrue c env (eval c env); pure (ForInStep.yield ok) else pure (ForInStep.yield r)) (fun ok s₃ =>
           if ok=true then wpAny (model prog w) A (eval elt env) (fun x s₄ =>
             wpAny (model prog w) A (call (.builtin "list.append") [acc,x]) (fun _ s₅=>∃ m,m < n∧I m s₅) noE s₄) noE s₃
           else ∃ m,m < n∧I m s₃) noE s₂) noE s₀) noE s₁) noE s)
   (n:Nat) (h:I n s) :
   codeAny (model prog w) A (.compLoop (.ListComp elt [⟨target,iter,ifs,0⟩] scope pos) 0 it acc env) R s:=by
 refine codeAny_loop rfl I (fun n s hI=>?_) n h
 show wpAny _ A ((compTurn (.ListComp elt [⟨target,iter,ifs,0⟩] scope pos) 0 it acc env).onRaise (fun x=>do noteFrame x env; theTreesLotGoes x)) _ _ s
 refine wpAny_noted ?_
 rw [compTurn_list]
 refine wpAny_bind (wpAny_standAt (wpAny_bind (wpAny_mono (turn n s hI) (fun r s₁ h₁=>?_) fun _ _ h'=>h'.elim)))
 cases r with
 | none=>exact wpAny_pure h₁
 | some v =>
   refine wpAny_bind (wpAny_mono h₁ (fun _ s₀ h₀=>?_) fun _ _ h'=>h'.elim)
   refine wpAny_bind (wpAny_mono h₀ (fun _ s₂ h₂=>wpAny_bind (wpAny_mono h₂ (fun ok s₃ h₃=>?_) fun _ _ h'=>h'.elim)) fun _ _ h'=>h'.elim)
   cases ok with
   | false=>exact wpAny_pure ⟨rfl,h₃⟩
   | true =>
     exact wpAny_bind (wpAny_bind (wpAny_mono h₃ (fun x s₄ h₄=>wpAny_bind (wpAny_mono h₄ (fun _ s₅ h₅=>wpAny_pure (wpAny_pure ⟨rfl,h₅⟩)) fun _ _ h'=>h'.elim)) fun _ _ h'=>h'.elim))
end
def zu (X:Cx) (scope:Scope) (N:List Str) (cl:List (Str×Addr)) (C:Addr) (s₀:Shared) (H₀:Hp) (ex:List Addr) (pn:List (Addr×Obj)):Cx where
 prog:=X.prog
 w:=X.w
 K:=X.K
 mg:=X.mg
 base:=X.base
 A:=X.A
 N:=N
 s₀:=s₀
 H₀:=H₀
 env:=compEnvC scope cl C X.env
 outer:=X.stack
 stack:=X.stack
 ex:=ex
 fn:=fun x=>!(cl.lookup x).isSome
 calm:=X.calm
 pn:=pn
 xe:=noE
def st0 (js:List (Option Nat)) (σ:St):St:=js.map fun o=>o.bind fun j=>(σ[j]?).join
def PTs (X:Cx) (ifs:List Expr) (t:TT):Prop :=
 ∀ (pins:List (Addr×Obj)) (s:Shared) (σ:St) (H:Hp) (Q:Bool->Hp->Prop),Inv X pins σ H s->t σ H Q ->
   wpAny (model X.prog X.w) X.A (forIn ifs true fun c r=>if r=true then do let ok ← isTrue c X.env (eval c X.env); pure (ForInStep.yield ok) else pure (ForInStep.yield r)) (TP X pins σ Q) X.xe s
def qk1:TT:=fun _ H Q=>Q true H
theorem QZ {X:Cx}:PTs X [] qk1:=fun _ _ _ H _ I h=>wpAny_tests_nil ⟨H,I,h⟩
theorem qaK {X:Cx} {c:Expr} {t:TT} (h:PT X c t):PTs X [c] t:=fun pins s σ H Q I q=>wpAny_tests_one (h pins s σ H Q I q)
def jv (J:It) (g:TG) (tt:TT) (te:TE) (D:Addr) (Q:VK) (σ0:St) (H0:Hp):Prop :=
 ∃ W:Nat->Nat->St->Hp->Prop,(∃ m,W 0 m σ0 H0)∧∀ i m σ' H',W i m σ' H' ->
   (J.stop i H'∧Q (.ref D) H')∨(J.go i H'∧∃ N:St->Hp->Prop,(∀ σ2 H2,N σ2 H2->∃ m',m' < m∧W (i+1) m' σ2 H2) ∧
     ∀ x H2,J.yld i H' x H2->g x σ' H2 fun σ3 H3=>tt σ3 H3 fun ok H4=>if ok=true then te σ3 H4 fun y H5=>∃ ys,H5 D=some (.lst ys)∧ys.length < sizeLine∧N σ3 (upd H5 D (.lst (ys++[y]))) else N σ3 H4)
def qi9 (wi:TI) (g:TG) (tt:TT) (te:TE) (js:List (Option Nat)):TE:=fun σ H Q=>wi σ H fun J H1=>∀ D,H1 D=none->jv J g tt te D Q (st0 js σ) (upd H1 D (.lst []))
structure CompOk (X:Cx) (scope:Scope) (N:List Str) (cl:List (Str×Addr)) (js:List (Option Nat)):Prop where
 clos:closureFor scope X.env=pure cl
 sub:∀ x c,cl.lookup x=some c->X.env.cells.lookup x=some c
 all:∀ x,((relabel scope X.env).names.lookup x=some .cell∨(relabel scope X.env).names.lookup x=some .free)->∃ c,cl.lookup x=some c
 cell:∀ y∈scope.names,y.2≠.cell
 kind:scope.kind=.function
 names:∀ y∈scope.names,y.2=.local->scope.names.lookup y.1=some .local
 len:js.length=N.length
 fr:∀ (i j:Nat) (x:Str),js[i]?=some (some j)->N[i]?=some x->X.N[j]?=some x∧X.env.kindOf x=some .cell∧((relabel scope X.env).names.lookup x=some .cell∨(relabel scope X.env).names.lookup x=some .free)
section
variable {X:Cx}
theorem qig {js:List (Option Nat)} {σ:St} {i:Nat} {v:V} (h:(st0 js σ)[i]?=some (some v)):∃ j,js[i]?=some (some j)∧σ[j]?=some (some v):=by
 unfold st0 at h
 rw [List.getElem?_map] at h
 cases e:js[i]? with
 | none=>rw [e] at h; cases h
 | some o =>
   rw [e] at h
   cases o with
   | none=>cases h
   | some j =>
     refine ⟨j,rfl,?_⟩
     have h':(σ[j]?).join=some v:=by simpa using h
     cases e2:σ[j]? with
     | none=>rw [e2] at h'; cases h'
     | some o2=>rw [e2] at h'; cases o2 with
       | none=>cases h'
       | some u=>rw [show u=v by simpa using h']
theorem qiK {pins:List (Addr×Obj)} {σ:St} {H:Hp} {s:Shared} {scope:Scope} {N:List Str} {cl:List (Str×Addr)} {js:List (Option Nat)} {C:Addr} {fp:List Addr} (k:CompOk X scope N cl js) (I:Inv X pins σ H s)
   (hf:∀ b∈fp,qeU X pins H b) (hfl:∀ b∈fp,b < s.heap.objs.size) (hC:s.heap.objs.size≤C):(zu X scope N cl C s H fp (X.pn++pins)).Ok where
 mod:=I.ok.mod
 kind:=k.kind
 glob:=I.ok.glob
 blt:=I.ok.blt
 above:=hC
 inj:=fun x y c h1 h2=>I.ok.inj x y c (k.sub _ _ h1) (k.sub _ _ h2)
 has:=fun x h=>k.all x h
 cab:=fun x c h1 h2=>by
   have h1':(!(cl.lookup x).isSome)=true:=h1
   have h2':cl.lookup x=some c:=h2
   rw [h2'] at h1'; cases h1'
 hd:=I.ok.hd
 frames:=I.ok.frames
 stk:=.inl rfl
 exf:=fun b hb=>⟨Nat.ne_of_lt (Nat.lt_of_lt_of_le (hfl b hb) hC),fun x c h=>(hf b hb).2.2.2.2.1 x c (k.sub _ _ h)⟩
 bs:=I.bs
 bsz:=Nat.le_trans I.ok.bsz I.sz
 noex:=fun b o e hb=>by
   rcases (hf b hb).2.2.2.1 with z | z
   · exact I.ok.noex b o e z
   · exact absurd (Nat.lt_of_lt_of_le (Heap.lt_size e) (Nat.le_trans I.ok.bsz z)) (Nat.lt_irrefl _)
 exfs:=fun b hb z=>by
   rcases List.mem_cons.mp (I.stkSub b z) with e | e
   · exact (hf b hb).2.1 e
   · exact (hf b hb).2.2.1 e
 funs:=I.stack
 frf:=I.stkFree
theorem qey {pins:List (Addr×Obj)} {σ:St} {H:Hp} {s:Shared} {h1:Heap} {t':Nat} {scope:Scope} {N:List Str} {cl:List (Str×Addr)} {js:List (Option Nat)} {C D:Addr} {fp:List Addr} {m:Str->Option Value} (k:CompOk X scope N cl js) (I:Inv X pins σ H s)
   (hf:∀ b∈fp,qeU X pins H b) (hfl:∀ b∈fp,b < s.heap.objs.size) (hD:s.heap.objs.size≤D) (hC:s.heap.objs.size≤C) (hDC:D≠C)
   (hn:h1.Ns C m) (hl:h1.get? D=some { cls:=.type "list",data:=.seq ([]:List Value).toArray }) (hk:∀ b o,s.heap.get? b=some o->h1.get? b=some o) :
   Inv (zu X scope N cl C s H fp (X.pn++pins)) [] (st0 js σ) (upd H D (.lst [])) { s with heap:=h1,toks:=t' }:=by
 have fD:H D=none:=I.hok.fresh hD
 have fC:H C=none:=I.hok.fresh hC
 have nC:∀ b,b < s.heap.objs.size->b≠C:=fun b hb=>Nat.ne_of_lt (Nat.lt_of_lt_of_le hb hC)
 refine ⟨qiK k I hf hfl hC,rfl,I.bare,?_,?_,?_,?_,?_,?_,?_,?_⟩
 · exact (Un.laid (fs:=frs X.stack) (ex:=fp) (o:=.lst []) hk hD fD)
 · refine ⟨m,hn,fun i x v e1 e2 e3=>?_⟩
   obtain ⟨j,f1,f2⟩:=qig e2
   obtain ⟨g1,g2,g3⟩:=k.fr i j x f1 e1
   obtain ⟨m',hn',hl'⟩:=I.loc
   obtain ⟨u,ru,lk⟩:=hl' j x v g1 f2 (.inr (.inl g2))
   refine ⟨u,ru,.inr ⟨g3,?_⟩⟩
   obtain ⟨c,hc⟩:=k.all x g3
   rcases lk with ⟨z,_⟩ | ⟨_,c',hc',ic⟩
   · rw [g2] at z; cases z
   · have e:=k.sub _ _ hc
     rw [hc'] at e; cases e
     obtain ⟨o,ho,hd⟩:=ic
     exact ⟨c,hc,o,hk _ _ ho,hd⟩
 · intro x c h
   obtain ⟨v,o,ho,hd⟩:=I.cell x c (k.sub _ _ h)
   exact ⟨v,o,hk _ _ ho,hd⟩
 · show (upd H D (.lst [])) C=none
   rw [qh hDC.symm]; exact fC
 · intro x c h
   obtain ⟨v,o,ho,hd⟩:=I.cell x c (k.sub _ _ h)
   rw [qh (Nat.ne_of_lt (Nat.lt_of_lt_of_le (Heap.lt_size ho) hD))]
   exact I.freeC x c (k.sub _ _ h)
 · intro p hp
   have hp':p∈X.pn++pins:=by simpa [zu] using hp
   obtain ⟨e,n,ne,nf,d⟩:=I.pin p hp'
   have lt:=Heap.lt_size e
   refine ⟨hk _ _ e,by rw [qh (Nat.ne_of_lt (Nat.lt_of_lt_of_le lt hD))]; exact n,nC _ lt,fun z=>?_,d⟩
   rcases List.mem_cons.mp (I.stkSub _ z) with e | e
   · exact ne e
   · exact nf e
 · exact I.hok.laid hk hD ⟨Nat.zero_le _,[],0,.nil,hl⟩
 · show (st0 js σ).length=N.length
   unfold st0
   rw [List.length_map]; exact k.len
theorem QF {elt iter tg:Expr} {ifs:List Expr} {scope:Scope} {pos:Pos} {wi:TI} {g:TG} {tt:TT} {te:TE} {N:List Str} {cl:List (Str×Addr)} {js:List (Option Nat)} (hc:X.calm=true) (k:CompOk X scope N cl js) (hi:PI X tg iter wi)
   (hg:∀ C s₀ H₀ ex pn,PG (zu X scope N cl C s₀ H₀ ex pn) tg g) (ht:∀ C s₀ H₀ ex pn,PTs (zu X scope N cl C s₀ H₀ ex pn) ifs tt) (he:∀ C s₀ H₀ ex pn,PE (zu X scope N cl C s₀ H₀ ex pn) elt te)
   (hs:∀ x,foldedSetIterable iter X.env x=pure x:=by intro _; rfl) :
   PE X (.ListComp elt [⟨tg,iter,ifs,0⟩] scope pos) (qi9 wi g tt te js):=by
 intro pins s σ H Q I h
 rw [eval_ListComp]
 refine wpAny_comprehension_free (use:=none) rfl hs k.clos k.kind k.names ?_
 refine thn (hi pins s σ H _ I h) fun v s1 h1=>thn h1 fun itv s2 h2=>?_
 obtain ⟨it,fp,tn,J,H2,e,I2,T,st2,f2,hD⟩:=h2
 subst e
 refine wpAny_newObj_type (wpAny_newFunctionEnv k.cell (by intro y hy; simp at hy) (fun h₁ hns₁ hsb₁=>?_) k.kind)
 dsimp only at hns₁ hsb₁ ⊢
 generalize hH2:s2.heap.push { cls:=.type "list",dict:=none,data:=.seq ([]:List Value).toArray }=P2 at hns₁ hsb₁ ⊢
 have hC:P2.objs.size=s2.heap.objs.size+1:=by rw [← hH2,Heap.size_push]
 have hDC:s2.heap.objs.size≠P2.objs.size:=by rw [hC]; exact Nat.ne_of_lt (Nat.lt_succ_self _)
 have hCle:s2.heap.objs.size≤P2.objs.size:=by rw [hC]; exact Nat.le_succ _
 have old:∀ b o,s2.heap.get? b=some o->h₁.get? b=some o:=fun b o e=>hsb₁.extBut b o (Nat.ne_of_lt (Nat.lt_of_lt_of_le (Heap.lt_size e) hCle)) (Heap.get?_push_of_some _ (hH2▸Heap.get?_push_of_some _ e))
 have hacc:h₁.get? s2.heap.objs.size=some { cls:=.type "list",data:=.seq ([]:List Value).toArray }:=hsb₁.extBut _ _ hDC (Heap.get?_push_of_some _ (hH2▸Heap.get?_push_size _ rfl))
 have hfl:∀ b∈fp,b < s2.heap.objs.size:=fun b hb=>by
   obtain ⟨o,e,_⟩:=T.obj _ _ st2 b hb
   exact Heap.lt_size e
 have fD:H2 s2.heap.objs.size=none:=I2.hok.fresh (Nat.le_refl _)
 obtain ⟨W,⟨m0,w0⟩,turn⟩:=hD _ fD
 have IX:Inv (zu X scope N cl P2.objs.size s2 H2 fp (X.pn++pins)) [] (st0 js σ) (upd H2 s2.heap.objs.size (.lst [])) { s2 with heap:=h₁,toks:=s2.toks+([]:List (Str×Value)).length } :=
   qey k I2 f2 hfl (Nat.le_refl _) hCle hDC hns₁ hacc old
 have hg':=hg P2.objs.size s2 H2 fp (X.pn++pins)
 have ht':=ht P2.objs.size s2 H2 fp (X.pn++pins)
 have he':=he P2.objs.size s2 H2 fp (X.pn++pins)
 have stat:∀ {H':Hp},(∀ b∈fp,H' b=none)->∀ b∈fp,qeU (zu X scope N cl P2.objs.size s2 H2 fp (X.pn++pins)) [] H' b:=fun hn b hb=>by
   obtain ⟨g0,g1,g2,g3,g4,g5⟩:=f2 b hb
   refine ⟨hn b hb,Nat.ne_of_lt (Nat.lt_of_lt_of_le (hfl b hb) hCle),fun z=>?_,.inl hb,fun x c h=>g4 x c (k.sub _ _ h),fun p hp=>g5 p (by simpa [zu] using hp)⟩
   rcases List.mem_cons.mp (I2.stkSub b z) with e | e
   · exact g1 e
   · exact g2 e
 have loop:∀ s₃:Shared,s₃={ s2 with heap:=h₁,toks:=s2.toks+([]:List (Str×Value)).length } ->
     codeAny (model X.prog X.w) X.A (.compLoop (.ListComp elt [⟨tg,iter,ifs,0⟩] scope pos) 0 (.ref it) (.ref s2.heap.objs.size) (compEnvC scope cl P2.objs.size X.env))
       (compPost (model X.prog X.w) X.A X.xe none (EP X pins σ Q) (.ref s2.heap.objs.size) P2.objs.size) s₃:=by
   rintro s₃ rfl
   refine qa7 (fun n s'=>∃ i σ' H',Inv (zu X scope N cl P2.objs.size s2 H2 fp (X.pn++pins)) [] σ' H' s'∧tn i s'.heap∧(∀ b∈fp,H' b=none)∧W i n σ' H') ?_ m0
     ⟨0,st0 js σ,_,IX,T.keep _ _ _ st2 (fun b hb o e=>old b o e),fun b hb=>by rw [qh (Nat.ne_of_lt (hfl b hb))]; exact (f2 b hb).1,w0⟩
   rintro n s3 ⟨i,σ3,H3,I3,st3,fr3,w3⟩
   rcases turn i n σ3 H3 w3 with ⟨stop,qn⟩ | ⟨go,N2,hN,step⟩
   · refine thn (T.done (zu X scope N cl P2.objs.size s2 H2 fp (X.pn++pins)) rfl rfl rfl hc i [] s3 σ3 H3 noE I3 (stat fr3) st3 stop) fun r s4 ⟨hr,I4⟩=>?_
     subst hr
     obtain ⟨m4,hn4,_⟩:=id I4.loc
     refine ⟨m4,hn4,fun h' hsb=>⟨.ref s2.heap.objs.size,H3,?_,rfl,qn⟩⟩
     have u4:Un (frs X.stack) fp H2 H3 s2.heap s4.heap:=I4.base
     have ltC:∀ b o,s2.heap.get? b=some o->b≠P2.objs.size:=fun b o e=>Nat.ne_of_lt (Nat.lt_of_lt_of_le (Heap.lt_size e) hCle)
     have u5:Un (frs X.stack) fp H2 H3 s2.heap h' :=
       { keep:=fun b o e n hb hx=>hsb.extBut b o (ltC b o e) (u4.keep b o e n hb hx)
         slot:=fun b o e n hb hx=>by
           obtain ⟨sl,q⟩:=u4.slot b o e n hb hx
           exact ⟨sl,hsb.extBut b _ (ltC b o e) q⟩
         free:=u4.free
         there:=fun b o e hx=>by
           obtain ⟨o',q⟩:=u4.there b o e hx
           exact ⟨o',hsb.extBut b _ (ltC b o e) q⟩
         tups:=u4.tups
         frzs:=u4.frzs
         tbls:=u4.tbls }
     have fC:H3 P2.objs.size=none:=I4.free
     have hok5:HOk X.prog X.w H3 h':=fun b u e=>(I4.hok b u e).stay (fun c v hc' q=>hsb.extBut c v (fun z=>by
       rcases hc' with y | y
       · rw [y] at z; rw [z,fC] at e; cases e
       · rw [z,fC] at y; cases y) q) (fun _ q=>q) fun _ _ q=>q
     exact I2.call' (s':={ s4 with heap:=h' }) I4.os u5 hok5 I4.bare fun b hb=>by
       obtain ⟨g0,g1,g2,g3,g4,g5⟩:=f2 b hb
       exact ⟨g3,g1,g4,g5⟩
   · refine thn (T.item (zu X scope N cl P2.objs.size s2 H2 fp (X.pn++pins)) rfl rfl rfl hc i [] s3 σ3 H3 noE I3 (stat fr3) st3 go) fun r s4 ⟨u,hr,h4⟩=>?_
     subst hr
     refine thn h4 fun _ s5 zz_=>?_
     obtain ⟨x,H5,I5,r5,y5,st5,fr5⟩:=zz_
     have I5':=I5.pinned (stat fr5) (T.obj _ _ st5)
     refine thn (hg' _ s5 σ3 H5 x u _ I5' r5 (step x H5 y5)) fun _ s6 zz_=>?_
     obtain ⟨σ6,H6,I6,q6⟩:=zz_
     refine thn (ht' _ s6 σ6 H6 _ I6 q6) fun ok s7 zz_=>?_
     obtain ⟨H7,I7,q7⟩:=zz_
     have again:∀ {s8:Shared} {σ8:St} {H8:Hp},Inv (zu X scope N cl P2.objs.size s2 H2 fp (X.pn++pins)) ([]++qby fp s5.heap) σ8 H8 s8->N2 σ8 H8 ->
         ∃ m,m < n∧∃ i σ' H',Inv (zu X scope N cl P2.objs.size s2 H2 fp (X.pn++pins)) [] σ' H' s8∧tn i s8.heap∧(∀ b∈fp,H' b=none)∧W i m σ' H':=fun {s8 σ8 H8} I8 n8=>by
       obtain ⟨m',hm,w8⟩:=hN σ8 H8 n8
       refine ⟨m',hm,i+1,σ8,H8,I8.unpinned,T.keep _ _ _ st5 fun b hb o e=>(I8.pin (b,o) (List.mem_append_right _ (List.mem_append_right _ (Qz hb e)))).1,fun b hb=>?_,w8⟩
       obtain ⟨o,e,d⟩:=T.obj _ _ st5 b hb
       exact (I8.pin (b,o) (List.mem_append_right _ (List.mem_append_right _ (Qz hb e)))).2.1
     cases ok with
     | false=>exact again I7 (by simpa using q7)
     | true =>
       have q7':te σ6 H7 fun y H5=>∃ ys,H5 s2.heap.objs.size=some (.lst ys)∧ys.length < sizeLine∧N2 σ6 (upd H5 s2.heap.objs.size (.lst (ys++[y]))):=by simpa using q7
       refine thn (he' _ s7 σ6 H7 _ I7 q7') fun xv s8 zz_=>?_
       obtain ⟨y,H8,I8,r8,ys,hy,hlen,n8⟩:=zz_
       refine thn (zK (X:=zu X scope N cl P2.objs.size s2 H2 fp (X.pn++pins)) _ s8 σ6 H8 (.ref s2.heap.objs.size) [y] (.ref s2.heap.objs.size) [xv] (fun _ H9=>N2 σ6 H9) I8 rfl (.cons r8 .nil) ⟨_,ys,y,rfl,rfl,hy,hlen,n8⟩) fun _ s9 ⟨_,H9,I9,_,n9⟩=>again I9 n9
 exact codeAny_compStart_list (loop _ rfl) (T.self _ 0 _ _ _ (T.keep _ _ _ st2 (fun b hb o e=>old b o e)) (loop _ rfl))
end
end L2
namespace L2
open PySem PySem.Spec PyProof.Rows
def Its (x:Str):It:=⟨fun i _=>i < x.cps.size,fun i H v H'=>H'=H∧∃ c,x.cps[i]?=some c∧v=.str ⟨#[c]⟩,fun i _=>x.cps.size≤i⟩
theorem qhU {M:Model} {A:Around} {E:Value->Shared->Prop} {s:Shared} {tg:Expr} {it:Addr} {y:Str} {t:Tok} {Q:Unit->Shared->Prop} (hQ:Q () s):wpAny M A (letOwnedTupleGo tg (.ref it) (.str y t)) Q E s:=by
 unfold letOwnedTupleGo
 cases tg<;>exact wpAny_pure hQ
theorem qgF {P:Program} {w:World} {K:PySem.W.Frag} {tg:Expr} (it:Addr) (x:Str) (t:Tok) (ty:String) (hty:ty="str_ascii_iterator"∨ty="str_iterator") :
   qiM P w K tg (Its x) [it] it (fun i h=>h.IsStrIter it ty x t i) where
 mem:=by simp
 obj:=fun i h st b hb=>by
   have e:b=it:=by simpa using hb
   subst e
   obtain ⟨o,e,c,d⟩:=st
   exact ⟨o,e,fun v z=>by rw [d] at z; cases z⟩
 keep:=fun i h h' st k=>by
   obtain ⟨o,e,r⟩:=st
   exact ⟨o,k it (by simp) o e,r⟩
 item:=by
   intro X hP hw hK hc i pins s σ H E I hf st hg
   subst hP hw hK
   obtain ⟨f0,f1,f2,f3,f4,f5⟩:=hf it (by simp)
   have hi:i < x.cps.size:=hg
   rcases hty with rfl | rfl
   · refine wpAny_pyNext_ascii_item st (c:=x.cps[i]) (by simp [hi]) fun h' st' sb=>?_
     have I1:Inv X pins σ H { s with heap:=h',toks:=s.toks+1 }:=I.turned (fun b o hb e=>sb.extBut b o hb e) f0 f1 f3 f4 f5
     exact ⟨_,rfl,qhU (s:={ s with heap:=h',toks:=s.toks+1 }) ⟨.str ⟨#[x.cps[i]]⟩,H,I1,⟨_,rfl⟩,⟨rfl,x.cps[i],by simp [hi],rfl⟩,st',fun b hb=>(hf b hb).1⟩⟩
   · refine wpAny_pyNext_wide_item st (c:=x.cps[i]) (by simp [hi]) fun h' st' sb=>?_
     have I1:Inv X pins σ H { s with heap:=h',toks:=s.toks+1 }:=I.turned (fun b o hb e=>sb.extBut b o hb e) f0 f1 f3 f4 f5
     exact ⟨_,rfl,qhU (s:={ s with heap:=h',toks:=s.toks+1 }) ⟨.str ⟨#[x.cps[i]]⟩,H,I1,⟨_,rfl⟩,⟨rfl,x.cps[i],by simp [hi],rfl⟩,st',fun b hb=>(hf b hb).1⟩⟩
 done:=by
   intro X hP hw hK hc i pins s σ H E I hf st hg
   subst hP hw hK
   obtain ⟨f0,f1,f2,f3,f4,f5⟩:=hf it (by simp)
   have hi:x.cps.size≤i:=hg
   rcases hty with rfl | rfl
   · exact wpAny_pyNext_ascii_end (I.ok.hd hc) st (by simp [hi]) fun h' eb=>⟨rfl,I.turned (t':=s.toks) (fun b o hb e=>eb b o hb e) f0 f1 f3 f4 f5⟩
   · exact wpAny_pyNext_wide_end (I.ok.hd hc) st (by simp [hi]) fun h' eb=>⟨rfl,I.turned (t':=s.toks) (fun b o hb e=>eb b o hb e) f0 f1 f3 f4 f5⟩
 self:=fun _ _ _ _ _ st h=>by
   rcases hty with rfl | rfl
   · exact wpAny_pyIter_striter_ascii st h
   · exact wpAny_pyIter_striter_wide st h
def qlf (te:TE):TI:=fun σ H R=>te σ H fun x H1=>∃ z,x=.str z∧R (Its z) H1
section
variable {X:Cx} {tg:Expr}
theorem qjn {e:Expr} {te:TE} (he:PE X e te):PI X tg e (qlf te):=by
 intro pins s σ H R I h
 refine thn (he pins s σ H _ I h) fun v s1 zz_=>?_
 obtain ⟨x,H1,I1,r1,q1⟩:=zz_
 obtain ⟨z,e,q⟩:=q1
 subst e
 obtain ⟨t,rfl⟩:=r1
 have fin:∀ ty,(ty="str_ascii_iterator"∨ty="str_iterator")->PIE X pins σ tg R (.ref s1.heap.objs.size) { s1 with heap:=s1.heap.push { cls:=.type ty,data:=.fields #[.str z t,.int 0 0] } }:=fun ty hty=>by
   refine ⟨s1.heap.objs.size,[s1.heap.objs.size],_,_,H1,rfl,I1.kept (t':=s1.toks) fun b o e=>Heap.get?_push_of_some _ e,qgF _ z t ty hty,⟨_,Heap.get?_push_size _ rfl,rfl,rfl⟩,fun b hb=>?_,q⟩
   have e:b=s1.heap.objs.size:=by simpa using hb
   subst e
   exact I1.fpOk (Nat.le_refl _) (I1.hok.fresh (Nat.le_refl _))
 cases ha:z.cps.all (· < 128)
 · exact wpAny_pyIter_wide ha (fin _ (.inr rfl))
 · exact wpAny_pyIter_ascii ha (fin _ (.inl rfl))
end
theorem qht {x:Str} {g:TG} {tt:TT} {te:TE} {D:Addr} {Q:VK} {σ:St} {H:Hp} (Pv:Nat->St->Hp->Prop) (h0:Pv 0 σ H)
   (hs:∀ i c σ H,x.cps[i]?=some c->Pv i σ H->g (.str ⟨#[c]⟩) σ H fun σ3 H3=>tt σ3 H3 fun ok H4=>if ok=true then te σ3 H4 fun y H5=>∃ ys,H5 D=some (.lst ys)∧ys.length < sizeLine∧Pv (i+1) σ3 (upd H5 D (.lst (ys++[y]))) else Pv (i+1) σ3 H4)
   (hd:∀ σ H,Pv x.cps.size σ H->Q (.ref D) H) :
   jv (Its x) g tt te D Q σ H:=by
 refine ⟨fun i m σ H=>m=x.cps.size - i∧i≤x.cps.size∧Pv i σ H,⟨x.cps.size,by simp,Nat.zero_le _,h0⟩,?_⟩
 rintro i m σ H ⟨rfl,hi,p⟩
 by_cases hlt:i < x.cps.size
 · refine .inr ⟨hlt,Pv (i+1),fun σ' H' p'=>⟨x.cps.size - (i+1),by omega,rfl,hlt,p'⟩,fun v H' y=>?_⟩
   obtain ⟨rfl,c,hc,rfl⟩:=y
   exact hs i c σ _ hc p
 · have e:i=x.cps.size:=by omega
   subst e
   exact .inl ⟨Nat.le_refl _,hd σ H p⟩
theorem qeR {lo:Int} {n:Nat} {g:TG} {tt:TT} {te:TE} {D:Addr} {Q:VK} {σ:St} {H:Hp} (Pv:Nat->St->Hp->Prop) (h0:Pv 0 σ H)
   (hs:∀ i σ H,i < n->Pv i σ H->g (.int (lo+i)) σ H fun σ3 H3=>tt σ3 H3 fun ok H4=>if ok=true then te σ3 H4 fun y H5=>∃ ys,H5 D=some (.lst ys)∧ys.length < sizeLine∧Pv (i+1) σ3 (upd H5 D (.lst (ys++[y]))) else Pv (i+1) σ3 H4)
   (hd:∀ σ H,Pv n σ H->Q (.ref D) H) :
   jv (Itr lo n) g tt te D Q σ H:=by
 refine ⟨fun i m σ H=>m=n - i∧i≤n∧Pv i σ H,⟨n,by simp,Nat.zero_le _,h0⟩,?_⟩
 rintro i m σ H ⟨rfl,hi,p⟩
 by_cases hlt:i < n
 · refine .inr ⟨hlt,Pv (i+1),fun σ' H' p'=>⟨n - (i+1),by omega,rfl,hlt,p'⟩,fun v H' y=>?_⟩
   obtain ⟨rfl,rfl⟩:=y
   exact hs i σ _ hlt p
 · have e:i=n:=by omega
   subst e
   exact .inl ⟨Nat.le_refl _,hd σ H p⟩
theorem zM {K:PySem.W.Frag} {a:Addr} {xs:List V} {g:TG} {tt:TT} {te:TE} {D:Addr} {Q:VK} {σ:St} {H:Hp} (Pv:Nat->St->Hp->Prop) (h0:Pv 0 σ H) (hl:∀ i σ H,i≤xs.length->Pv i σ H->SqL K H a xs)
   (hs:∀ i x σ H,xs[i]?=some x->Pv i σ H->g x σ H fun σ3 H3=>tt σ3 H3 fun ok H4=>if ok=true then te σ3 H4 fun y H5=>∃ ys,H5 D=some (.lst ys)∧ys.length < sizeLine∧Pv (i+1) σ3 (upd H5 D (.lst (ys++[y]))) else Pv (i+1) σ3 H4)
   (hd:∀ σ H,Pv xs.length σ H->Q (.ref D) H) :
   jv (Itl K a) g tt te D Q σ H:=by
 refine ⟨fun i m σ H=>m=xs.length - i∧i≤xs.length∧Pv i σ H,⟨xs.length,by simp,Nat.zero_le _,h0⟩,?_⟩
 rintro i m σ H ⟨rfl,hi,p⟩
 have q:=hl i σ H hi p
 by_cases hlt:i < xs.length
 · refine .inr ⟨⟨xs,xs[i],q,by simp [hlt]⟩,Pv (i+1),fun σ' H' p'=>⟨xs.length - (i+1),by omega,rfl,hlt,p'⟩,fun v H' y=>?_⟩
   obtain ⟨e,y⟩:=y
   subst e
   exact hs i v σ _ (y xs q) p
 · have e:i=xs.length:=by omega
   subst e
   exact .inl ⟨⟨xs,q,Nat.le_refl _⟩,hd σ H p⟩
theorem qgs:∀ {bs:List Bool} {us:List Value},Vals (bs.map V.bl) us->us=bs.map Value.bool
 | [],_,r=>by cases r; rfl
 | b::bs,_,r=>by
   cases r with
   | cons r t =>
     cases r
     rw [qgs t]; rfl
section
variable {X:Cx}
def qla (K:PySem.W.Frag):List V->Hp->VK->Prop:=fun xs H Q=>∃ (p:Addr) (bs:List Bool),xs=[.ref p]∧SqL K H p (bs.map V.bl)∧Q (.bl (bs.all id)) H
theorem qdm {α:Type} (f:α->Bool) (d:α):∀ l:List α,(List.range l.length).all (fun i=>f (l.getD i d))=l.all f
 | []=>rfl
 | a::l=>by
   rw [List.length_cons,List.range_succ_eq_map,List.all_cons,List.all_map,List.all_cons,← qdm f d l]
   rfl
theorem qgn (hc:X.calm=true):jX X (.builtin "all") (qla X.K):=by
 intro pins s σ H xs us Q I r h
 obtain ⟨p,bs,rfl,hq,q⟩:=h
 obtain ⟨u,rfl,ru⟩:=qae r
 cases ru
 obtain ⟨its,rv,pl,hz⟩:=I.list hq
 have eits:=qgs rv
 subst eits
 have hlt:p < s.heap.objs.size:=by obtain ⟨_,_,e,_⟩:=pl; exact Heap.lt_size e
 refine call_all_walk (wpAny_pyIter_list pl.isList ?_)
 have W:=Walks.list (prog:=X.prog) (w:=X.w) (A:=X.A.in1) (I.ok.hd hc) s.heap.objs.size p (Nat.ne_of_lt hlt) (bs.map Value.bool).toArray
 refine ⟨_,_,_,_,_,_,(fun i=>(bs.getD i true)),rfl,W,⟨⟨_,Heap.get?_push_size _ rfl,rfl,rfl⟩,pl.isList.push _⟩,?_,?_⟩
 · intro i v s' Q' E' hP hQ
   have hv:(bs.map Value.bool)[i]?=some v:=by simpa using hP
   rw [List.getElem?_map] at hv
   cases e:bs[i]? with
   | none=>rw [e] at hv; cases hv
   | some b =>
     rw [e] at hv
     cases hv
     have e2:bs.getD i true=b:=by rw [List.getD_eq_getElem?_getD,e]; rfl
     have hQ:Q' (bs.getD i true) s':=hQ
     rw [e2] at hQ
     exact wpAny_truthy_bool hQ
 · intro h' tk hk
   have es:(bs.map Value.bool).toArray.size=bs.length:=by simp
   have ea:(List.range (bs.map Value.bool).toArray.size).all (fun i=>bs.getD i true)=bs.all id:=by rw [es]; exact qdm id true bs
   refine ⟨.bl _,H,?_,by rw [ea]; rfl,q⟩
   exact I.kept (t':=tk) fun b o e=>hk b o (by simp; exact Nat.ne_of_lt (Heap.lt_size e)) (Heap.get?_push_of_some _ e)
end
theorem qgr:bootBuiltins "all"=some (.builtin "all"):=by decide +kernel
theorem qfc:∀ {ys:List Str} {us:List Value},Vals (ys.map V.str) us->StrsAre us ys
 | [],_,r=>by cases r; exact .nil
 | y::ys,_,r=>by
   cases r with
   | cons r t =>
     obtain ⟨k,rfl⟩:=r
     exact .cons y k (qfc t)
section
variable {X:Cx}
def qke (K:PySem.W.Frag):V->List V->Hp->VK->Prop:=fun x xs H Q=>∃ (sep:Str) (p:Addr) (ys:List Str),x=.str sep∧xs=[.ref p]∧SqL K H p (ys.map V.str)∧(ys.map (·.length)).sum+ys.length * sep.length≤16777216∧Q (.str (Txt.join sep ys)) H
theorem qfT:MtR X "str.join" (qke X.K):=by
 intro pins s σ H x xs v us Q I rx r h
 obtain ⟨sep,p,ys,rfl,rfl,hq,hz,q⟩:=h
 obtain ⟨t,rfl⟩:=rx
 obtain ⟨u,rfl,ru⟩:=qae r
 cases ru
 obtain ⟨its,rv,pl,_⟩:=I.list hq
 exact join_list pl.isList (by simpa using qfc rv) hz fun t' k=>⟨.str _,H,I.tok k,⟨_,rfl⟩,q⟩
def qkG:V->Option Int->Option Int->Hp->VK->Prop:=fun x lo hi H Q=>∃ z,x=.str z∧z.length≤sizeLine∧Q (.str (Txt.slice z lo hi)) H
theorem qjc:SlR X qkG:=by
 intro pins s σ H x v vl vu lo hi sl Q I rx hs pl pu h
 obtain ⟨z,rfl,hz,q⟩:=h
 obtain ⟨t,rfl⟩:=rx
 refine ⟨"str",_,F.slot_str_getitem.lookup,typeIs_str _ _ _,?_⟩
 have fin:∀ t' k,EP X pins σ Q (.str (Txt.slice z lo hi) t') { s with toks:=k }:=fun t' k=>⟨.str _,H,I.tok k,⟨_,rfl⟩,q⟩
 obtain ⟨o,e1,e2,e3⟩:=hs
 cases pl with
 | none =>
   cases pu with
   | none=>exact wpAny_getItem_str_slice (l:=none) (u:=none) (st:=none) ⟨o,e1,e2,e3⟩ rfl (post_val_or_str ⟨Nat.le_trans (Txt.slice_le z _ _) hz,fin⟩)
   | int j u=>exact wpAny_getItem_str_slice (l:=none) (u:=some (j,u)) (st:=none) ⟨o,e1,e2,e3⟩ rfl (post_val_or_str ⟨Nat.le_trans (Txt.slice_le z _ _) hz,fin⟩)
 | int i ui =>
   cases pu with
   | none=>exact wpAny_getItem_str_slice (l:=some (i,ui)) (u:=none) (st:=none) ⟨o,e1,e2,e3⟩ rfl (post_val_or_str ⟨Nat.le_trans (Txt.slice_le z _ _) hz,fin⟩)
   | int j u=>exact wpAny_getItem_str_slice (l:=some (i,ui)) (u:=some (j,u)) (st:=none) ⟨o,e1,e2,e3⟩ rfl (post_val_or_str ⟨Nat.le_trans (Txt.slice_le z _ _) hz,fin⟩)
theorem uSl:SlR X (fun x lo hi H Q=>qkH X.K x lo hi H Q∨qkG x lo hi H Q):=sl_list.or qjc
theorem qcT:OpR X (compareOp .LtE) (fun x y H Q=>∃ i j,x=.str i∧y=.str j∧Q (.bl (!decide (j.cps.toList < i.cps.toList))) H):=by
 intro pins s σ H x y v u Q I rx ry h
 obtain ⟨i,j,rfl,rfl,q⟩:=h
 obtain ⟨t,rfl⟩:=rx
 obtain ⟨t',rfl⟩:=ry
 exact P.le_str ⟨.bl _,H,I,rfl,q⟩
end
end L2
namespace L2
open PySem PySem.Spec PyProof.Rows
def Js (cells:List (Str×Addr)):List (Str×NameKind)->List (Str×Addr)->List (Str×Addr)
 | [],acc=>acc
 | (n,k)::r,acc=>Js cells r (if k == .free then (n,(cells.lookup n).getD 0)::acc else acc)
def qhY (env:Env) (x:Str×NameKind) (cs:List (Str×Addr)):Sem (ForInStep (List (Str×Addr))):=match x with
 | (name,kind)=>if (kind == NameKind.free)=true then (do let a ← cellOf env name; pure (ForInStep.yield ((name,a)::cs))) else pure (ForInStep.yield cs)
theorem qgk {env:Env} {n:Str} {k:NameKind} {acc:List (Str×Addr)} (h:k=.free->∃ c,env.cells.lookup n=some c) :
   qhY env (n,k) acc=pure (ForInStep.yield (if k == .free then (n,(env.cells.lookup n).getD 0)::acc else acc)):=by
 by_cases hk:k=.free
 · subst hk
   obtain ⟨c,hc⟩:=h rfl
   show (do let a ← cellOf env n; pure (ForInStep.yield ((n,a)::acc)))=(pure (ForInStep.yield ((n,(env.cells.lookup n).getD 0)::acc)):Sem _)
   unfold cellOf
   rw [hc]
   rfl
 · cases k<;>first | exact absurd rfl hk | rfl
theorem qbG {env:Env}:∀ (names:List (Str×NameKind)) (acc:List (Str×Addr)),(∀ y∈names,y.2=.free->∃ c,env.cells.lookup y.1=some c) ->
   (forIn names acc (qhY env))=(pure (Js env.cells names acc):Sem (List (Str×Addr)))
 | [],acc,_=>rfl
 | (n,k)::r,acc,h=>by
   rw [List.forIn_cons,qgk fun e=>h (n,k) List.mem_cons_self e]
   exact qbG (env:=env) r _ fun y hy=>h y (List.mem_cons_of_mem _ hy)
theorem qeS {scope:Scope} {env:Env} (h:∀ y∈scope.names,y.2=.free->∃ c,env.cells.lookup y.1=some c):closureFor scope env=pure (Js env.cells scope.names []):=by
 unfold closureFor
 exact (congrArg (fun (m:Sem (List (Str×Addr)))=>m >>= fun cs=>pure cs) (qbG (env:=env) scope.names [] h)).trans rfl
theorem QM {cells:List (Str×Addr)} {x:Str}:∀ (names:List (Str×NameKind)) (acc:List (Str×Addr)),(∀ y∈names,y.2=.free->∃ c,cells.lookup y.1=some c)->(∀ c,acc.lookup x=some c->cells.lookup x=some c) ->
   (∀ c,(Js cells names acc).lookup x=some c->cells.lookup x=some c)∧(((x,NameKind.free)∈names∨(acc.lookup x).isSome=true)->((Js cells names acc).lookup x).isSome=true)
 | [],acc,_,ha=>⟨ha,fun h=>h.elim (fun z=>nomatch z) id⟩
 | (n,k)::r,acc,h,ha=>by
   unfold Js
   have hr:∀ y∈r,y.2=.free->∃ c,cells.lookup y.1=some c:=fun y hy=>h y (List.mem_cons_of_mem _ hy)
   cases hk:(k == NameKind.free) with
   | false =>
     obtain ⟨i1,i2⟩:=QM (cells:=cells) (x:=x) r acc hr ha
     refine ⟨by simpa using i1,fun z=>?_⟩
     have:((Js cells r acc).lookup x).isSome=true:=i2 (by
       rcases z with z | z
       · rcases List.mem_cons.mp z with e | e
         · cases e; cases hk
         · exact .inl e
       · exact .inr z)
     simpa using this
   | true =>
     obtain ⟨c,hc⟩:=h (n,k) List.mem_cons_self (by simpa using hk)
     have hc:cells.lookup n=some c:=hc
     have ek:k=NameKind.free:=by simpa using hk
     subst ek
     have ha':∀ c',((n,(cells.lookup n).getD 0)::acc).lookup x=some c'->cells.lookup x=some c':=fun c' z=>by
       rw [List.lookup_cons] at z
       cases e:x == n with
       | true =>
         rw [e] at z
         have e':x=n:=by simpa using e
         rw [e',hc] at *
         simpa using z
       | false=>rw [e] at z; exact ha c' z
     obtain ⟨i1,i2⟩:=QM (cells:=cells) (x:=x) r _ hr ha'
     refine ⟨i1,fun z=>i2 ?_⟩
     by_cases e:x=n
     · right
       rw [List.lookup_cons,e]; simp
     · rcases z with z | z
       · rcases List.mem_cons.mp z with q | q
         · cases q; exact absurd rfl e
         · exact .inl q
       · right
         rw [List.lookup_cons]
         have:(x == n)=false:=by simpa using e
         rw [this]; exact z
theorem jr {x:Str} {k:NameKind}:∀ {names:List (Str×NameKind)},names.lookup x=some k->(x,k)∈names
 | [],h=>by cases h
 | (n,j)::r,h=>by
   rw [List.lookup_cons] at h
   cases e:x == n with
   | true =>
     rw [e] at h
     have e':x=n:=by simpa using e
     cases h
     rw [e']; exact List.mem_cons_self
   | false=>rw [e] at h; exact List.mem_cons_of_mem _ (jr h)
theorem qaI {scope:Scope} {env:Env} {x:Str} {k:NameKind} (h:(x,k)∈(relabel scope env).names):(x,k)∈scope.names∨(k=.cell∧(x,NameKind.free)∈scope.names):=by
 have h':(x,k)∈scope.names.map fun (n,k)=>if (k == .free && env.scope.kind == .function && env.kindOf n == some .cell) then (n,.cell) else (n,k):=h
 obtain ⟨⟨n,j⟩,hm,e⟩:=List.mem_map.mp h'
 simp only at e
 split at e
 · rename_i c
   cases e
   have:j=.free:=by
     have c1:=(Bool.and_eq_true_iff.mp (Bool.and_eq_true_iff.mp c).1).1
     simpa using c1
   subst this
   exact .inr ⟨rfl,hm⟩
 · cases e; exact .inl hm
theorem Q3 {env:Env} {x:Str} (hX:env.scope.kind=.function) (g3:env.kindOf x=some .cell):∀ {names:List (Str×NameKind)},names.lookup x=some .free ->
   (names.map fun (n,k)=>if (k == NameKind.free && env.scope.kind == .function && env.kindOf n == some .cell) then (n,NameKind.cell) else (n,k)).lookup x=some .cell
 | [],h=>by cases h
 | (n,k)::r,h=>by
   have ih:=Q3 hX g3 (names:=r)
   show List.lookup x ((if (k == NameKind.free && env.scope.kind == .function && env.kindOf n == some .cell)=true then (n,NameKind.cell) else (n,k))::_)=_
   rw [List.lookup_cons] at h
   cases e:x == n with
   | true =>
     rw [e] at h
     have e':x=n:=by simpa using e
     have ek:k=.free:=by simpa using h
     rw [ek,← e',if_pos (show (NameKind.free == NameKind.free && env.scope.kind == .function && env.kindOf x == some .cell)=true by rw [hX,g3]; decide),List.lookup_cons]
     simp
   | false =>
     rw [e] at h
     by_cases hc:(k == NameKind.free && env.scope.kind == .function && env.kindOf n == some .cell)=true
     · rw [if_pos hc,List.lookup_cons,e]; exact ih h
     · rw [if_neg hc,List.lookup_cons,e]; exact ih h
theorem CompOk.of {X:Cx} {scope:Scope} {N:List Str} {js:List (Option Nat)} (hkind:scope.kind=.function) (hcell:∀ y∈scope.names,y.2≠.cell) (hnames:∀ y∈scope.names,y.2=.local->scope.names.lookup y.1=some .local)
   (hX:X.env.scope.kind=.function) (hfree:∀ y∈scope.names,y.2=.free->X.env.kindOf y.1=some .cell∧∃ c,X.env.cells.lookup y.1=some c) (len:js.length=N.length)
   (hfr:∀ (i j:Nat) (x:Str),js[i]?=some (some j)->N[i]?=some x->X.N[j]?=some x∧scope.names.lookup x=some .free) :
   CompOk X scope N (Js X.env.cells scope.names []) js where
 clos:=qeS fun y hy z=>(hfree y hy z).2
 sub:=fun x c h=>(QM scope.names [] (fun y hy z=>(hfree y hy z).2) (fun c h=>by cases h)).1 c h
 all:=fun x h=>by
   have hm:(x,NameKind.free)∈scope.names:=by
     rcases h with h | h
     · rcases qaI (jr h) with z | ⟨_,z⟩
       · exact absurd rfl (hcell _ z)
       · exact z
     · rcases qaI (jr h) with z | ⟨e,_⟩
       · exact z
       · cases e
   have:=(QM (cells:=X.env.cells) (x:=x) scope.names [] (fun y hy z=>(hfree y hy z).2) (fun c h=>by cases h)).2 (.inl hm)
   exact Option.isSome_iff_exists.mp this
 cell:=hcell
 kind:=hkind
 names:=hnames
 len:=len
 fr:=fun i j x h1 h2=>by
   obtain ⟨g1,g2⟩:=hfr i j x h1 h2
   obtain ⟨g3,_⟩:=hfree (x,.free) (jr g2) rfl
   refine ⟨g1,g3,.inl ?_⟩
   exact Q3 hX g3 g2
def qjE (sc:Scope) (N0 N:List Str) (js:List (Option Nat)):Bool:=(js.zip N).all fun p=>match p.1 with
 | none=>true
 | some j=>N0[j]? == some p.2 && sc.names.lookup p.2 == some .free
theorem qhl {sc:Scope} {N0:List Str}:∀ {js:List (Option Nat)} {N:List Str},qjE sc N0 N js=true->∀ (i j:Nat) (x:Str),js[i]?=some (some j)->N[i]?=some x->N0[j]?=some x∧sc.names.lookup x=some .free:=by
 intro js N h i j x h1 h2
 have hm:(some j,x)∈js.zip N:=by
   refine List.mem_of_getElem? (i:=i) ?_
   rw [List.getElem?_zip_eq_some]
   exact ⟨h1,h2⟩
 have:=List.all_eq_true.mp h _ hm
 simpa using this
theorem CompOk.def {CX:CXT} {P:Program} {w:World} {K:PySem.W.Frag} {mg:Str->Option Value} {base:Heap} {N0:List Str} {qual:Str} {sc0:Scope} {f:Addr} {cd:Value} {A:Around} {outer:List Env} {s:Shared} {H:Hp} {E:XK} {scope:Scope}
   (N:List Str) (js:List (Option Nat)) (hk0:sc0.kind=.function:=by rfl) (hk:scope.kind=.function:=by rfl) (hcell:∀ y∈scope.names,y.2≠.cell:=by decide +kernel) (hnames:∀ y∈scope.names,y.2=.local->scope.names.lookup y.1=some .local:=by decide +kernel)
   (hfr0:∀ y∈scope.names,y.2=.free->sc0.names.lookup y.1=some .cell:=by decide +kernel) (len:js.length=N.length:=by rfl) (hfr:qjE scope N0 N js=true:=by decide +kernel) :
   CompOk (zv CX P w K mg base N0 qual sc0 f cd A outer s H E).nox scope N (Js (zv CX P w K mg base N0 qual sc0 f cd A outer s H E).nox.env.cells scope.names []) js :=
 CompOk.of hk hcell hnames hk0 (fun y hy z=>⟨hfr0 y hy z,Option.isSome_iff_exists.mp (PySem.W.cellsFrom_some _ _ _ (.inl (hfr0 y hy z)))⟩) len (qhl hfr)
inductive qee (K:PySem.W.Frag) (x:V) (y:V) (H:Hp) (Q:VK):Prop
 | mk (p b xs:_) (h1:x=.ref p) (h2:y=.ref b) (h3:SqL K H p xs) (h4:SqL K H b []) (h5:Q (.bl xs.isEmpty) H):qee K x y H Q
def qji (K:PySem.W.Frag):R2:=fun x y H Q=>qee K x y H Q
theorem qb5 {X:Cx} (hu:X.A.units+64 < cLine):OpR X (compareOp .Eq) (qji X.K):=by
 intro pins s σ H x y v u Q I rx ry h
 obtain ⟨p,b,xs,rfl,rfl,hp,hb,q⟩:=h
 cases rx
 cases ry
 obtain ⟨its,rv,pl,_⟩:=I.list hp
 obtain ⟨its2,rv2,pl2,_⟩:=I.list hb
 cases rv2
 have hl:=rv.length
 cases xs with
 | nil =>
   cases rv
   exact SeqAt.eq_listAt (e:=fun _=>true) pl.isList pl2.isList rfl (by omega) (fun j h1 h2=>by simp at h1) ⟨.bl true,H,I,rfl,q⟩
 | cons a r=>exact SeqAt.eq_list_lengthsAt pl.isList pl2.isList (by simp; intro z; rw [z] at hl; cases hl) (by omega) ⟨.bl false,H,I,rfl,q⟩
end L2
namespace L2
open PySem PySem.Spec PyProof.Rows
section
variable {prog:Program} {w:World} {A:Around} {E:Value->Shared->Prop} {s:Shared}
theorem qg8 {j u:Addr} {k:Nat} {xs:Array Value} {x:Value} {Q:Value->Shared->Prop} (a:s.heap.IsTupleIter j u k) (b:s.heap.IsTuple u xs) (e:xs[k]?=some x)
   (q:∀ h',h'.IsTupleIter j u (k+1)->Heap.SameBut j s.heap h'->Q x { s with heap:=h' }):wpAny (model prog w) A (Builtin.SmallTypes.nextOf (.ref j)) Q E s:=by
 obtain ⟨oj,gj,cj,dj⟩:=id a
 obtain ⟨ou,gu,_,nu,du⟩:=b
 unfold Builtin.SmallTypes.nextOf
 refine wpAny_bind (wpAny_callSpecial?_slot (name:=Str.ofString "__next__") a.typeIs F.slot_tuple_iterator_next (wpAny_call_entry F.slot_tuple_iterator_next a.typeIs F.entry_tuple_iterator_next ?_ (F.args_tuple_iterator_next_1 _)))
 show wpAny _ _ (field (.ref j) 0 >>= _) _ _ s
 refine wpAny_bind (wpAny_field gj dj (x:=.ref u) rfl ?_)
 show wpAny _ _ (if (Value.ref u == Value.none)=true then _ else _) _ _ s
 rw [if_neg (show ¬ ((Value.ref u == Value.none)=true) from Bool.false_ne_true)]
 show wpAny _ _ (field (.ref j) 1 >>= _) _ _ s
 refine wpAny_bind (wpAny_field gj dj (x:=.int k 0) rfl ?_)
 show wpAny _ _ (seqItems? (.ref u) >>= _) _ _ s
 refine wpAny_bind (wpAny_seqItems gu du ?_)
 simp only [Int.toNat_natCast,e]
 refine wpAny_bind (wpAny_setField gj dj (by simp) (wpAny_pure ⟨x,rfl,wpAny_pure (q _ ?_ (Heap.SameBut.update ..))⟩))
 refine ⟨_,Heap.get?_update_self _ gj (Obj.isFreed_of_fields (Obj.data_mapFields dj _)),(Obj.cls_mapFields ..).trans cj,?_⟩
 rw [Obj.data_mapFields dj]; simp [rawInt]
theorem qiy {j u:Addr} {k:Nat} {xs:Array Value} {Q:Value->Shared->Prop} (hd:A.handled=none) (a:s.heap.IsTupleIter j u k) (b:s.heap.IsTuple u xs) (e:xs[k]?=none)
   (q:∀ h' z,Heap.ExtBut j s.heap h'->(∃ o,h'.get? z=some o∧o.cls=.type "StopIteration")->E (.ref z) { s with heap:=h' }):wpAny (model prog w) A (Builtin.SmallTypes.nextOf (.ref j)) Q E s:=by
 obtain ⟨oj,gj,cj,dj⟩:=id a
 obtain ⟨ou,gu,_,nu,du⟩:=b
 unfold Builtin.SmallTypes.nextOf
 refine wpAny_bind (wpAny_callSpecial?_slot (name:=Str.ofString "__next__") a.typeIs F.slot_tuple_iterator_next (wpAny_call_entry F.slot_tuple_iterator_next a.typeIs F.entry_tuple_iterator_next ?_ (F.args_tuple_iterator_next_1 _)))
 show wpAny _ _ (field (.ref j) 0 >>= _) _ _ s
 refine wpAny_bind (wpAny_field gj dj (x:=.ref u) rfl ?_)
 show wpAny _ _ (if (Value.ref u == Value.none)=true then _ else _) _ _ s
 rw [if_neg (show ¬ ((Value.ref u == Value.none)=true) from Bool.false_ne_true)]
 show wpAny _ _ (field (.ref j) 1 >>= _) _ _ s
 refine wpAny_bind (wpAny_field gj dj (x:=.int k 0) rfl ?_)
 show wpAny _ _ (seqItems? (.ref u) >>= _) _ _ s
 refine wpAny_bind (wpAny_seqItems gu du ?_)
 simp only [Int.toNat_natCast,e]
 refine wpAny_bind (wpAny_rule (wpAny_bind (wpAny_setField gj dj (by simp) ?_)))
 show wpAny _ _ (newExc (.type "StopIteration") [] >>= _) _ _ { s with heap:=_ }
 refine wpAny_bind ?_
 simp only [newExc,newTuple]
 refine wpAny_bind (wpAny_newObj_type ?_ (by size_fits))
 refine wpAny_bind (m:=firstArgMember _ _) (wpAny_of_eq (a:=Value.none) (by first | rfl | (simp only [firstArgMember]; rfl)) (wpAny_newObj_type ?_ (by size_fits)))
 simp only [raiseNew]
 refine wpAny_bind (wpAny_handled ?_)
 first | rw [show A.in1.handled=none from hd] | rw [hd]
 exact wpAny_bind (wpAny_pure (wpAny_throw (q _ _ (((Heap.SameBut.update ..).extBut.push _).push _) ⟨_,Heap.get?_push_size _ rfl,rfl⟩)))
def itK:Bool->Heap->Addr->Addr->Nat->Prop
 | false,h,j,u,k=>h.IsListIter j u k
 | true,h,j,u,k=>h.IsTupleIter j u k
def sqK:Bool->Heap->Addr->Array Value->Prop
 | false,h,u,xs=>h.IsList u xs
 | true,h,u,xs=>h.IsTuple u xs
theorem itK.at {t:Bool} {h h':Heap} {j u:Addr} {k:Nat} (x:itK t h j u k) (e:∀ o,h.get? j=some o->h'.get? j=some o):itK t h' j u k:=by
 cases t with
 | false=>exact Heap.IsListIter.at x e
 | true=>obtain ⟨o,g,r⟩:=x; exact ⟨o,e o g,r⟩
theorem itK.get {t:Bool} {h:Heap} {j u:Addr} {k:Nat} (x:itK t h j u k):∃ o,h.get? j=some o∧o.data=.fields #[.ref u,.int k 0]:=by
 cases t with
 | false=>obtain ⟨o,g,_,d⟩:=x; exact ⟨o,g,d⟩
 | true=>obtain ⟨o,g,_,d⟩:=x; exact ⟨o,g,d⟩
theorem sqK.at {t:Bool} {h h':Heap} {u:Addr} {xs:Array Value} (x:sqK t h u xs) (e:∀ o,h.get? u=some o->h'.get? u=some o):sqK t h' u xs:=by
 cases t with
 | false=>exact Heap.IsList.at x e
 | true=>obtain ⟨o,g,r⟩:=x; exact ⟨o,e o g,r⟩
theorem sqK.lt {t:Bool} {h:Heap} {u:Addr} {xs:Array Value} (x:sqK t h u xs):u < h.objs.size:=by
 cases t with
 | false=>obtain ⟨o,g,_⟩:=x; exact Heap.lt_size g
 | true=>obtain ⟨o,g,_⟩:=x; exact Heap.lt_size g
theorem qcc {t:Bool} {j u:Addr} {k:Nat} {xs:Array Value} {x:Value} {Q:Value->Shared->Prop} (a:itK t s.heap j u k) (b:sqK t s.heap u xs) (e:xs[k]?=some x)
   (q:∀ h',itK t h' j u (k+1)->Heap.SameBut j s.heap h'->Q x { s with heap:=h' }):wpAny (model prog w) A (Builtin.SmallTypes.nextOf (.ref j)) Q E s:=by
 cases t with
 | false=>exact wpAny_nextOf_list_item a b e q
 | true=>exact qg8 a b e q
theorem qfO {t:Bool} {j u:Addr} {k:Nat} {xs:Array Value} {Q:Value->Shared->Prop} (hd:A.handled=none) (a:itK t s.heap j u k) (b:sqK t s.heap u xs) (e:xs[k]?=none)
   (q:∀ h' z,Heap.ExtBut j s.heap h'->(∃ o,h'.get? z=some o∧o.cls=.type "StopIteration")->E (.ref z) { s with heap:=h' }):wpAny (model prog w) A (Builtin.SmallTypes.nextOf (.ref j)) Q E s:=by
 cases t with
 | false=>exact wpAny_nextOf_list_end hd a b e q
 | true=>exact qiy hd a b e q
theorem qh2 {t:Bool} {z TI TO i1 i2 l1 l2:Addr} {k:Nat} {xs ys:Array Value} {x y a b:Value} {Q:Value->Shared->Prop} (D:ZipApart z TI TO i1 i2 l1 l2)
   (gz:IsZip s.heap z TI TO .none) (gI:IsPair s.heap TI (.ref i1) (.ref i2)) (gO:IsPair s.heap TO a b) (j1:itK t s.heap i1 l1 k) (j2:itK t s.heap i2 l2 k) (m1:sqK t s.heap l1 xs) (m2:sqK t s.heap l2 ys) (ex:xs[k]?=some x) (ey:ys[k]?=some y)
   (q:∀ h',IsZip h' z TI TO (rawInt s.heap.objs.size)->IsPair h' TO x y->itK t h' i1 l1 (k+1)->itK t h' i2 l2 (k+1)->IsPair h' s.heap.objs.size x y ->
     (∀ c o,c≠z->c≠TO->c≠i1->c≠i2->s.heap.get? c=some o->h'.get? c=some o)->Q (.ref s.heap.objs.size) { s with heap:=h' }) :
   wpAny (model prog w) A (Builtin.«zip.__next__» ⟨[.ref z],[]⟩) (fun fin s'=>∃ v,fin=.done (.ret v)∧Q v s') E s:=by
 show wpAny _ _ (field (.ref z) 2 >>= _) _ _ s
 refine wpAny_bind (wpAny_field gz rfl (x:=.bool false) rfl ?_)
 show wpAny _ _ (field (.ref z) 3 >>= _) _ _ s
 refine wpAny_bind (wpAny_field gz rfl (x:=.ref TI) rfl (wpAny_bind (wpAny_seqItems gI rfl ?_)))
 show wpAny _ _ (Builtin.SmallTypes.ownedTupleIsFree (.ref z) >>= _) _ _ s
 refine wpAny_bind ?_
 unfold Builtin.SmallTypes.ownedTupleIsFree
 refine wpAny_bind (wpAny_field gz rfl (x:=.none) rfl (wpAny_pure ?_))
 simp only [if_true]
 refine wpAny_bind (wpAny_rule (wpAny_bind (wpAny_field gz rfl (x:=.ref TO) rfl (wpAny_bind (wpAny_setField_rec gz (by simp) fun g1 z1 n1=>?_)))))
 replace z1:IsZip g1 z TI TO .ellipsis:=z1
 refine wpAny_bind ?_
 simp only [List.zipIdx_cons,List.zipIdx_nil,List.forIn_cons,List.forIn_nil]
 refine wpAny_bind (wpAny_bind (wpAny_onRaise ?_))
 show wpAny _ _ (Builtin.SmallTypes.nextOf (.ref i1) >>= _) _ _ { s with heap:=g1 }
 refine wpAny_bind (qcc (t:=t) (s:={ s with heap:=g1 }) (j1.at fun o e=>n1.extBut _ o D.i1z e) (m1.at fun o e=>n1.extBut _ o D.l1z e) ex fun g2 j12 n2=>wpAny_pure ?_)
 have O2:IsPair g2 TO a b:=n2.extBut _ _ D.TOi1 (n1.extBut _ _ D.TOz gO)
 refine wpAny_bind (wpAny_seqItems O2 rfl (wpAny_bind (wpAny_updateSeq_pair O2 fun g3 O3 n3=>?_)))
 replace O3:IsPair g3 TO x b:=O3
 refine wpAny_bind (wpAny_letGo (wpAny_pure (wpAny_bind (wpAny_bind (wpAny_onRaise ?_)))))
 show wpAny _ _ (Builtin.SmallTypes.nextOf (.ref i2) >>= _) _ _ { s with heap:=g3 }
 have k3:∀ c o,c≠z->c≠i1->c≠TO->s.heap.get? c=some o->g3.get? c=some o:=fun c o c1 c2 c3 e=>n3.extBut _ _ c3 (n2.extBut _ _ c2 (n1.extBut _ _ c1 e))
 refine wpAny_bind (qcc (t:=t) (s:={ s with heap:=g3 }) (j2.at fun o e=>k3 _ o D.i2z D.i12.symm D.TOi2.symm e) (m2.at fun o e=>k3 _ o D.l2z D.l2i1 D.l2TO e) ey fun g4 j24 n4=>wpAny_pure ?_)
 have O4:IsPair g4 TO x b:=n4.extBut _ _ D.TOi2 O3
 refine wpAny_bind (wpAny_seqItems O4 rfl (wpAny_bind (wpAny_updateSeq_pair O4 fun g5 O5 n5=>?_)))
 replace O5:IsPair g5 TO x y:=O5
 refine wpAny_bind (wpAny_letGo (wpAny_pure (wpAny_pure (wpAny_bind (wpAny_seqItems O5 rfl (wpAny_bind (wpAny_newTuple ?_)))))))
 have sz:g5.objs.size=s.heap.objs.size:=by rw [n5.1,n4.1,n3.1,n2.1,n1.1]
 have z5:IsZip g5 z TI TO .ellipsis:=n5.extBut _ _ D.TOz.symm (n4.extBut _ _ D.i2z.symm (n3.extBut _ _ D.TOz.symm (n2.extBut _ _ D.i1z.symm z1)))
 have k5:∀ c o,c≠z->c≠TO->c≠i1->c≠i2->s.heap.get? c=some o->g5.get? c=some o:=fun c o c1 c2 c3 c4 e=>n5.extBut _ _ c2 (n4.extBut _ _ c4 (k3 c o c1 c3 c2 e))
 have p1:itK t g5 i1 l1 (k+1):=((j12.at fun o e=>n3.extBut _ o D.TOi1.symm e).at fun o e=>n4.extBut _ o D.i12 e).at fun o e=>n5.extBut _ o D.TOi1.symm e
 have p2:itK t g5 i2 l2 (k+1):=j24.at fun o e=>n5.extBut _ o D.TOi2.symm e
 have lz:z < g5.objs.size:=Heap.lt_size z5
 show wpAny _ _ (Builtin.SmallTypes.ownedTupleHandOut (.ref z) (.ref g5.objs.size) >>= _) _ _ { s with heap:=_ }
 refine wpAny_bind ?_
 unfold Builtin.SmallTypes.ownedTupleHandOut
 have z6:IsZip (g5.push { cls:=.type "tuple",data:=.seq #[x,y] }) z TI TO .ellipsis:=Heap.get?_push_of_some _ z5
 refine wpAny_bind (wpAny_setField_rec z6 (by simp) fun g7 z7 n7=>?_)
 replace z7:IsZip g7 z TI TO (rawInt g5.objs.size):=z7
 refine wpAny_setField_rec z7 (by simp) fun g8 z8 n8=>?_
 replace z8:IsZip g8 z TI TO (rawInt g5.objs.size):=z8
 have up:∀ c o,c≠z->g5.get? c=some o->g8.get? c=some o:=fun c o c1 e=>n8.extBut _ _ c1 (n7.extBut _ _ c1 (Heap.get?_push_of_some _ e))
 have T8:IsPair g8 g5.objs.size x y:=n8.extBut _ _ (Nat.ne_of_gt lz) (n7.extBut _ _ (Nat.ne_of_gt lz) (Heap.get?_push_size _ rfl))
 rw [sz] at z8 T8
 refine wpAny_pure ⟨_,rfl,?_⟩
 show Q (.ref g5.objs.size) { s with heap:=g8 }
 rw [sz]
 exact q g8 z8 (up _ _ D.TOz O5) (p1.at fun o e=>up _ o D.i1z e) (p2.at fun o e=>up _ o D.i2z e) T8 fun c o c1 c2 c3 c4 e=>up c o c1 (k5 c o c1 c2 c3 c4 e)
theorem qiQ {t:Bool} {z TI TO i1 i2 l1 l2:Addr} {k:Nat} {xs ys:Array Value} {a b:Value} {Q:Fin->Shared->Prop} (hd:A.handled=none) (D:ZipApart z TI TO i1 i2 l1 l2)
   (gz:IsZip s.heap z TI TO .none) (gI:IsPair s.heap TI (.ref i1) (.ref i2)) (gO:IsPair s.heap TO a b) (j1:itK t s.heap i1 l1 k) (j2:itK t s.heap i2 l2 k) (m1:sqK t s.heap l1 xs) (m2:sqK t s.heap l2 ys) (en:xs[k]?=none∨ys[k]?=none)
   (q:∀ h' v,(∀ c o,c≠z->c≠TO->c≠i1->c≠i2->s.heap.get? c=some o->h'.get? c=some o)->(∃ o,h'.get? v=some o∧o.cls=.type "StopIteration")->E (.ref v) { s with heap:=h' }) :
   wpAny (model prog w) A (Builtin.«zip.__next__» ⟨[.ref z],[]⟩) Q E s:=by
 show wpAny _ _ (field (.ref z) 2 >>= _) _ _ s
 refine wpAny_bind (wpAny_field gz rfl (x:=.bool false) rfl ?_)
 show wpAny _ _ (field (.ref z) 3 >>= _) _ _ s
 refine wpAny_bind (wpAny_field gz rfl (x:=.ref TI) rfl (wpAny_bind (wpAny_seqItems gI rfl ?_)))
 show wpAny _ _ (Builtin.SmallTypes.ownedTupleIsFree (.ref z) >>= _) _ _ s
 refine wpAny_bind ?_
 unfold Builtin.SmallTypes.ownedTupleIsFree
 refine wpAny_bind (wpAny_field gz rfl (x:=.none) rfl (wpAny_pure ?_))
 simp only [if_true]
 refine wpAny_bind (wpAny_rule (wpAny_bind (wpAny_field gz rfl (x:=.ref TO) rfl (wpAny_bind (wpAny_setField_rec gz (by simp) fun g1 z1 n1=>?_)))))
 replace z1:IsZip g1 z TI TO .ellipsis:=z1
 refine wpAny_bind ?_
 simp only [List.zipIdx_cons,List.zipIdx_nil,List.forIn_cons,List.forIn_nil]
 refine wpAny_bind (wpAny_bind (wpAny_onRaise ?_))
 show wpAny _ _ (Builtin.SmallTypes.nextOf (.ref i1) >>= _) _ _ { s with heap:=g1 }
 have a1:itK t g1 i1 l1 k:=j1.at fun o e=>n1.extBut _ o D.i1z e
 have b1:sqK t g1 l1 xs:=m1.at fun o e=>n1.extBut _ o D.l1z e
 cases ex:xs[k]? with
 | none =>
   refine wpAny_bind (qfO (t:=t) (s:={ s with heap:=g1 }) hd a1 b1 ex fun g2 v n2 sv=>?_)
   obtain ⟨ov,gv,cv⟩:=sv
   have z2:IsZip g2 z TI TO .ellipsis:=n2 _ _ D.i1z.symm z1
   have vz:v≠z:=fun e=>by subst e; rw [z2] at gv; cases gv; simp at cv
   exact wpAny_setField_rec z2 (by simp) fun g3 _ n3=>q g3 v (fun c o c1 _ c3 _ e=>n3.extBut _ _ c1 (n2 _ _ c3 (n1.extBut _ _ c1 e))) ⟨ov,n3.extBut _ _ vz gv,cv⟩
 | some x =>
   have ey:ys[k]?=none:=en.resolve_left fun e=>by rw [ex] at e; cases e
   refine wpAny_bind (qcc (t:=t) (s:={ s with heap:=g1 }) a1 b1 ex fun g2 j12 n2=>wpAny_pure ?_)
   have O2:IsPair g2 TO a b:=n2.extBut _ _ D.TOi1 (n1.extBut _ _ D.TOz gO)
   refine wpAny_bind (wpAny_seqItems O2 rfl (wpAny_bind (wpAny_updateSeq_pair O2 fun g3 O3 n3=>?_)))
   refine wpAny_bind (wpAny_letGo (wpAny_pure (wpAny_bind (wpAny_bind (wpAny_onRaise ?_)))))
   show wpAny _ _ (Builtin.SmallTypes.nextOf (.ref i2) >>= _) _ _ { s with heap:=g3 }
   have k3:∀ c o,c≠z->c≠i1->c≠TO->s.heap.get? c=some o->g3.get? c=some o:=fun c o c1 c2 c3 e=>n3.extBut _ _ c3 (n2.extBut _ _ c2 (n1.extBut _ _ c1 e))
   refine wpAny_bind (qfO (t:=t) (s:={ s with heap:=g3 }) hd (j2.at fun o e=>k3 _ o D.i2z D.i12.symm D.TOi2.symm e) (m2.at fun o e=>k3 _ o D.l2z D.l2i1 D.l2TO e) ey fun g4 v n4 sv=>?_)
   obtain ⟨ov,gv,cv⟩:=sv
   have z4:IsZip g4 z TI TO .ellipsis:=n4 _ _ D.i2z.symm (n3.extBut _ _ D.TOz.symm (n2.extBut _ _ D.i1z.symm z1))
   have vz:v≠z:=fun e=>by subst e; rw [z4] at gv; cases gv; simp at cv
   exact wpAny_setField_rec z4 (by simp) fun g5 _ n5=>q g5 v (fun c o c1 c2 c3 c4 e=>n5.extBut _ _ c1 (n4 _ _ c4 (k3 c o c1 c3 c2 e))) ⟨ov,n5.extBut _ _ vz gv,cv⟩
theorem qgP {t:Bool} {z TI TO i1 i2 l1 l2:Addr} {k:Nat} {xs ys:Array Value} {x y a b:Value} {Q:Option Value->Shared->Prop} (D:ZipApart z TI TO i1 i2 l1 l2)
   (gz:IsZip s.heap z TI TO .none) (gI:IsPair s.heap TI (.ref i1) (.ref i2)) (gO:IsPair s.heap TO a b) (j1:itK t s.heap i1 l1 k) (j2:itK t s.heap i2 l2 k) (m1:sqK t s.heap l1 xs) (m2:sqK t s.heap l2 ys) (ex:xs[k]?=some x) (ey:ys[k]?=some y)
   (q:∀ h',IsZip h' z TI TO (rawInt s.heap.objs.size)->IsPair h' TO x y->itK t h' i1 l1 (k+1)->itK t h' i2 l2 (k+1)->IsPair h' s.heap.objs.size x y ->
     (∀ c o,c≠z->c≠TO->c≠i1->c≠i2->s.heap.get? c=some o->h'.get? c=some o)->Q (some (.ref s.heap.objs.size)) { s with heap:=h' }) :
   wpAny (model prog w) A (pyNext (.ref z)) Q E s:=by
 have T:s.TypeIs (.ref z) "zip":=⟨_,gz,rfl⟩
 unfold pyNext
 exact wpAny_bind (wpAny_attempt (wpAny_callSpecial?_slot (name:=Str.ofString "__next__") T F.slot_zip_next (wpAny_call_entry F.slot_zip_next T F.entry_zip_next
   (qh2 D gz gI gO j1 j2 m1 m2 ex ey fun h' c1 c2 c3 c4 c5 c6=>wpAny_pure (q h' c1 c2 c3 c4 c5 c6)) (F.args_zip_next_1 _))))
theorem qis {t:Bool} {z TI TO i1 i2 l1 l2:Addr} {k:Nat} {xs ys:Array Value} {a b:Value} {Q:Option Value->Shared->Prop} (hd:A.handled=none) (D:ZipApart z TI TO i1 i2 l1 l2)
   (gz:IsZip s.heap z TI TO .none) (gI:IsPair s.heap TI (.ref i1) (.ref i2)) (gO:IsPair s.heap TO a b) (j1:itK t s.heap i1 l1 k) (j2:itK t s.heap i2 l2 k) (m1:sqK t s.heap l1 xs) (m2:sqK t s.heap l2 ys) (en:xs[k]?=none∨ys[k]?=none)
   (q:∀ h',(∀ c o,c≠z->c≠TO->c≠i1->c≠i2->s.heap.get? c=some o->h'.get? c=some o)->Q none { s with heap:=h' }):wpAny (model prog w) A (pyNext (.ref z)) Q E s:=by
 have T:s.TypeIs (.ref z) "zip":=⟨_,gz,rfl⟩
 unfold pyNext
 refine wpAny_bind (wpAny_attempt (wpAny_callSpecial?_slot (name:=Str.ofString "__next__") T F.slot_zip_next (wpAny_call_entry F.slot_zip_next T F.entry_zip_next
   (qiQ hd D gz gI gO j1 j2 m1 m2 en fun h' v hk sv=>?_) (F.args_zip_next_1 _))))
 obtain ⟨o,go,co⟩:=sv
 exact wpAny_bind (wpAny_isInstance (T:="StopIteration") (b:=true) ⟨o,go,co⟩ isSubtype_stop (wpAny_pure (q _ hk)))
end
def itN:Bool->String
 | false=>"list_iterator"
 | true=>"tuple_iterator"
abbrev zk1 (t:Bool) (h:Heap) (u:Addr):Heap:=h.push { cls:=.type (itN t),data:=.fields #[.ref u,.int 0 0] }
abbrev zk3 (t:Bool) (h:Heap) (u v:Addr):Heap:=(zk1 t (zk1 t h u) v).push { cls:=.type "tuple",data:=.seq #[.ref h.objs.size,.ref (zk1 t h u).objs.size] }
abbrev zk4 (t:Bool) (h:Heap) (u v:Addr):Heap:=(zk3 t h u v).push { cls:=.type "tuple",data:=.seq #[.none,.none] }
abbrev zk5 (t:Bool) (h:Heap) (u v:Addr):Heap:=(zk4 t h u v).push { cls:=.type "zip",data:=.fields #[.none,.bool false,.bool false,.ref (zk1 t (zk1 t h u) v).objs.size,.ref (zk3 t h u v).objs.size] }
theorem qiP (t:Bool) (u v:Addr) (xs ys:Array Value):Meets (Builtin.«zip.__new__» ⟨[.type "zip",.ref u,.ref v],[]⟩) (fun _ R s=>sqK t s.heap u xs∧sqK t s.heap v ys ∧
     R (.ok (.ret (.ref (zk4 t s.heap u v).objs.size))) { s with heap:=zk5 t s.heap u v }) :=
 .of_wp fun prog w A R s h=>by
   obtain ⟨hp,g,d,tk,os⟩:=s; obtain ⟨m1,m2,h⟩:=h
   have hsub:=sub_zip
   cases t with
   | false =>
     have L1:Heap.IsList (Shared.heap ⟨hp,g,d,tk,os⟩) u xs:=m1
     have L2:Heap.IsList (Shared.heap ⟨hp.push { cls:=.type "list_iterator",data:=.fields #[.ref u,.int 0 0] },g,d,tk,os⟩) v ys:=Heap.IsList.push m2 _
     wp_walk using wpAny_pyIter_list L1,wpAny_pyIter_list L2
     exact ⟨_,rfl,h⟩
   | true =>
     have L1:Heap.IsTuple (Shared.heap ⟨hp,g,d,tk,os⟩) u xs:=m1
     have L2:Heap.IsTuple (Shared.heap ⟨hp.push { cls:=.type "tuple_iterator",data:=.fields #[.ref u,.int 0 0] },g,d,tk,os⟩) v ys:=Heap.IsTuple.push m2 _
     wp_walk using wpAny_pyIter_tuple L1,wpAny_pyIter_tuple L2
     exact ⟨_,rfl,h⟩
section
variable {prog:Program} {w:World} {A:Around} {E:Value->Shared->Prop} {s:Shared}
theorem itK.new {t:Bool} {h:Heap} {j u:Addr} (g:h.get? j=some { cls:=.type (itN t),data:=.fields #[.ref u,.int 0 0] }):itK t h j u 0:=by
 cases t with
 | false=>exact ⟨_,g,rfl,rfl⟩
 | true=>exact ⟨_,g,rfl,rfl⟩
theorem qgm {t:Bool} {u v:Addr} {xs ys:Array Value} {Q:Value->Shared->Prop} (m1:sqK t s.heap u xs) (m2:sqK t s.heap v ys)
   (q:∀ h',IsZip h' (s.heap.objs.size+4) (s.heap.objs.size+2) (s.heap.objs.size+3) .none->IsPair h' (s.heap.objs.size+2) (.ref s.heap.objs.size) (.ref (s.heap.objs.size+1)) ->
     IsPair h' (s.heap.objs.size+3) .none .none->itK t h' s.heap.objs.size u 0->itK t h' (s.heap.objs.size+1) v 0->(∀ c o,s.heap.get? c=some o->h'.get? c=some o)->Q (.ref (s.heap.objs.size+4)) { s with heap:=h' }) :
   wpAny (model prog w) A (call (.type "zip") [.ref u,.ref v]) Q E s:=by
 refine callType_new F.called_zip (by decide) (F.typeCall_zip_2 _ _) (F.newCall_zip_2 _ _) (fun obj=>F.args_object_init_3 obj _ _) F.entry_zip_new (qiP t u v xs ys) ⟨m1,m2,?_⟩
 have y1:(zk1 t s.heap u).objs.size=s.heap.objs.size+1:=Heap.size_push ..
 have y2:(zk1 t (zk1 t s.heap u) v).objs.size=s.heap.objs.size+2:=by rw [Heap.size_push,y1]
 have y3:(zk3 t s.heap u v).objs.size=s.heap.objs.size+3:=by rw [Heap.size_push,y2]
 have y4:(zk4 t s.heap u v).objs.size=s.heap.objs.size+4:=by rw [Heap.size_push,y3]
 have f5:(zk5 t s.heap u v).get? (zk4 t s.heap u v).objs.size=some _:=Heap.get?_push_size _ rfl
 have f4:(zk5 t s.heap u v).get? (zk3 t s.heap u v).objs.size=some _:=Heap.get?_push_of_some _ (Heap.get?_push_size _ rfl)
 have f3:(zk5 t s.heap u v).get? (zk1 t (zk1 t s.heap u) v).objs.size=some _:=Heap.get?_push_of_some _ (Heap.get?_push_of_some _ (Heap.get?_push_size _ rfl))
 have f2:(zk5 t s.heap u v).get? (zk1 t s.heap u).objs.size=some _:=Heap.get?_push_of_some _ (Heap.get?_push_of_some _ (Heap.get?_push_of_some _ (Heap.get?_push_size _ rfl)))
 have f1:(zk5 t s.heap u v).get? s.heap.objs.size=some _:=Heap.get?_push_of_some _ (Heap.get?_push_of_some _ (Heap.get?_push_of_some _ (Heap.get?_push_of_some _ (Heap.get?_push_size _ rfl))))
 show _∧_
 rw [y2,y3,y4] at f5
 rw [y1,y2] at f3
 rw [y3] at f4
 rw [y1] at f2
 rw [y4]
 exact ⟨⟨_,f5,rfl⟩,q _ f5 f3 f4 (.new f1) (.new f2) fun c o e=>Heap.get?_push_of_some _ (Heap.get?_push_of_some _ (Heap.get?_push_of_some _ (Heap.get?_push_of_some _ (Heap.get?_push_of_some _ e))))⟩
end
end L2
namespace L2
open PySem PySem.Spec PyProof.Rows
def SqK (K:PySem.W.Frag):Bool->Hp->Addr->List V->Prop
 | false=>SqL K
 | true=>SqT K
def Itz (K:PySem.W.Frag) (t:Bool) (a b:Addr):It :=
 ⟨fun i H=>∃ xs ys x y,SqK K t H a xs∧SqK K t H b ys∧xs[i]?=some x∧ys[i]?=some y,
  fun i H v H'=>∃ p x y,H p=none∧v=.ref p∧(∀ xs ys,SqK K t H a xs->SqK K t H b ys->xs[i]?=some x∧ys[i]?=some y)∧H'=upd H p (.tup [x,y]),
  fun i H=>∃ xs ys,SqK K t H a xs∧SqK K t H b ys∧(xs.length≤i∨ys.length≤i)⟩
section
variable {X:Cx} {pins:List (Addr×Obj)} {σ:St} {H:Hp} {s:Shared}
theorem Inv.seqK {t:Bool} {a:Addr} {xs:List V} (I:Inv X pins σ H s) (h:SqK X.K t H a xs):∃ its:List Value,Vals xs its∧sqK t s.heap a its.toArray∧xs.length≤sizeLine:=by
 cases t with
 | false =>
   obtain ⟨its,rv,p,z⟩:=I.list h
   exact ⟨its,rv,p.isList,z⟩
 | true=>exact I.tuple h
theorem Inv.seqK_inj {t:Bool} {a:Addr} {xs ys:List V} (I:Inv X pins σ H s) (h:SqK X.K t H a xs) (h':SqK X.K t H a ys):xs=ys:=by
 cases t with
 | false=>exact I.list_inj h h'
 | true=>exact I.tuple_inj h h'
end
structure ZSt (t:Bool) (z TI TO i1 i2 a b:Addr) (i:Nat) (h:Heap):Prop where
 gz:IsZip h z TI TO .none
 gI:IsPair h TI (.ref i1) (.ref i2)
 gO:∃ u v,IsPair h TO u v
 j1:itK t h i1 a i
 j2:itK t h i2 b i
theorem qgE {P:Program} {w:World} {K:PySem.W.Frag} {elts:List Expr} {k:Nat} {pos:Pos} {t:Bool} (z TI TO i1 i2 a b:Addr) (D:ZipApart z TI TO i1 i2 a b) :
   qiM P w K (.Tuple elts k pos) (Itz K t a b) [z,TI,TO,i1,i2] z (ZSt t z TI TO i1 i2 a b) where
 mem:=by simp
 obj:=fun i h st c hc=>by
   obtain ⟨gz,gI,⟨u,v,gO⟩,j1,j2⟩:=st
   simp only [List.mem_cons,List.not_mem_nil,or_false] at hc
   rcases hc with rfl | rfl | rfl | rfl | rfl
   · exact ⟨_,gz,fun v e=>by cases e⟩
   · exact ⟨_,gI,fun v e=>by cases e⟩
   · exact ⟨_,gO,fun v e=>by cases e⟩
   · obtain ⟨o,g,d⟩:=j1.get; exact ⟨o,g,fun v e=>by rw [d] at e; cases e⟩
   · obtain ⟨o,g,d⟩:=j2.get; exact ⟨o,g,fun v e=>by rw [d] at e; cases e⟩
 keep:=fun i h h' st kk=>by
   obtain ⟨gz,gI,⟨u,v,gO⟩,j1,j2⟩:=st
   exact ⟨kk z (by simp) _ gz,kk TI (by simp) _ gI,⟨u,v,kk TO (by simp) _ gO⟩,j1.at fun o e=>kk i1 (by simp) o e,j2.at fun o e=>kk i2 (by simp) o e⟩
 item:=by
   intro X hP hw hK hc i pins s σ H E I hf st hg
   subst hP hw hK
   obtain ⟨xs,ys,x,y,hq,hq2,hx,hy⟩:=hg
   obtain ⟨its,rv,p,hz⟩:=I.seqK hq
   obtain ⟨its2,rv2,p2,hz2⟩:=I.seqK hq2
   obtain ⟨u,hu,ru⟩:=rv.get hx
   obtain ⟨u2,hu2,ru2⟩:=rv2.get hy
   obtain ⟨gz,gI,⟨_,_,gO⟩,j1,j2⟩:=st
   refine qgP (t:=t) D gz gI gO j1 j2 p p2 (x:=u) (y:=u2) (by simpa using hu) (by simpa using hu2) fun h1 w1 w2 w3 w4 w5 hk=>?_
   refine ⟨_,rfl,wpAny_letOwnedTupleGo_zip (s:={ s with heap:=h1 }) w1 fun h2 gz2 hs2=>?_⟩
   have lz:z < s.heap.objs.size:=Heap.lt_size gz
   have lI:TI < s.heap.objs.size:=Heap.lt_size gI
   have lO:TO < s.heap.objs.size:=Heap.lt_size gO
   have l1:i1 < s.heap.objs.size:=by obtain ⟨o,g,_⟩:=j1.get; exact Heap.lt_size g
   have l2:i2 < s.heap.objs.size:=by obtain ⟨o,g,_⟩:=j2.get; exact Heap.lt_size g
   have T2:h2.get? s.heap.objs.size=some { cls:=.type "tuple",data:=.seq #[u,u2] }:=(hs2.2 _ (Nat.ne_of_gt lz)).trans w5
   have I1:Inv X pins σ (upd H s.heap.objs.size (.tup [x,y])) { s with heap:=h2,toks:=s.toks }:=by
     refine I.turnLaid (ch:=[z,TI,TO,i1,i2]) (fun c o hc q=>?_) hf (Nat.le_refl _) ⟨by show 2≤sizeLine; decide,[u,u2],.cons ru (.cons ru2 .nil),⟨_,T2,rfl,_,rfl⟩⟩
     have c1:c≠z:=fun e=>hc (by simp [e])
     exact (hs2.2 c c1).trans (hk c o c1 (fun e=>hc (by simp [e])) (fun e=>hc (by simp [e])) (fun e=>hc (by simp [e])) q)
   refine ⟨.ref s.heap.objs.size,_,I1,rfl,⟨_,x,y,I.hok.fresh (Nat.le_refl _),rfl,fun ys1 ys2 q1 q2=>by rw [I.seqK_inj q1 hq,I.seqK_inj q2 hq2]; exact ⟨hx,hy⟩,rfl⟩,?_,fun c hc=>?_⟩
   · exact ⟨gz2,(hs2.2 _ D.TIz).trans (hk _ _ D.TIz D.TITO D.TIi1 D.TIi2 gI),⟨_,_,(hs2.2 _ D.TOz).trans w2⟩,w3.at fun o e=>(hs2.2 _ D.i1z).trans e,w4.at fun o e=>(hs2.2 _ D.i2z).trans e⟩
   · have hcl:c < s.heap.objs.size:=by
       simp only [List.mem_cons,List.not_mem_nil,or_false] at hc
       rcases hc with rfl | rfl | rfl | rfl | rfl<;>assumption
     rw [qh (Nat.ne_of_lt hcl)]
     exact (hf c hc).1
 done:=by
   intro X hP hw hK hc i pins s σ H E I hf st hg
   subst hP hw hK
   obtain ⟨xs,ys,hq,hq2,hx⟩:=hg
   obtain ⟨its,rv,p,hz⟩:=I.seqK hq
   obtain ⟨its2,rv2,p2,hz2⟩:=I.seqK hq2
   obtain ⟨gz,gI,⟨_,_,gO⟩,j1,j2⟩:=st
   have e1:=rv.length
   have e2:=rv2.length
   refine qis (t:=t) (I.ok.hd hc) D gz gI gO j1 j2 p p2 (by simp; omega) fun h' hk=>⟨rfl,I.turnL (t':=s.toks) (ch:=[z,TI,TO,i1,i2]) (fun c o hc q=>hk c o (fun e=>hc (by simp [e])) (fun e=>hc (by simp [e])) (fun e=>hc (by simp [e])) (fun e=>hc (by simp [e])) q) hf⟩
 self:=fun _ _ _ _ _ st h=>wpAny_pyIter_zip st.gz h
theorem qgp:bootBuiltins "zip"=some (.type "zip"):=by decide +kernel
inductive qhT (K:PySem.W.Frag) (R:(It->Hp->Prop)) (vs:List V) (H1:Hp):Prop
 | mk (t a b:_) (h1:vs=[.ref a,.ref b]) (h2:(∃ xs,SqK K t H1 a xs)) (h3:(∃ ys,SqK K t H1 b ys)) (h4:R (Itz K t a b) H1):qhT K R vs H1
def qld (K:PySem.W.Frag) (ta:TA):TI:=fun σ H R=>ta σ H fun vs H1=>qhT K R vs H1
section
variable {X:Cx}
theorem qhL {e1 e2:Expr} {ta:TA} {p pos tp:Pos} {elts:List Expr} {kk:Nat} (hg:Gl X "zip") (hm:X.mg "zip"=none) (ha:PA X [e1,e2] ta) (hs:starEach [e1,e2] X.env=(false,eval e1 X.env)::starEach [e2] X.env:=by rfl)
   (hpl:(backTo pos (starEach [e2] X.env)).any (·.1)=false:=by rfl):PI X (.Tuple elts kk tp) (.Call (.Name "zip" p) [e1,e2] [] pos) (qld X.K ta):=by
 intro pins s σ H R I h
 refine Call_ (qac I hg hm qgp (PyProof.Rows.callWith_type1 (thn (ha pos pins s σ H _ I h) fun us s1 zz_=>?_) hs hpl))
 obtain ⟨vs,H1,I1,r1,q1⟩:=zz_
 obtain ⟨t,a,b,e,⟨xs,hq⟩,⟨ys,hq2⟩,q⟩:=q1
 subst e
 obtain ⟨u,v,rfl,ru,rv⟩:=qeZ r1
 cases ru
 cases rv
 obtain ⟨its,rv,pl,hz⟩:=I1.seqK hq
 obtain ⟨its2,rv2,pl2,hz2⟩:=I1.seqK hq2
 refine qgm (t:=t) pl pl2 fun h' gz gI gO j1 j2 hk=>?_
 have I2:Inv X pins σ H1 { s1 with heap:=h' }:=I1.kept (t':=s1.toks) hk
 have la:=pl.lt
 have lb:=pl2.lt
 have D:ZipApart (s1.heap.objs.size+4) (s1.heap.objs.size+2) (s1.heap.objs.size+3) s1.heap.objs.size (s1.heap.objs.size+1) a b:=by
   constructor<;>(intro h; have h':=@id (@Eq Nat _ _) h; clear h; revert la lb h'; exact fun (la:@LT.lt Nat _ _ _) (lb:@LT.lt Nat _ _ _) h'=>by omega)
 refine wpAny_pyIter_zip gz ⟨s1.heap.objs.size+4,_,_,Itz X.K t a b,H1,rfl,I2,qgE _ _ _ _ _ _ _ D,⟨gz,gI,⟨_,_,gO⟩,j1,j2⟩,fun c hc=>?_,q⟩
 have hc1:s1.heap.objs.size≤c:=by
   simp only [List.mem_cons,List.not_mem_nil,or_false] at hc
   rcases hc with rfl | rfl | rfl | rfl | rfl<;>omega
 exact I1.fpOk hc1 (I1.hok.fresh hc1)
end
theorem qex {K:PySem.W.Frag} {t:Bool} {a b:Addr} {xs ys:List V} {g:TG} {tt:TT} {te:TE} {D:Addr} {Q:VK} {σ0:St} {H0:Hp} (Pv:Nat->St->Hp->Prop) (he:xs.length=ys.length) (h0:Pv 0 σ0 H0)
   (hl:∀ i σ H,i≤xs.length->Pv i σ H->SqK K t H a xs∧SqK K t H b ys)
   (hs:∀ i x y σ H p,xs[i]?=some x->ys[i]?=some y->Pv i σ H->H p=none->g (.ref p) σ (upd H p (.tup [x,y])) fun σ3 H3=>tt σ3 H3 fun ok H4=>if ok=true then te σ3 H4 fun v H5=>∃ zs,H5 D=some (.lst zs)∧zs.length < sizeLine∧Pv (i+1) σ3 (upd H5 D (.lst (zs++[v]))) else Pv (i+1) σ3 H4)
   (hd:∀ σ H,Pv xs.length σ H->Q (.ref D) H):jv (Itz K t a b) g tt te D Q σ0 H0:=by
 refine ⟨fun i m σ H=>m=xs.length - i∧i≤xs.length∧Pv i σ H,⟨xs.length,by simp,Nat.zero_le _,h0⟩,?_⟩
 rintro i m σ H ⟨rfl,hi,p⟩
 obtain ⟨q1,q2⟩:=hl i σ H hi p
 by_cases hlt:i < xs.length
 · have hlt2:i < ys.length:=by omega
   refine .inr ⟨⟨xs,ys,xs[i],ys[i],q1,q2,by simp [hlt],by simp [hlt2]⟩,Pv (i+1),fun σ' H' p'=>⟨xs.length - (i+1),by omega,rfl,hlt,p'⟩,fun x H' y=>?_⟩
   obtain ⟨c,u,v,hn,rfl,z,rfl⟩:=y
   obtain ⟨z1,z2⟩:=z xs ys q1 q2
   exact hs i u v σ _ c z1 z2 p hn
 · have e:i=xs.length:=by omega
   subst e
   exact .inl ⟨⟨xs,ys,q1,q2,.inl (Nat.le_refl _)⟩,hd σ H p⟩
section
variable {X:Cx} {pins:List (Addr×Obj)} {σ:St} {H:Hp} {s:Shared} {A:Around} {E:Value->Shared->Prop} {Q:Value->Shared->Prop} {b:Bool}
end
end L2
namespace L2
open PySem PySem.Spec PyProof.Rows
theorem Same.put {G H:Hp} {p:Addr} (s:Same G H) (n:G p=none) (o:HO):Same G (upd H p o):=fun c u e=>by rw [qh (qi e n)]; exact s c u e
theorem Same.none {G H:Hp} {p:Addr} (s:Same G H) (n:H p=none):G p=none:=by
 cases e:G p with
 | none=>rfl
 | some o=>rw [s p o e] at n; cases n
theorem But.none {H H':Hp} {p q:Addr} (b:But p H H') (n:H' q=none) (h:q≠p):H q=none:=by
 cases e:H q with
 | none=>rfl
 | some o=>rw [b q o e h] at n; cases n
def ButL (ts:List Addr) (H H':Hp):Prop:=∀ b o,H b=some o->b∉ts->H' b=some o
theorem qbP {α:Type} {xs:List α} {x y:α} {i:Nat} (h:(xs++[x])[i]?=some y):xs[i]?=some y∨(i=xs.length∧y=x):=by
 rw [List.getElem?_append] at h
 by_cases hi:i < xs.length
 · rw [if_pos hi] at h; exact .inl h
 · rw [if_neg hi] at h
   have e:i - xs.length=0:=by
     cases n:i - xs.length with
     | zero=>rfl
     | succ k=>rw [n] at h; simp at h
   rw [e] at h
   exact .inr ⟨by omega,by simpa using h.symm⟩
def qio (K:PySem.W.Frag):List V->Hp->VK->Prop:=fun xs H Q=>∃ p ys,xs=[.ref p]∧(SqL K H p ys∨SqT K H p ys)∧∀ l,H l=none->Q (.ref l) (upd H l (.lst ys))
end L2
namespace L2
open PySem PySem.Spec PyProof.Rows
section
variable {X:Cx}
theorem qbZ {i:Nat} {x:Str} {pos' pos:Pos} {elt iter tg:Expr} {ifs:List Expr} {scope:Scope} {cpos:Pos} {wi:TI} {g:TG} {tt:TT} {te:TE} {N:List Str} {cl:List (Str×Addr)} {js:List (Option Nat)} (hN:X.N.Nodup) (hi0:X.N[i]?=some x) (hx:Loc X.env.scope x)
   (hc:X.calm=true) (k:CompOk X scope N cl js) (hi:PI X tg iter wi)
   (hg:∀ C s₀ H₀ ex pn,PG (zu X scope N cl C s₀ H₀ ex pn) tg g) (ht:∀ C s₀ H₀ ex pn,PTs (zu X scope N cl C s₀ H₀ ex pn) ifs tt) (he:∀ C s₀ H₀ ex pn,PE (zu X scope N cl C s₀ H₀ ex pn) elt te)
   (hsw:swapsWith (.ListComp elt [⟨tg,iter,ifs,0⟩] scope cpos) (some (.Name x pos')) pos.line X.env=pure true:=by rfl)
   (hf:X.fn x=true∨X.env.scope.names.lookup x=some .local:=by first | exact .inl rfl | exact .inr rfl | assumption)
   (hs:∀ x,foldedSetIterable iter X.env x=pure x:=by intro _; rfl) :
   PS X (.Assign [.Name x pos'] (.ListComp elt [⟨tg,iter,ifs,0⟩] scope cpos) pos) (qjR (qi9 wi g tt te js) (qhk i)):=by
 intro pins s σ H D0 I h
 rw [exec_Assign_Name_used _ _ _ _ hsw]
 refine wpAny_bind (wpAny_standAt (wpAny_bind ?_))
 show wpAny _ X.A (do let _ ← comprehension (.ListComp elt [⟨tg,iter,ifs,0⟩] scope cpos) scope X.env _ (newList []) false (eval iter X.env) (some (assign (.Name x pos') X.env))) _ _ s
 refine wpAny_bind (wpAny_mono (wpAny_comprehension_free (use:=some (assign (.Name x pos') X.env)) (Q:=fun _ s'=>∃ σ' H',Inv X pins σ' H' s'∧D0.nx σ' H') rfl hs k.clos k.kind k.names ?_) (fun _ s' hq=>wpAny_pure (wpAny_pure hq)) fun _ _ e=>e)
 refine thn (hi pins s σ H _ I h) fun v s1 h1=>thn h1 fun itv s2 h2=>?_
 obtain ⟨it,fp,tn,J,H2,e,I2,T,st2,f2,hD⟩:=h2
 subst e
 refine wpAny_newObj_type (wpAny_newFunctionEnv k.cell (by intro y hy; simp at hy) (fun h₁ hns₁ hsb₁=>?_) k.kind)
 dsimp only at hns₁ hsb₁ ⊢
 generalize hH2:s2.heap.push { cls:=.type "list",dict:=none,data:=.seq ([]:List Value).toArray }=P2 at hns₁ hsb₁ ⊢
 have hC:P2.objs.size=s2.heap.objs.size+1:=by rw [← hH2,Heap.size_push]
 have hDC:s2.heap.objs.size≠P2.objs.size:=by rw [hC]; exact Nat.ne_of_lt (Nat.lt_succ_self _)
 have hCle:s2.heap.objs.size≤P2.objs.size:=by rw [hC]; exact Nat.le_succ _
 have old:∀ b o,s2.heap.get? b=some o->h₁.get? b=some o:=fun b o e=>hsb₁.extBut b o (Nat.ne_of_lt (Nat.lt_of_lt_of_le (Heap.lt_size e) hCle)) (Heap.get?_push_of_some _ (hH2▸Heap.get?_push_of_some _ e))
 have hacc:h₁.get? s2.heap.objs.size=some { cls:=.type "list",data:=.seq ([]:List Value).toArray }:=hsb₁.extBut _ _ hDC (Heap.get?_push_of_some _ (hH2▸Heap.get?_push_size _ rfl))
 have hfl:∀ b∈fp,b < s2.heap.objs.size:=fun b hb=>by
   obtain ⟨o,e,_⟩:=T.obj _ _ st2 b hb
   exact Heap.lt_size e
 have fD:H2 s2.heap.objs.size=none:=I2.hok.fresh (Nat.le_refl _)
 obtain ⟨W,⟨m0,w0⟩,turn⟩:=hD _ fD
 have IX:Inv (zu X scope N cl P2.objs.size s2 H2 fp (X.pn++pins)) [] (st0 js σ) (upd H2 s2.heap.objs.size (.lst [])) { s2 with heap:=h₁,toks:=s2.toks+([]:List (Str×Value)).length } :=
   qey k I2 f2 hfl (Nat.le_refl _) hCle hDC hns₁ hacc old
 have hg':=hg P2.objs.size s2 H2 fp (X.pn++pins)
 have ht':=ht P2.objs.size s2 H2 fp (X.pn++pins)
 have he':=he P2.objs.size s2 H2 fp (X.pn++pins)
 have stat:∀ {H':Hp},(∀ b∈fp,H' b=none)->∀ b∈fp,qeU (zu X scope N cl P2.objs.size s2 H2 fp (X.pn++pins)) [] H' b:=fun hn b hb=>by
   obtain ⟨g0,g1,g2,g3,g4,g5⟩:=f2 b hb
   refine ⟨hn b hb,Nat.ne_of_lt (Nat.lt_of_lt_of_le (hfl b hb) hCle),fun z=>?_,.inl hb,fun x c h=>g4 x c (k.sub _ _ h),fun p hp=>g5 p (by simpa [zu] using hp)⟩
   rcases List.mem_cons.mp (I2.stkSub b z) with e | e
   · exact g1 e
   · exact g2 e
 have loop:∀ s₃:Shared,s₃={ s2 with heap:=h₁,toks:=s2.toks+([]:List (Str×Value)).length } ->
     codeAny (model X.prog X.w) X.A (.compLoop (.ListComp elt [⟨tg,iter,ifs,0⟩] scope cpos) 0 (.ref it) (.ref s2.heap.objs.size) (compEnvC scope cl P2.objs.size X.env))
       (compPost (model X.prog X.w) X.A X.xe (some (assign (.Name x pos') X.env)) (fun _ s'=>∃ σ' H',Inv X pins σ' H' s'∧D0.nx σ' H') (.ref s2.heap.objs.size) P2.objs.size) s₃:=by
   rintro s₃ rfl
   refine qa7 (fun n s'=>∃ i σ' H',Inv (zu X scope N cl P2.objs.size s2 H2 fp (X.pn++pins)) [] σ' H' s'∧tn i s'.heap∧(∀ b∈fp,H' b=none)∧W i n σ' H') ?_ m0
     ⟨0,st0 js σ,_,IX,T.keep _ _ _ st2 (fun b hb o e=>old b o e),fun b hb=>by rw [qh (Nat.ne_of_lt (hfl b hb))]; exact (f2 b hb).1,w0⟩
   rintro n s3 ⟨i,σ3,H3,I3,st3,fr3,w3⟩
   rcases turn i n σ3 H3 w3 with ⟨stop,qn⟩ | ⟨go,N2,hN,step⟩
   · refine thn (T.done (zu X scope N cl P2.objs.size s2 H2 fp (X.pn++pins)) rfl rfl rfl hc i [] s3 σ3 H3 noE I3 (stat fr3) st3 stop) fun r s4 ⟨hr,I4⟩=>?_
     subst hr
     obtain ⟨m4,hn4,_⟩:=id I4.loc
     have u4:Un (frs X.stack) fp H2 H3 s2.heap s4.heap:=I4.base
     have fC:H3 P2.objs.size=none:=I4.free
     have I6:Inv X pins σ H3 s4:=I2.call' (s':=s4) I4.os u4 I4.hok I4.bare fun b hb=>by
       obtain ⟨g0,g1,g2,g3,g4,g5⟩:=f2 b hb
       exact ⟨g3,g1,g4,g5⟩
     have fpC:qeU X pins H3 P2.objs.size:=I2.fpOk hCle fC
     have hn4':s4.heap.Ns P2.objs.size m4:=hn4
     obtain ⟨oC,esC,epC,gC,rC⟩:=id hn4'
     have I7:=I6.pinned (fp:=[P2.objs.size]) (fun b hb=>by rw [show b=P2.objs.size by simpa using hb]; exact fpC) (fun b hb=>⟨oC,by rw [show b=P2.objs.size by simpa using hb]; exact gC,fun v z=>by rw [rC.1] at z; cases z⟩)
     show wpAny _ X.A (assign (.Name x pos') X.env (.ref s2.heap.objs.size)) _ _ s4
     refine wpAny_assign_Name (qao I7 hN hi0 hx (v:=.ref s2.heap.objs.size) rfl (fun s5 I8=>?_) hf)
     have g5:=(I8.pin (P2.objs.size,oC) (List.mem_append_right _ (List.mem_append_right _ (Qz (by simp) gC)))).1
     refine ⟨m4,hn4'.at' (fun o e=>by rw [gC] at e; cases e; exact g5),fun h' hsb=>⟨_,H3,?_,qn⟩⟩
     exact I8.unpinned.turnL (t':=s5.toks) (ch:=[P2.objs.size]) (fun b o hb e=>hsb.extBut b o (fun z=>hb (by simp [z])) e) (fun b hb=>by rw [show b=P2.objs.size by simpa using hb]; exact fpC)
   · refine thn (T.item (zu X scope N cl P2.objs.size s2 H2 fp (X.pn++pins)) rfl rfl rfl hc i [] s3 σ3 H3 noE I3 (stat fr3) st3 go) fun r s4 ⟨u,hr,h4⟩=>?_
     subst hr
     refine thn h4 fun _ s5 zz_=>?_
     obtain ⟨x,H5,I5,r5,y5,st5,fr5⟩:=zz_
     have I5':=I5.pinned (stat fr5) (T.obj _ _ st5)
     refine thn (hg' _ s5 σ3 H5 x u _ I5' r5 (step x H5 y5)) fun _ s6 zz_=>?_
     obtain ⟨σ6,H6,I6,q6⟩:=zz_
     refine thn (ht' _ s6 σ6 H6 _ I6 q6) fun ok s7 zz_=>?_
     obtain ⟨H7,I7,q7⟩:=zz_
     have again:∀ {s8:Shared} {σ8:St} {H8:Hp},Inv (zu X scope N cl P2.objs.size s2 H2 fp (X.pn++pins)) ([]++qby fp s5.heap) σ8 H8 s8->N2 σ8 H8 ->
         ∃ m,m < n∧∃ i σ' H',Inv (zu X scope N cl P2.objs.size s2 H2 fp (X.pn++pins)) [] σ' H' s8∧tn i s8.heap∧(∀ b∈fp,H' b=none)∧W i m σ' H':=fun {s8 σ8 H8} I8 n8=>by
       obtain ⟨m',hm,w8⟩:=hN σ8 H8 n8
       refine ⟨m',hm,i+1,σ8,H8,I8.unpinned,T.keep _ _ _ st5 fun b hb o e=>(I8.pin (b,o) (List.mem_append_right _ (List.mem_append_right _ (Qz hb e)))).1,fun b hb=>?_,w8⟩
       obtain ⟨o,e,d⟩:=T.obj _ _ st5 b hb
       exact (I8.pin (b,o) (List.mem_append_right _ (List.mem_append_right _ (Qz hb e)))).2.1
     cases ok with
     | false=>exact again I7 (by simpa using q7)
     | true =>
       have q7':te σ6 H7 fun y H5=>∃ ys,H5 s2.heap.objs.size=some (.lst ys)∧ys.length < sizeLine∧N2 σ6 (upd H5 s2.heap.objs.size (.lst (ys++[y]))):=by simpa using q7
       refine thn (he' _ s7 σ6 H7 _ I7 q7') fun xv s8 zz_=>?_
       obtain ⟨y,H8,I8,r8,ys,hy,hlen,n8⟩:=zz_
       refine thn (zK (X:=zu X scope N cl P2.objs.size s2 H2 fp (X.pn++pins)) _ s8 σ6 H8 (.ref s2.heap.objs.size) [y] (.ref s2.heap.objs.size) [xv] (fun _ H9=>N2 σ6 H9) I8 rfl (.cons r8 .nil) ⟨_,ys,y,rfl,rfl,hy,hlen,n8⟩) fun _ s9 ⟨_,H9,I9,_,n9⟩=>again I9 n9
 exact codeAny_compStart_list (loop _ rfl) (T.self _ 0 _ _ _ (T.keep _ _ _ st2 (fun b hb o e=>old b o e)) (loop _ rfl))
end
end L2
namespace L2
open PySem PySem.Spec PyProof.Rows
section
variable {prog:Program} {w:World} {A:Around} {E:Value->Shared->Prop}
end
end L2
namespace L2
open PySem PySem.Spec PyProof.Rows
end L2
namespace L2
open PySem PySem.Spec PyProof.Rows
theorem QC {t u:TS} {D:qeW} {σ:St} {H:Hp} (Post:St->Hp->Prop) (h1:∀ N:St->Hp->Prop,(∀ σ' H',Post σ' H'->N σ' H')->t { D with nx:=N } σ H) (h2:∀ σ' H',Post σ' H'->u D σ' H'):qj2 t u D σ H:=h1 (u D) h2
inductive qgw (H:Hp) (p:Addr):Prop
 | mk (c x y:Int) (h1:0≤c) (h2:H p=some (.lst [.int c,.int x,.int y])):qgw H p
def PenAt (H:Hp) (p:Addr):Prop:=qgw H p
theorem PenAt.ne {H:Hp} {p q:Addr} (h:PenAt H p) (hq:H q=none):q≠p:=by
 obtain ⟨c,x,y,_,e⟩:=h
 exact (qi e hq).symm
theorem PenAt.upd {H:Hp} {p q:Addr} (h:PenAt H p) (n:q≠p) (o:HO):PenAt (L2.upd H q o) p:=by
 obtain ⟨c,x,y,k,e⟩:=h
 exact ⟨c,x,y,k,by rw [qh n.symm]; exact e⟩
inductive qjL {β:Type} (f:β->List V) (H:Hp) (ps:List β) (i:Nat) (z:V):Prop
 | mk (p:β) (t:Addr) (h1:ps[i]?=some p) (h2:z=.ref t) (h3:H t=some (.tup (f p))):qjL f H ps i z
inductive qjM {β:Type} (f:β->List V) (H:Hp) (zs:List V) (i:Nat) (p:β):Prop
 | mk (t:Addr) (h1:zs[i]?=some (.ref t)) (h2:H t=some (.tup (f p))):qjM f H zs i p
def TupL {β:Type} (f:β->List V) (H:Hp) (zs:List V) (ps:List β):Prop:=zs.length=ps.length∧∀ (i:Nat) z p,zs[i]?=some z->ps[i]?=some p->∃ t,z=.ref t∧H t=some (.tup (f p))
section
variable {β:Type} {f:β->List V} {H H':Hp} {zs:List V} {ps:List β}
theorem TupL.nil:TupL f H [] []:=⟨rfl,fun i z p e=>by simp at e⟩
theorem TupL.same (h:TupL f H zs ps) (s:Same H H'):TupL f H' zs ps:=⟨h.1,fun i z p e1 e2=>by
 obtain ⟨t,e,q⟩:=h.2 i z p e1 e2
 exact ⟨t,e,s _ _ q⟩⟩
theorem TupL.put {q:Addr} {xs ys:List V} (h:TupL f H zs ps) (hq:H q=some (.lst xs)):TupL f (upd H q (.lst ys)) zs ps:=⟨h.1,fun i z y e1 e2=>by
 obtain ⟨t,e,r⟩:=h.2 i z y e1 e2
 exact ⟨t,e,by rw [qh (zi r hq (by intro z; cases z))]; exact r⟩⟩
theorem TupL.snoc {t:Addr} {p:β} (h:TupL f H zs ps) (q:H t=some (.tup (f p))):TupL f H (zs++[.ref t]) (ps++[p]):=⟨by rw [List.length_append,List.length_append,h.1]; rfl,fun i z y e1 e2=>by
 rcases qbP e1 with e | ⟨ei,e⟩
 · rcases qbP e2 with e' | ⟨ei',_⟩
   · exact h.2 i z y e e'
   · have:=(List.getElem?_eq_some_iff.mp e).1
     rw [ei',← h.1] at this
     exact absurd this (Nat.lt_irrefl _)
 · rcases qbP e2 with e' | ⟨_,e'⟩
   · have:=(List.getElem?_eq_some_iff.mp e').1
     rw [ei,h.1] at this
     exact absurd this (Nat.lt_irrefl _)
   · exact ⟨t,e,e'▸q⟩⟩
theorem TupL.at_ (h:TupL f H zs ps) {i:Nat} {p:β} (e:ps[i]?=some p):qjM f H zs i p:=by
 have hi:i < zs.length:=by rw [h.1]; exact (List.getElem?_eq_some_iff.mp e).1
 obtain ⟨t,et,q⟩:=h.2 i _ p (List.getElem?_eq_getElem hi) e
 exact ⟨t,by rw [List.getElem?_eq_getElem hi,et],q⟩
theorem TupL.of (h:TupL f H zs ps) {i:Nat} {z:V} (e:zs[i]?=some z):qjL f H ps i z:=by
 have hi:i < ps.length:=by rw [← h.1]; exact (List.getElem?_eq_some_iff.mp e).1
 obtain ⟨t,et,q⟩:=h.2 i z _ e (List.getElem?_eq_getElem hi)
 exact ⟨_,t,List.getElem?_eq_getElem hi,et,q⟩
end
theorem qgc {H:Hp}:∀ (ns:List Int),DVs H (ns.map V.int) (ns.map PyData.int)
 | []=>.nil
 | n::r=>.cons (.int n) (qgc r)
theorem qeo:∀ (ns:List Int),PyData.canLayAll0 (ns.map PyData.int)=true∧PyData.depthAll (ns.map PyData.int)≤1
 | []=>⟨rfl,by simp [PyData.depthAll]⟩
 | n::r=>by
   obtain ⟨h1,h2⟩:=qeo r
   refine ⟨by simp [PyData.canLayAll0,PyData.canLay0,h1],?_⟩
   simp only [List.map_cons,PyData.depthAll,PyData.depth]; omega
theorem qgb {β:Type} {g:β->List Int} {H:Hp}:∀ {zs:List V} {ps:List β},TupL (fun p=>(g p).map V.int) H zs ps->DVs H zs (ps.map fun p=>PyData.tuple ((g p).map PyData.int))
 | [],[],_=>.nil
 | z::zs,p::ps,h=>by
   obtain ⟨t,e,q⟩:=h.2 0 z p rfl rfl
   subst e
   refine .cons (.tup (.inl q) (qgc _)) (qgb ⟨by simpa using h.1,fun i z p e1 e2=>h.2 (i+1) z p (by simpa using e1) (by simpa using e2)⟩)
 | [],_::_,h=>by simp [TupL] at h
 | _::_,[],h=>by simp [TupL] at h
theorem qen {β:Type} {g:β->List Int}:∀ (ps:List β),PyData.canLayAll0 (ps.map fun p=>PyData.tuple ((g p).map PyData.int))=true∧PyData.depthAll (ps.map fun p=>PyData.tuple ((g p).map PyData.int))≤2
 | []=>⟨rfl,by simp [PyData.depthAll]⟩
 | p::r=>by
   obtain ⟨h1,h2⟩:=qen (g:=g) r
   obtain ⟨h3,h4⟩:=qeo (g p)
   refine ⟨?_,?_⟩
   · simp only [List.map_cons,PyData.canLayAll0,PyData.canLay0,h1,h3]; rfl
   · simp only [List.map_cons,PyData.depthAll,PyData.depth]; omega
end L2
namespace L2
open PySem PySem.Spec PyProof.Rows PySem.Builtin.Str PySem.NumText
section
variable {X:Cx}
end
theorem qie {x y:Str} (h:x.cps.toList=y.cps.toList):x=y:=by
 obtain ⟨a⟩:=x; obtain ⟨b⟩:=y
 have:a=b:=by
   have:=congrArg List.toArray h
   simpa using this
 rw [this]
end L2
namespace L2
open PySem PySem.Spec PyProof.Rows PySem.Builtin PySem.Builtin.Str PySem.NumText
section
variable {X:Cx}
end
end L2
namespace KC
open PySem L2 PySem.NumText PyProof.Rows
theorem jM {xs:List V} {i:Int} (h0:0≤i) (h1:i < xs.length):∃ v,atI xs i=some v∧v∈xs:=by
 obtain ⟨n,rfl⟩:=Int.eq_ofNat_of_zero_le h0
 have hn:n < xs.length:=by omega
 exact ⟨xs[n],QA (List.getElem?_eq_getElem hn),List.getElem_mem hn⟩
section
variable {c:Nat} {a r:List Nat}
end
end KC
namespace KC
open PySem L2 PySem.NumText PyProof.Rows
section
variable (n:Int) {q:Nat} (lo hi:Int)
end
end KC
namespace KC
open PySem L2 PySem.NumText PyProof.Rows
end KC
namespace KC
open PySem L2 PySem.NumText PyProof.Rows PySem.Builtin PySem.Builtin.Str
end KC
namespace L2
open PySem PySem.Spec PyProof.Rows
def ExO (ea C:Addr) (dx:Option Addr) (tb:Value):Heap->Prop:=fun h =>
 ∃ o vs,h.get? ea=some o∧o.cls=.ref C∧o.dict=dx∧o.data=.fields vs∧vs.size=6∧vs[1]?=some tb
def TbO (T:Addr):Heap->Prop:=fun h=>∃ o ts,h.get? T=some o∧o.data=.fields ts∧ts[3]?=some Value.none
def XAt (H:Hp) (ea C:Addr) (dx:Option Addr):Prop :=
 ∃ tb,H ea=some (.ext (ExO ea C dx tb))∧(tb=.none∨∃ T,tb=.ref T∧H T=some (.ext (TbO T))∧T≠ea)
theorem qet {P:Program} {w:World} {H:Hp} {h:Heap} {ea C:Addr} {dx:Option Addr} {tb:Value} (x:ExO ea C dx tb h):ObjOk P w H h ea (.ext (ExO ea C dx tb)):=by
 obtain ⟨o,vs,e,r⟩:=id x
 exact ⟨x,⟨o,e⟩,fun h1 h2 ⟨o',vs',e',r'⟩ k=>⟨o',vs',k _ e',r'⟩⟩
theorem qiX {P:Program} {w:World} {H:Hp} {h:Heap} {T:Addr} (x:TbO T h):ObjOk P w H h T (.ext (TbO T)):=by
 obtain ⟨o,vs,e,r⟩:=id x
 exact ⟨x,⟨o,e⟩,fun h1 h2 ⟨o',vs',e',r'⟩ k=>⟨o',vs',k _ e',r'⟩⟩
section
variable {M:Model} {A:Around} {E:Value->Shared->Prop} {s:Shared}
structure qgx (L:List Addr) (e:Addr) (oe:Obj) (h h':Heap) (T:Addr) (fl:Value):Prop where
 new:T=h.objs.size
 keep:∀ b o,b≠e->b∉L->h.get? b=some o->h'.get? b=some o
 slot:∀ b o,b≠e->h.get? b=some o->∃ sl,h'.get? b=some { o with slots:=sl }
 exc:h'.get? e=some (oe.mapFields (·.setIfInBounds 1 (.ref T)))
 tb:∃ oT ts,h'.get? T=some oT∧oT.data=.fields ts∧ts[3]?=some fl
theorem qbF {base:Heap} {env:Env} {outer:List Env} {L e:Addr} {oe:Obj} {vs:Array Value} {head:Value} {hadNext:Bool} {Q:Unit->Shared->Prop}
   (hfr:A.frames=some (env::outer)) (hl:s.heap.FunFrames base (env::outer)) (hf:env.frame=some L)
   (he:s.heap.get? e=some oe) (hd:oe.data=.fields vs) (hsz:1 < vs.size)
   (h:∀ h' T,qgx (frs (env::outer)) e oe s.heap h' T (rawInt L)->Q () { s with heap:=h' }) :
   wpAny M A (do
     let a ← frameOf env
     let pl ← entryPlaceOf L hadNext
     let b ← EntryCells.newEntry head a .none (rawInt L) .none pl
     setField (.ref e) 1 b) Q E s:=by
 have hene:e∉(env::outer).filterMap (·.frame):=fun hm=>by
   obtain ⟨_,o,ho,hnf⟩:=hl.mem hm
   rw [he] at ho
   cases ho
   exact hnf vs hd
 refine wpAny_bind (wpAny_frameOf_fun hfr hl hf fun g1 hs1=>?_)
 refine wpAny_bind (wpAny_entryPlaceOf fun pl hpl=>?_)
 unfold EntryCells.newEntry newFields
 refine wpAny_bind (wpAny_newObj_type ?_ (hpl.sizeOk5 _ _ _ _ _))
 have he1:g1.get? e=some oe:=(hs1.2.1 e hene).trans he
 generalize hob:({ cls:=.type "traceback",dict:=none,data:=.fields ([head,.ref L,.none,rawInt L,.none]++(if pl.isEmpty then List.replicate 6 Value.none else pl)).toArray }:Obj)=ob
 have hobd:ob.data=.fields ([head,.ref L,.none,rawInt L,.none]++(if pl.isEmpty then List.replicate 6 Value.none else pl)).toArray:=by rw [← hob]
 have hof:ob.isFreed=false:=by rw [← hob]; rfl
 have he2:=Heap.get?_push_of_some (h:=g1) ob he1
 refine wpAny_setField he2 hd hsz (h _ g1.objs.size ?_)
 have hTe:g1.objs.size≠e:=Nat.ne_of_gt (Heap.lt_size he1)
 have hd3:=Obj.data_mapFields hd (·.setIfInBounds 1 (Value.ref g1.objs.size))
 have keep:∀ b o,b≠e->g1.get? b=some o->((g1.push ob).update e (Obj.mapFields (·.setIfInBounds 1 (Value.ref g1.objs.size)))).get? b=some o:=fun b o hbe hb=>by
   rw [Heap.get?_update_other _ _ (Ne.symm hbe)]
   exact Heap.get?_push_of_some _ hb
 refine ⟨hs1.1,fun b o hbe hbL hb=>keep b o hbe ((hs1.2.1 b hbL).trans hb),fun b o hbe hb=>?_,Heap.get?_update_self _ he2 (Obj.isFreed_of_fields hd3),ob,_,?_,hobd,?_⟩
 · obtain ⟨sl,q⟩:=hs1.2.2 b o hb
   exact ⟨sl,keep b _ hbe q⟩
 · rw [Heap.get?_update_other _ _ (Ne.symm hTe)]
   exact Heap.get?_push_size g1 hof
 · simp
theorem qfP {base:Heap} {env:Env} {outer:List Env} {L e:Addr} {oe:Obj} {vs:Array Value} {tb:Value} {Q:Unit->Shared->Prop}
   (hfr:A.frames=some (env::outer)) (hl:s.heap.FunFrames base (env::outer)) (hf:env.frame=some L)
   (he:s.heap.get? e=some oe) (hd:oe.data=.fields vs) (h1:vs[1]?=some tb) (ht:tb=.none∨∃ T,tb=.ref T∧TbO T s.heap)
   (h:∀ h' T,qgx (frs (env::outer)) e oe s.heap h' T (rawInt L)->Q () { s with heap:=h' }):wpAny M A (noteFrame (.ref e) env) Q E s:=by
 unfold noteFrame
 simp only [hf]
 refine wpAny_bind (wpAny_field he hd h1 ?_)
 have hsz:=(Array.getElem?_eq_some_iff.mp h1).1
 rcases ht with rfl | ⟨T,rfl,oT,ts,hT,hdT,h3⟩
 · rw [if_neg (by decide)]
   exact qbF hfr hl hf he hd hsz h
 · rw [if_pos (show (Value.ref T != Value.none)=true from by simp)]
   refine wpAny_bind (wpAny_field hT hdT h3 ?_)
   rw [if_neg (show ¬ ((Value.none == rawInt L)=true) from by simp [rawInt])]
   refine wpAny_bind (wpAny_setField hT hdT (Array.getElem?_eq_some_iff.mp h3).1 ?_)
   rw [Heap.update_setField_same s.heap T oT ts 3 Value.none hT hdT h3]
   exact qbF hfr hl hf he hd hsz h
theorem qfW {base:Heap} {env:Env} {outer:List Env} {L e:Addr} {oe:Obj} {vs:Array Value} {tb:Value} {Q:Unit->Shared->Prop}
   (hfr:A.frames=some (env::outer)) (hl:s.heap.FunFrames base (env::outer)) (hf:env.frame=some L)
   (he:s.heap.get? e=some oe) (hd:oe.data=.fields vs) (h1:vs[1]?=some tb) (ht:tb=.none∨∃ T,tb=.ref T∧TbO T s.heap)
   (h:∀ h' T,qgx (frs (env::outer)) e oe s.heap h' T .none->Q () { s with heap:=h' }) :
   wpAny M A (noteFrame (.ref e) env) (fun _ s2=>wpAny M A (setFlight (.ref e) none) Q E s2) E s:=by
 refine qfP hfr hl hf he hd h1 ht fun h' T K=>?_
 obtain ⟨k1,k2,k3,k4,oT,ts,k5,k6,k7⟩:=K
 have hsz:=(Array.getElem?_eq_some_iff.mp h1).1
 have h3:3 < ts.size:=(Array.getElem?_eq_some_iff.mp k7).1
 have hTe:e≠T:=by rw [k1]; exact Nat.ne_of_lt (Heap.lt_size he)
 unfold setFlight
 refine wpAny_bind (wpAny_field k4 (Obj.data_mapFields hd _) (x:=.ref T) (by simp [hsz]) ?_)
 rw [if_pos (show (Value.ref T != Value.none)=true from by simp)]
 refine wpAny_setField k5 k6 h3 (h _ T ⟨k1,fun b o hbe hbL hb=>?_,fun b o hbe hb=>?_,?_,_,_,Heap.get?_update_self _ k5 (Obj.isFreed_of_fields (Obj.data_mapFields k6 _)),Obj.data_mapFields k6 _,by simp [h3]⟩)
 · have:T≠b:=by rw [k1]; exact Nat.ne_of_gt (Heap.lt_size hb)
   rw [Heap.get?_update_other _ _ this]; exact k2 b o hbe hbL hb
 · have:T≠b:=by rw [k1]; exact Nat.ne_of_gt (Heap.lt_size hb)
   rw [Heap.get?_update_other _ _ this]; exact k3 b o hbe hb
 · rw [Heap.get?_update_other _ _ (Ne.symm hTe)]; exact k4
end
section
variable {X:Cx} {pins:List (Addr×Obj)} {σ:St} {H:Hp} {s:Shared} {ea C:Addr} {dx:Option Addr}
def ZN (H:Hp) (ea C:Addr) (dx:Option Addr) (T:Addr):Hp:=upd (upd H ea (.ext (ExO ea C dx (.ref T)))) T (.ext (TbO T))
theorem qaW {T:Addr} {b:Addr} {o:HO} (hT:H T=none) (hb:b≠ea) (e:H b=some o):ZN H ea C dx T b=some o:=by
 unfold ZN
 rw [qh (qi e hT),qh hb]
 exact e
theorem qfX {T:Addr} (hT:H T=none) (hne:T≠ea):XAt (ZN H ea C dx T) ea C dx:=by
 refine ⟨.ref T,?_,.inr ⟨T,rfl,?_,hne⟩⟩
 · unfold ZN
   rw [qh (Ne.symm hne),qc]
 · unfold ZN
   rw [qc]
theorem qfV {M:Model} {A:Around} {E:Value->Shared->Prop} {Q:Unit->Shared->Prop} (I:Inv X pins σ H s) (hst:X.stack=X.env::X.outer) (hf:X.env.frame=some X.env.locals) (hfr:A.frames=some X.stack) (x:XAt H ea C dx)
   (h:∀ s' T,H T=none->T≠ea->Inv X pins σ (ZN H ea C dx T) s'->Q () s') :
   wpAny M A (noteFrame (.ref ea) X.env) (fun _ s2=>wpAny M A (setFlight (.ref ea) none) Q E s2) E s:=by
 obtain ⟨tb,e1,e2⟩:=x
 obtain ⟨⟨oe,vs,he,hc,hdx,hd,hz,h1⟩,_,_⟩:=(show ObjOk X.prog X.w H s.heap ea (.ext (ExO ea C dx tb)) from I.hok ea _ e1)
 have ht:tb=.none∨∃ T,tb=.ref T∧TbO T s.heap:=by
   rcases e2 with e2 | ⟨T,e2,e3,_⟩
   · exact .inl e2
   · obtain ⟨q,_,_⟩:=(show ObjOk X.prog X.w H s.heap T (.ext (TbO T)) from I.hok T _ e3)
     exact .inr ⟨T,e2,q⟩
 have hl:=I.stack
 rw [hst] at hl hfr
 have hea:ea∉frs X.stack:=fun z=>by have:=I.stkFree ea z; rw [e1] at this; cases this
 refine qfW hfr hl hf he hd h1 ht fun h' T K=>?_
 obtain ⟨k1,k2,k3,k4,oT,ts,k5,k6,k7⟩:=K
 rw [← hst] at k2
 have hT:H T=none:=I.hok.fresh (by rw [k1]; exact Nat.le_refl _)
 have hTe:T≠ea:=by rw [k1]; exact Nat.ne_of_gt (Heap.lt_size he)
 have nT:∀ b ob,s.heap.get? b=some ob->b≠T:=fun b ob e=>by rw [k1]; exact Nat.ne_of_lt (Heap.lt_size e)
 have trk:∀ b u,H b=some u->b∉frs X.stack:=fun b u e z=>by have:=I.stkFree b z; rw [e] at this; cases this
 have nex:∀ b u,H b=some u->(∀ φ,u≠.ext φ)->b≠ea:=fun b u e n z=>by subst z; rw [e1] at e; cases e; exact n _ rfl
 have old:∀ b u,H b=some u->(∀ φ,u≠.ext φ)->ZN H ea C dx T b=some u:=fun b u e n=>qaW hT (nex b u e n) e
 have un:Un (frs X.stack) [] H (ZN H ea C dx T) s.heap h':=by
   refine ⟨fun b o e n hb _=>k2 b o (fun z=>by subst z; rw [e1] at n; cases n) hb e,fun b o e n hb _=>k3 b o (fun z=>by subst z; rw [e1] at n; cases n) e,fun b o e n _=>?_,fun b o e _=>?_,
     fun b xs e=>old b _ e fun φ z=>(nomatch z),fun b o u e=>old b _ e fun φ z=>(nomatch z),fun b ps e=>⟨#[],by rw [old b _ e fun φ z=>(nomatch z)]; simp⟩⟩
   · unfold ZN
     rw [qh (nT b o e),qh fun z=>by subst z; rw [e1] at n; cases n]
     exact n
   · by_cases z:b=ea
     · subst z; exact ⟨_,k4⟩
     · obtain ⟨sl,q⟩:=k3 b o z e
       exact ⟨_,q⟩
 have hok:HOk X.prog X.w (ZN H ea C dx T) h':=fun b u e=>by
   by_cases z:b=T
   · subst z
     unfold ZN at e
     rw [qc] at e; cases e
     exact qiX ⟨oT,ts,k5,k6,k7⟩
   · by_cases z2:b=ea
     · subst z2
       unfold ZN at e
       rw [qh z,qc] at e; cases e
       refine qet ⟨_,_,k4,(Obj.cls_mapFields _ _).trans hc,?_,Obj.data_mapFields hd _,by simp [hz],by simp [hz]⟩
       rw [← hdx]
       obtain ⟨oc,od,odt,osl⟩:=oe
       have hd':odt=.fields vs:=hd
       subst hd'
       rfl
     · have e':H b=some u:=by
         unfold ZN at e
         rw [qh z,qh z2] at e
         exact e
       refine (I.hok b u e').stay (fun c v hc q=>?_) (fun c q=>old c _ q fun φ z=>(nomatch z)) fun c xs q=>old c _ q fun φ z=>(nomatch z)
       rcases hc with hc | hc
       · subst hc; exact k2 c v z2 (trk c u e') q
       · exact k2 c v (nex c _ hc fun φ z=>(nomatch z)) (trk c _ hc) q
 exact h _ T hT hTe (I.call' (s':={ s with heap:=h' }) rfl un hok I.bare fun b z=>absurd z (by simp))
def Sure (E:XK) (C ea:Addr) (dx:Option Addr) (H:Hp):Prop:=∀ H',(∀ b o,b≠ea->H b=some o->H' b=some o)->XAt H' ea C dx->E (.ref C) (some ea) H'
theorem Sure.look {E:XK} {T:Addr} (h:Sure E C ea dx H) (hT:H T=none):Sure E C ea dx (ZN H ea C dx T):=fun H' k x=>h H' (fun b o hb e=>k b o hb (qaW hT hb e)) x
inductive qjO (P:Program) (w:World) (outer:List Env) (H:Hp) (s:Shared) (E:XK) (e:Value) (s':Shared):Prop
 | mk (ea C dx H':_) (h1:e=.ref ea) (h2:s'.os=s.os) (h3:AllBare s'.gens) (h4:Un (frs outer) [] H H' s.heap s'.heap) (h5:HOk P w H' s'.heap) (h6:XAt H' ea C dx) (h7:Sure E C ea dx H'):qjO P w outer H s E e s'
def CX1 (P:Program) (w:World):CXT:=fun outer H s E e s'=>qjO P w outer H s E e s'
def Throws (X:Cx) (E:XK):Prop:=∀ (pins:List (Addr×Obj)) (σ:St) (H:Hp) (s:Shared) (ea C:Addr) (dx:Option Addr),Inv X pins σ H s->XAt H ea C dx->Sure E C ea dx H->X.xe (.ref ea) s
theorem Throws.passes {E:XK} (t:Throws X E):jN (CX1 X.prog X.w) X E:=by
 intro pins σ H s e s' I ⟨ea,C,dx,H',e1,os,bare,un,hok,x,q⟩
 subst e1
 exact t pins σ H' s' ea C dx (I.call' os un hok bare fun b z=>absurd z (by simp)) x q
theorem throws_cx {P:Program} {w:World} {K:PySem.W.Frag} {mg:Str->Option Value} {base:Heap} {N:List Str} {qual:Str} {scope:Scope} {f:Addr} {cd:Value} {A:Around} {outer:List Env} {s₀:Shared} {H₀:Hp} {E:XK} :
   Throws (zv (CX1 P w) P w K mg base N qual scope f cd A outer s₀ H₀ E) E:=by
 intro pins σ H s ea C dx I x q
 show wpAny _ _ (leaving _ _) _ _ _
 unfold leaving
 refine wpAny_bind (qfV I rfl rfl I.ok.frames x fun s' T hT hne J=>?_)
 exact ⟨ea,C,dx,_,rfl,J.os,J.bare,J.base,J.hok,qfX hT hne,q.look hT⟩
end
end L2
namespace L2
open PySem PySem.Spec PyProof.Rows
def tyS:Value->String
 | .type a=>a
 | _=>""
theorem qiU {v:Value} {s:String} (h:tyS v=s) (n:s≠""):v=.type s:=by
 cases v with
 | type a=>exact congrArg _ h
 | _=>exact absurd h.symm n
theorem qh7 {l:List Value}:∀ {ss:List String},l.map tyS=ss->(∀ s∈ss,s≠"")->l=ss.map Value.type:=by
 induction l with
 | nil=>intro ss h _; rw [← h]; rfl
 | cons v l ih =>
   intro ss h n
   cases ss with
   | nil=>cases h
   | cons s ss =>
     have h1:tyS v=s:=(List.cons.inj h).1
     have h2:l.map tyS=ss:=(List.cons.inj h).2
     rw [qiU h1 (n s List.mem_cons_self),ih h2 fun x m=>n x (List.mem_cons_of_mem _ m)]
     rfl
def qad:List Value->Bool
 | []=>false
 | x::r=>match x with
   | .ref _=>qad r
   | _=>(x::r).map tyS == ["ValueError","Exception","BaseException","object"]
theorem qaq {l:List Value} (e:qad l=true):(∃ c r,l=.ref c::r∧qad r=true)∨l=[.type "ValueError",.type "Exception",.type "BaseException",.type "object"]:=by
 cases l with
 | nil=>cases e
 | cons x r =>
   unfold qad at e
   split at e
   · exact .inl ⟨_,r,rfl,e⟩
   · exact .inr (qh7 (eq_of_beq e) (by decide))
theorem QT {T:String} {v:Bool} (h4:([.type "ValueError",.type "Exception",.type "BaseException",.type "object"]:List Value).contains (.type T)=v) {l:List Value}:qad l=true->l.contains (.type T)=v:=by
 induction l with
 | nil=>intro e; cases e
 | cons x r ih =>
   intro e
   rcases qaq e with ⟨c,r',h,e'⟩ | h
   · cases h
     rw [List.contains_cons,ih e',show (Value.type T == Value.ref c)=false from rfl,Bool.false_or]
   · rw [h]; exact h4
inductive qh1 (K:PySem.W.Frag) (C:Addr):Prop
 | mk (nm qn:Str) (N:Addr) (bs bm:List Value) (sn:List Str) (sub:List Value) (ab:Bool) (col:Option Bool) (dd:Option Addr) (k0 k1 k2 k3 k5:Option Value) (h1:K.lookup C=some (excClassObj nm qn C N bs bm true sn sub ab col dd k0 k1 k2 k3 k5 "ValueError.__new__")) (h2:qad bm=true):qh1 K C
def qkx (K:PySem.W.Frag) (C:Addr):Prop:=qh1 K C
noncomputable def xIn (K:PySem.W.Frag) (C:Addr):Bool:=@decide (qkx K C) (Classical.propDecidable _)
theorem xIn_iff {K:PySem.W.Frag} {C:Addr}:xIn K C=true↔qkx K C:=@decide_eq_true_iff (qkx K C) (Classical.propDecidable _)
theorem qjP {K:PySem.W.Frag} {h:Heap} {C:Addr} (X:K.In h) (q:xIn K C=true):∃ nm qn N bs bm sn sub ab col dd k0 k1 k2 k3 k5,
   h.get? C=some (excClassObj nm qn C N bs bm true sn sub ab col dd k0 k1 k2 k3 k5 "ValueError.__new__")∧qad bm=true:=by
 obtain ⟨nm,qn,N,bs,bm,sn,sub,ab,col,dd,k0,k1,k2,k3,k5,ho,hx⟩:=xIn_iff.mp q
 exact ⟨nm,qn,N,bs,bm,sn,sub,ab,col,dd,k0,k1,k2,k3,k5,X _ _ ho,hx⟩
section
variable {M:Model} {A:Around} {E:Value->Shared->Prop} {h:Heap} {g:Array GenState} {d:Drawn} {t:Nat} {os:OsState}
variable {nm q:Str} {C N:Addr} {bs bm bmB:List Value} {sn:List Str} {sub:List Value} {ab:Bool} {col:Option Bool} {dd:Option Addr} {k0 k1 k2 k3 k5:Option Value} {B newId initId:String}
theorem qdo (F:ExcBaseFacts B newId initId bmB) {rest:List Value} {Q:Unit->Shared->Prop} (hC:h.get? C=some (excClassObj nm q C N bs bm true sn sub ab col dd k0 k1 k2 k3 k5 newId))
   (hcont:(Value.ref C::bm).contains (.type B)=true) (hq:Q () ⟨h,g,d,t,os⟩):wpAny M A (checkBuiltinCall newId ⟨.ref C::rest,[]⟩) Q E ⟨h,g,d,t,os⟩:=by
 have hstar:=F.noStar
 simp only [checkBuiltinCall,F.newKind,F.newSplit,F.newRow]
 repeat (first
   | refine wpAny_loadPart_at hC ?_
   | (refine wpAny_isSubtype_exc hC ?_; rw [hcont])
   | refine wpAny_staticBase_exc hC ?_
   | refine wpAny_madeBy_exc hC ?_
   | simp only [bne_self_eq_false,Bool.false_eq_true,if_false]
   | wp_step)
 exact hq
end
section
variable {prog:Program} {w:World} {A:Around} {R:Result->Shared->Prop} {E:Value->Shared->Prop} {h:Heap} {g:Array GenState} {d:Drawn} {t:Nat} {os:OsState}
variable {nm q:Str} {C N:Addr} {bs bm bmB:List Value} {sn:List Str} {sub:List Value} {ab:Bool} {col:Option Bool} {dd:Option Addr} {k0 k1 k2 k3 k5:Option Value} {B newId initId:String}
abbrev jL (C:Addr) (t:Addr):Obj:={ cls:=.ref C,data:=.fields #[.ref t,.none,.none,.none,.bool false,.none] }
theorem qjX (F:ExcBaseFacts B newId initId bmB) {rest:List Value} (hC:h.get? C=some (excClassObj nm q C N bs bm true sn sub ab col dd k0 k1 k2 k3 k5 newId))
   (hcB:(Value.ref C::bm).contains (.type B)=true) (hcA:(Value.ref C::bm).contains (.type "AttributeError")=false) (hcN:(Value.ref C::bm).contains (.type "NameError")=false)
   (hq:R (.ok (.ret (.ref (h.objs.size+1)))) ⟨(h.push { cls:=.type "tuple",data:=.seq rest.toArray }).push (jL C h.objs.size),g,d,t,os⟩) (hrest:rest.length≤sizeLine) :
   codeAny (model prog w) A (.builtin newId ⟨.ref C::rest,[]⟩) R ⟨h,g,d,t,os⟩:=by
 have hends:=F.ends
 refine codeAny_builtinAt F.entry ?_
 unfold Builtin.«BaseException.__new__»
 refine PySem.wpAt_bind ?_
 show PySem.wpAt _ _ _ (stack >>= _) _ _ _
 refine PySem.wpAt_bind (PySem.wpAt_stack fun p below=>PySem.wpAt_of_wpAny ?_)
 wp_walk
 refine PySem.wpAt_of_wpAny ?_
 rw [F.owner]
 repeat (first
   | with_reducible refine wpAny_madeHere_exc F.canon hC ?_
   | with_reducible refine wpAny_loadPart_at hC ?_
   | (with_reducible refine wpAny_isSubtype_exc hC ?_; first | rw [hcB] | rw [hcA] | rw [hcN])
   | wp_step)
 show R _ _
 rw [Heap.size_push]
 exact hq
theorem qiR {K:PySem.W.Frag} {rest:List Value} {fI:Addr} {Q:Value->Shared->Prop} (X:K.In h) (xi:xIn K C=true)
   (hi:PySem.W.findIn K (.ref C) "__init__"=some (some (.ref fI))) (hf:PySem.W.typeIn K (.ref fI)=some (.type "function"))
   (hq:wpAny (model prog w) (A.under (.builtin "type.__call__" ⟨.ref C::rest,[]⟩)) (call (.ref fI) (.ref (h.objs.size+1)::rest)) (fun r s'=>r=.none∧Q (.ref (h.objs.size+1)) s') E
     ⟨(h.push { cls:=.type "tuple",data:=.seq rest.toArray }).push (jL C h.objs.size),g,d,t,os⟩) (hrest:rest.length≤sizeLine) :
   wpAny (model prog w) A (call (.ref C) rest) Q E ⟨h,g,d,t,os⟩:=by
 obtain ⟨nm,qn,N,bs,bm,sn,sub,ab,col,dd,k0,k1,k2,k3,k5,hC,hx⟩:=qjP X xi
 have F:=PySem.F.excBase_ValueError
 have f1:=tc_lookup
 have f2:=tc_bind (.ref C)
 have hT:(⟨h,g,d,t,os⟩:Shared).TypeIs (.ref C) "type":=⟨_,hC,rfl⟩
 have hcB:(Value.ref C::bm).contains (.type "ValueError")=true:=by rw [List.contains_cons,QT (v:=true) (by decide +kernel) hx,Bool.or_true]
 have hcA:(Value.ref C::bm).contains (.type "AttributeError")=false:=by rw [List.contains_cons,QT (v:=false) (by decide +kernel) hx]; rfl
 have hcN:(Value.ref C::bm).contains (.type "NameError")=false:=by rw [List.contains_cons,QT (v:=false) (by decide +kernel) hx]; rfl
 refine wpAny_call (codeAny_of_tree ?_)
 show wpAny _ _ (callAny (.ref C) _) _ _ _
 repeat (any_goals (first
   | assumption
   | with_reducible refine wpAny_loadPart_at hC ?_
   | wp_step))
 refine ⟨rfl,?_⟩
 refine codeAny_call_builtin_at (Code.quiet_builtin _ (by decide +kernel)) entry_typeCall (wpAny_check_type_call_sub hC ?_)
 repeat (first
   | with_reducible refine wpAny_loadPart_at hC ?_
   | with_reducible refine wpAny_madeBy_exc hC ?_
   | wp_step)
 refine codeAny_call_builtin_code (Code.quiet_builtin _ F.quiet) (qdo F hC hcB ?_)
 refine qjX F hC hcB hcA hcN ?_ hrest
 show wpAny _ _ _ _ _ (⟨(h.push { cls:=.type "tuple",data:=.seq rest.toArray }).push (jL C h.objs.size),g,d,t,os⟩:Shared)
 have kp:∀ b o,h.get? b=some o->((h.push { cls:=.type "tuple",data:=.seq rest.toArray }).push (jL C h.objs.size)).get? b=some o:=fun b o e=>Heap.get?_push_of_some _ (Heap.get?_push_of_some _ e)
 have hC1:=kp _ _ hC
 have X1:=X.keeps kp
 have hget:((h.push { cls:=.type "tuple",data:=.seq rest.toArray }).push (jL C h.objs.size)).get? (h.objs.size+1)=some (jL C h.objs.size):=by heap_get
 have hcC:(Value.ref C::bm).contains (.ref C)=true:=by simp
 unfold isInstance
 repeat (first
   | with_reducible refine wpAny_loadPart_at hget ?_
   | (show wpAny _ _ (isSubtype (.ref C) _) _ _ _; with_reducible refine wpAny_isSubtype_exc hC1 ?_; rw [hcC])
   | wp_step)
 show wpAny _ _ (typeLookup (.ref C) _) _ _ _
 refine (PySem.W.looks_findIn X1 hi).at ?_
 refine wpAny_holding (wpAny_bind ((PySem.W.bind_fn X1 _ hf).at ?_))
 refine wpAny_bind (wpAny_mono hq (fun r s' hr=>?_) fun _ _ x=>x)
 obtain ⟨rfl,hQ⟩:=hr
 wp_walk
 exact hQ
end
end L2
namespace L2
open PySem PySem.Spec PyProof.Rows
theorem xcd {K:PySem.W.Frag} {C:Addr} (q:xIn K C=true):∃ cd bm,PySem.W.clsIn K C=some cd∧cd.mro=.ref C::bm∧qad bm=true∧cd.hasDict=true:=by
 obtain ⟨nm,qn,N,bs,bm,sn,sub,ab,col,dd,k0,k1,k2,k3,k5,ho,hx⟩:=xIn_iff.mp q
 have e:∃ cd,PySem.W.clsIn K C=some cd∧cd.mro=.ref C::bm∧cd.hasDict=true:=by
   unfold PySem.W.clsIn
   rw [ho]
   exact ⟨_,rfl,rfl,rfl⟩
 obtain ⟨cd,h1,h2,h3⟩:=e
 exact ⟨cd,bm,h1,h2,hx,h3⟩
theorem qkC {K:PySem.W.Frag} {C:Addr} {T:String} (q:xIn K C=true) (h4:([.type "ValueError",.type "Exception",.type "BaseException",.type "object"]:List Value).contains (.type T)=true):PySem.W.mroIn K C (.type T)=some true:=by
 obtain ⟨cd,bm,h1,h2,h3,_⟩:=xcd q
 unfold PySem.W.mroIn
 rw [h1,Option.bind_some,h2,if_neg (by simp),List.contains_cons,QT h4 h3,Bool.or_true]
section
variable {M:Model} {A:Around} {E:Value->Shared->Prop} {s:Shared} {env:Env}
theorem qh3 {x:Sem Value} {Q:Flow->Shared->Prop} (hh:A.handled=none)
   (h:wpAny M A x (fun v s1=>∃ (ea C:Addr) (o:Obj) (vs:Array Value) (K:PySem.W.Frag),v=.ref ea∧K.In s1.heap∧xIn K C=true∧s1.heap.get? ea=some o∧o.cls=.ref C∧o.data=.fields vs∧vs[1]?=some .none∧E (.ref ea) s1) E s) :
   wpAny M A (raiseStmt env (some x) none) Q E s:=by
 unfold raiseStmt
 refine wpAny_bind (wpAny_mono h (fun v s1 h1=>?_) fun _ _ x=>x)
 obtain ⟨ea,C,o,vs,K,rfl,X,xi,he,hc,hd,hv,hE⟩:=h1
 obtain ⟨nm,qn,N,bs,bm,sn,sub,ab,col,dd,k0,k1,k2,k3,k5,hC,hx⟩:=qjP X xi
 have hcB:(Value.ref C::bm).contains (.type "BaseException")=true:=by rw [List.contains_cons,QT (v:=true) (by decide +kernel) hx,Bool.or_true]
 obtain ⟨oc,od,odt,osl⟩:=o
 dsimp only at hc hd
 subst hc hd
 obtain ⟨hp,g,d,tk,os⟩:=s1
 repeat (first
   | with_reducible refine wpAny_field he rfl hv ?_
   | with_reducible refine wpAny_loadPart_at he ?_
   | with_reducible refine wpAny_loadPart_at hC ?_
   | (with_reducible refine wpAny_isSubtype_exc hC ?_; rw [hcB])
   | wp_step)
 exact wpAny_raiseNew_none hh hE
end
section
variable {prog:Program} {w:World} {A:Around} {E:Value->Shared->Prop} {s:Shared} {K:PySem.W.Frag} {C x:Addr} {ox:Obj} {name:Str} {v:Value}
theorem qh5 {rest:List Value} {vs:Array Value} {Q:Value->Shared->Prop} (X:K.In s.heap) (xi:xIn K C=true) (hx:s.heap.get? x=some ox) (hc:ox.cls=.ref C) (hd:ox.data=.fields vs) (hz:vs.size=6) (hl:rest.length≤sizeLine)
   (h:∀ h' tp,(∀ b o,b≠x->s.heap.get? b=some o->h'.get? b=some o)->h'.get? x=some (ox.mapFields (·.setIfInBounds 0 tp))->Q .none { s with heap:=h' }) :
   wpAny (model prog w) A (call (.builtin "ValueError.__init__") (.ref x::rest)) Q E s:=by
 obtain ⟨hp,g,d,tk,os⟩:=s
 have F:=PySem.F.excBase_ValueError
 obtain ⟨nm,qn,N,bs,bm,sn,sub,ab,col,dd,k0,k1,k2,k3,k5,hC,hxt⟩:=qjP X xi
 have hcB:(Value.ref C::bm).contains (.type "ValueError")=true:=by rw [List.contains_cons,QT (v:=true) (by decide +kernel) hxt,Bool.or_true]
 have hshort:=F.noStar
 have chk:wpAny (model prog w) A.in1 (checkBuiltinCall "ValueError.__init__" ⟨.ref x::rest,[]⟩) (fun _ s'=>s'=⟨hp,g,d,tk,os⟩) (fun _ _=>False) ⟨hp,g,d,tk,os⟩:=by
   simp only [checkBuiltinCall,F.initKind,F.initSplit,F.initRow]
   repeat (first
     | (with_reducible refine wpAny_loadPart_at hx ?_; rw [hc])
     | with_reducible refine wpAny_loadPart_at hC ?_
     | (with_reducible refine wpAny_isSubtype_exc hC ?_; rw [hcB])
     | wp_step)
   refine wpAny_onRaise ?_
   rw [show ∀ (a b:String) (n:Nat),Bind.check ⟨.positional,"*","ValueError",.self,[⟨"args",.varPos,false⟩]⟩ a b n (List.map (fun x=>x.fst) ({ pos:=Value.ref x::rest }:Args).kw)=pure () from
     fun a b n=>check_star_args _ _ _ _ _ _]
   exact wpAny_pure rfl
 refine wpAny_call (codeAny_call_builtin F.init.plain F.initEntry (wpAny_mono chk (fun _ s1 e=>?_) fun _ _ z=>z.elim))
 subst e
 unfold Builtin.«BaseException.__init__»
 repeat (first
   | with_reducible refine wpAny_loadPart_at hx ?_
   | wp_step)
 obtain ⟨a0,h0⟩:∃ a0,vs[0]?=some a0:=⟨_,Array.getElem?_eq_getElem (by omega)⟩
 rw [hd]
 refine wpAny_pure ?_
 rw [h0]
 refine wpAny_pure ?_
 have hx1:(hp.push { cls:=.type "tuple",data:=.seq rest.toArray }).get? x=some ox:=Heap.get?_push_of_some _ hx
 refine wpAny_bind (wpAny_setField hx1 hd (by omega) ?_)
 have fin:=h ((hp.push { cls:=.type "tuple",data:=.seq rest.toArray }).update x (Obj.mapFields (·.setIfInBounds 0 (.ref hp.objs.size)))) (.ref hp.objs.size) (fun b o hb e=>by
   rw [Heap.get?_update_other _ _ (Ne.symm hb)]
   exact Heap.get?_push_of_some _ e) (Heap.get?_update_self _ hx1 (Obj.isFreed_of_fields (Obj.data_mapFields hd _)))
 cases a0<;>(repeat wp_step)<;>exact fin
end
theorem qgA (self:Value) {l:List Value}:qad l=true->refuseLoop self "__setattr__" l=pure ():=by
 induction l with
 | nil=>intro e; cases e
 | cons x r ih =>
   intro e
   rcases qaq e with ⟨c,r',h,e'⟩ | h
   · cases h
     rw [refuseLoop_ref]
     exact ih e'
   · rw [h]; exact PySem.F.store_ValueError.passes self
section
variable {prog:Program} {w:World} {A:Around} {E:Value->Shared->Prop} {s:Shared} {K:PySem.W.Frag} {C x:Addr} {ox:Obj} {name:Str} {v:Value}
theorem qjW {vs:Array Value} {Q:Unit->Shared->Prop} (X:K.In s.heap) (xi:xIn K C=true) (hx:s.heap.get? x=some ox) (hc:ox.cls=.ref C) (hd:ox.data=.fields vs) (hdn:ox.dict=none)
   (hs:PySem.W.findIn K (.ref C) "__setattr__"=some (some (.builtin "object.__setattr__"))) (ha:PySem.W.findIn K (.ref C) name=some none)
   (h:∀ h' dx,s.heap.objs.size≤dx->h'.get? x=some { ox with dict:=some dx }->h'.Ns1 dx (fun y=>if y=name then some v else none)->(∀ b o,b≠x->s.heap.get? b=some o->h'.get? b=some o) ->
     Q () { s with heap:=h',toks:=s.toks+2 }) :
   wpAny (model prog w) A (setAttr (.ref x) name v) Q E s:=by
 have SF:=PySem.F.store_object
 obtain ⟨cd,bm,hcd,hmro,hxt,hdict⟩:=xcd xi
 have I:PySem.W.InstAt s.heap x ox C none:=⟨hx,hc,by unfold PySem.W.notCls; rw [hd],by rw [hdn]; exact True.intro⟩
 refine PySem.W.set_plain X I hs ?_
 have sub:PySem.W.Looks (model prog w) s.heap (isInstance (.ref x) (.type "object")) true:=I.type.andThen (PySem.W.looks_mroIn X (qkC xi (by decide +kernel)))
 refine codeAny_call_builtin SF.slot.plain SF.entry (@PySem.W.check_slot (model prog w) _ _ { s with toks:=s.toks+1 } "object.__setattr__" "object" "__setattr__" (.ref x) [.str name s.toks,v] [] _ SF.kind SF.split sub (SF.args (.ref x) (.str name s.toks) v) ?_)
 have hm:PySem.W.Looks (model prog w) s.heap (mroOf (.ref C)) cd.mro:=(PySem.W.looks_clsIn X hcd).andThen .now
 rw [PySem.W.osa_eq,refuse_eq]
 refine wpAny_bind (wpAny_bind (I.type.here (s:={ s with toks:=s.toks+1 }) (wpAny_bind (hm.here (s:={ s with toks:=s.toks+1 }) ?_))))
 rw [hmro,refuseLoop_ref,qgA _ hxt]
 refine wpAny_pure (wpAny_bind (I.type.here (s:={ s with toks:=s.toks+1 }) (wpAny_bind ((PySem.W.looks_findIn X ha).here (s:={ s with toks:=s.toks+1 }) (wpAny_bind (wpAny_pure ?_))))))
 dsimp only
 unfold PySem.Builtin.ObjectAttr.storeInOwnDict
 refine wpAny_bind (wpAny_pure ?_)
 rw [if_neg (by simp)]
 refine wpAny_bind (wpAny_bind (wpAny_loadPart hx ?_))
 rw [hc]
 dsimp only
 refine wpAny_bind ((PySem.W.looks_clsIn X hcd).here (s:={ s with toks:=s.toks+1 }) ?_)
 rw [hdict,hdn,if_neg (by decide)]
 dsimp only
 rw [if_neg (by simp [typeHasDict]),hd]
 dsimp only
 have hx1:(s.heap.push { cls:=.type "dict",data:=.dict #[] }).get? x=some ox:=Heap.get?_push_of_some _ hx
 have hxs:x≠s.heap.objs.size:=Nat.ne_of_lt (Heap.lt_size hx)
 refine wpAny_bind (wpAny_alloc' ?_)
 refine wpAny_bind (wpAny_update' hx1 ?_)
 refine wpAny_pure (a:=some s.heap.objs.size) ?_
 generalize hg:((s.heap.push { cls:=.type "dict",data:=.dict #[] }).update x fun o=>{ cls:=o.cls,dict:=some s.heap.objs.size,data:=o.data,slots:=o.slots })=g1
 have hgd:g1.get? s.heap.objs.size=some { cls:=.type "dict",data:=.dict #[] }:=by
   rw [← hg]; exact (Heap.get?_update_ne _ _ _ _ hxs.symm).trans (Heap.get?_push_at rfl rfl)
 have hnd:g1.Ns s.heap.objs.size (fun _=>none):=⟨_,#[],_,hgd,rfl,fun e he=>absurd he (by simp),fun _=>rfl⟩
 have hgx:g1.get? x=some { ox with dict:=some s.heap.objs.size }:=by
   rw [← hg]
   refine Heap.get?_update_self _ hx1 ?_
   have hfr:=(Heap.get?_some_iff.mp hx).2
   obtain ⟨oc,od,odt,osl⟩:=ox
   cases odt<;>first | rfl | exact hfr
 have hgo:∀ b o,b≠x->s.heap.get? b=some o->g1.get? b=some o:=fun b o hb e=>by
   rw [← hg]
   exact (Heap.get?_update_ne _ _ _ _ hb).trans (Heap.get?_push_of_some _ e)
 show wpAny _ _ (PySem.Builtin.ObjectAttr.storeInDict s.heap.objs.size (.str name s.toks) name v) _ _ _
 unfold PySem.Builtin.ObjectAttr.storeInDict PySem.Builtin.ObjectAttr.newKeyGuard
 refine wpAny_bind (wpAny_pure (wpAny_bind (wpAny_nsSet1 (Heap.Ns1.of_empty hnd) fun h' hn' hs'=>?_)))
 obtain ⟨oD,esD,epD,hoD,hdD,hcD⟩:=hn'.count (Within.cons name v Within.nil)
 refine wpAny_bind (wpAny_lookBehind hoD (by rw [hdD]; exact pastItsLine_dict (Nat.le_trans hcD (by rw [List.length_cons,List.length_nil,sizeLine_eq]; omega))) ?_)
 refine wpAny_pure (h h' s.heap.objs.size (Nat.le_refl _) ((hs'.2 x hxs).trans hgx) hn' fun b o hb e=>(hs'.2 b (Nat.ne_of_lt (Heap.lt_size e))).trans (hgo b o hb e))
end
section
variable {prog:Program} {w:World} {A:Around} {E:Value->Shared->Prop} {s:Shared} {K:PySem.W.Frag} {C x:Addr} {ox:Obj} {od:Option Obj} {name:Str} {v:Value}
theorem qh4 {tk:Tok} {fill expr:Bool} {Q:Value->Shared->Prop} (X:K.In s.heap) (I:PySem.W.InstAt s.heap x ox C od) (xi:xIn K C=true)
   (hga:PySem.W.findIn K (.ref C) "__getattribute__"=some (some (.builtin "BaseException.__getattribute__"))) (hna:PySem.W.findIn K (.ref C) "__getattr__"=some none)
   (h:wpAny (model prog w) A.in1 (Builtin.«object.__getattribute__» ⟨[.ref x,.str name tk],[]⟩) (fun fin s'=>match fin with | .done (.ret v)=>wpAny (model prog w) A (handedOut v) Q E s' | _=>False) (fun _ _=>False) s) :
   wpAny (model prog w) A (getAttrBy (.ref x) (.str name tk) fill expr) Q E s:=by
 have hx2:(Value.builtin "BaseException.__getattribute__" == Value.builtin "object.__getattribute__")=false:=by decide +kernel
 unfold getAttrBy
 refine wpAny_holding (wpAny_bind (I.type.here (wpAny_bind ((PySem.W.looks_findIn X hga).here ?_))))
 dsimp only
 rw [hx2,Bool.and_false,if_neg (by decide)]
 unfold getAttrByItsOwn
 refine wpAny_bind ((PySem.W.looks_hook X (r:=none) (by rw [if_pos (by rfl)]; exact hna)).here (wpAny_bind (wpAny_attempt (wpAny_holding ?_))))
 unfold callGetattribute
 rw [show (expr && onTheHeap (Value.builtin "BaseException.__getattribute__"))=false from by cases expr<;>rfl,if_neg (by decide)]
 unfold boundAndCalled
 rw [PySem.F.excAttr_ValueError.ga.bind]
 refine wpAny_bind (wpAny_pure ?_)
 show wpAny _ _ (call (.builtin "BaseException.__getattribute__") [.ref x,.str name tk]) _ _ _
 refine wpAny_call (codeAny_call_builtin PySem.F.excAttr_ValueError.ga.plain PySem.F.entry_bexc_ga ?_)
 refine @PySem.W.check_slot (model prog w) _ _ s "BaseException.__getattribute__" "BaseException" "__getattribute__" (.ref x) [.str name tk] [] _ (by decide +kernel) (by decide +kernel) (I.type.andThen (PySem.W.looks_mroIn X (qkC xi (by decide +kernel)))) (PySem.F.args_bexc_ga (.ref x) (.str name tk)) ?_
 refine wpAny_mono h (fun fin s' z=>?_) fun _ _ z=>z.elim
 rcases fin with (_ | _ | _ | _) | _<;>first | exact z | exact z.elim
theorem qjY {expr:Bool} {Q:Value->Shared->Prop} (X:K.In s.heap) (I:PySem.W.InstAt s.heap x ox C od) (xi:xIn K C=true)
   (hga:PySem.W.findIn K (.ref C) "__getattribute__"=some (some (.builtin "BaseException.__getattribute__"))) (hna:PySem.W.findIn K (.ref C) "__getattr__"=some none)
   (hf:PySem.W.findObj K C od name=some (.value v)) (hh:PySem.W.handedIn v=true) (h:Q v { s with toks:=s.toks+1 }):wpAny (model prog w) A (getAttr (.ref x) name expr) Q E s:=by
 unfold getAttr
 refine wpAny_bind (wpAny_mkText (qh4 (s:={ s with toks:=s.toks+1 }) X I xi hga hna ?_))
 have L1:=PySem.W.looks_find (M:=model prog w) X I hf
 unfold Builtin.«object.__getattribute__»
 refine wpAny_bind (wpAny_pure (wpAny_bind (wpAny_pure (wpAny_bind (I.type.here (s:={ s with toks:=s.toks+1 }) (wpAny_bind (L1.here (s:={ s with toks:=s.toks+1 }) ?_)))))))
 refine wpAny_pure ?_
 show wpAny _ _ (handedOut v) _ _ _
 rw [PySem.W.handedOut_of hh]
 exact wpAny_pure h
end
end L2
namespace L2
open PySem PySem.Spec PyProof.Rows
structure XC (K:PySem.W.Frag) (C:Addr):Prop where
 xi:xIn K C=true
 ga:PySem.W.findIn K (.ref C) "__getattribute__"=some (some (.builtin "BaseException.__getattribute__"))
 na:PySem.W.findIn K (.ref C) "__getattr__"=some none
 sa:PySem.W.findIn K (.ref C) "__setattr__"=some (some (.builtin "object.__setattr__"))
 cl:PySem.W.findIn K (.ref C) "__class__"=some (some (.builtin "object.__class__"))
 gt:PySem.W.specialIn K (.builtin "object.__class__") "__get__"=some (some (.builtin "getset_descriptor.__get__"))
 tk:PySem.W.takesIn K (.builtin "object.__class__")=some true
section
variable {prog:Program} {w:World} {A:Around} {E:Value->Shared->Prop} {s:Shared} {K:PySem.W.Frag} {C x:Addr} {ox:Obj} {od:Option Obj}
end
end L2
namespace L2
open PySem PySem.Spec PyProof.Rows
section
variable {X:Cx} {pins:List (Addr×Obj)} {σ:St} {H:Hp} {s:Shared} {h':Heap}
theorem Inv.two {x a:Addr} {o1 o2:HO} {t':Nat} (I:Inv X pins σ H s) (mu:Mut (H x)) (hp:s.heap.objs.size≤a) (k:∀ b u,b≠x->s.heap.get? b=some u->h'.get? b=some u) (hx:∃ u,h'.get? x=some u)
   (n1:ObjOk X.prog X.w (upd (upd H x o1) a o2) h' x o1) (n2:ObjOk X.prog X.w (upd (upd H x o1) a o2) h' a o2):Inv X pins σ (upd (upd H x o1) a o2) { s with heap:=h',toks:=t' }:=by
 have ha:H a=none:=I.hok.fresh hp
 have ne:∀ b,H b=none->b≠x:=fun b n z=>by subst z; rw [n] at mu; exact mu
 have nm:∀ b u,H b=some u->¬ Mut (some u)->b≠x:=fun b u q n z=>by subst z; rw [q] at mu; exact n mu
 have old:∀ b u,H b=some u->¬ Mut (some u)->upd (upd H x o1) a o2 b=some u:=fun b u q n=>by rw [qh (qi q ha),qh (nm b u q n)]; exact q
 refine I.un ⟨fun b u e n _ _=>k b u (ne b n) e,fun b u e n _ _=>⟨u.slots,k b u (ne b n) e⟩,fun b u e n _=>?_,fun b u e _=>?_,fun b xs e=>old b _ e fun z=>z,fun b o u e=>old b _ e fun z=>z,fun b ps e=>⟨#[],by rw [old b _ e fun z=>z]; simp⟩⟩ fun b u e=>?_
 · rw [qh (Nat.ne_of_lt (Nat.lt_of_lt_of_le (Heap.lt_size e) hp)),qh (ne b n)]; exact n
 · by_cases z:b=x
   · subst z; exact hx
   · exact ⟨u,k b u z e⟩
 · by_cases z:b=a
   · subst z; rw [qc] at e; cases e; exact n2
   · rw [qh z] at e
     by_cases z2:b=x
     · subst z2; rw [qc] at e; cases e; exact n1
     · rw [qh z2] at e
       refine (I.hok b u e).stay (fun c v hc q=>?_) (fun c q=>old c _ q fun z=>z) fun c xs q=>old c _ q fun z=>z
       rcases hc with hc | hc
       · subst hc; exact k c v z2 q
       · exact k c v (nm c _ hc fun z=>z) q
end
section
variable {X:Cx} {o e value:Expr} {es:List Expr} {f x:Str} {p apos pos pos' tpos:Pos} {ta tv:TE} {t:TA} {C fa:Addr}
structure XMk (K:PySem.W.Frag) (C f:Addr):Prop where
 c:XC K C
 init:PySem.W.findIn K (.ref C) "__init__"=some (some (.ref f))
 fn:PySem.W.isFn K (.ref f)=true
 kp:PySem.W.keepIn K (.ref C)=true
def qiY (C:Addr) (sp:Sp) (t:TA):TE:=fun σ H Q=>t σ H fun vs H1=>vs.length≤10∧∀ ea,H1 ea=none ->
 sp (.ref ea::vs) (upd H1 ea (.ext (ExO ea C none .none))) (fun v H2=>v=.non∧Q (.ref ea) H2) E0
theorem qfl {k:Nat} {fd:FuncData} {ps:List Str} {sp:Sp} {pins:List (Addr×Obj)} {σ:St} {H:Hp} {s:Shared} {Q:VK} {us:List Value} {vs:List V} (M:XMk X.K C fa) (F:qA X.prog X.w X.K X.mg X.base CX0 k fa fd ps sp)
   (hr:Room (k+1) X.A) (hb:Binds X.K fd ps []) (I:Inv X pins σ H s) (r:Vals vs us) (hl10:vs.length≤10)
   (h:∀ ea,H ea=none->sp (.ref ea::vs) (upd H ea (.ext (ExO ea C none .none))) (fun v H2=>v=.non∧Q (.ref ea) H2) E0) :
   wpAny (model X.prog X.w) X.A (call (.ref C) us) (EP X pins σ Q) X.xe s:=by
 have hq:=h (s.heap.objs.size+1) (I.hok.fresh (Nat.le_succ _))
 have hul:us.length≤sizeLine:=by rw [← r.length,sizeLine_eq]; omega
 have kp:∀ b o,s.heap.get? b=some o->((s.heap.push { cls:=.type "tuple",data:=.seq us.toArray }).push (jL C s.heap.objs.size)).get? b=some o:=fun b o e=>Heap.get?_push_of_some _ (Heap.get?_push_of_some _ e)
 have hget:((s.heap.push { cls:=.type "tuple",data:=.seq us.toArray }).push (jL C s.heap.objs.size)).get? (s.heap.objs.size+1)=some (jL C s.heap.objs.size):=by heap_get
 have I2:Inv X pins σ (upd H (s.heap.objs.size+1) (.ext (ExO (s.heap.objs.size+1) C none .none))) { s with heap:=(s.heap.push { cls:=.type "tuple",data:=.seq us.toArray }).push (jL C s.heap.objs.size) } :=
   I.laid (t':=s.toks) kp (Nat.le_succ _) (qet ⟨_,_,hget,rfl,rfl,rfl,rfl,rfl⟩)
 have r2:Vals (V.ref (s.heap.objs.size+1)::vs) (Value.ref (s.heap.objs.size+1)::us):=.cons rfl r
 have hl:(Value.ref (s.heap.objs.size+1)::us++[]).length=ps.length:=by
   have e:=r2.length
   rw [F.len _ _ _ _ hq] at e
   rw [List.append_nil]
   exact e.symm
 obtain ⟨hp,g,d,tk,os⟩:=s
 refine qiR I.kIn M.c.xi M.init (beq_iff_eq.mp M.fn) (wpAny_call (codeAny_mono (F.run _ X.stack _ _ ⟨Value.ref (hp.objs.size+1)::us,[]⟩ (Value.ref (hp.objs.size+1)::us) _ _ E0 (hr.make C us [])
   (I2.env0.make C us []) (by have:=hb _ (Value.ref (hp.objs.size+1)::us) I2.kIn hl; rw [List.append_nil] at this; exact this) r2 hq) fun r s' hq'=>?_)) hul
 cases r with
 | error e=>exact False.elim hq'
 | ok fl =>
   cases fl with
   | ret u =>
     obtain ⟨v,H',I3,rv,ev,q3⟩:=I2.after hq'
     subst ev
     exact ⟨rv,⟨V.ref (hp.objs.size+1),H',I3,rfl,q3⟩⟩
   | next=>exact False.elim hq'
   | brk=>exact False.elim hq'
   | cont=>exact False.elim hq'
theorem qgQ {k:Nat} {fd:FuncData} {ps:List Str} {sp:Sp} (M:XMk X.K C fa) (F:qA X.prog X.w X.K X.mg X.base CX0 k fa fd ps sp) (hr:Room (k+1) X.A) (hg:Gl X x) (hm:X.mg x=some (.ref C)) (hb:Binds X.K fd ps [])
   (ha:PA X (e::es) t) (hdb:(x == ("__debug__":Str))=false:=by decide) (he:starEach (e::es) X.env=(false,eval e X.env)::starEach es X.env:=by rfl) (hpl:(backTo pos (starEach es X.env)).any (·.1)=false:=by rfl) :
   PE X (.Call (.Name x p) (e::es) [] pos) (qiY C sp t):=by
 intro pins s σ H Q I h
 refine wpAny_Call_Name_kw (jU I hg hm ?_ hdb)
 refine PySem.W.callWith_K (h₀:=X.base) I.ok.mod.kin M.kp (thn (ha pos pins s σ H _ I h) fun us s1 ⟨vs,H1,I1,r,q⟩=>⟨I1.kIn,?_⟩) he hpl
 exact qfl M F hr hb I1 r q.1 q.2
inductive qdX (K:PySem.W.Frag) (E:XK) (x:V) (H1:Hp):Prop
 | mk (ea C dx:_) (h1:x=.ref ea) (h2:xIn K C=true) (h3:H1 ea=some (.ext (ExO ea C dx .none))) (h4:Sure E C ea dx H1):qdX K E x H1
def qi3 (K:PySem.W.Frag) (E:XK) (te:TE):TS:=fun _ σ H=>te σ H fun x H1=>qdX K E x H1
theorem qgO {E:XK} {te:TE} (th:Throws X E) (hc:X.calm=true) (he:PE X e te):PS X (.Raise (some e) none pos) (qi3 X.K E te):=by
 intro pins s σ H D I h
 rw [arm_exec_Raise]
 refine wpAny_bind (wpAny_standAt ?_)
 simp only [evalOpt,Option.map]
 refine qh3 (I.ok.hd hc) (wpAny_bind (thn (he pins s σ H _ I h) fun u s1 ⟨x,H1,I1,rx,ea,C,dx,ex,xi,e1,sr⟩=>wpAny_bind (wpAny_standAt (wpAny_pure ?_))))
 subst ex
 obtain rfl:u=Value.ref ea:=rx
 obtain ⟨⟨oe,vs,hx,hcl,hdx,hd,hz,h1⟩,_,_⟩:=(show ObjOk X.prog X.w H1 s1.heap ea (.ext (ExO ea C dx .none)) from I1.hok ea _ e1)
 exact ⟨ea,C,oe,vs,X.K,rfl,I1.kIn,xi,hx,hcl,hd,h1,th pins σ H1 s1 ea C dx I1 ⟨.none,e1,.inl rfl⟩ sr⟩
inductive qdW (K:PySem.W.Frag) (Q:VK) (vs:List V) (H1:Hp):Prop
 | mk (ea C dx tb rest:_) (h1:vs=.ref ea::rest) (h2:rest.length≤10) (h3:H1 ea=some (.ext (ExO ea C dx tb))) (h4:xIn K C=true) (h5:Q .non H1):qdW K Q vs H1
def qi1 (K:PySem.W.Frag) (t:TA):TE:=fun σ H Q=>t σ H fun vs H1=>qdW K Q vs H1
theorem qgC {H:Hp} {a:Addr} {o:HO} (h:H a=some o):upd H a o=H:=by
 funext b
 unfold upd
 split
 · rename_i e; rw [e,h]
 · rfl
theorem qeY:PySem.W.findCls [] (.type "ValueError") (.type "type") "__init__"=some (.val (.builtin "ValueError.__init__")):=by kernel_rfl
theorem qgR {pl:Sem Bool} (hg:Gl X x) (hm:X.mg x=none) (hv:bootBuiltins x=some (.type "ValueError")) (ha:PA X (e::es) t) (hn:x≠"__name__":=by decide) (hdb:(x == ("__debug__":Str))=false:=by decide)
   (hst:starEach (e::es) X.env=(false,eval e X.env)::starEach es X.env:=by rfl) (hpl:(backTo pos (starEach es X.env)).any (·.1)=false:=by rfl)
   (ht:eval (.Call (.Attribute (.Name x p) "__init__" apos) (e::es) [] pos) X.env=(do
     let ov ← eval (.Name x p) X.env
     standAt apos.atName
     let (f,first) ← holding [ov] (getMethod ov "__init__" pl)
     callWith pos f first (backTo pos (starEach (e::es) X.env)) (backToKw pos (keywordEach [] X.env))):=by rfl) :
   PE X (.Call (.Attribute (.Name x p) "__init__" apos) (e::es) [] pos) (qi1 X.K t):=by
 intro pins s σ H Q I h
 refine PySem.W.methodCall_KW (pl:=pl) (qac I hg hm hv ?_ hn hdb) ht
 obtain ⟨m,F⟩:=I.fr
 refine PySem.W.method_type (v:=.builtin "ValueError.__init__") F I.mod.kin (by kernel_rfl) (by decide +kernel) qeY rfl ?_
 have I0:=I.tok (s.toks+1)
 refine PyProof.Rows.callWith_builtin1 (thn (ha pos pins _ σ H _ I0 h) fun us s1 zz_=>?_) hst hpl
 obtain ⟨vs,H1,I1,r,ea,C,dx,tb,rest,ev,hl,e1,xi,q⟩:=zz_
 subst ev
 obtain ⟨u0,us0,rfl,r0,r1⟩:∃ u0 us0,us=u0::us0∧RelV (.ref ea) u0∧Vals rest us0:=by
   cases r with
   | cons a b=>exact ⟨_,_,rfl,a,b⟩
 obtain rfl:u0=Value.ref ea:=r0
 obtain ⟨⟨oe,vs,hx,hcl,hdx,hd,hz,h1⟩,_,_⟩:=(show ObjOk X.prog X.w H1 s1.heap ea (.ext (ExO ea C dx tb)) from I1.hok ea _ e1)
 refine qh5 I1.kIn xi hx hcl hd hz (by rw [← r1.length,sizeLine_eq]; omega) fun h' tp k1 k2=>⟨.non,H1,?_,rfl,q⟩
 have J:Inv X pins σ (upd H1 ea (.ext (ExO ea C dx tb))) { s1 with heap:=h',toks:=s1.toks }:=by
   refine I1.write (x:=ea) (e:=ea) (by rw [e1]; exact True.intro) (.inl rfl) k1 ⟨_,k2⟩ (qet ⟨_,_,k2,(Obj.cls_mapFields _ _).trans hcl,?_,Obj.data_mapFields hd _,by simp [hz],?_⟩)
   · rw [← hdx]
     obtain ⟨oc,od,odt,osl⟩:=oe
     have hd':odt=.fields vs:=hd
     subst hd'
     rfl
   · rw [Array.getElem?_setIfInBounds_ne (by decide)]; exact h1
 rw [qgC e1] at J
 exact J
structure qgy (K:PySem.W.Frag) (C f:Addr):Prop where
 sp:PySem.W.specialIn K (.ref C) "__getattribute__"=some (some (.builtin "type.__getattribute__"))
 rd:PySem.W.readsIn K C (.type "type")=true
 at_:PySem.W.findCls K (.ref C) (.type "type") "__init__"=some (.val (.ref f))
 kp:PySem.W.keepIn K (.ref f)=true
theorem Jj {k:Nat} {fd:FuncData} {ps:List Str} {sp:Sp} {pl:Sem Bool} (c:qgy X.K C fa) (F:qA X.prog X.w X.K X.mg X.base CX0 k fa fd ps sp) (hr:Room k X.A) (hb:Binds X.K fd ps []) (hg:Gl X x) (hm:X.mg x=some (.ref C))
   (ha:PA X (e::es) t) (hdb:(x == ("__debug__":Str))=false:=by decide)
   (hst:starEach (e::es) X.env=(false,eval e X.env)::starEach es X.env:=by rfl) (hpl:(backTo pos (starEach es X.env)).any (·.1)=false:=by rfl)
   (ht:eval (.Call (.Attribute (.Name x p) "__init__" apos) (e::es) [] pos) X.env=(do
     let ov ← eval (.Name x p) X.env
     standAt apos.atName
     let (f,first) ← holding [ov] (getMethod ov "__init__" pl)
     callWith pos f first (backTo pos (starEach (e::es) X.env)) (backToKw pos (keywordEach [] X.env))):=by rfl) :
   PE X (.Call (.Attribute (.Name x p) "__init__" apos) (e::es) [] pos) (qja sp [] E0 t):=by
 intro pins s σ H Q I h
 refine PySem.W.methodCall_KW (pl:=pl) (jU I hg hm ?_ hdb) ht
 refine PySem.W.method_cls I.kIn c.sp (PySem.W.cls_value I.kIn c.rd c.at_ rfl ?_)
 have I0:=I.tok (s.toks+1)
 refine PySem.W.callWith_K (h₀:=X.base) I.ok.mod.kin c.kp (thn (ha pos pins _ σ H _ I0 h) fun us s1 ⟨vs,H1,I1,r,q⟩=>⟨I1.kIn,?_⟩) hst hpl
 exact qeb F hr hb .nil qq I1 r q
def qka (K:PySem.W.Frag) (ta tv:TE) (f:Str):TS:=fun D σ H=>tv σ H fun y H1=>ta σ H1 fun x H2=>∃ ea C tb,x=.ref ea∧H2 ea=some (.ext (ExO ea C none tb))∧XC K C∧NoAttr K C f ∧
 ∀ dx,H2 dx=none->dx≠ea->D.nx σ (upd (upd H2 ea (.ext (ExO ea C (some dx) tb))) dx (.xd [(f,y)]))
theorem qiq (ha:PE X o ta) (hv:PE X value tv) (hs:swapsWith value (some (.Attribute o f pos')) pos.line X.env=pure false):PS X (.Assign [.Attribute o f pos'] value pos) (qka X.K ta tv f):=by
 intro pins s σ H D I h
 refine plainObj_wpAny_Assign_Attribute (thn (hv pins s σ H _ I h) fun u s1 ⟨y,H1,I1,ry,q⟩=>thn (ha pins s1 σ H1 _ I1 q) fun ov s2 zz_=>?_) hs
 obtain ⟨x,H2,I2,rx,ea,C,tb,ex,e1,c,n,q2⟩:=zz_
 subst ex
 obtain rfl:ov=Value.ref ea:=rx
 obtain ⟨⟨oe,vs,hx,hcl,hdx,hd,hz,h1⟩,_,_⟩:=(show ObjOk X.prog X.w H2 s2.heap ea (.ext (ExO ea C none tb)) from I2.hok ea _ e1)
 refine qjW I2.kIn c.xi hx hcl hd hdx c.sa n fun h' dx hp k1 k2 k3=>⟨σ,_,?_,q2 dx (I2.hok.fresh hp) (Nat.ne_of_gt (Nat.lt_of_lt_of_le (Heap.lt_size hx) hp))⟩
 refine I2.two (by rw [e1]; exact True.intro) hp k3 ⟨_,k1⟩ (qet ⟨_,_,k1,hcl,rfl,hd,hz,h1⟩) ⟨_,k2,fun g=>?_⟩
 by_cases z:g=f
 · subst z; simp [List.lookup]; exact ry
 · have:(g == f)=false:=by simp [z]
   simp [List.lookup,this,z]; exact True.intro
inductive qe6 (K:PySem.W.Frag) (f:Str) (Q:VK) (x:V) (H1:Hp):Prop
 | mk (ea C dx fs v:_) (h1:x=.ref ea) (h2:XAt H1 ea C (some dx)) (h3:H1 dx=some (.xd fs)) (h4:XC K C) (h5:NoAttr K C f) (h6:fs.lookup f=some v) (h7:Q v H1):qe6 K f Q x H1
def qiZ (K:PySem.W.Frag) (ta:TE) (f:Str):TE:=fun σ H Q=>ta σ H fun x H1=>qe6 K f Q x H1
theorem qiS {pins:List (Addr×Obj)} {σ:St} {H:Hp} {s:Shared} {ea C dx:Addr} {fs:List (Str×V)} (I:Inv X pins σ H s) (x:XAt H ea C (some dx)) (hd:H dx=some (.xd fs)) :
   ∃ (ox od:Obj) (mA:Str->Option Value),PySem.W.InstAt s.heap ea ox C (some od)∧(∀ name,PySem.W.lookIn name od=some (mA name))∧∀ f,RelO (fs.lookup f) (mA f):=by
 obtain ⟨tb,e1,_⟩:=x
 obtain ⟨⟨oe,vs,hx,hcl,hdx,hdt,hz,h1⟩,_,_⟩:=(show ObjOk X.prog X.w H s.heap ea (.ext (ExO ea C (some dx) tb)) from I.hok ea _ e1)
 obtain ⟨mA,n,r⟩:=(show ObjOk X.prog X.w H s.heap dx (.xd fs) from I.hok dx _ hd)
 obtain ⟨od,ho,hl⟩:=qc2 n
 exact ⟨oe,od,mA,⟨hx,hcl,by unfold PySem.W.notCls; rw [hdt],by rw [hdx]; exact ho⟩,hl,r⟩
theorem qit (he:PE X e ta) (hb:attributeBase e f X.env (eval e X.env)=eval e X.env):PE X (.Attribute e f pos) (qiZ X.K ta f):=by
 intro pins s σ H Q I h
 refine qgt hb (thn (he pins s σ H _ I h) fun u s1 zz_=>?_)
 obtain ⟨x,H1,I1,rx,ea,C,dx,fs,v,ex,xa,hd,c,n,l,q⟩:=zz_
 subst ex
 obtain rfl:u=Value.ref ea:=rx
 obtain ⟨ox,od,mA,J,hl,r⟩:=qiS I1 xa hd
 obtain ⟨uv,hu,ru⟩:=RelO.some_of (v:=v) (o:=mA f) (by rw [← l]; exact r f)
 have hh:PySem.W.hasDictIn X.K C=true:=by
   obtain ⟨cd,bm,hcd,_,_,hdict⟩:=xcd c.xi
   unfold PySem.W.hasDictIn
   rw [hcd]
   exact hdict
 exact qjY I1.kIn J c.xi c.ga c.na (PySem.W.findObj_own hh n rfl (by rw [hl,hu])) (qc9 ru) ⟨v,H1,I1.tok _,ru,q⟩
def qjQ (K:PySem.W.Frag) (C:Addr):V->Option Bool
 | .ref D=>if (PySem.W.clsIn K D).isSome && PySem.W.typeIn K (.ref D) == some (.type "type") then PySem.W.subIn K (.ref C) (.ref D) else none
 | .ty T=>if T == "ValueError" then some true else none
 | _=>none
end
end L2
namespace L2
open PySem PySem.Spec PyProof.Rows
abbrev qgh (X:Cx):Cx:={ X with xe:=fun _ _=>False }
abbrev qha (X:Cx) (ea:Addr):Cx:={ X with A:=X.A.mark (some (.ref ea)),calm:=false,xe:=fun _ _=>False }
section
variable {X:Cx} {pins:List (Addr×Obj)} {σ:St} {H:Hp} {s:Shared}
theorem Inv.dead (I:Inv X pins σ H s):Inv (qgh X) pins σ H s:=by
 obtain ⟨⟨a1,a2,a3,a4,a5,a6,a7,a8,a9,a10,a11,a12,a13,a14,a15,a16,a17,a18⟩,b1,b2,b3,b4,b5,b6,b7,b8,b9,b10⟩:=I
 exact ⟨⟨a1,a2,a3,a4,a5,a6,a7,a8,a9,a10,a11,a12,a13,a14,a15,a16,a17,a18⟩,b1,b2,b3,b4,b5,b6,b7,b8,b9,b10⟩
theorem Inv.live (I:Inv (qgh X) pins σ H s):Inv X pins σ H s:=by
 obtain ⟨⟨a1,a2,a3,a4,a5,a6,a7,a8,a9,a10,a11,a12,a13,a14,a15,a16,a17,a18⟩,b1,b2,b3,b4,b5,b6,b7,b8,b9,b10⟩:=I
 exact ⟨⟨a1,a2,a3,a4,a5,a6,a7,a8,a9,a10,a11,a12,a13,a14,a15,a16,a17,a18⟩,b1,b2,b3,b4,b5,b6,b7,b8,b9,b10⟩
theorem Inv.mark (I:Inv X pins σ H s) (ea:Addr):Inv (qha X ea) pins σ H s:=by
 obtain ⟨⟨a1,a2,a3,a4,a5,a6,a7,a8,a9,a10,a11,a12,a13,a14,a15,a16,a17,a18⟩,b1,b2,b3,b4,b5,b6,b7,b8,b9,b10⟩:=I
 exact ⟨⟨a1,a2,a3,a4,a5,a6,a7,a8,fun z=>(nomatch z),a10,a11,a12,a13,a14,a15,a16,a17,a18⟩,b1,b2,b3,b4,b5,b6,b7,b8,b9,b10⟩
theorem Inv.unmark {ea:Addr} {A0:Prop} (k:X.Ok) (I:Inv (qha X ea) pins σ H s):Inv X pins σ H s:=by
 obtain ⟨_,b1,b2,b3,b4,b5,b6,b7,b8,b9,b10⟩:=I
 exact ⟨k,b1,b2,b3,b4,b5,b6,b7,b8,b9,b10⟩
theorem Inv.lose {h':Heap} {m':Str->Option Value} {t':Nat} (I:Inv X pins σ H s) (hn:h'.Ns X.env.locals m') (hs:Heap.SameBut X.env.locals s.heap h'):Inv X pins (List.replicate X.N.length none) H { s with heap:=h',toks:=t' }:=by
 have neL:∀ b o,X.s₀.heap.get? b=some o->b≠X.env.locals:=fun b o e=>Nat.ne_of_lt (Nat.lt_of_lt_of_le (Heap.lt_size e) I.ok.above)
 have up:∀ b o,b≠X.env.locals->s.heap.get? b=some o->h'.get? b=some o:=fun b o hb e=>(hs.2 b hb).trans e
 refine ⟨I.ok,I.os,I.bare,⟨fun b o e n hb hx=>up b o (neL b o e) (I.base.keep b o e n hb hx),fun b o e n hb hx=>?_,I.base.free,fun b o e hx=>?_,I.base.tups,I.base.frzs,I.base.tbls⟩,
   ⟨m',hn,fun i x v _ e2 _=>?_⟩,fun x c e=>?_,I.free,I.freeC,fun p hp=>?_,fun b u e=>?_,by simp⟩
 · obtain ⟨sl,q⟩:=I.base.slot b o e n hb hx
   exact ⟨sl,up b _ (neL b o e) q⟩
 · obtain ⟨o',q⟩:=I.base.there b o e hx
   exact ⟨o',up b _ (neL b o e) q⟩
 · rw [List.getElem?_replicate] at e2
   split at e2<;>cases e2
 · obtain ⟨v,o,ho,hd⟩:=I.cell x c e
   exact ⟨v,o,up c o (I.cne x c e) ho,hd⟩
 · obtain ⟨e,n,ne,nf,d⟩:=I.pin p hp
   exact ⟨up p.1 p.2 ne e,n,ne,nf,d⟩
 · refine (I.hok b u e).stay (fun c v hc q=>up c v (fun z=>?_) q) (fun _ q=>q) fun _ _ q=>q
   rcases hc with hc | hc
   · rw [← hc,z,I.free] at e; cases e
   · rw [z,I.free] at hc; cases hc
end
section
variable {M:Model} {A:Around} {E:Value->Shared->Prop} {s:Shared}
theorem qeX {K:PySem.W.Frag} {C L x:Addr} {ox:Obj} {Q:Bool->Shared->Prop} (X:K.In s.heap) (xc:xIn K C=true) (xl:xIn K L=true) (hm:PySem.W.mroIn K C (.ref L)=some true) (hx:s.heap.get? x=some ox) (hc:ox.cls=.ref C)
   (h:Q true s):wpAny M A (excMatches (.ref x) (.ref L)) Q E s:=by
 obtain ⟨hp,g,d,tk,os⟩:=s
 obtain ⟨nm,qn,N,bs,bm,sn,sub,ab,col,dd,k0,k1,k2,k3,k5,hC,hxt⟩:=qjP X xl
 have hcB:(Value.ref L::bm).contains (.type "BaseException")=true:=by rw [List.contains_cons,QT (v:=true) (by decide +kernel) hxt,Bool.or_true]
 have f:=tc_notTuple
 have LL:=PySem.W.looks_mroIn (M:=M) X hm
 unfold excMatches
 repeat (first
   | (with_reducible refine wpAny_loadPart_at hx ?_; rw [hc])
   | with_reducible refine wpAny_loadPart_at hC ?_
   | (with_reducible refine wpAny_isSubtype_exc hC ?_; rw [hcB])
   | (with_reducible refine LL.at ?_)
   | wp_step)
 exact h
end
abbrev XTE:=St->Hp->VK->XK->Prop
abbrev XTS:=qeW->XK->St->Hp->Prop
def qky (X:Cx) (pins:List (Addr×Obj)) (σ:St) (E:XK) (Ex:Value->Shared->Prop):Prop :=
 ∀ (ea C:Addr) (dx:Option Addr) (H':Hp) (s':Shared),Inv X pins σ H' s'->XAt H' ea C dx->Sure E C ea dx H'->Ex (.ref ea) s'
def PEX (X:Cx) (e:Expr) (t:XTE):Prop :=
 ∀ (pins:List (Addr×Obj)) (s:Shared) (σ:St) (H:Hp) (Q:VK) (E:XK) (Ex:Value->Shared->Prop),Inv X pins σ H s->t σ H Q E->qky X pins σ E Ex->wpAny (model X.prog X.w) X.A (eval e X.env) (EP X pins σ Q) Ex s
def PX (X:Cx) (st:List Stmt) (t:XTS):Prop :=
 ∀ (pins:List (Addr×Obj)) (s:Shared) (σ:St) (H:Hp) (D:qeW) (E:XK) (Ex:Value->Shared->Prop),Inv X pins σ H s->t D E σ H->qky X pins σ E Ex->wpAny (model X.prog X.w) X.A (execs st X.env) (SP X pins D) Ex s
section
variable {X:Cx} {e o c:Expr} {es:List Expr} {a b:List Stmt} {x m:Str} {p pos apos:Pos} {ta:TE} {t:TA} {tc:TT} {f C:Addr} {fd:FuncData} {ps:List Str} {sp:Sp} {k:Nat}
theorem jW {α:Type} {u:Sem α} {Q:α->Shared->Prop} {M:Model} {A:Around} {Ex:Value->Shared->Prop} {s:Shared} (h:wpAny M A u Q (fun _ _=>False) s):wpAny M A u Q Ex s:=wpAny_mono h (fun _ _ z=>z) fun _ _ z=>z.elim
theorem qil {pins:List (Addr×Obj)} {σ:St} {H:Hp} {s:Shared} {Q:VK} {E:XK} {Ex:Value->Shared->Prop} {us:List Value} {vs:List V} (F:qA X.prog X.w X.K X.mg X.base (CX1 X.prog X.w) k f fd ps sp) (hr:Room k X.A) (hb:Binds X.K fd ps [])
   (I:Inv X pins σ H s) (r:Vals vs us) (h:sp vs H Q E) (w:qky X pins σ E Ex):wpAny (model X.prog X.w) X.A (call (.ref f) us) (EP X pins σ Q) Ex s:=by
 have hl:(us++[]).length=ps.length:=by rw [List.append_nil,← r.length]; exact F.len _ _ _ _ h
 have hbb:=hb s us I.kIn hl
 rw [List.append_nil] at hbb
 refine wpAny_call (codeAny_mono (F.run X.A X.stack s H ⟨us,[]⟩ us vs Q E hr I.env0 hbb r h) fun r s' hq=>?_)
 cases r with
 | error e =>
   obtain ⟨ea,C,dx,H',e1,os,bare,un,hok,x,q⟩:=hq
   subst e1
   exact w ea C dx H' s' (I.call' os un hok bare fun b z=>absurd z (by simp)) x q
 | ok fl =>
   cases fl with
   | ret u=>exact I.after hq
   | next=>exact False.elim hq
   | brk=>exact False.elim hq
   | cont=>exact False.elim hq
def qjZ (C:Addr) (m:Str) (sp:Sp) (ta:TE) (t:TA):XTE:=fun σ H Q E=>ta σ H fun x H1=>∃ a dx fs,x=.ref a∧H1 a=some (.ins C dx fs)∧fs.lookup m=none∧t σ H1 fun vs H2=>sp (x::vs) H2 Q E
theorem qb3 {pl:Sem Bool} (he:PE (qgh X) o ta) (c:Cls X.K C) (hm:qgz X.K C m f) (F:qA X.prog X.w X.K X.mg X.base (CX1 X.prog X.w) k f fd ps sp) (hr:Room k X.A) (hb:Binds X.K fd ps []) (ha:PA (qgh X) (e::es) t)
   (hst:starEach (e::es) X.env=(false,eval e X.env)::starEach es X.env:=by rfl) (hpl:(backTo pos (starEach es X.env)).any (·.1)=false:=by rfl)
   (ht:eval (.Call (.Attribute o m apos) (e::es) [] pos) X.env=(do
     let ov ← eval o X.env
     standAt apos.atName
     let (f,first) ← holding [ov] (getMethod ov m pl)
     callWith pos f first (backTo pos (starEach (e::es) X.env)) (backToKw pos (keywordEach [] X.env))):=by rfl) :
   PEX X (.Call (.Attribute o m apos) (e::es) [] pos) (qjZ C m sp ta t):=by
 intro pins s σ H Q E Ex I h w
 refine PySem.W.methodCall_KW (pl:=pl) (thn (jW (he pins s σ H _ I.dead h)) fun u s1 zz_=>?_) ht
 obtain ⟨x,H1,I1,rx,a,dx,fs,ex,ea,l,q⟩:=zz_
 subst ex
 obtain rfl:u=Value.ref a:=rx
 refine JN I1.live ea c hm l ?_
 refine PySem.W.callWith_K (first:=[.ref a]) (h₀:=X.base) I.ok.mod.kin hm.kp (thn (jW (ha pos pins s1 σ H1 _ I1 q)) fun us s2 ⟨vs,H2,I2,r,q2⟩=>⟨I2.kIn,?_⟩) hst hpl
 exact qil (us:=.ref a::us) (vs:=.ref a::vs) F hr hb I2.live (.cons rfl r) q2 w
def qj0 (te:XTE):XTS:=fun D E σ H=>te σ H (fun _ H1=>D.nx σ H1) E
theorem qdw {te:XTE} (he:PEX X e te) (hs:swapsWith e none pos.line X.env=pure false:=by rfl):PX X [.Expr e pos] (qj0 te):=by
 intro pins s σ H D E Ex I h w
 refine wpAny_execs_cons (wpAny_Expr_any (thn (he pins s σ H _ E Ex I h w) fun v s1 zz_=>?_) I.quiet hs)
 obtain ⟨x,H1,I1,r1,q1⟩:=zz_
 exact wpAny_execs_nil (show SP X pins D .next s1 from ⟨σ,H1,I1,q1⟩)
def xIf (tc:TT) (t u:XTS):XTS:=fun D E σ H=>tc σ H fun v H1=>if v=true then t D E σ H1 else u D E σ H1
theorem qjj {t u:XTS} (hc:PT (qgh X) c tc) (ha:PX X a t) (hb:PX X b u):PX X [.If c a b pos] (xIf tc t u):=by
 intro pins s σ H D E Ex I h w
 have fin:∀ f s',SP X pins D f s'->(match f with | .next=>wpAny (model X.prog X.w) X.A (execs [] X.env) (SP X pins D) Ex s' | f=>SP X pins D f s'):=fun f s' q=>by
   cases f with
   | next=>exact wpAny_execs_nil q
   | ret v=>exact q
   | brk=>exact q
   | cont=>exact q
 refine wpAny_execs_cons (wpAny_If (thn (jW (hc pins s σ H _ I.dead h)) fun d s1 zz_=>?_))
 obtain ⟨H1,I1,q1⟩:=zz_
 cases d with
 | true=>exact thn (ha pins s1 σ H1 D E Ex I1.live q1 w) fin
 | false=>exact thn (hb pins s1 σ H1 D E Ex I1.live q1 w) fin
end
end L2
namespace L2
open PySem PySem.Spec PyProof.Rows
def qiD (v:Value):Bool:=match v with
 | .type s=>s == "type"
 | _=>false
def qiE (v:Option Value):Bool:=match v with
 | some (.builtin s)=>s == "ValueError.__new__"
 | _=>false
def qkh (C:Addr) (l:List Value):Bool:=match l with
 | .ref C1::bm=>C1 == C && qad bm
 | _=>false
def xOb (C:Addr) (o:Obj):Bool:=match o.data with
 | .cls cd=>qiD o.cls && qkh C cd.mro && !cd.hasDel && cd.hasDict && o.slots.size == 6 && qiE (o.slots.getD 4 none)
 | _=>false
theorem qhe {v:Value} (h:qiD v=true):v=.type "type":=by
 cases v with
 | type s=>rw [eq_of_beq (show (s == "type")=true from h)]
 | _=>cases h
theorem qhf {v:Option Value} (h:qiE v=true):v=some (.builtin "ValueError.__new__"):=by
 cases v with
 | none=>cases h
 | some v =>
   cases v with
   | builtin s=>rw [eq_of_beq (show (s == "ValueError.__new__")=true from h)]
   | _=>cases h
theorem qiB {C:Addr} {l:List Value} (h:qkh C l=true):∃ bm,l=.ref C::bm∧qad bm=true:=by
 cases l with
 | nil=>cases h
 | cons v bm =>
   cases v with
   | ref C1 =>
     have h':(C1 == C && qad bm)=true:=h
     rw [Bool.and_eq_true] at h'
     exact ⟨bm,by rw [eq_of_beq h'.1],h'.2⟩
   | _=>cases h
theorem six {α:Type} {l:List α} (h:l.length=6):∃ a b c d e f,l=[a,b,c,d,e,f]:=by
 obtain ⟨a,l,rfl⟩:=List.exists_cons_of_length_eq_add_one h
 obtain ⟨b,l,rfl⟩:=List.exists_cons_of_length_eq_add_one (Nat.succ.inj h)
 obtain ⟨c,l,rfl⟩:=List.exists_cons_of_length_eq_add_one (Nat.succ.inj (Nat.succ.inj h))
 obtain ⟨d,l,rfl⟩:=List.exists_cons_of_length_eq_add_one (Nat.succ.inj (Nat.succ.inj (Nat.succ.inj h)))
 obtain ⟨e,l,rfl⟩:=List.exists_cons_of_length_eq_add_one (Nat.succ.inj (Nat.succ.inj (Nat.succ.inj (Nat.succ.inj h))))
 obtain ⟨f,l,rfl⟩:=List.exists_cons_of_length_eq_add_one (Nat.succ.inj (Nat.succ.inj (Nat.succ.inj (Nat.succ.inj (Nat.succ.inj h)))))
 have:l=[]:=List.eq_nil_of_length_eq_zero (Nat.succ.inj (Nat.succ.inj (Nat.succ.inj (Nat.succ.inj (Nat.succ.inj (Nat.succ.inj h))))))
 subst this
 exact ⟨a,b,c,d,e,f,rfl⟩
theorem qhx {K:PySem.W.Frag} {C:Addr} {o:Obj} (h:K.lookup C=some o) (q:xOb C o=true):xIn K C=true:=by
 obtain ⟨oc,dd,od,⟨sl⟩⟩:=o
 cases od with
 | cls cd =>
   have q':(qiD oc && qkh C cd.mro && !cd.hasDel && cd.hasDict && sl.length == 6 && qiE ((Array.mk sl).getD 4 none))=true:=q
   simp only [Bool.and_eq_true,beq_iff_eq,Bool.not_eq_true'] at q'
   obtain ⟨⟨⟨⟨⟨q0,q1⟩,q2⟩,q3⟩,q4⟩,q5⟩:=q'
   obtain ⟨bm,hm,hx⟩:=qiB q1
   obtain ⟨k0,k1,k2,k3,k4,k5,rfl⟩:=six q4
   have e4:k4=some (.builtin "ValueError.__new__"):=qhf q5
   have e0:=qhe q0
   obtain ⟨nm,bs,mro,ns,qn,hdc,sn,sub,ab,col,del⟩:=cd
   dsimp only at hm q2 q3
   subst hm q2 q3 e4 e0
   exact xIn_iff.mpr ⟨nm,qn,ns,bs,bm,sn,sub,ab,col,dd,k0,k1,k2,k3,k5,h,hx⟩
 | _=>cases q
theorem qh6 {K:PySem.W.Frag} {C D:Addr} {b:Bool} (h1:PySem.W.isClsIn K D=true) (h2:PySem.W.typeIn K (.ref D)=some (.type "type")) (h3:PySem.W.subIn K (.ref C) (.ref D)=some b):qjQ K C (.ref D)=some b:=by
 unfold qjQ
 have h1':(PySem.W.clsIn K D).isSome=true:=h1
 simp only [h1',h2,Bool.true_and,beq_self_eq_true,if_true]
 exact h3
theorem qiI {P:Program} {w:World} {X:Cx}:jN (CX1 P w) X E0:=fun _ _ _ _ _ _ _ ⟨_,_,_,H',_,_,_,_,_,x,q⟩=>(q H' (fun _ _ _ e=>e) x).elim
def Rz (C:Addr) (f:Str) (v:V) (H:Hp) (E:XK):Prop:=∀ (ea dx:Addr) (H':Hp),Same H H'->H ea=none->H dx=none->H' dx=some (.xd [(f,v)])->XAt H' ea C (some dx)->E (.ref C) (some ea) H'
theorem Rz.sure {C:Addr} {f:Str} {v:V} {H:Hp} {E:XK} (h:Rz C f v H E) {ea dx:Addr} {tb:Value} (n1:H ea=none) (n2:H dx=none) (ne:dx≠ea) :
   Sure E C ea (some dx) (upd (upd (upd H ea (.ext (ExO ea C none .none))) ea (.ext (ExO ea C (some dx) tb))) dx (.xd [(f,v)])):=by
 intro H' k x
 refine h ea dx H' (fun b o e=>k b o (qi e n1) ?_) n1 n2 (k dx _ ne qc) x
 rw [qh (qi e n2),qh (qi e n1),qh (qi e n1)]
 exact e
section
variable {P:Program} {w:World} {K:PySem.W.Frag} {mg:Str->Option Value} {base:Heap}
theorem Fun.okX {x qual:Str} {st:Stmt} {f:Addr} {fd:FuncData} {N ps:List Str} {k:Nat} {sp:Sp} (F:Fun K x qual st f fd) (S:qm N ps (qd st)) (len:∀ vs H Q E,sp vs H Q E->vs.length=ps.length)
   (hbody:∀ (cdv:Value) (A:Around) (outer:List Env) (s:Shared) (H:Hp) (vs:List V) (Q:VK) (E:XK),Room k (A.deeper (envOfC qual (qd st) s.heap.objs.size f cdv))->sp vs H Q E ->
     ∃ t,PSs (zv (CX1 P w) P w K mg base N qual (qd st) f cdv A outer s H E) (qk st) t∧t { nx:=fun _ H'=>Q .non H',rt:=Q } (qbO N vs) H):qA P w K mg base (CX1 P w) (k+1) f fd ps sp:=by
 obtain ⟨oc,od,kV,doc,pm,an,cdv,ct,osl,rfl,lk,hcd⟩:=F.ex
 exact qjF lk hcd S len fun A outer s H vs Q E hr hsp=>hbody cdv A outer s H vs Q E hr hsp
end
end L2
namespace L2
open PySem PySem.Spec PyProof.Rows
end L2
namespace L2
open PySem PySem.Spec PyProof.Rows
end L2
namespace L2
open PySem PySem.Spec PyProof.Rows
theorem qhp (zs:List V) (n:Nat) (k:Int) (hk:k=(n:Int)):qeV zs none (some k)=zs.take n:=by
 subst hk
 unfold qeV
 rw [HT.sIx_none,HT.sIx_nat,Nat.sub_zero,List.drop_zero]
 by_cases h:n≤zs.length
 · rw [Nat.min_eq_left h]
 · rw [Nat.min_eq_right (by omega),List.take_of_length_le (Nat.le_refl _),List.take_of_length_le (by omega)]
theorem qhq (zs:List V) (n:Nat) (k:Int) (hk:k=(n:Int)):qeV zs (some k) none=zs.drop n:=by
 subst hk
 unfold qeV
 rw [HT.sIx_none,HT.sIx_nat]
 by_cases h:n≤zs.length
 · rw [Nat.min_eq_left h,List.take_of_length_le (by rw [List.length_drop]; exact Nat.le_refl _)]
 · rw [Nat.min_eq_right (by omega),List.drop_of_length_le (Nat.le_refl _),List.drop_of_length_le (by omega),List.take_nil]
end L2
namespace Srt
open PySem PySem.W PyProof.Rows
def RunP {α:Type} (lt:Nat->Nat->Bool) (n:Nat):KasT α->(α->Prop)->Prop
 | .ret a,P=>P a
 | .ask i j k,P=>i < n∧j < n∧RunP lt n (k (lt i j)) P
section
variable {lt:Nat->Nat->Bool} {n:Nat}
theorem RunP.bind {α β:Type} {f:α->KasT β} {P:β->Prop}:∀ {t:KasT α},RunP lt n t (fun a=>RunP lt n (f a) P)->RunP lt n (t.bind f) P
 | .ret _,h=>h
 | .ask i j k,h=>⟨h.1,h.2.1,RunP.bind (t:=k (lt i j)) h.2.2⟩
theorem RunP.mono {α:Type} {P P':α->Prop} (hp:∀ a,P a->P' a):∀ {t:KasT α},RunP lt n t P->RunP lt n t P'
 | .ret _,h=>hp _ h
 | .ask i j k,h=>⟨h.1,h.2.1,RunP.mono hp (t:=k (lt i j)) h.2.2⟩
theorem RunP.wp {α:Type} {cmp:Nat->Nat->(Bool->Shared->Prop)->Shared->Prop} {Q:α->Shared->Prop} {P:α->Prop} {s:Shared} (hc:∀ i j (C:Bool->Shared->Prop),i < n->j < n->C (lt i j) s->cmp i j C s) (hq:∀ a,P a->Q a s):∀ {t:KasT α},RunP lt n t P->t.kasWp cmp Q s
 | .ret _,h=>hq _ h
 | .ask i j k,h=>hc i j _ h.1 h.2.1 (RunP.wp hc hq (t:=k (lt i j)) h.2.2)
theorem RunP.ite {α:Type} {c:Prop} [Decidable c] {t u:KasT α} {P:α->Prop} (h1:c->RunP lt n t P) (h2:¬ c->RunP lt n u P):RunP lt n (if c then t else u) P:=by
 by_cases h:c
 · rw [if_pos h]; exact h1 h
 · rw [if_neg h]; exact h2 h
def Bd (n:Nat) (p:Array Nat):Prop:=∀ x,p.getD x 0 < n
theorem qa3 {p q:Array Nat} {x y:Nat} (h:p[x]?=q[y]?):p.getD x 0=q.getD y 0:=by
 simp only [Array.getD_eq_getD_getElem?,h]
theorem qbx {p:Array Nat} {i j:Nat} (hj:j≤p.size) (x:Nat):(kas_rev p i j).getD x 0=if i≤x∧x < j then p.getD (i+j - 1 - x) 0 else p.getD x 0:=by
 have h:=getElem?_mirror_all (xs:=p) (i:=i) hj x
 by_cases c:i≤x∧x < j
 · rw [if_pos c] at h ⊢; exact qa3 h
 · rw [if_neg c] at h ⊢; exact qa3 h
theorem Bd.rev {p:Array Nat} {i j:Nat} (h:Bd n p) (hj:j≤p.size):Bd n (kas_rev p i j):=fun x=>by
 rw [qbx hj]
 split<;>exact h _
theorem qgo {p:Array Nat} {k d:Nat} (hk:k < p.size) (hd:d≤k) (x:Nat):(bubble p k d).getD x 0=if x=k - d then p.getD k 0 else if k - d < x∧x≤k then p.getD (x - 1) 0 else p.getD x 0:=by
 have h:=getElem?_bubble (xs:=p) hk d hd x
 by_cases c:x=k - d
 · rw [if_pos c] at h ⊢; exact qa3 h
 · rw [if_neg c] at h ⊢
   by_cases c2:k - d < x∧x≤k
   · rw [if_pos c2] at h ⊢; exact qa3 h
   · rw [if_neg c2] at h ⊢; exact qa3 h
theorem Bd.bub {p:Array Nat} {k d:Nat} (h:Bd n p) (hk:k < p.size) (hd:d≤k):Bd n (bubble p k d):=fun x=>by
 rw [qgo hk hd]
 by_cases c:x=k - d
 · rw [if_pos c]; exact h _
 · rw [if_neg c]
   by_cases c2:k - d < x∧x≤k
   · rw [if_pos c2]; exact h _
   · rw [if_neg c2]; exact h _
structure Ord (lt:Nat->Nat->Bool):Prop where
 tr:∀ a b c,lt b a=false->lt c b=false->lt c a=false
 asy:∀ a b,lt a b=true->lt b a=false
theorem Ord.irr (O:Ord lt) (a:Nat):lt a a=false:=by
 cases h:lt a a with
 | false=>rfl
 | true=>rw [← h]; exact O.asy _ _ h
def Up (lt:Nat->Nat->Bool) (p:Array Nat) (k:Nat):Prop:=∀ x,x+1 < k->lt (p.getD (x+1) 0) (p.getD x 0)=false
def Dn (lt:Nat->Nat->Bool) (p:Array Nat) (k:Nat):Prop:=∀ x,x+1 < k->lt (p.getD x 0) (p.getD (x+1) 0)=false
def Eqv (lt:Nat->Nat->Bool) (a b:Nat):Prop:=lt a b=false∧lt b a=false
theorem Eqv.not (O:Ord lt) {a a' b b':Nat} (h1:Eqv lt a a') (h2:Eqv lt b b') (h:lt a b=false):lt a' b'=false:=O.tr _ _ _ (O.tr _ _ _ h2.1 h) h1.2
theorem Up.le (O:Ord lt) {p:Array Nat} {k:Nat} (h:Up lt p k) {x:Nat}:∀ d,x+d < k->lt (p.getD (x+d) 0) (p.getD x 0)=false
 | 0,_=>O.irr _
 | d+1,hd=>O.tr _ _ _ (Up.le O h d (by omega)) (h (x+d) (by omega))
theorem qgu (p:Array Nat) (hb:Bd n p):∀ (f m:Nat),1≤m->Up lt p m->RunP lt n (kas_asc p f m) fun r=>m≤r∧r≤m+f∧Up lt p r∧(r < m+f->lt (p.getD r 0) (p.getD (r - 1) 0)=true)
 | 0,m,_,hu=>⟨Nat.le_refl _,Nat.le_refl _,hu,fun h=>absurd h (by omega)⟩
 | f+1,m,h1,hu=>by
   refine ⟨hb _,hb _,RunP.ite (fun c=>?_) (fun c=>?_)⟩
   · exact ⟨Nat.le_refl _,by omega,hu,fun _=>c⟩
   · have c:lt (p.getD m 0) (p.getD (m - 1) 0)=false:=by simpa using c
     refine RunP.mono (fun r h=>?_) (qgu p hb f (m+1) (by omega) (fun x hx=>?_))
     · exact ⟨by omega,by omega,h.2.2.1,fun z=>h.2.2.2 (by omega)⟩
     · by_cases e:x+1=m
       · have e1:x=m - 1:=by omega
         rw [e1,show m - 1+1=m by omega]
         exact c
       · exact hu x (by omega)
def Blk (lt:Nat->Nat->Bool) (p:Array Nat) (m q:Nat):Prop:=q+1≤m∧∀ x,m - (q+1)≤x->x < m->Eqv lt (p.getD x 0) (p.getD (m - 1) 0)
theorem Blk.rev (O:Ord lt) {p:Array Nat} {m q:Nat} (hm:m≤p.size) (h:Blk lt p m q) (x:Nat) (hx:x < m):Eqv lt (p.getD x 0) ((kas_rev p (m - (q+1)) m).getD x 0):=by
 rw [qbx hm]
 by_cases c:m - (q+1)≤x∧x < m
 · rw [if_pos c]
   have h1:=h.2 x c.1 c.2
   have hq:=h.1
   have h2:=h.2 (m - (q+1)+m - 1 - x) (by omega) (by omega)
   exact ⟨O.tr _ _ _ h2.2 h1.1,O.tr _ _ _ h1.2 h2.1⟩
 · rw [if_neg c]; exact ⟨O.irr _,O.irr _⟩
theorem Dn.eqv (O:Ord lt) {p p':Array Nat} {m:Nat} (h:Dn lt p m) (e:∀ x,x < m->Eqv lt (p.getD x 0) (p'.getD x 0)):Dn lt p' m:=fun x hx=>(e x (by omega)).not O (e (x+1) hx) (h x hx)
theorem qcq (O:Ord lt):∀ (f:Nat) (p:Array Nat) (m q:Nat),Bd n p->1≤m->m+f≤p.size->Dn lt p m->Blk lt p m q->RunP lt n (kas_desc f p m q) fun r =>
   Bd n r.1∧r.1.Perm p∧r.1.size=p.size∧m≤r.2.1∧r.2.1≤m+f∧Dn lt r.1 r.2.1∧Blk lt r.1 r.2.1 r.2.2
 | 0,p,m,q,hb,h1,hs,hd,bl=>⟨hb,Array.Perm.refl _,rfl,Nat.le_refl _,Nat.le_refl _,hd,bl⟩
 | f+1,p,m,q,hb,h1,hs,hd,bl=>by
   have one:∀ p':Array Nat,p'.getD m 0=p'.getD (m+1 - 1) 0:=fun p'=>rfl
   refine ⟨hb _,hb _,RunP.ite (fun c=>RunP.ite (fun hq=>?_) (fun hq=>?_)) (fun c=>⟨hb _,hb _,RunP.ite (fun d=>?_) (fun d=>?_)⟩)⟩
   · have hm:m≤p.size:=by omega
     have ev:=bl.rev O hm
     have sz:(kas_rev p (m - (q+1)) m).size=p.size:=kas_rev_size _ _
     have out:(kas_rev p (m - (q+1)) m).getD m 0=p.getD m 0:=by rw [qbx hm,if_neg (by omega)]
     refine RunP.mono (fun r h=>?_) (qcq O f (kas_rev p (m - (q+1)) m) (m+1) 0 (hb.rev hm) (by omega) (by omega) (fun x hx=>?_) ⟨by omega,fun x h0 h2=>?_⟩)
     · exact ⟨h.1,h.2.1.trans (mirror_perm _ _ _ _),by rw [h.2.2.1,sz],by omega,by omega,h.2.2.2.2.2.1,h.2.2.2.2.2.2⟩
     · by_cases e:x+1=m
       · have e1:x=m - 1:=by omega
         subst e1
         rw [show m - 1+1=m by omega,out]
         exact (ev (m - 1) (by omega)).not O ⟨O.irr _,O.irr _⟩ (O.asy _ _ c)
       · exact hd.eqv O ev x (by omega)
     · have e:x=m:=by omega
       subst e
       exact ⟨O.irr _,O.irr _⟩
   · refine RunP.mono (fun r h=>?_) (qcq O f p (m+1) 0 hb (by omega) (by omega) (fun x hx=>?_) ⟨by omega,fun x h0 h2=>?_⟩)
     · exact ⟨h.1,h.2.1,h.2.2.1,by omega,by omega,h.2.2.2.2.2.1,h.2.2.2.2.2.2⟩
     · by_cases e:x+1=m
       · have e1:x=m - 1:=by omega
         subst e1
         rw [show m - 1+1=m by omega]
         exact O.asy _ _ c
       · exact hd x (by omega)
     · have e:x=m:=by omega
       subst e
       exact ⟨O.irr _,O.irr _⟩
   · exact ⟨hb,Array.Perm.refl _,rfl,Nat.le_refl _,(by show m≤m+(f+1); omega),hd,bl⟩
   · have c:lt (p.getD m 0) (p.getD (m - 1) 0)=false:=by simpa using c
     have d:lt (p.getD (m - 1) 0) (p.getD m 0)=false:=by simpa using d
     refine RunP.mono (fun r h=>?_) (qcq O f p (m+1) (q+1) hb (by omega) (by omega) (fun x hx=>?_) ⟨by have:=bl.1; omega,fun x h0 h2=>?_⟩)
     · exact ⟨h.1,h.2.1,h.2.2.1,by omega,by omega,h.2.2.2.2.2.1,h.2.2.2.2.2.2⟩
     · by_cases e:x+1=m
       · have e1:x=m - 1:=by omega
         subst e1
         rw [show m - 1+1=m by omega]
         exact d
       · exact hd x (by omega)
     · show Eqv lt (p.getD x 0) (p.getD m 0)
       by_cases e:x=m
       · rw [e]; exact ⟨O.irr _,O.irr _⟩
       · have:=bl.2 x (by omega) (by omega)
         exact ⟨O.tr _ _ _ d this.1,O.tr _ _ _ this.2 c⟩
theorem Dn.rev {p:Array Nat} {m:Nat} (h:Dn lt p m) (hm:m≤p.size):Up lt (kas_rev p 0 m) m:=fun x hx=>by
 rw [qbx hm,qbx hm,if_pos ⟨Nat.zero_le _,by omega⟩,if_pos ⟨Nat.zero_le _,by omega⟩]
 have:=h (m - 2 - x) (by omega)
 rw [show m - 2 - x+1=0+m - 1 - x by omega] at this
 rw [show 0+m - 1 - (x+1)=m - 2 - x by omega]
 exact this
def Cnt (lt:Nat->Nat->Bool) (n N:Nat) (p:Array Nat) (r:Nat×Array Nat):Prop:=Bd n r.2∧r.2.Perm p∧r.2.size=p.size∧1≤r.1∧r.1≤N∧Up lt r.2 r.1
theorem qdV {N m:Nat} {p:Array Nat} (hb:Bd n p) (h1:1≤m) (hm:m≤N) (hs:N≤p.size) (hd:Dn lt p m):RunP lt n (kas_tail3 m N p) (Cnt lt n N p):=by
 unfold kas_tail3
 refine RunP.bind (RunP.mono (fun r h=>?_) (qgu (kas_rev p 0 m) (hb.rev (by omega)) (N - m) m h1 (hd.rev (by omega))))
 exact ⟨hb.rev (by omega),mirror_perm _ _ _ _,kas_rev_size _ _,by omega,by omega,h.2.2.1⟩
theorem qa6 (O:Ord lt) {N m:Nat} {p:Array Nat} (hb:Bd n p) (h1:1≤m) (hm:m < N) (hs:N≤p.size) (hd:Dn lt p (m+1)):RunP lt n (kas_descPart m N p) (Cnt lt n N p):=by
 unfold kas_descPart
 refine RunP.bind (RunP.mono (fun r h=>?_) (qcq O (N - (m+1)) p (m+1) 0 hb (by omega) (by omega) hd ⟨by omega,fun x h0 h2=>by
   have e:x=m:=by omega
   subst e
   exact ⟨O.irr _,O.irr _⟩⟩))
 obtain ⟨g1,g2,g3,g4,g5,g6,g7⟩:=h
 refine RunP.ite (fun hq=>?_) (fun hq=>?_)
 · have hm2:r.2.1≤r.1.size:=by omega
   refine RunP.mono (fun z hz=>?_) (qdV (g1.rev hm2) (by omega) (by omega) (by rw [kas_rev_size]; omega) (g6.eqv O (g7.rev O hm2)))
   exact ⟨hz.1,(hz.2.1.trans (mirror_perm _ _ _ _)).trans g2,by rw [hz.2.2.1,kas_rev_size,g3],hz.2.2.2⟩
 · refine RunP.mono (fun z hz=>?_) (qdV g1 (by omega) (by omega) (by omega) g6)
   exact ⟨hz.1,hz.2.1.trans g2,by rw [hz.2.2.1,g3],hz.2.2.2⟩
theorem qhr (O:Ord lt) {N:Nat} {p:Array Nat} (hb:Bd n p) (h2:1≤N) (hs:N≤p.size):RunP lt n (kas_count N p) (Cnt lt n N p):=by
 unfold kas_count
 refine RunP.bind (RunP.mono (fun m h=>?_) (qgu p hb (N - 1) 1 (Nat.le_refl _) (fun x hx=>by omega)))
 obtain ⟨m1,mN,up,stop⟩:=h
 refine RunP.ite (fun c=>?_) (fun c=>?_)
 · exact ⟨hb,Array.Perm.refl _,rfl,m1,by omega,up⟩
 · have c:m≠N:=by simpa using c
   have st:=stop (by omega)
   refine RunP.ite (fun g=>⟨hb _,hb _,RunP.ite (fun e=>?_) (fun e=>?_)⟩) (fun g=>?_)
   · exact ⟨hb,Array.Perm.refl _,rfl,m1,by omega,up⟩
   · have e:lt (p.getD 0 0) (p.getD (m - 1) 0)=false:=by simpa using e
     -- all of the first m are alike
     have alike:∀ x,x < m->Eqv lt (p.getD x 0) (p.getD (m - 1) 0):=fun x hx=>by
       have a1:=up.le O (x:=x) (m - 1 - x) (by omega)
       rw [show x+(m - 1 - x)=m - 1 by omega] at a1
       have a2:=up.le O (x:=0) x (by omega)
       rw [Nat.zero_add] at a2
       exact ⟨O.tr _ _ _ e a2,a1⟩
     have hmp:m≤p.size:=by omega
     have blk:Blk lt p m (m - 1):=⟨by omega,fun x _ hx=>alike x hx⟩
     have ev:=blk.rev O hmp
     rw [show m - (m - 1+1)=0 by omega] at ev
     have dn0:Dn lt p m:=fun x hx=>O.tr _ _ _ (alike (x+1) hx).2 (alike x (by omega)).1
     have dn:Dn lt (kas_rev p 0 m) (m+1):=fun x hx=>by
       by_cases e1:x+1=m
       · have e2:x=m - 1:=by omega
         subst e2
         have out:(kas_rev p 0 m).getD (m - 1+1) 0=p.getD m 0:=by rw [qbx hmp,if_neg (by omega),show m - 1+1=m by omega]
         rw [out]
         exact (ev (m - 1) (by omega)).not O ⟨O.irr _,O.irr _⟩ (O.asy _ _ st)
       · exact dn0.eqv O ev x (by omega)
     refine RunP.mono (fun z hz=>?_) (qa6 O (hb.rev hmp) m1 (by omega) (by rw [kas_rev_size]; exact hs) dn)
     exact ⟨hz.1,hz.2.1.trans (mirror_perm _ _ _ _),by rw [hz.2.2.1,kas_rev_size],hz.2.2.2⟩
   · have e1:m=1:=by omega
     subst e1
     exact qa6 O hb (Nat.le_refl _) (by omega) hs (fun x hx=>by
       have:x=0:=by omega
       subst this
       exact O.asy _ _ st)
theorem qb2 (O:Ord lt) {p:Array Nat} {k:Nat} (hb:Bd n p) (up:Up lt p k):∀ (f l r:Nat),l≤r->r≤k->r - l≤f->(∀ x,x < l->lt (p.getD k 0) (p.getD x 0)=false)->(∀ x,r≤x->x < k->lt (p.getD k 0) (p.getD x 0)=true) ->
   RunP lt n (kas_place p k f l r) fun m=>m≤k∧(∀ x,x < m->lt (p.getD k 0) (p.getD x 0)=false)∧∀ x,m≤x->x < k->lt (p.getD k 0) (p.getD x 0)=true
 | 0,l,r,h1,h2,h3,a,b=>⟨by omega,a,fun x hx=>b x (by omega)⟩
 | f+1,l,r,h1,h2,h3,a,b=>by
   refine RunP.ite (fun c=>?_) (fun c=>⟨hb _,hb _,RunP.ite (fun d=>?_) (fun d=>?_)⟩)
   · exact ⟨by omega,a,fun x hx=>b x (by omega)⟩
   · refine qb2 O hb up f l ((l+r) / 2) (by omega) (by omega) (by omega) a fun x hx hk=>?_
     cases hz:lt (p.getD k 0) (p.getD x 0) with
     | true=>rfl
     | false =>
       have q:=up.le O (x:=(l+r) / 2) (x - (l+r) / 2) (by omega)
       rw [show (l+r) / 2+(x - (l+r) / 2)=x by omega] at q
       have:=O.tr _ _ _ q hz
       rw [d] at this
       cases this
   · have d:lt (p.getD k 0) (p.getD ((l+r) / 2) 0)=false:=by simpa using d
     refine qb2 O hb up f ((l+r) / 2+1) r (by omega) h2 (by omega) (fun x hx=>?_) b
     have q:=up.le O (x:=x) ((l+r) / 2 - x) (by omega)
     rw [show x+((l+r) / 2 - x)=(l+r) / 2 by omega] at q
     exact O.tr _ _ _ q d
theorem qhZ (O:Ord lt):∀ (f:Nat) (p:Array Nat) (k:Nat),Bd n p->k+f≤p.size->Up lt p k->RunP lt n (kas_bin f p k) fun r=>r.Perm p∧Up lt r (k+f)
 | 0,p,k,hb,hs,up=>⟨Array.Perm.refl _,up⟩
 | f+1,p,k,hb,hs,up=>by
   refine RunP.bind (RunP.mono (fun l h=>?_) (qb2 O hb up k 0 k (Nat.zero_le _) (Nat.le_refl _) (by omega) (fun x hx=>absurd hx (by omega)) (fun x h1 h2=>absurd h1 (by omega))))
   obtain ⟨lk,lo,hi⟩:=h
   have hk:k < p.size:=by omega
   refine RunP.mono (fun r h=>⟨h.1.trans (bubble_perm _ _ _),by rw [show k+(f+1)=k+1+f by omega]; exact h.2⟩) (qhZ O f (bubble p k (k - l)) (k+1) (hb.bub hk (by omega)) (by rw [bubble_size]; omega) (fun x hx=>?_))
   have e:k - (k - l)=l:=by omega
   rw [qgo hk (by omega),qgo hk (by omega),e]
   by_cases c1:x+1=l
   · rw [if_pos c1,if_neg (by omega),if_neg (by omega)]
     exact lo x (by omega)
   · rw [if_neg c1]
     by_cases c2:x=l
     · rw [if_pos c2,if_pos ⟨by omega,by omega⟩,show x+1 - 1=x by omega]
       exact O.asy _ _ (hi x (by omega) (by omega))
     · rw [if_neg c2]
       by_cases c3:l < x
       · rw [if_pos ⟨by omega,by omega⟩,if_pos ⟨c3,by omega⟩]
         have:=up (x - 1) (by omega)
         rw [show x - 1+1=x by omega] at this
         rw [show x+1 - 1=x by omega]
         exact this
       · rw [if_neg (by omega),if_neg (by omega)]
         exact up x (by omega)
theorem sort_ok (O:Ord lt) (h:1≤n):RunP lt n (kas_sort n) fun r=>r.Perm (List.toArray (List.range n))∧Up lt r n:=by
 have hb:Bd n (List.toArray (List.range n)):=fun x=>by
   simp only [Array.getD_eq_getD_getElem?,List.getElem?_toArray]
   by_cases hx:x < n
   · rw [List.getElem?_range hx]; exact hx
   · rw [List.getElem?_eq_none (by simp; omega)]; exact h
 have sz:(List.toArray (List.range n)).size=n:=by simp
 unfold kas_sort
 refine RunP.bind (RunP.mono (fun r hr=>?_) (qhr O hb h (by omega)))
 obtain ⟨g1,g2,g3,g4,g5,g6⟩:=hr
 refine RunP.ite (fun c=>?_) (fun c=>?_)
 · have e:max r.1 1=r.1:=by omega
   rw [e]
   refine RunP.mono (fun z hz=>⟨hz.1.trans g2,?_⟩) (qhZ O (n - r.1) r.2 r.1 g1 (by omega) g6)
   have:=hz.2
   rw [show r.1+(n - r.1)=n by omega] at this
   exact this
 · have e:r.1=n:=by omega
   rw [e] at g6
   exact ⟨g2,g6⟩
end
end Srt
namespace L2
open PySem PySem.Spec PyProof.Rows
theorem ObjOk.lies {P:Program} {w:World} {H:Hp} {h:Heap} {a:Addr} {o:HO} (x:ObjOk P w H h a o):∃ ob,h.get? a=some ob:=by
 cases o with
 | lst xs=>obtain ⟨_,_,_,_,e⟩:=x; exact ⟨_,e⟩
 | tup xs=>obtain ⟨_,_,_,o,e,_⟩:=x; exact ⟨_,e⟩
 | dK kvs=>obtain ⟨_,_,_,_,o,_,_,e,_⟩:=x; exact ⟨_,e⟩
 | dT kvs=>obtain ⟨_,_,_,_,o,_,_,e,_⟩:=x; exact ⟨_,e⟩
 | set S n=>obtain ⟨o,_,_,_,e,_⟩:=x; exact ⟨_,e⟩
 | ins C dx fs=>obtain ⟨_,_,_,e,_⟩:=x; exact ⟨_,e⟩
 | own y=>obtain ⟨_,e⟩:=x; exact ⟨_,e⟩
 | xd fs=>obtain ⟨_,⟨_,_,_,e,_⟩,_⟩:=x; exact ⟨_,e⟩
 | rng lo hi=>obtain ⟨_,_,_,e⟩:=x; exact ⟨_,e⟩
 | frz ob u=>obtain ⟨e,_⟩:=x; exact ⟨_,e⟩
 | tbl ps=>exact ⟨_,(show h.get? a=some _ from x)⟩
 | met f y=>exact ⟨_,(show h.get? a=some _ from x)⟩
 | ext φ=>obtain ⟨_,⟨_,e⟩,_⟩:=x; exact ⟨_,e⟩
section
variable {X:Cx} {pins:List (Addr×Obj)} {σ:List (Option V)} {H:Hp} {s:Shared} {h':Heap}
theorem Inv.unlaid {a:Addr} (I:Inv X pins σ H s) (e:s.heap.get? a=none):H a=none:=by
 cases q:H a with
 | none=>rfl
 | some o =>
   obtain ⟨ob,z⟩:=(I.hok a o q).lies
   rw [e] at z; cases z
theorem Inv.laidL {a:Addr} {o:HO} {t':Nat} (I:Inv X pins σ H s) (k:∀ b u,b≠X.env.locals->s.heap.get? b=some u->h'.get? b=some u) (ns:∀ m,s.heap.Ns X.env.locals m->h'.Ns X.env.locals m)
   (hp:s.heap.get? a=none) (new:ObjOk X.prog X.w (upd H a o) h' a o):Inv X pins σ (upd H a o) { s with heap:=h',toks:=t' }:=by
 have hn:H a=none:=I.unlaid hp
 have nL:∀ b u,H b=some u->b≠X.env.locals:=fun b u e z=>by rw [z,I.free] at e; cases e
 have na:∀ b u,s.heap.get? b=some u->b≠a:=fun b u q z=>by rw [z,hp] at q; cases q
 refine I.step (g':=s.gens) (d':=s.drawn) (ch:=[]) (fun _ z=>nomatch z) (fun b o hb _ _ e _=>k b o hb e) (fun b o hb _ _ e _=>⟨o.slots,k b o hb e⟩) (fun b o _ e n=>by rw [qh (na b o e)]; exact n) (fun b o _ e=>?_)
   (fun b xs q=>by rw [qh (qi q hn)]; exact q) (fun b u xs q=>by rw [qh (qi q hn)]; exact q) (fun b ps q=>⟨#[],by rw [qh (qi q hn),q]; simp⟩) ns (fun b u e=>?_) I.bare
 · by_cases z:b=X.env.locals
   · obtain ⟨m,hm,_⟩:=I.loc
     obtain ⟨o',_,_,ho',_⟩:=ns m hm
     exact ⟨o',by rw [z]; exact ho'⟩
   · exact ⟨o,k b o z e⟩
 · by_cases z:b=a
   · subst z; rw [qc] at e; cases e; exact new
   · rw [qh z] at e
     refine (I.hok b u e).stay (fun c v hc q=>k c v ?_ q) (fun c q=>by rw [qh (qi q hn)]; exact q) fun c xs q=>by rw [qh (qi q hn)]; exact q
     rcases hc with z | z
     · rw [z]; exact nL b u e
     · exact nL c _ z
end
def qdT (base h:Heap) (L:Addr):List (Addr×Obj):=(List.range h.objs.size).filterMap fun a=>if a=L then none else if (base.get? a).isSome then none else (h.get? a).map fun o=>(a,o)
theorem qeT (base h:Heap) (L:Addr):News base L h (qdT base h L):=by
 intro p hp
 unfold qdT at hp
 obtain ⟨a,_,e⟩:=List.mem_filterMap.mp hp
 by_cases c1:a=L
 · rw [if_pos c1] at e; cases e
 · rw [if_neg c1] at e
   by_cases c2:(base.get? a).isSome=true
   · rw [if_pos c2] at e; cases e
   · rw [if_neg c2] at e
     cases q:h.get? a with
     | none=>rw [q] at e; cases e
     | some o =>
       rw [q] at e
       cases e
       refine ⟨q,c1,?_⟩
       cases z:base.get? a with
       | none=>rfl
       | some _=>rw [z] at c2; exact absurd rfl c2
theorem qba {base h:Heap} {L b:Addr} {o:Obj} (e:h.get? b=some o) (ne:b≠L) (n:base.get? b=none):(b,o)∈qdT base h L:=by
 unfold qdT
 refine List.mem_filterMap.mpr ⟨b,List.mem_range.mpr (Heap.lt_size e),?_⟩
 rw [if_neg ne,n,e]
 rfl
theorem qjt {h:Heap} {a:Addr} {m m':Str->Option Value} (x:h.Ns a m) (y:h.Ns a m'):m=m':=by
 obtain ⟨o,es,ep,ho,hd,_,f⟩:=x
 obtain ⟨o',es',ep',ho',hd',_,f'⟩:=y
 rw [ho] at ho'; cases ho'
 rw [hd] at hd'; cases hd'
 exact funext fun n=>(f n).symm.trans (f' n)
section
variable {X:Cx} {pins:List (Addr×Obj)} {σ:List (Option V)} {H:Hp} {s:Shared} {h':Heap}
theorem Inv.laidN {D:Addr} {m:Str->Option Value} {vs:List Value} {c:Nat} {ys:List V} (I:Inv X pins σ H s) (F:Fr X.base X.env.locals s.heap m) (F':Fr X.base X.env.locals h' m)
   (N':News X.base X.env.locals h' ((D,PySem.W.listOf vs.toArray c)::qdT X.base s.heap X.env.locals)) (hD:∀ q∈qdT X.base s.heap X.env.locals,q.1 < D) (r:Vals ys vs) (hz:ys.length≤sizeLine) :
   H D=none∧Inv X pins σ (upd H D (.lst ys)) { s with heap:=h' }:=by
 obtain ⟨e1,e2,e3⟩:=N' _ (.head _)
 have free:s.heap.get? D=none:=by
   cases q:s.heap.get? D with
   | none=>rfl
   | some o=>exact absurd (hD _ (qba q e2 e3)) (Nat.lt_irrefl _)
 have kp:∀ b u,b≠X.env.locals->s.heap.get? b=some u->h'.get? b=some u:=fun b u ne q=>by
   cases z:X.base.get? b with
   | some o =>
     have:=I.bk b o z
     rw [q] at this; cases this
     exact F'.keep b _ z
   | none=>exact (N' _ (List.mem_cons_of_mem _ (qba q ne z))).1
 refine ⟨I.unlaid free,I.laidL (t':=s.toks) kp (fun m' hm=>?_) free ⟨hz,vs,c,r,?_⟩⟩
 · rw [qjt hm F.ns]; exact F'.ns
 · exact e1
end
end L2
namespace L2
open PySem PySem.Spec PyProof.Rows
def jb:List Int->List Int->Bool
 | a::as,b::bs=>if a=b then jb as bs else decide (a < b)
 | _,_=>false
theorem qc1:∀ as bs,jb as bs=true->jb bs as=false
 | [],_,h=>by simp [jb] at h
 | _::_,[],h=>by simp [jb] at h
 | a::as,b::bs,h=>by
   unfold jb at h ⊢
   by_cases e:a=b
   · rw [if_pos e] at h
     rw [if_pos e.symm]
     exact qc1 as bs h
   · rw [if_neg e] at h
     rw [if_neg fun z=>e z.symm]
     have:=of_decide_eq_true h
     exact decide_eq_false (by omega)
theorem qem:∀ {as bs cs:List Int},as.length=bs.length->bs.length=cs.length->jb as bs=false->jb bs cs=false->jb as cs=false
 | [],_,_,_,_,_,_=>rfl
 | _::_,[],_,h,_,_,_=>by simp at h
 | _::_,_::_,[],_,h,_,_=>by simp at h
 | a::as,b::bs,c::cs,h1,h2,x,y=>by
   unfold jb at x y ⊢
   by_cases e1:a=b
   · subst e1
     rw [if_pos rfl] at x
     by_cases e2:a=c
     · subst e2
       rw [if_pos rfl] at y ⊢
       exact qem (by simpa using h1) (by simpa using h2) x y
     · rw [if_neg e2] at y ⊢
       exact y
   · rw [if_neg e1] at x
     have x':=of_decide_eq_false x
     by_cases e2:b=c
     · subst e2
       rw [if_neg e1]
       exact x
     · rw [if_neg e2] at y
       have y':=of_decide_eq_false y
       rw [if_neg (by omega)]
       exact decide_eq_false (by omega)
section
variable {prog:Program} {w:World} {A:Around} {s:Shared}
theorem qhR {b:Bool} {Q:Bool->Shared->Prop}:∀ {as bs:List Int} {us vs:List Value} {i:Nat},Vals (as.map V.int) us->Vals (bs.map V.int) vs->as.length=bs.length->Q (jb as bs) s->PySem.W.KatLex prog w A b false Q (us.zip vs) i s
 | [],[],_,_,_,.nil,.nil,_,h=>PySem.W.kat_nil h
 | [],_::_,_,_,_,_,_,e,_=>by simp at e
 | _::_,[],_,_,_,_,_,e,_=>by simp at e
 | a::as,c::cs,_,_,i,.cons r1 t1,.cons r2 t2,e,h=>by
   obtain ⟨x,rfl⟩:=(show ∃ t,_=Value.int a t from r1)
   obtain ⟨y,rfl⟩:=(show ∃ t,_=Value.int c t from r2)
   refine PySem.W.kat_cons (wpAny_eqBool_int ?_)
   unfold jb at h
   by_cases z:a=c
   · rw [if_pos z] at h
     rw [show (a == c)=true by rw [z]; exact beq_self_eq_true c]
     exact PySem.W.kat_yes (qhR t1 t2 (by simpa using e) h)
   · rw [if_neg z] at h
     rw [show (a == c)=false by exact beq_eq_false_iff_ne.mpr z]
     refine PySem.W.kat_no ?_
     cases (b && i == 0) with
     | true=>exact oneLt_int h
     | false=>exact PySem.W.kat_one _ _ (wpAny_lt_int h)
end
structure TupI (H:Hp) (zs:List V) (rs:List (List Int)):Prop where
 len:zs.length=rs.length
 at_:∀ (i:Nat) (z:V) (r:List Int),zs[i]?=some z->rs[i]?=some r->∃ t,z=.ref t∧H t=some (.tup (r.map V.int))
def ltI (k:Nat) (rs:List (List Int)) (i j:Nat):Bool:=jb (rs.getD i (List.replicate k 0)) (rs.getD j (List.replicate k 0))
theorem jt {k:Nat} {rs:List (List Int)} (h:∀ r∈rs,r.length=k) (i:Nat):(rs.getD i (List.replicate k 0)).length=k:=by
 rw [List.getD_eq_getElem?_getD]
 cases e:rs[i]? with
 | none=>exact List.length_replicate
 | some r=>exact h r (List.mem_of_getElem? e)
theorem qfU {k:Nat} {rs:List (List Int)} (h:∀ r∈rs,r.length=k):Srt.Ord (ltI k rs) :=
 ⟨fun a b c x y=>qem ((jt h c).trans (jt h b).symm) ((jt h b).trans (jt h a).symm) y x,fun a b=>qc1 _ _⟩
section
variable {X:Cx} {pins:List (Addr×Obj)} {σ:List (Option V)} {H:Hp} {s:Shared}
theorem Inv.tupI {t:Addr} {r:List Int} (I:Inv X pins σ H s) (h:H t=some (.tup (r.map V.int))):∃ (o:Obj) (us:List Value) (n:Nat),Vals (r.map V.int) us∧s.heap.get? t=some o∧o.cls=.type "tuple"∧o.data=.seq us.toArray n:=by
 obtain ⟨_,its,rv,o,e,c,n,d⟩:=I.hok t _ h
 exact ⟨o,its,n,rv,e,c,d⟩
theorem Inv.kpN {h':Heap} {m:Str->Option Value} {x:Addr×Obj} (I:Inv X pins σ H s) (F':Fr X.base X.env.locals h' m) (N':News X.base X.env.locals h' (x::qdT X.base s.heap X.env.locals)) :
   ∀ b u,b≠X.env.locals->s.heap.get? b=some u->h'.get? b=some u:=fun b u ne q=>by
 cases z:X.base.get? b with
 | some o =>
   have:=I.bk b o z
   rw [q] at this; cases this
   exact F'.keep b _ z
 | none=>exact (N' _ (List.mem_cons_of_mem _ (qba q ne z))).1
end
theorem TupI.tail {H:Hp} {z:V} {zs:List V} {r:List Int} {rs:List (List Int)} (h:TupI H (z::zs) (r::rs)):TupI H zs rs :=
 ⟨by have:=h.len; simpa using this,fun i z' r' e1 e2=>h.at_ (i+1) z' r' (by simpa using e1) (by simpa using e2)⟩
inductive qgv (h:Heap) (v:Value) (r:List Int):Prop
 | mk (t:Addr) (o:Obj) (us:List Value) (n:Nat) (h1:v=.ref t) (h2:Vals (r.map V.int) us) (h3:h.get? t=some o) (h4:o.cls=.type "tuple") (h5:o.data=.seq us.toArray n):qgv h v r
def qjN (h:Heap) (v:Value) (r:List Int):Prop:=qgv h v r
theorem qdU {h:Heap}:∀ {vs:List Value} {rs:List (List Int)},Paired (qjN h) vs rs->(∀ r∈rs,0 < r.length)->∃ fs,PySem.W.KatTups h vs fs∧fs.length=vs.length∧∀ v∈fs,∃ i t,v=Value.int i t
 | _,_,.nil,_=>⟨[],.nil,rfl,fun _ z=>nomatch z⟩
 | _,r::rs,.cons ⟨t,o,us,n,e,rv,ho,hc,hd⟩ q,k=>by
   obtain ⟨fs,k1,k2,k3⟩:=qdU q fun r hr=>k r (List.mem_cons_of_mem _ hr)
   subst e
   have pos:=k r List.mem_cons_self
   match r,us,rv,pos with
   | a::r,_,.cons ra rt,_ =>
     obtain ⟨tk,rfl⟩:=(show ∃ t,_=Value.int a t from ra)
     refine ⟨_::fs,.cons ho hc hd (by simp; rfl) k1,by simp [k2],fun v hv=>?_⟩
     rcases List.mem_cons.mp hv with rfl | hv
     · exact ⟨_,_,rfl⟩
     · exact k3 v hv
theorem jp {α β:Type} {F:α->β->Prop}:∀ {xs:List α} {ys:List β} {i:Nat} {d:α} {e:β},Paired F xs ys->i < xs.length->F (xs.getD i d) (ys.getD i e)
 | _,_,_,_,_,.nil,h=>by simp at h
 | _,_,0,_,_,.cons r _,_=>by simpa using r
 | _,_,i+1,_,_,.cons _ t,h=>by
   simp only [List.getD_cons_succ]
   exact jp t (by simpa using h)
theorem qbz {α β:Type} {F:α->β->Prop} {xs:List α} {ys:List β} {d:α} {e:β} (r:Paired F xs ys):∀ {is:List Nat},(∀ i∈is,i < xs.length)->Paired F (is.map fun i=>xs.getD i d) (is.map fun i=>ys.getD i e)
 | [],_=>.nil
 | i::is,h=>.cons (jp r (h i List.mem_cons_self)) (qbz r fun j hj=>h j (List.mem_cons_of_mem _ hj))
theorem qbe {α:Type} (l:List α) (d:α):(List.range l.length).map (fun i=>l.getD i d)=l:=by
 apply List.ext_getElem
 · simp
 · intro i h1 h2
   simp [h2]
end L2
namespace L2
open PySem PySem.Spec PyProof.Rows
section
variable {prog:Program} {w:World} {A:Around} {E:Value->Shared->Prop} {s:Shared}
theorem qgH {a:Addr} {vs:List Value} {n:Nat} {P:PySem.Fin->Shared->Prop} (ho:s.heap.get? a=some (seqObj "list" vs.toArray n)) (h2:vs.length < 2)
   (h:∀ c h',(∀ b o,b≠a->s.heap.get? b=some o->h'.get? b=some o)->h'.get? a=some (seqObj "list" vs.toArray c)->P (.done (.ret .none)) { s with heap:=h' }) :
   wpAny (model prog w) A (Builtin.«list.sort» ⟨[.ref a],[]⟩) P E s:=by
 obtain ⟨e1,ho1⟩:∃ e1,(s.heap.update a (Obj.mapSeq fun _=>(#[]:Array Value))).get? a=some (seqObj "list" #[] e1):=⟨_,get?_update_seq ho fun _=>#[]⟩
 have s1:=Heap.SameBut.update s.heap a (Obj.mapSeq fun _=>(#[]:Array Value))
 rw [list_sort_plain]
 refine wpAny_bind (listItems_at ho rfl ?_)
 refine wpAny_bind (listUpdate_at ho rfl ?_ (by rw [List.size_toArray,sizeLine_eq]; omega) (Nat.zero_le _))
 refine wpAny_bind (seqEpoch_at ho1 rfl ?_)
 refine wpAny_bind (wpAny_newTuple ?_ (by show vs.length≤_; rw [sizeLine_eq]; omega))
 refine wpAny_bind (wpAny_newList ?_ (Nat.zero_le _))
 refine wpAny_holding ?_
 dsimp only
 have hn2:vs.toArray.size < 2:=by rw [List.size_toArray]; omega
 rw [if_pos hn2]
 refine wpAny_bind (wpAny_pure ?_)
 rw [if_pos hn2]
 refine wpAny_bind (wpAny_pure ?_)
 have ho2:(((s.heap.update a (Obj.mapSeq fun _=>(#[]:Array Value))).push (seqObj "tuple" vs.toArray 0)).push (seqObj "list" #[] 0)).get? a=some (seqObj "list" #[] e1):=Heap.get?_push_of_some _ (Heap.get?_push_of_some _ ho1)
 have hsnd:Array.map (fun x:Keyed=>x.snd) (arrOf (SortSt.mk' general' (vs.toArray.zip vs.toArray) #[] 7 none))=vs.toArray:=by
   show Array.map (fun x:Value×Value=>x.snd) (vs.toArray.zip vs.toArray)=vs.toArray
   apply Array.toList_inj.mp
   simp only [Array.toList_map,Array.toList_zip]
   exact List.map_snd_zip (Nat.le_refl _)
 refine wpAny_bind (seqEpoch_at ho2 rfl ?_)
 dsimp only
 rw [hsnd]
 refine wpAny_bind (listUpdate_at ho2 rfl ?_ (Nat.zero_le _) (by rw [List.size_toArray,sizeLine_eq]; omega))
 show wpAny (model prog w) A (if (e1 != e1)=true then _ else ret Value.none) P E _
 rw [if_neg (by simp)]
 refine wpAny_pure (h _ _ (fun b o hb q=>?_) (get?_update_seq ho2 fun _=>vs.toArray))
 rw [(Heap.SameBut.update _ a _).2 b hb]
 exact Heap.get?_push_of_some _ (Heap.get?_push_of_some _ ((s1.2 b hb).trans q))
theorem qeC {l:Addr} {vs:List Value} {Q:Value->Shared->Prop} (hl:s.heap.IsList l vs.toArray) (h2:vs.length < 2)
   (h:∀ D c h',s.heap.get? D=none->(∀ b o,s.heap.get? b=some o->h'.get? b=some o)->h'.get? D=some (seqObj "list" vs.toArray c)->Q (.ref D) { s with heap:=h' }) :
   wpAny (model prog w) A (call (.builtin "sorted") [.ref l]) Q E s:=by
 refine Calls.call_function_entry kind_sorted plain_sorted entry_sorted (args_sorted1 _) ?_
 unfold Builtin.«sorted»
 refine wpAny_bind (m:=checkCount "sorted" 1 1 _) (wpAny_pure ?_)
 refine wpAny_bind (collect_list hl ?_ (by rw [sizeLine_eq]; omega))
 refine wpAny_bind (wpAny_newList ?_ (by rw [sizeLine_eq]; omega))
 have hsz:((s.heap.push (seqObj "list" #[] 0)).update s.heap.objs.size (Obj.mapSeq (·++vs.toArray))).objs.size=s.heap.objs.size+1:=by
   rw [Heap.size_update,size_push']
 have hoL:(((s.heap.push (seqObj "list" #[] 0)).update s.heap.objs.size (Obj.mapSeq (·++vs.toArray))).push (seqObj "list" vs.toArray 0)).get? (s.heap.objs.size+1)=some (seqObj "list" vs.toArray 0):=by
   rw [← hsz]; exact Heap.get?_push_size _ rfl
 have keep:∀ b o,s.heap.get? b=some o->(((s.heap.push (seqObj "list" #[] 0)).update s.heap.objs.size (Obj.mapSeq (·++vs.toArray))).push (seqObj "list" vs.toArray 0)).get? b=some o:=fun b o q=>by
   have hlt:b < s.heap.objs.size:=Heap.lt_size q
   rw [Heap.get?_push_ne _ _ _ (by rw [hsz]; exact Nat.ne_of_lt (Nat.lt_succ_of_lt hlt)),Heap.get?_update_ne _ _ _ _ (Nat.ne_of_lt hlt),Heap.get?_push_ne _ _ _ (Nat.ne_of_lt hlt)]
   exact q
 show wpAny _ _ _ _ _ { s with heap:=((s.heap.push (seqObj "list" #[] 0)).update s.heap.objs.size (Obj.mapSeq (·++vs.toArray))).push (seqObj "list" vs.toArray 0) }
 rw [hsz]
 refine wpAny_bind (wpAny_holding (wpAny_call_entry slot_list_sort ⟨_,hoL,rfl⟩ entry_list_sort ?body (args_list_sort _)))
 case body =>
   refine qgH (s:={ s with heap:=((s.heap.push (seqObj "list" #[] 0)).update s.heap.objs.size (Obj.mapSeq (·++vs.toArray))).push (seqObj "list" vs.toArray 0) }) hoL h2 fun c h' k e=>?_
   exact ⟨_,rfl,wpAny_pure ⟨_,rfl,h (s.heap.objs.size+1) c h' (Heap.get?_none_of_le (Nat.le_succ _)) (fun b o q=>k b o (Nat.ne_of_lt (Nat.lt_succ_of_lt (Heap.lt_size q))) (keep b o q)) e⟩⟩
end
inductive qed (K:PySem.W.Frag) (xs:List V) (H:Hp) (Q:VK):Prop
 | mk (l:Addr) (zs:List V) (rs:List (List Int)) (k:Nat) (h1:xs=[.ref l]) (h2:SqL K H l zs) (h3:TupI H zs rs) (h4:(∀ r∈rs,r.length=k)) (h5:0 < k) (h6:zs.length < 64) (h7:∀ (p:Addr) (zs':List V) (rs':List (List Int)),H p=none->rs'.Perm rs->TupI H zs' rs'->rs'.Pairwise (fun a b=>jb b a=false)->Q (.ref p) (upd H p (.lst zs'))):qed K xs H Q
def qje (K:PySem.W.Frag):List V->Hp->VK->Prop:=fun xs H Q=>qed K xs H Q
theorem qe4 {X:Cx} {pins:List (Addr×Obj)} {σ:List (Option V)} {H:Hp} {s:Shared} {h':Heap} (I:Inv X pins σ H s) (kp:∀ b u,b≠X.env.locals->s.heap.get? b=some u->h'.get? b=some u) :
   ∀ {zs:List V} {rs:List (List Int)} {vs:List Value},TupI H zs rs->Vals zs vs->Paired (qjN h') vs rs
 | [],rs,_,h,.nil=>by
   have:rs=[]:=List.eq_nil_of_length_eq_zero h.len.symm
   subst this
   exact .nil
 | z::zs,[],_,h,_=>by have:=h.len; simp at this
 | z::zs,r::rs,_,h,.cons r1 t1=>by
   refine .cons ?_ (qe4 I kp h.tail t1)
   obtain ⟨t,rfl,ht⟩:=h.at_ 0 z r rfl rfl
   obtain ⟨o,us,n,rv,e,c,d⟩:=I.tupI ht
   exact ⟨t,o,us,n,r1,rv,kp t o (fun q=>by rw [q,I.free] at ht; cases ht) e,c,d⟩
theorem qe2 {H:Hp} {zs:List V} {rs:List (List Int)} {d:V} {e:List Int} (h:TupI H zs rs) {is:List Nat} (hi:∀ i∈is,i < zs.length):TupI H (is.map fun i=>zs.getD i d) (is.map fun i=>rs.getD i e):=by
 refine ⟨by rw [List.length_map,List.length_map],fun j z r e1 e2=>?_⟩
 rw [List.getElem?_map] at e1 e2
 cases q:is[j]? with
 | none=>rw [q] at e1; cases e1
 | some i =>
   rw [q] at e1 e2
   have lt:=hi i (List.mem_of_getElem? q)
   have lt2:i < rs.length:=by rw [← h.len]; exact lt
   have z1:zs.getD i d=z:=Option.some.inj e1
   have r1:rs.getD i e=r:=Option.some.inj e2
   rw [List.getD_eq_getElem?_getD,List.getElem?_eq_getElem lt] at z1
   rw [List.getD_eq_getElem?_getD,List.getElem?_eq_getElem lt2] at r1
   exact h.at_ i z r (by rw [List.getElem?_eq_getElem lt]; exact congrArg some z1) (by rw [List.getElem?_eq_getElem lt2]; exact congrArg some r1)
section
variable {X:Cx}
theorem qbI:jX X (.builtin "sorted") (qje X.K):=by
 intro pins s σ H xs us Q I r h
 obtain ⟨l,zs,rs,k,rfl,hq,tp,hk,k0,h64,q⟩:=h
 obtain ⟨u,rfl,ru⟩:=qae r
 cases (show u=Value.ref l from ru)
 obtain ⟨its,rv,p,hz⟩:=I.list hq
 have hlen:=rv.length
 by_cases h2:its.length < 2
 · refine qeC p.isList h2 fun D c h' free kp e=>?_
   have I':Inv X pins σ (upd H D (.lst zs)) { s with heap:=h' }:=I.laidL (t':=s.toks) (fun b u _ z=>kp b u z) (fun m ⟨o,es,ep,ho,r⟩=>⟨o,es,ep,kp _ _ ho,r⟩) free ⟨hz,its,c,rv,e⟩
   refine ⟨.ref D,_,I',rfl,q D zs rs (I.unlaid free) (List.Perm.refl _) tp ?_⟩
   have l2:rs.length < 2:=by rw [← tp.len,hlen]; exact h2
   match rs,l2 with
   | [],_=>exact .nil
   | [r],_=>exact List.pairwise_singleton _ _
   | _::_::_,l2=>simp at l2; omega
 · obtain ⟨m,F⟩:=I.fr
   refine PySem.W.kat_sorted F (qeT X.base s.heap X.env.locals) p.isList (by omega) (by omega) fun D e1 h' F' N' hD=>?_
   have kp:=I.kpN F' N'
   have pa:=qe4 I kp tp rv
   obtain ⟨fs,t1,t2,t3⟩:=qdU pa fun r hr=>by rw [hk r hr]; exact k0
   refine PySem.W.kat_kind (T:=.type "int") t1 (by omega) (fun v hv=>?_) rfl ?_
   · obtain ⟨i,t,rfl⟩:=t3 v hv
     exact PySem.W.Looks.of_pure rfl
   refine Srt.RunP.wp (fun i j C hi hj hC=>?_) (fun a ha=>?_) (Srt.sort_ok (n:=its.length) (qfU hk) (by omega))
   · obtain ⟨x,ox,ux,nx,ex,rx,hx,cx,dx⟩:=jp (d:=Value.none) (e:=List.replicate k 0) pa hi
     obtain ⟨y,oy,uy,ny,ey,ry,hy,cy,dy⟩:=jp (d:=Value.none) (e:=List.replicate k 0) pa hj
     unfold PySem.W.kas_ask
     rw [ex,ey]
     refine PySem.W.kat_lt hx dx hy dy ?_
     have lx:=jt hk i
     have ly:=jt hk j
     have e1':=rx.length
     have e2':=ry.length
     rw [List.length_map] at e1' e2'
     rw [show decide (ux.toArray.size < uy.toArray.size)=false from decide_eq_false (by rw [List.size_toArray,List.size_toArray]; omega)]
     exact qhR rx ry (by omega) hC
   · obtain ⟨hp,up⟩:=ha
     have pl:a.toList.Perm (List.range its.length):=by
       have:=Array.perm_iff_toList_perm.mp hp
       simpa using this
     have inR:∀ i∈a.toList,i < zs.length:=fun i hi=>by rw [hlen]; exact List.mem_range.mp (pl.mem_iff.mp hi)
     refine PySem.W.KasFin.intro F' N' (.head fun q hq=>Nat.ne_of_lt (hD q hq)) fun h2 c F2 N2=>?_
     have rv2:Vals (a.toList.map fun i=>zs.getD i .non) (a.toList.map fun i=>its.getD i Value.none):=qbz rv inR
     obtain ⟨hn,I'⟩:=I.laidN F F2 N2 hD rv2 (by rw [List.length_map,pl.length_eq,List.length_range,← hlen]; exact hz)
     refine ⟨.ref D,_,I',rfl,q D _ (a.toList.map fun i=>rs.getD i (List.replicate k 0)) hn ?_ (qe2 tp inR) ?_⟩
     · have:=pl.map fun i=>rs.getD i (List.replicate k 0)
       rw [← hlen,tp.len,qbe] at this
       exact this
     · have sz:a.size=its.length:=by
         have:=pl.length_eq
         rw [Array.length_toList,List.length_range] at this
         exact this
       refine List.pairwise_iff_getElem.mpr fun i j hi hj lt=>?_
       have hj':j < a.size:=by simpa using hj
       have hi':i < a.size:=by omega
       have:=Srt.Up.le (qfU hk) up (x:=i) (j - i) (by omega)
       rw [show i+(j - i)=j by omega] at this
       simp only [List.getElem_map,Array.getElem_toList]
       simp only [ltI,Array.getD_eq_getD_getElem?,Array.getElem?_eq_getElem hj',Array.getElem?_eq_getElem hi',Option.getD_some] at this
       exact this
end
end L2
namespace L2
open PySem PySem.Spec PyProof.Rows
section
variable {X:Cx} {pins:List (Addr×Obj)} {σ:List (Option V)} {H:Hp} {s:Shared} {h':Heap}
end
end L2
namespace L2
open PySem PySem.Spec PyProof.Rows
theorem qiz {h:Heap} {a:Addr} {m m':Str->Option Value} (x:h.Ns a m) (y:h.Ns a m'):m=m':=by
 obtain ⟨o,es,ep,ho,hd,_,f⟩:=x
 obtain ⟨o',es',ep',ho',hd',_,f'⟩:=y
 rw [ho] at ho'; cases ho'
 rw [hd] at hd'; cases hd'
 exact funext fun n=>(f n).symm.trans (f' n)
section
variable {X:Cx} {pins:List (Addr×Obj)} {σ:List (Option V)} {H:Hp} {s:Shared} {pos:Pos}
theorem Inv.gone {h':Heap} {m:Str->Option Value} {n:Str} {i:Nat} {v:Option Value} {t':Nat} (I:Inv X pins σ H s) (hN:X.N.Nodup) (hi:X.N[i]?=some n) (hm:s.heap.Ns X.env.locals m)
   (hn:h'.Ns X.env.locals (fun x=>if x=n then v else m x)) (hs:Heap.SameBut X.env.locals s.heap h'):Inv X pins (σ.set i none) H { s with heap:=h',toks:=t' }:=by
 have J:=I.lose (t':=t') hn hs
 refine ⟨J.ok,J.os,J.bare,J.base,?_,J.cell,J.free,J.freeC,J.pin,J.hok,by rw [List.length_set]; exact I.len⟩
 obtain ⟨m0,hm0,hl⟩:=I.loc
 rw [qiz hm0 hm] at hl
 refine ⟨_,hn,fun j x w e1 e2 e3=>?_⟩
 have ne:i≠j:=fun z=>by
   subst z
   by_cases lt:i < σ.length
   · rw [List.getElem?_set_self lt] at e2; cases e2
   · rw [List.getElem?_eq_none (by rw [List.length_set]; omega)] at e2; cases e2
 rw [List.getElem?_set_ne ne] at e2
 have nx:x≠n:=fun z=>ne (qcd hN hi (z▸e1))
 obtain ⟨u,r,l⟩:=hl j x w e1 e2 e3
 refine ⟨u,r,?_⟩
 rcases l with l | ⟨k,c,e,ob,ho,hd⟩
 · refine .inl ⟨l.1,?_⟩
   show (if x=n then v else m x)=some u
   rw [if_neg nx]
   exact l.2
 · exact .inr ⟨k,c,e,ob,(hs.2 c (I.cne x c e)).trans ho,hd⟩
def qj1 (K:PySem.W.Frag) (LC:Addr) (i:Nat) (tb:XTS) (th:TS):TS:=fun D σ H=>tb D (fun Cv eo H'=>∃ C ea,Cv=.ref C∧eo=some ea∧xIn K C=true∧PySem.W.mroIn K C (.ref LC)=some true ∧
 th { nx:=fun σ' H2=>D.nx (σ'.set i none) H2,rt:=D.rt } (σ.set i (some (.ref ea))) H') σ H
theorem qir {body suite:List Stmt} {b₀:Stmt} {lx n:Str} {np hpos:Pos} {i:Nat} {LC:Addr} {tb:XTS} {th:TS} (hst:X.stack=X.env::X.outer) (hfr:X.env.frame=some X.env.locals)
   (hb:PX X body tb) (hg:Gl X lx) (hm:X.mg lx=some (.ref LC)) (xl:xIn X.K LC=true) (hN:X.N.Nodup) (hi:X.N[i]?=some n) (hx:Loc X.env.scope n) (hloc:X.env.kindOf n=some .local)
   (hh:∀ ea,PSs (qha X ea) (b₀::suite) th) (hdb:(lx == ("__debug__":Str))=false:=by decide) (hf:X.fn n=true∨X.env.scope.names.lookup n=some .local:=by first | exact .inl rfl | exact .inr rfl) :
   PS X (.Try body [.ExceptHandler (some (.Name lx np)) (some n) (b₀::suite) hpos] [] [] pos) (qj1 X.K LC i tb th):=by
 intro pins s σ H D I h
 refine wpAny_Try_except ?_
 refine wpAny_mono (hb pins s σ H D _ (fun e s₁=>wpAny (model X.prog X.w) X.A (noteFrame e X.env) (fun _ s₂=>wpAny (model X.prog X.w) X.A (setFlight e none) (fun _ s₃=>wpAny (model X.prog X.w) X.A (handleBy e X.env [.ExceptHandler (some (.Name lx np)) (some n) (b₀::suite) hpos]) (SP X pins D) X.xe s₃) X.xe s₂) X.xe s₁) I h ?_)
   (fun f s1 q=>?_) fun e s1 q=>q
 · intro ea C dx H' s' J xa sr
   refine qfV J hst hfr J.ok.frames xa fun s2 T hT hne J2=>?_
   obtain ⟨C1,ea1,e1,e2,xc,hmr,q⟩:=sr _ (fun b o hb e=>qaW hT hb e) (qfX hT hne)
   cases e1
   cases e2
   have tb1:ZN H' ea C dx T ea=some (.ext (ExO ea C dx (.ref T))):=by unfold ZN; rw [qh (Ne.symm hne),qc]
   have tb2:ZN H' ea C dx T T=some (.ext (TbO T)):=by unfold ZN; rw [qc]
   obtain ⟨⟨oe,vs,hx1,hcl,hdx,hd,hz,h1⟩,_,_⟩:=(show ObjOk X.prog X.w _ s2.heap ea (.ext (ExO ea C dx (.ref T))) from J2.hok ea _ tb1)
   obtain ⟨⟨oT,ts,hT1,hTd,hT3⟩,_,_⟩:=(show ObjOk X.prog X.w _ s2.heap T (.ext (TbO T)) from J2.hok T _ tb2)
   have JM:=J2.mark ea
   refine wpAny_handleBy_cons (codeAny_handlers_test (jU (X:=qha X ea) JM hg hm ?_ hdb)) (by intro z; cases z)
   refine qeX J2.kIn xc xl hmr hx1 hcl ?_
   refine codeAny_handlers_suite_as ?_
   unfold setFlight
   refine wpAny_bind (wpAny_field hx1 hd h1 ?_)
   rw [if_pos (show (Value.ref T != Value.none)=true from by simp)]
   refine wpAny_setField hT1 hTd (Array.getElem?_eq_some_iff.mp hT3).1 ?_
   rw [show s2.heap.update T (Obj.mapFields (·.setIfInBounds 3 ((none:Option Addr).elim Value.none fun f=>rawInt f)))=s2.heap from Heap.update_setField_same s2.heap T oT ts 3 Value.none hT1 hTd hT3]
   refine qao (v:=.ref ea) J2 hN hi hx rfl (fun s3 J3=>?_) hf
   refine wpAny_mono (hh ea pins s3 _ _ _ (J3.mark ea) q) (fun fl s4 q4=>?_) fun _ _ z=>z.elim
   cases fl with
   | next =>
     obtain ⟨σ',H4,J4,z⟩:=q4
     have J5:=Inv.unmark (A0:=True) J2.ok J4
     obtain ⟨m,hn,_⟩:=id J5.loc
     refine wpAny_nameGoes_keeps hloc hn (by rw [J2.ok.kind]; rfl) fun h' v hn' hs'=>?_
     exact ⟨_,H4,J5.gone hN hi hn hn' hs',z⟩
   | brk=>obtain ⟨_,_,_,z⟩:=q4; exact z.elim
   | cont=>obtain ⟨_,_,_,z⟩:=q4; exact z.elim
   | ret u =>
     obtain ⟨v,σ',H4,J4,rv,z⟩:=q4
     have J5:=Inv.unmark (A0:=True) J2.ok J4
     obtain ⟨m,hn,_⟩:=J5.loc
     refine wpAny_nameGoes hloc hn (by rw [J2.ok.kind]; rfl) fun h' m' hn' hs'=>?_
     exact ⟨v,_,H4,J5.lose hn' hs',rv,z⟩
 · cases f with
   | next=>exact wpAny_execs_nil q
   | ret v=>exact q
   | brk=>exact q
   | cont=>exact q
end
end L2
namespace L2
open PySem PySem.Spec PyProof.Rows
def qkB (i j:Int):Prop:=0 < j∧j < 340282366920938463463374607431768211456
theorem qgY {X:Cx}:OpR X (binaryOp .FloorDiv) (rI qkB fun i j=>.int (i / j)):=opI fun i j _ _ _ _ _ hc q=>by
 have h1:(0:Int) < j:=hc.1
 have h2:j < 340282366920938463463374607431768211456:=hc.2
 have h3:j.natAbs < 2 ^ 128:=by omega
 have h4:j.natAbs.log2 < 128:=(Nat.log2_lt (by omega)).mpr h3
 exact floordiv_int (by omega) (by rw [Int.fdiv_eq_ediv_of_nonneg i (by omega)]; exact q) (.inl (PyProof.noPylong_of_log2 (by omega)))
end L2
namespace L2
open PySem PySem.Spec PyProof.Rows
section
variable {M:Model} {A:Around} {E:Value->Shared->Prop} {s:Shared}
end
section
variable {X:Cx} {e:Expr} {pos:Pos}
end
end L2
namespace L2
open PySem PySem.Spec PyProof.Rows
section
variable {X:Cx}
end
end L2
namespace L2
open PySem PySem.Spec PyProof.Rows
section
variable {M:Model} {A:Around} {E:Value->Shared->Prop} {s:Shared}
end
section
variable {X:Cx}
end
end L2
namespace L2
open PySem PySem.Spec PyProof.Rows
section
variable {X:Cx} {e:Expr} {es:List Expr} {pos:Pos} {te:XTE} {ta:TE}
end
end L2
namespace L2
open PySem PySem.Spec PyProof.Rows
section
variable {prog:Program} {w:World} {A:Around} {E:Value->Shared->Prop} {s:Shared} {K:PySem.W.Frag} {C x dx:Addr} {ox:Obj} {name:Str} {v:Value} {mA:Str->Option Value} {ns:List Str}
end
section
variable {X:Cx} {o e value:Expr} {es:List Expr} {f x:Str} {p apos pos pos' tpos:Pos} {ta tv:TE} {t:TA} {C fa:Addr}
end
section
variable {P:Program} {w:World} {H:Hp} {h:Heap}
end
section
variable {X:Cx}
end
def qkc:Value->Option Addr
 | .ref a=>some a
 | _=>none
theorem qfo (D:Addr):∀ l:List Value,l.contains (.ref D)=(l.map qkc).contains (some D)
 | []=>rfl
 | v::l=>by
   rw [List.map_cons,List.contains_cons,List.contains_cons,qfo D l]
   congr 1
   cases v with
   | ref c =>
     show (Value.ref D == Value.ref c)=(some D == some c)
     by_cases e:D=c
     · subst e; simp
     · rw [beq_eq_false_iff_ne.mpr (fun z=>e (Value.ref.inj z)),beq_eq_false_iff_ne.mpr (fun z=>e (Option.some.inj z))]
   | _=>rfl
def XMro (K:PySem.W.Frag) (C:Addr) (l:List (Option Addr)):Prop:=∃ cd,PySem.W.clsIn K C=some cd∧cd.mro.map qkc=l
def qch (l:List (Option Addr)) (o:Obj):Bool:=match o.data with
 | .cls cd=>cd.mro.map qkc == l
 | _=>false
theorem XMro.of {K:PySem.W.Frag} {C:Addr} {o:Obj} {l:List (Option Addr)} (h:K.lookup C=some o) (q:qch l o=true):XMro K C l:=by
 obtain ⟨oc,od,odt,osl⟩:=o
 unfold qch at q
 cases odt with
 | cls cd =>
   refine ⟨cd,?_,eq_of_beq q⟩
   unfold PySem.W.clsIn
   rw [h]
 | _=>cases q
def qhw (K:PySem.W.Frag) (D:Addr):Prop:=PySem.W.isClsIn K D=true∧PySem.W.typeIn K (.ref D)=some (.type "type")
theorem qgB {K:PySem.W.Frag} {C D:Addr} {l:List (Option Addr)} (m:XMro K C l) (hl:l≠[]) (d:qhw K D):qjQ K C (.ref D)=some (l.contains (some D)):=by
 obtain ⟨cd,h1,h2⟩:=m
 refine qh6 d.1 d.2 ?_
 show PySem.W.mroIn K C (.ref D)=_
 unfold PySem.W.mroIn
 rw [h1,Option.bind_some,if_neg,qfo,h2]
 intro z
 rw [List.isEmpty_iff] at z
 rw [z] at h2
 exact hl h2.symm
section
variable {X:Cx} {o e e2 value:Expr} {es:List Expr} {f g x:Str} {p apos pos pos' tpos:Pos} {ta tv:TE} {t:TA} {C fa:Addr}
end
end L2
namespace M04
open L2
def Mem (ws:List (Int×Int)) (n:Int):Prop:=∃ w∈ws,w.1≤n∧n≤w.2
def Zg (ws:List (Int×Int)):Prop:=(∀ w∈ws,w.1≤w.2)∧ws.Pairwise fun a b=>a.2+1 < b.1
def qan (acc:List (Int×Int)) (w:Int×Int):List (Int×Int):=match acc.getLast? with
 | some l=>if w.1≤l.2+1 then acc.set (acc.length - 1) (l.1,if w.2 > l.2 then w.2 else l.2) else acc++[w]
 | none=>[w]
theorem qci (xs ys:List (Int×Int)) (n:Int):Mem (xs++ys) n↔Mem xs n∨Mem ys n:=by
 constructor
 · rintro ⟨w,hw,h⟩
   rcases List.mem_append.mp hw with m | m
   · exact .inl ⟨w,m,h⟩
   · exact .inr ⟨w,m,h⟩
 · rintro (⟨w,hw,h⟩ | ⟨w,hw,h⟩)
   · exact ⟨w,List.mem_append.mpr (.inl hw),h⟩
   · exact ⟨w,List.mem_append.mpr (.inr hw),h⟩
theorem qaV (w:Int×Int) (n:Int):Mem [w] n↔w.1≤n∧n≤w.2:=by
 constructor
 · rintro ⟨x,hx,h⟩
   have e:x=w:=by simpa using hx
   rw [← e]
   exact h
 · intro h
   exact ⟨w,by simp,h⟩
theorem mem_cons (w:Int×Int) (ws:List (Int×Int)) (n:Int):Mem (w::ws) n↔(w.1≤n∧n≤w.2)∨Mem ws n:=by
 rw [show w::ws=[w]++ws from rfl,qci,qaV]
theorem qhc {acc:List (Int×Int)} {l:Int×Int} (h:acc.getLast?=some l):∃ init,acc=init++[l] :=
 ⟨acc.dropLast,by
   have ne:acc≠[]:=fun z=>by rw [z] at h; cases h
   have e:acc.getLast ne=l:=by rw [List.getLast?_eq_some_getLast ne] at h; exact Option.some.inj h
   rw [← e]; exact (List.dropLast_concat_getLast ne).symm⟩
theorem qgI (init:List (Int×Int)) (l x:Int×Int):(init++[l]).set ((init++[l]).length - 1) x=init++[x]:=by
 rw [List.length_append,show init.length+[l].length - 1=init.length by simp,List.set_append_right _ _ (Nat.le_refl _),Nat.sub_self]
 rfl
theorem canon_snoc {init:List (Int×Int)} {l:Int×Int}:Zg (init++[l])↔Zg init∧l.1≤l.2∧∀ a∈init,a.2+1 < l.1:=by
 unfold Zg
 constructor
 · rintro ⟨h1,h2⟩
   obtain ⟨p1,_,p3⟩:=List.pairwise_append.mp h2
   exact ⟨⟨fun w m=>h1 w (by simp [m]),p1⟩,h1 l (by simp),fun a m=>p3 a m l (by simp)⟩
 · rintro ⟨⟨h1,h2⟩,h3,h4⟩
   refine ⟨fun w m=>?_,List.pairwise_append.mpr ⟨h2,List.pairwise_singleton _ _,fun a ma b mb=>?_⟩⟩
   · rcases List.mem_append.mp m with m | m
     · exact h1 w m
     · have:w=l:=by simpa using m
       rw [this]; exact h3
   · have:b=l:=by simpa using mb
     rw [this]; exact h4 a ma
theorem qif {acc:List (Int×Int)} {w:Int×Int} (c:Zg acc) (hw:w.1≤w.2) (hl:∀ l∈acc,l.1≤w.1) :
   Zg (qan acc w)∧(∀ n,Mem (qan acc w) n↔Mem acc n∨(w.1≤n∧n≤w.2))∧∀ l∈qan acc w,l.1≤w.1:=by
 cases e:acc.getLast? with
 | none =>
   have e0:acc=[]:=List.getLast?_eq_none_iff.mp e
   subst e0
   show Zg [w]∧(∀ n,Mem [w] n↔Mem [] n∨_)∧∀ l∈[w],l.1≤w.1
   refine ⟨⟨fun x m=>?_,List.pairwise_singleton _ _⟩,fun n=>?_,fun x m=>?_⟩
   · have:x=w:=by simpa using m
     rw [this]; exact hw
   · rw [qaV]
     exact ⟨.inr,fun h=>h.elim (fun ⟨_,z,_⟩=>nomatch z) id⟩
   · have:x=w:=by simpa using m
     rw [this]; exact Int.le_refl _
 | some l =>
   obtain ⟨init,rfl⟩:=qhc e
   obtain ⟨c1,c2,c3⟩:=canon_snoc.mp c
   have hl1:=hl l (by simp)
   unfold qan
   rw [e]
   dsimp only
   by_cases g:w.1≤l.2+1
   · rw [if_pos g,qgI]
     refine ⟨canon_snoc.mpr ⟨c1,by show l.1≤(if w.2 > l.2 then w.2 else l.2); split<;>omega,c3⟩,fun n=>?_,fun x m=>?_⟩
     · rw [qci,qci,qaV,qaV,or_assoc]
       show _∨(l.1≤n∧n≤(if w.2 > l.2 then w.2 else l.2))↔_
       have:(l.1≤n∧n≤(if w.2 > l.2 then w.2 else l.2))↔((l.1≤n∧n≤l.2)∨(w.1≤n∧n≤w.2)):=by
         split<;>omega
       rw [this]
     · rcases List.mem_append.mp m with m | m
       · exact hl x (by simp [m])
       · have:x=(l.1,if w.2 > l.2 then w.2 else l.2):=by simpa using m
         rw [this]; exact hl1
   · rw [if_neg g]
     refine ⟨canon_snoc.mpr ⟨c,hw,fun a m=>?_⟩,fun n=>by rw [qci _ [w],qaV],fun x m=>?_⟩
     · rcases List.mem_append.mp m with m | m
       · have:=c3 a m; omega
       · have:a=l:=by simpa using m
         rw [this]; omega
     · rcases List.mem_append.mp m with m | m
       · exact hl x m
       · have:x=w:=by simpa using m
         rw [this]; exact Int.le_refl _
theorem qdK:∀ (S acc:List (Int×Int)),Zg acc->(∀ w∈S,w.1≤w.2)->S.Pairwise (fun a b=>a.1≤b.1)->(∀ l∈acc,∀ w∈S,l.1≤w.1)->Zg (S.foldl qan acc)∧∀ n,Mem (S.foldl qan acc) n↔Mem acc n∨Mem S n
 | [],acc,c,_,_,_=>⟨c,fun n=>⟨.inl,fun h=>h.elim id fun ⟨_,z,_⟩=>nomatch z⟩⟩
 | w::S,acc,c,ok,hp,hl=>by
   obtain ⟨p1,p2⟩:=List.pairwise_cons.mp hp
   obtain ⟨s1,s2,s3⟩:=qif c (ok w (by simp)) fun l m=>hl l m w (by simp)
   obtain ⟨f1,f2⟩:=qdK S (qan acc w) s1 (fun x m=>ok x (by simp [m])) p2 fun l m x mx=>Int.le_trans (s3 l m) (p1 x mx)
   refine ⟨f1,fun n=>?_⟩
   rw [List.foldl_cons,f2,s2,mem_cons,or_assoc]
theorem jw {w:Int×Int} {ws:List (Int×Int)} (c:Zg (w::ws)):Zg ws∧w.1≤w.2∧∀ n,Mem ws n->w.2+1 < n:=by
 obtain ⟨h1,h2⟩:=c
 obtain ⟨p1,p2⟩:=List.pairwise_cons.mp h2
 exact ⟨⟨fun x m=>h1 x (by simp [m]),p2⟩,h1 w (by simp),fun n ⟨x,m,a,b⟩=>by have:=p1 x m; omega⟩
theorem qdf:∀ {xs ys:List (Int×Int)},Zg xs->Zg ys->(∀ n,Mem xs n↔Mem ys n)->xs=ys
 | [],[],_,_,_=>rfl
 | [],y::ys,_,c,h=>by
   obtain ⟨_,k,_⟩:=jw c
   obtain ⟨_,z,_⟩:=(h y.1).mpr ((mem_cons _ _ _).mpr (.inl ⟨Int.le_refl _,k⟩))
   cases z
 | x::xs,[],c,_,h=>by
   obtain ⟨_,k,_⟩:=jw c
   obtain ⟨_,z,_⟩:=(h x.1).mp ((mem_cons _ _ _).mpr (.inl ⟨Int.le_refl _,k⟩))
   cases z
 | x::xs,y::ys,c,d,h=>by
   obtain ⟨c1,c2,c3⟩:=jw c
   obtain ⟨d1,d2,d3⟩:=jw d
   have h':∀ n,((x.1≤n∧n≤x.2)∨Mem xs n)↔((y.1≤n∧n≤y.2)∨Mem ys n):=fun n=>by rw [← mem_cons,← mem_cons]; exact h n
   have a1:y.1≤x.1:=by
     rcases (h' x.1).mp (.inl ⟨Int.le_refl _,c2⟩) with k | k
     · exact k.1
     · have:=d3 _ k; omega
   have a2:x.1≤y.1:=by
     rcases (h' y.1).mpr (.inl ⟨Int.le_refl _,d2⟩) with k | k
     · exact k.1
     · have:=c3 _ k; omega
   have b1:y.2≤x.2:=by
     rcases Int.lt_or_le x.2 y.2 with lt | le
     · rcases (h' (x.2+1)).mpr (.inl ⟨by omega,by omega⟩) with k | k
       · omega
       · have:=c3 _ k; omega
     · exact le
   have b2:x.2≤y.2:=by
     rcases Int.lt_or_le y.2 x.2 with lt | le
     · rcases (h' (y.2+1)).mp (.inl ⟨by omega,by omega⟩) with k | k
       · omega
       · have:=d3 _ k; omega
     · exact le
   have e:x=y:=Prod.ext (by omega) (by omega)
   subst e
   rw [qdf c1 d1 fun n=>?_]
   constructor
   · intro k
     have:=c3 n k
     rcases (h' n).mp (.inr k) with z | z
     · omega
     · exact z
   · intro k
     have:=d3 n k
     rcases (h' n).mpr (.inr k) with z | z
     · omega
     · exact z
end M04
namespace L2
open PySem PySem.Spec PyProof.Rows
theorem qdp:∀ {xs:List V} {us:List Value},us.length=xs.length->(∀ (i:Nat) (x:V) (u:Value),xs[i]?=some x->us[i]?=some u->RelV x u)->Vals xs us
 | [],[],_,_=>.nil
 | [],_::_,h,_=>by cases h
 | _::_,[],h,_=>by cases h
 | x::xs,u::us,h,r=>.cons (r 0 x u rfl rfl) (qdp (Nat.succ.inj h) fun i y v e1 e2=>r (i+1) y v e1 e2)
theorem qfZ {k:Key} {v:Value} (h:qdH k v=true):RelV (kV k) v:=by
 rcases zh h with ⟨i,t,rfl,rfl⟩ | ⟨x,t,rfl,rfl⟩
 · exact ⟨t,rfl⟩
 · exact ⟨t,rfl⟩
theorem qfY:∀ {kvs:List (Key×V)} {vs:List (Key×Value)},KV kvs vs->∀ {i:Nat} {k:Key} {x:Value},vs[i]?=some (k,x)->∃ y,kvs[i]?=some (k,y)∧RelV y x
 | _,_,.nil,i,k,x,e=>by cases e
 | _,_,.cons (a:=a) (b:=b) r t,i,k,x,e=>by
   cases i with
   | zero =>
     cases e
     exact ⟨a.2,by rw [List.getElem?_cons_zero]; obtain ⟨a1,a2⟩:=a; have:=r.1; simp at this; rw [this],r.2⟩
   | succ i=>exact qfY t e
theorem qc4:∀ {kvs:List (Key×V)} {vs:List (Key×Value)},KV kvs vs->vs.length=kvs.length
 | _,_,.nil=>rfl
 | _,_,.cons _ t=>by rw [List.length_cons,List.length_cons,qc4 t]
section
variable {X:Cx}
def qfr:List V->Hp->VK->Prop:=fun xs H Q=>∃ a kvs,xs=[V.ref a]∧Rd H a (.dK kvs)∧∀ l,H l=none->Q (.ref l) (upd H l (.lst (kvs.map fun p=>kV p.1)))
theorem qbK (hc:X.calm=true):jX X (.type "list") qfr:=by
 intro pins s σ H xs us Q I r h
 obtain ⟨a,kvs,rfl,hq,q⟩:=h
 obtain ⟨u,rfl,ru⟩:=qae r
 cases ru
 obtain ⟨hz,hS,vs,rel,o,es,ep,e,x,d,k,p,n⟩:=qa5 I.hok hq
 have D:s.heap.DictAt (zg X.prog X.w) a vs ep:=⟨o,es,e,x,d,k,p,n⟩
 refine PySem.W.kdl_call (PySem.W.kdl_dict (knd:=zg X.prog X.w) (kvs:=vs) (ep:=ep) hS) (I.ok.hd hc) D (by rw [qc4 rel]; exact hz) fun h' tk acc' c' kp e' it=>?_
 obtain ⟨al,ag⟩:=it
 have rv:Vals (kvs.map fun p=>kV p.1) acc'.toList:=by
   refine qdp (by rw [Array.length_toList,al,List.length_map,qc4 rel]) fun i y v e1 e2=>?_
   obtain ⟨k',x',e3,e4⟩:=ag i v (by rw [← Array.getElem?_toList]; exact e2)
   obtain ⟨y',e5,_⟩:=qfY rel e3
   rw [List.getElem?_map,e5] at e1
   cases e1
   exact qfZ e4
 refine ⟨.ref s.heap.objs.size,_,I.laid (t':=tk) kp (Nat.le_refl _) (show ObjOk X.prog X.w _ h' _ (.lst _) from ⟨by rw [List.length_map]; exact hz,acc'.toList,c',rv,?_⟩),rfl,q _ (I.hok.fresh (Nat.le_refl _))⟩
 rw [Array.toArray_toList]; exact e'
theorem qdZ:∀ {ss:List Str} {vs:List Value},Vals (ss.map V.str) vs->StrsAre vs ss
 | [],_,.nil=>.nil
 | n::ns,_,.cons r t=>by
   obtain ⟨tk,rfl⟩:=(show ∃ t,_=Value.str n t from r)
   exact .cons n tk (qdZ t)
theorem qcu:∀ {ss:List Str} {vs:List Value},StrsAre vs ss->Vals (ss.map V.str) vs
 | _,_,.nil=>.nil
 | _,_,.cons n t r=>.cons ⟨t,rfl⟩ (qcu r)
def qfp:List V->Hp->VK->Prop:=fun xs H Q=>∃ (a:Addr) (kvs:List (Str×V)),xs=[V.ref a]∧Rd H a (.dK (kvs.map fun p=>(.inr p.1,p.2)))∧kvs.length < 64∧∀ (p:Addr) (ss':List Str),H p=none->ss'.Perm (kvs.map (·.1))->sortedS ss'=true->Q (.ref p) (upd H p (.lst (ss'.map V.str)))
theorem qbJ (hc:X.calm=true):jX X (.builtin "sorted") qfp:=by
 intro pins s σ H xs us Q I r h
 obtain ⟨a,kvs,rfl,hq,h64,q⟩:=h
 obtain ⟨u,rfl,ru⟩:=qae r
 cases ru
 obtain ⟨hz,hS,vs,rel,o,es,ep,e,x,d,k,p,n⟩:=qa5 I.hok hq
 have D:s.heap.DictAt (zg X.prog X.w) a vs ep:=⟨o,es,e,x,d,k,p,n⟩
 have ln:vs.length=kvs.length:=by rw [qc4 rel,List.length_map]
 refine Calls.call_function_entry kind_sorted plain_sorted entry_sorted (args_sorted1 _) ?_
 unfold Builtin.«sorted»
 refine wpAny_bind (m:=checkCount "sorted" 1 1 _) (wpAny_pure ?_)
 refine wpAny_bind (PySem.W.kdu_collect (A:=X.A.in1) (PySem.W.kdl_dict (knd:=zg X.prog X.w) (kvs:=vs) (ep:=ep) hS) (I.ok.hd hc) D (by rw [ln,sizeLine_eq]; omega) fun h' tk acc hk it=>?_)
 obtain ⟨al,ag⟩:=it
 have rv:Vals ((kvs.map (·.1)).map V.str) acc.toList:=by
   refine qdp (by rw [Array.length_toList,al,List.length_map,List.length_map,ln]) fun i y v e1 e2=>?_
   obtain ⟨k',x',e3,e4⟩:=ag i v (by rw [← Array.getElem?_toList]; exact e2)
   obtain ⟨y',e5,_⟩:=qfY rel e3
   rw [List.getElem?_map] at e5
   rw [List.getElem?_map,List.getElem?_map] at e1
   cases z:kvs[i]? with
   | none=>rw [z] at e1; cases e1
   | some w' =>
     rw [z] at e1 e5
     cases e1
     cases e5
     exact qfZ (k:=.inr w'.1) e4
 have hA:=qdZ rv
 have hl:acc.toList.length < 64:=by rw [Array.length_toList,al,ln]; exact h64
 refine wpAny_bind (wpAny_newList ?_ (by rw [sizeLine_eq]; omega))
 have hoL:(h'.push (seqObj "list" acc.toList.toArray 0)).get? h'.objs.size=some (seqObj "list" acc.toList.toArray 0):=Heap.get?_push_size _ rfl
 refine wpAny_bind (wpAny_holding (wpAny_call_entry slot_list_sort ⟨_,hoL,rfl⟩ entry_list_sort (list_sort_treeK strKind_oneLt hoL hA.keysOf (fun v₁ v₂ rest e=>keyKind_strs (by rw [← e]; exact hA)) hl fun st' a1 a2=>⟨_,rfl,?_⟩) (args_list_sort _)))
 refine wpAny_pure ⟨_,rfl,?_⟩
 obtain ⟨ss',b1,b2,b3⟩:=sorted_out_str hA a1 a2
 obtain ⟨e',he⟩:=sortedHeap_at (out:=(arrOf st').map (·.2)) hoL
 have free:s.heap.get? h'.objs.size=none:=by
   cases z:s.heap.get? h'.objs.size with
   | none=>rfl
   | some o=>exact absurd (Heap.lt_size (hk _ _ z)) (Nat.lt_irrefl _)
 have kp:∀ b u,s.heap.get? b=some u->(sortedHeap (h'.push (seqObj "list" acc.toList.toArray 0)) h'.objs.size acc.toList ((arrOf st').map (·.2))).get? b=some u:=fun b u z=>by
   have z':=hk _ _ z
   have lt:=Heap.lt_size z'
   rw [sortedHeap_old (Nat.ne_of_lt lt) (Nat.lt_of_lt_of_eq (Nat.lt_succ_of_lt lt) (Heap.size_push ..).symm)]
   exact Heap.get?_push_of_some _ z'
 have I':Inv X pins σ (upd H h'.objs.size (.lst (ss'.map V.str))) { s with heap:=_,toks:=tk }:=I.laidL (t':=tk) (fun b u _ z=>kp b u z) (fun m ⟨o,es,ep,ho,r⟩=>⟨o,es,ep,kp _ _ ho,r⟩) free ⟨by rw [List.length_map,b2.length_eq,List.length_map,sizeLine_eq]; omega,_,e',qcu b1,(by rw [Array.toArray_toList]; exact he)⟩
 exact ⟨.ref _,_,I',rfl,q _ ss' (I.unlaid free) b2 b3⟩
def qkM (K:PySem.W.Frag):List V->Hp->VK->Prop:=fun xs H Q=>∃ x C t b,xs=[x,V.ref C]∧qdn K H x t∧PySem.W.kitOne K t (.ref C)=some b∧Q (.bl b) H
theorem qhu:jX X (.builtin "isinstance") (qkM X.K):=by
 intro pins s σ H xs us Q I r h
 obtain ⟨x,C,t,b,rfl,ht,hk,q⟩:=h
 obtain ⟨u,w',rfl,ru,rw'⟩:=qeZ r
 cases (show w'=Value.ref C from rw')
 exact qc8 I ru ht hk fun tk=>⟨.bl _,H,I.tok tk,rfl,q⟩
theorem qaY {K:PySem.W.Frag} {C D:Addr} {l:List (Option Addr)} (m:XMro K C l) (hl:l.head?=some (some C)) (d:qhw K D):PySem.W.kitOne K (.ref C) (.ref D)=some (l.contains (some D)):=by
 have e:=qgB m (by intro z; rw [z] at hl; cases hl) d
 unfold PySem.W.kitOne
 split
 · rename_i z
   have z':C=D:=Value.ref.inj (eq_of_beq z)
   subst z'
   congr 1
   cases l with
   | nil=>cases hl
   | cons x r=>rw [List.head?_cons] at hl; cases hl; simp
 · obtain ⟨cd,h1,h2⟩:=m
   unfold PySem.W.kitCls
   have d1:(PySem.W.clsIn K D).isSome=true:=d.1
   simp only [d.2,d1]
   simp only [qjQ,d.2,d1] at e
   simpa using e
theorem PE.or {e:Expr} {t u:TE} (h:PE X e t) (h':PE X e u):PE X e (fun σ H Q=>t σ H Q∨u σ H Q):=fun pins s σ H Q I q=>q.elim (h pins s σ H Q I) (h' pins s σ H Q I)
def qk8:R2:=fun x y H Q=>∃ a o,y=.ref a∧qbf H a x o∧Q (.bl o.isSome) H
theorem qhO (hu:X.A.units+1 < cLine):OpR X (compareOp .In) qk8:=by
 intro pins s σ H x y v u Q I rx ry h
 obtain ⟨a,o,rfl,g,q⟩:=h
 cases ry
 exact qli hu I g rx fun s' I'=>⟨.bl _,H,I',rfl,q⟩
def qin:R2:=fun x y H Q=>∃ a o,y=.ref a∧qbf H a x o∧Q (.bl (!o.isSome)) H
theorem qaO (hu:X.A.units+1 < cLine):OpR X (compareOp .NotIn) qin:=by
 intro pins s σ H x y v u Q I rx ry h
 obtain ⟨a,o,rfl,g,q⟩:=h
 cases ry
 exact qiJ hu I g rx fun s' I'=>⟨.bl _,H,I',rfl,q⟩
end
section
variable {X:Cx} {tg:Expr}
structure InsF (K:PySem.W.Frag) (C:Addr):Prop where
 cl:Cls K C
 ha:PySem.W.findIn K (.ref C) "__class__"=some (some (.builtin "object.__class__"))
 hn:PySem.W.specialIn K (.builtin "object.__class__") "__get__"=some (some (.builtin "getset_descriptor.__get__"))
 htk:PySem.W.takesIn K (.builtin "object.__class__")=some true
 hm:PySem.W.mroIn K C (.type "object")=some true
theorem InsF.ty {K:PySem.W.Frag} {H:Hp} {a C dx:Addr} {fs:List (Str×V)} (i:InsF K C) (e:H a=some (.ins C dx fs)):qdn K H (.ref a) (.ref C):=.ins e i.cl i.ha i.hn i.htk i.hm
end
end L2
namespace L2
open PySem PySem.Spec PyProof.Rows
section
variable {prog:Program} {w:World} {A:Around} {E:Value->Shared->Prop} {s:Shared}
end
section
variable {prog:Program} {w:World} {A:Around} {R:Result->Shared->Prop} {I:Addr} {fp wr:List Addr} {n:Nat} {P:Nat->Value->Prop} {St:Nat->Heap->Prop}
end
section
variable {prog:Program} {w:World} {A:Around} {E:Value->Shared->Prop} {s:Shared}
end
section
variable {X:Cx} {pins:List (Addr×Obj)} {σ:St} {H:Hp} {s:Shared}
end
end L2
namespace L2
open PySem PySem.Spec PyProof.Rows
section
variable {prog:Program} {w:World} {A:Around} {E:Value->Shared->Prop} {s:Shared} {K:PySem.W.Frag} {C x:Addr} {ox:Obj} {od:Option Obj}
end
section
variable {X:Cx}
end
end L2
namespace L2
open PySem PySem.Spec PyProof.Rows
theorem qcQ:∀ (r:List Str) (x:Str),risingS x r=true->(x::r).Pairwise fun a b=>a.cps.toList≤b.cps.toList
 | [],x,_=>List.pairwise_singleton _ _
 | y::r,x,h=>by
   have h':ltCps y.cps.toList x.cps.toList=false∧risingS y r=true:=by simpa [risingS] using h
   have hxy:x.cps.toList≤y.cps.toList:=fun z=>by
     have:=h'.1
     rw [ltCps_eq] at this
     exact (of_decide_eq_false this) z
   have ih:=qcQ r y h'.2
   refine List.pairwise_cons.mpr ⟨fun z m=>?_,ih⟩
   rcases List.mem_cons.mp m with rfl | m
   · exact hxy
   · exact List.le_trans hxy ((List.pairwise_cons.mp ih).1 z m)
theorem qbu {l:List Str} (h:sortedS l=true):l.Pairwise fun a b=>a.cps.toList≤b.cps.toList:=by
 cases l with
 | nil=>exact List.Pairwise.nil
 | cons x r=>exact qcQ r x h
theorem qdr {l l':List Str} (p:l.Perm l') (h:sortedS l=true) (h':sortedS l'=true):l=l' :=
 List.Perm.eq_of_pairwise (fun a b _ _ h1 h2=>qie (List.le_antisymm h1 h2)) (qbu h) (qbu h') p
theorem qa4 {H:Hp}:∀ (ns:List Str),DVs H (ns.map V.str) (ns.map PyData.str)
 | []=>.nil
 | n::r=>.cons (.str n) (qa4 r)
theorem qck:∀ (ns:List Str),(∀ x∈ns,PyData.strOk x=true)->PyData.canLayAll0 (ns.map PyData.str)=true∧PyData.depthAll (ns.map PyData.str)≤1
 | [],_=>⟨rfl,by simp [PyData.depthAll]⟩
 | n::r,h=>by
   obtain ⟨h1,h2⟩:=qck r fun x m=>h x (List.mem_cons_of_mem _ m)
   refine ⟨by simp [PyData.canLayAll0,PyData.canLay0,h1,h n List.mem_cons_self],?_⟩
   simp only [List.map_cons,PyData.depthAll,PyData.depth]; omega
end L2
namespace L2
open PySem PySem.Spec PyProof.Rows
section
variable {X:Cx} {o:Expr} {to:TE} {p apos cpos pos:Pos}
end
end L2
namespace L2
open PySem PySem.Spec PyProof.Rows
section
variable {X:Cx}
def qef:List V->Hp->VK->Prop:=fun xs H Q=>∃ a kvs,xs=[V.ref a]∧Rd H a (.dK kvs)∧∀ d,H d=none->Q (.ref d) (upd H d (.dK kvs))
theorem JO:jX X (.type "dict") qef:=by
 intro pins s σ H xs us Q I r h
 obtain ⟨a,kvs,rfl,hq,q⟩:=h
 obtain ⟨u,rfl,ru⟩:=qae r
 cases ru
 obtain ⟨hz,hS,vs,rel,D⟩:=qa5 I.hok hq
 refine kt_call_dict hS D (by rw [qc4 rel]; exact hz) fun h' dS sb=>?_
 have kp:∀ b o,s.heap.get? b=some o->h'.get? b=some o:=fun b o e=>by rw [sb.2 b (Nat.ne_of_lt (Heap.lt_size e))]; exact Heap.get?_push_of_some _ e
 refine ⟨.ref s.heap.objs.size,_,I.laid (t':=s.toks) kp (Nat.le_refl _) (show ObjOk X.prog X.w _ h' _ (.dK kvs) from ⟨hz,?_,vs,rel,dS⟩),rfl,q _ (I.hok.fresh (Nat.le_refl _))⟩
 have:=I.big
 exact beq_eq_false_iff_ne.mpr (Nat.ne_of_gt this)
def qkf:R2:=fun x y H Q=>∃ a b kvs,x=.ref a∧y=.ref b∧Rd H a (.dK kvs)∧H b=some (.dK [])∧Q (.bl kvs.isEmpty) H
theorem qiu (hu:X.A.units+64 < cLine):OpR X (compareOp .Eq) qkf:=by
 intro pins s σ H x y v u Q I rx ry h
 obtain ⟨a,b,kvs,rfl,rfl,ha,hb,q⟩:=h
 cases (show v=Value.ref a from rx)
 cases (show u=Value.ref b from ry)
 obtain ⟨_,hs,vs,kv,d⟩:=qa5 I.hok ha
 obtain ⟨_,hs2,vs2,kv2,d2⟩:=qho I.hok hb
 cases kv2
 refine PySem.W.keq_eq (r:=true) hs hs2 d d2 (by omega) (fun e=>?_) ⟨.bl kvs.isEmpty,H,I,?_,q⟩
 · cases vs with
   | nil=>exact .nil
   | cons _ _=>cases e
 · cases kv with
   | nil=>rfl
   | cons _ _=>rfl
end
end L2
namespace K37
open PySem L2 PySem.NumText PyProof.Rows KC M04
def top (i:Nat):Stmt:=PySem.Challenge.pw_foldlog_k37_deeds_one_behind_another.main.body.getD i (.Pass ⟨0,0,0,0⟩)
abbrev Qr:Stmt:=top 20
theorem qcI:qm ["thing"] ["thing"] (qd Qr):=⟨rfl,rfl,rfl,by decide +kernel,rfl,by decide +kernel,by decide +kernel⟩
abbrev QO:Stmt:=top 21
theorem qds:qm ["thing","low","high"] ["thing","low","high"] (qd QO):=⟨rfl,rfl,rfl,by decide +kernel,rfl,by decide +kernel,by decide +kernel⟩
abbrev Qs:Stmt:=top 22
theorem qcJ:qm ["thing"] ["thing"] (qd Qs):=⟨rfl,rfl,rfl,by decide +kernel,rfl,by decide +kernel,by decide +kernel⟩
abbrev zZ:Stmt:=top 23
theorem qbS:qm ["thing"] ["thing"] (qd zZ):=⟨rfl,rfl,rfl,by decide +kernel,rfl,by decide +kernel,by decide +kernel⟩
abbrev z3:Stmt:=top 24
theorem qbT:qm ["thing"] ["thing"] (qd z3):=⟨rfl,rfl,rfl,by decide +kernel,rfl,by decide +kernel,by decide +kernel⟩
abbrev Zp:Stmt:=top 25
theorem qeE:qm ["thing"] ["thing"] (qd Zp):=⟨rfl,rfl,rfl,by decide +kernel,rfl,by decide +kernel,by decide +kernel⟩
abbrev zY:Stmt:=top 27
theorem qbR:qm ["thing"] ["thing"] (qd zY):=⟨rfl,rfl,rfl,by decide +kernel,rfl,by decide +kernel,by decide +kernel⟩
abbrev qV:Stmt:=top 28
theorem sc_check_stretches:qm ["stretches","place","stretch"] ["stretches"] (qd qV):=⟨rfl,rfl,rfl,by decide +kernel,rfl,by decide +kernel,by decide +kernel⟩
abbrev QN:Stmt:=top 29
theorem sc_spans_of:qm ["stretches","told","low","high"] ["stretches"] (qd QN):=⟨rfl,rfl,rfl,by decide +kernel,rfl,by decide +kernel,by decide +kernel⟩
abbrev Qa:Stmt:=top 31
theorem qbU:qm ["thing"] ["thing"] (qd Qa):=⟨rfl,rfl,rfl,by decide +kernel,rfl,by decide +kernel,by decide +kernel⟩
abbrev zA:Stmt:=top 32
theorem qaD:qm ["thing"] ["thing"] (qd zA):=⟨rfl,rfl,rfl,by decide +kernel,rfl,by decide +kernel,by decide +kernel⟩
abbrev zp:Stmt:=top 33
theorem qah:qm ["thing"] ["thing"] (qd zp):=⟨rfl,rfl,rfl,by decide +kernel,rfl,by decide +kernel,by decide +kernel⟩
abbrev jg:Stmt:=top 45
theorem qfi:qm ["thing","keyed"] ["thing","keyed"] (qd jg):=⟨rfl,rfl,rfl,by decide +kernel,rfl,by decide +kernel,by decide +kernel⟩
abbrev je:Stmt:=top 48
theorem qfh:qm ["thing","widest"] ["thing","widest"] (qd je):=⟨rfl,rfl,rfl,by decide +kernel,rfl,by decide +kernel,by decide +kernel⟩
abbrev Qq:Stmt:=top 49
theorem qcH:qm ["rows","place"] ["rows","place"] (qd Qq):=⟨rfl,rfl,rfl,by decide +kernel,rfl,by decide +kernel,by decide +kernel⟩
abbrev z9:Stmt:=top 50
theorem sc_check_rows:qm ["rows","most","widest","place","row"] ["rows","most","widest"] (qd z9):=⟨rfl,rfl,rfl,by decide +kernel,rfl,by decide +kernel,by decide +kernel⟩
abbrev QX:Stmt:=top 51
abbrev JI:Stmt:=top 56
theorem qgJ:qm ["_law_script","_law_k"] ["_law_script","_law_k"] (qd JI):=⟨rfl,rfl,rfl,by decide +kernel,rfl,by decide +kernel,by decide +kernel⟩
abbrev qbw:Stmt:=top 57
theorem sc_Lmix:qm ["_law_cell_here","_law_k","_law_number"] ["_law_cell_here","_law_k"] (qd qbw):=⟨rfl,rfl,rfl,by decide +kernel,rfl,by decide +kernel,by decide +kernel⟩
abbrev jo:Stmt:=top 58
theorem qfk:qm ["_law_cell_here"] ["_law_cell_here"] (qd jo):=⟨rfl,rfl,rfl,by decide +kernel,rfl,by decide +kernel,by decide +kernel⟩
abbrev JC:Stmt:=top 59
theorem sc_Lpull:qm ["_law_state","_law_many","_law_digit","_law_high","_law_low"] ["_law_state","_law_many"] (qd JC):=⟨rfl,rfl,rfl,by decide +kernel,rfl,by decide +kernel,by decide +kernel⟩
abbrev jm:Stmt:=top 60
theorem sc_Lnames:qm ["_law_state","_law_many","_law_letters","_law_size","_law_at","_law_base","_law_first","_law_step","_law_names_here","_law_k","_law_behind","_law_sign"] ["_law_state","_law_many"] (qd jm):=⟨rfl,rfl,rfl,by decide +kernel,rfl,by decide +kernel,by decide +kernel⟩
abbrev jj:Stmt:=top 61
theorem sc_Lshift:qm ["_law_state","_law_way"] ["_law_state"] (qd jj):=⟨rfl,rfl,rfl,by decide +kernel,rfl,by decide +kernel,by decide +kernel⟩
abbrev JB:Stmt:=top 62
theorem sc_Lrows:qm ["_law_state","_law_unit","_law_rows_here","_law_k"] ["_law_state"] (qd JB):=⟨rfl,rfl,rfl,by decide +kernel,rfl,by decide +kernel,by decide +kernel⟩
abbrev Zq:Stmt:=top 63
theorem sc_Lpieces:qm ["_law_rows_here","_law_ends"] ["_law_rows_here"] (qd Zq):=⟨rfl,rfl,rfl,by decide +kernel,rfl,by decide +kernel,by decide +kernel⟩
abbrev Zs:Stmt:=top 64
theorem sc_Ljoined:qm ["_law_stretches","_law_found","_law_low","_law_high"] ["_law_stretches"] (qd Zs):=⟨rfl,rfl,rfl,by decide +kernel,rfl,by decide +kernel,by decide +kernel⟩
abbrev ji:Stmt:=top 65
theorem qfj:qm ["_law_rows_here","_law_low","_law_high"] ["_law_rows_here","_law_low","_law_high"] (qd ji):=⟨rfl,rfl,rfl,by decide +kernel,rfl,by decide +kernel,by decide +kernel⟩
abbrev JA:Stmt:=top 67
theorem sc_Lsame:qm ["_law_found","_law_due","_law_part"] ["_law_found","_law_due"] (qd JA):=⟨rfl,rfl,rfl,by decide +kernel,rfl,by decide +kernel,by decide +kernel⟩
abbrev JD:Stmt:=top 68
theorem sc_Lnear:qm ["_law_state","_law_rows_here","_law_low","_law_high","_law_shift_here","_law_ends"] ["_law_state","_law_rows_here"] (qd JD):=⟨rfl,rfl,rfl,by decide +kernel,rfl,by decide +kernel,by decide +kernel⟩
abbrev Jz:Stmt:=top 69
theorem sc_Lspec:qm ["_law_state","_law_name","_law_places","_law_tables","_law_word","_law_place","_law_rows_here","_law_low","_law_high"] ["_law_state","_law_name","_law_places","_law_tables"] (qd Jz):=⟨rfl,rfl,rfl,by decide +kernel,rfl,by decide +kernel,by decide +kernel⟩
abbrev JE:Stmt:=top 70
theorem sc_Lmade:qm ["_law_spec_here","_law_word","_law_name","_law_place","_law_low","_law_high"] ["_law_spec_here"] (qd JE):=⟨rfl,rfl,rfl,by decide +kernel,rfl,by decide +kernel,by decide +kernel⟩
abbrev jh:Stmt:=top 71
theorem sc_Lspans:qm ["_law_spec_here","_law_tables","_law_word","_law_name","_law_place","_law_low","_law_high"] ["_law_spec_here","_law_tables"] (qd jh):=⟨rfl,rfl,rfl,by decide +kernel,rfl,by decide +kernel,by decide +kernel⟩
abbrev jk:Stmt:=top 72
theorem sc_Lright:qm ["_law_log","_law_kept","_law_names_here","_law_spec_here","_law_name"] ["_law_log","_law_kept"] (qd jk):=⟨rfl,rfl,rfl,by decide +kernel,rfl,by decide +kernel,by decide +kernel⟩
abbrev JF:Stmt:=top 73
theorem sc_Lgone:qm ["_law_log","_law_name","_law_refused","_law_way","e"] ["_law_log","_law_name"] (qd JF):=⟨rfl,rfl,rfl,by decide +kernel,rfl,by decide +kernel,by decide +kernel⟩
abbrev JH:Stmt:=top 74
theorem sc_Lcopy:qm ["_law_kept","_law_tables"] ["_law_kept"] (qd JH):=⟨rfl,rfl,rfl,by decide +kernel,rfl,by decide +kernel,by decide +kernel⟩
abbrev jn:Stmt:=top 75
theorem sc_Lbound:qm ["_law_log","_law_kept","_law_state","_law_names_here","_law_later","_law_earlier","_law_minutes"] ["_law_log","_law_kept","_law_state"] (qd jn):=⟨rfl,rfl,rfl,by decide +kernel,rfl,by decide +kernel,by decide +kernel⟩
abbrev QS:Stmt:=top 76
theorem sc_Ldropped:qm ["_law_log","_law_kept","_law_state","_law_spec_here"] ["_law_log","_law_kept","_law_state"] (qd QS):=⟨rfl,rfl,rfl,by decide +kernel,rfl,by decide +kernel,by decide +kernel⟩
abbrev qbv:Stmt:=top 77
theorem sc_Lput:qm ["_law_log","_law_kept","_law_state","_law_names_here","_law_taken","_law_free","_law_spec_here"] ["_law_log","_law_kept","_law_state","_law_names_here"] (qd qbv):=⟨rfl,rfl,rfl,by decide +kernel,rfl,by decide +kernel,by decide +kernel⟩
abbrev JG:Stmt:=top 78
theorem sc_Ldone:qm ["_law_log","_law_kept","_law_state","_law_names_here","_law_way","_law_place","_law_number"] ["_law_log","_law_kept","_law_state","_law_names_here"] (qd JG):=⟨rfl,rfl,rfl,by decide +kernel,rfl,by decide +kernel,by decide +kernel⟩
abbrev qeG:Stmt:=top 79
theorem sc_law:qm ["_law_script","_law_state","_law_names_here","_law_logs","_law_none","_law_kept","_law_k","_law_at","_law_turn"] ["_law_script"] (qd qeG):=⟨rfl,rfl,rfl,by decide +kernel,rfl,by decide +kernel,by decide +kernel⟩
abbrev Qf:Stmt:=qM (top 34) 0
theorem qbY:qm ["self","name"] ["self","name"] (qd Qf):=⟨rfl,rfl,rfl,by decide +kernel,rfl,by decide +kernel,by decide +kernel⟩
abbrev zE:Stmt:=qM (top 34) 2
theorem qaG:qm ["self"] ["self"] (qd zE):=⟨rfl,rfl,rfl,by decide +kernel,rfl,by decide +kernel,by decide +kernel⟩
abbrev zP:Stmt:=qM (top 34) 3
theorem qbd:qm ["self","tables"] ["self","tables"] (qd zP):=⟨rfl,rfl,rfl,by decide +kernel,rfl,by decide +kernel,by decide +kernel⟩
abbrev zO:Stmt:=qM (top 35) 0
theorem qbc:qm ["self","name","low","high"] ["self","name","low","high"] (qd zO):=⟨rfl,rfl,rfl,by decide +kernel,rfl,by decide +kernel,by decide +kernel⟩
abbrev zB:Stmt:=qM (top 35) 2
theorem qaE:qm ["self","tables"] ["self","tables"] (qd zB):=⟨rfl,rfl,rfl,by decide +kernel,rfl,by decide +kernel,by decide +kernel⟩
abbrev Zt:Stmt:=qM (top 36) 0
theorem qeF:qm ["self","name","moment"] ["self","name","moment"] (qd Zt):=⟨rfl,rfl,rfl,by decide +kernel,rfl,by decide +kernel,by decide +kernel⟩
abbrev zF:Stmt:=qM (top 37) 0
theorem qaH:qm ["self","name","place","low","high"] ["self","name","place","low","high"] (qd zF):=⟨rfl,rfl,rfl,by decide +kernel,rfl,by decide +kernel,by decide +kernel⟩
abbrev ze:Stmt:=qM (top 37) 2
theorem Jy:qm ["self"] ["self"] (qd ze):=⟨rfl,rfl,rfl,by decide +kernel,rfl,by decide +kernel,by decide +kernel⟩
abbrev zt:Stmt:=qM (top 37) 3
theorem qaj:qm ["self","tables"] ["self","tables"] (qd zt):=⟨rfl,rfl,rfl,by decide +kernel,rfl,by decide +kernel,by decide +kernel⟩
abbrev Qt:Stmt:=qM (top 38) 0
theorem qcK:qm ["self","name","place","reading"] ["self","name","place","reading"] (qd Qt):=⟨rfl,rfl,rfl,by decide +kernel,rfl,by decide +kernel,by decide +kernel⟩
abbrev QP:Stmt:=qM (top 46) 0
theorem qdt:qm ["self"] ["self"] (qd QP):=⟨rfl,rfl,rfl,by decide +kernel,rfl,by decide +kernel,by decide +kernel⟩
abbrev Qx:Stmt:=qM (top 46) 1
theorem qcO:qm ["self","place","table"] ["self","place","table"] (qd Qx):=⟨rfl,rfl,rfl,by decide +kernel,rfl,by decide +kernel,by decide +kernel⟩
abbrev Zr:Stmt:=qM (top 46) 2
theorem sc_Log_put:qm ["self","entry","place"] ["self","entry"] (qd Zr):=⟨rfl,rfl,rfl,by decide +kernel,rfl,by decide +kernel,by decide +kernel⟩
abbrev QR:Stmt:=qM (top 46) 3
theorem qdv:qm ["self","later","earlier","minutes"] ["self","later","earlier","minutes"] (qd QR):=⟨rfl,rfl,rfl,by decide +kernel,rfl,by decide +kernel,by decide +kernel⟩
abbrev Qc:Stmt:=qM (top 46) 4
theorem qbW:qm ["self","number"] ["self","number"] (qd Qc):=⟨rfl,rfl,rfl,by decide +kernel,rfl,by decide +kernel,by decide +kernel⟩
abbrev QQ:Stmt:=qM (top 46) 5
theorem qdu:qm ["self","name"] ["self","name"] (qd QQ):=⟨rfl,rfl,rfl,by decide +kernel,rfl,by decide +kernel,by decide +kernel⟩
abbrev qW:Stmt:=qM (top 46) 6
theorem Jg:qm ["self","name"] ["self","name"] (qd qW):=⟨rfl,rfl,rfl,by decide +kernel,rfl,by decide +kernel,by decide +kernel⟩
abbrev zd:Stmt:=qM (top 46) 7
theorem Jx:qm ["self","number"] ["self","number"] (qd zd):=⟨rfl,rfl,rfl,by decide +kernel,rfl,by decide +kernel,by decide +kernel⟩
abbrev Qv:Stmt:=qM (top 46) 8
theorem qcM:qm ["self"] ["self"] (qd Qv):=⟨rfl,rfl,rfl,by decide +kernel,rfl,by decide +kernel,by decide +kernel⟩
abbrev Qw:Stmt:=qM (top 46) 9
theorem qcN:qm ["self","name"] ["self","name"] (qd Qw):=⟨rfl,rfl,rfl,by decide +kernel,rfl,by decide +kernel,by decide +kernel⟩
abbrev Qu:Stmt:=qM (top 46) 10
theorem qcL:qm ["self","name"] ["self","name"] (qd Qu):=⟨rfl,rfl,rfl,by decide +kernel,rfl,by decide +kernel,by decide +kernel⟩
abbrev Qy:Stmt:=qM (top 46) 11
theorem qcP:qm ["self"] ["self"] (qd Qy):=⟨rfl,rfl,rfl,by decide +kernel,rfl,by decide +kernel,by decide +kernel⟩
abbrev Qd:Stmt:=qM (top 46) 12
theorem qbX:qm ["self"] ["self"] (qd Qd):=⟨rfl,rfl,rfl,by decide +kernel,rfl,by decide +kernel,by decide +kernel⟩
abbrev QY:Stmt:=qM (top 46) 13
abbrev Qe:Stmt:=qM (top 46) 15
theorem sc_Log_copied:qm ["self","told"] ["self"] (qd Qe):=⟨rfl,rfl,rfl,by decide +kernel,rfl,by decide +kernel,by decide +kernel⟩
abbrev Qb:Stmt:=qM (top 54) 0
theorem qbV:qm ["self","rows"] ["self","rows"] (qd Qb):=⟨rfl,rfl,rfl,by decide +kernel,rfl,by decide +kernel,by decide +kernel⟩
abbrev QD:Stmt:=qM (top 54) 1
abbrev zC:Stmt:=qM (top 54) 2
theorem sc_Table_pieces:qm ["self","ends"] ["self"] (qd zC):=⟨rfl,rfl,rfl,by decide +kernel,rfl,by decide +kernel,by decide +kernel⟩
abbrev zw:Stmt:=qM (top 54) 3
abbrev zI:Stmt:=qM (top 54) 4
abbrev qI:Stmt:=qM (top 54) 6
theorem Zo:qm ["self","low","high"] ["self","low","high"] (qd qI):=⟨rfl,rfl,rfl,by decide +kernel,rfl,by decide +kernel,by decide +kernel⟩
abbrev zD:Stmt:=qM (top 10) 0
theorem qaF:qm ["self","found"] ["self","found"] (qd zD):=⟨rfl,rfl,rfl,by decide +kernel,rfl,by decide +kernel,by decide +kernel⟩
abbrev zq:Stmt:=qM (top 2) 0
theorem qai:qm ["self","text"] ["self","text"] (qd zq):=⟨rfl,rfl,rfl,by decide +kernel,rfl,by decide +kernel,by decide +kernel⟩
set_option genInjectivity false in
structure Ad where
 c_LogError:Addr
 c_NoSpans:Addr
 c_NoTable:Addr
 c_TooMany:Addr
 c_NoMoment:Addr
 c_NoReading:Addr
 c_NoName:Addr
 c_NoPlace:Addr
 c_NoEntry:Addr
 c_Taken:Addr
 c_NoMinutes:Addr
 c_NoBond:Addr
 c_Entry:Addr
 c_Within:Addr
 c_At:Addr
 c_Between:Addr
 c_Read:Addr
 c_Log:Addr
 c_Table:Addr
 f_e:Addr
 fd_e:FuncData
 f_b:Addr
 fd_b:FuncData
 f_m:Addr
 fd_m:FuncData
 f_f:Addr
 fd_f:FuncData
 f_L:Addr
 fd_L:FuncData
 f_n:Addr
 fd_n:FuncData
 f_M:Addr
 fd_M:FuncData
 f_N:Addr
 fd_N:FuncData
 f_o:Addr
 fd_o:FuncData
 f_p:Addr
 fd_p:FuncData
 f_B:Addr
 fd_B:FuncData
 f_C:Addr
 fd_C:FuncData
 f_O:Addr
 fd_O:FuncData
 f_P:Addr
 fd_P:FuncData
 f_Q:Addr
 fd_Q:FuncData
 f_R:Addr
 fd_R:FuncData
 f_aj:Addr
 fd_aj:FuncData
 f_D:Addr
 fd_D:FuncData
 f_E:Addr
 fd_E:FuncData
 f_F:Addr
 fd_F:FuncData
 f_a:Addr
 fd_a:FuncData
 f_S:Addr
 fd_S:FuncData
 f_G:Addr
 fd_G:FuncData
 f_T:Addr
 fd_T:FuncData
 f_r:Addr
 fd_r:FuncData
 f_s:Addr
 fd_s:FuncData
 f_U:Addr
 fd_U:FuncData
 f_H:Addr
 fd_H:FuncData
 f_V:Addr
 fd_V:FuncData
 f_W:Addr
 fd_W:FuncData
 f_X:Addr
 fd_X:FuncData
 f_Y:Addr
 fd_Y:FuncData
 f_I:Addr
 fd_I:FuncData
 f_Z:Addr
 fd_Z:FuncData
 f_k:Addr
 fd_k:FuncData
 f_0:Addr
 fd_0:FuncData
 f_1:Addr
 fd_1:FuncData
 f_2:Addr
 fd_2:FuncData
 f_3:Addr
 fd_3:FuncData
 f_ai:Addr
 fd_ai:FuncData
 f_g:Addr
 fd_g:FuncData
 f_h:Addr
 fd_h:FuncData
 f_u:Addr
 fd_u:FuncData
 f_v:Addr
 fd_v:FuncData
 f_i:Addr
 fd_i:FuncData
 f_4:Addr
 fd_4:FuncData
 f_w:Addr
 fd_w:FuncData
 f_x:Addr
 fd_x:FuncData
 f_j:Addr
 fd_j:FuncData
 f_5:Addr
 fd_5:FuncData
 f_A:Addr
 fd_A:FuncData
 f_6:Addr
 fd_6:FuncData
 f_7:Addr
 fd_7:FuncData
 f_y:Addr
 fd_y:FuncData
 f_8:Addr
 fd_8:FuncData
 f_9:Addr
 fd_9:FuncData
 f_d:Addr
 fd_d:FuncData
 f_aa:Addr
 fd_aa:FuncData
 f_ab:Addr
 fd_ab:FuncData
 f_c:Addr
 fd_c:FuncData
 f_z:Addr
 fd_z:FuncData
 f_ac:Addr
 fd_ac:FuncData
 f_J:Addr
 fd_J:FuncData
 f_ak:Addr
 fd_ak:FuncData
 f_K:Addr
 fd_K:FuncData
 f_ad:Addr
 fd_ad:FuncData
 f_al:Addr
 fd_al:FuncData
 f_ae:Addr
 fd_ae:FuncData
 f_am:Addr
 fd_am:FuncData
 f_an:Addr
 fd_an:FuncData
 f_af:Addr
 fd_af:FuncData
 f_ag:Addr
 fd_ag:FuncData
 f_ah:Addr
 fd_ah:FuncData
structure DfM (K:PySem.W.Frag) (C:Addr) (x q:Str) (st:Stmt) (ps:List Str) (f:Addr) (fd:FuncData):Prop where
 F:Fun K x q st f fd
 b:Binds K fd ps []
 mt:qgz K C x f
structure Txt (K:PySem.W.Frag) (mg:Str->Option Value) (a:Ad):Prop where
 d_e:Df K mg "is_number" Qr ["thing"] a.f_e a.fd_e
 d_b:Df K mg "is_whole" QO ["thing","low","high"] a.f_b a.fd_b
 d_m:Df K mg "is_moment" Qs ["thing"] a.f_m a.fd_m
 d_f:Df K mg "is_reading" zZ ["thing"] a.f_f a.fd_f
 d_L:Df K mg "is_minutes" z3 ["thing"] a.f_L a.fd_L
 d_n:Df K mg "is_name" Zp ["thing"] a.f_n a.fd_n
 d_M:Df K mg "is_stretch" zY ["thing"] a.f_M a.fd_M
 d_N:Df K mg "check_stretches" qV ["stretches"] a.f_N a.fd_N
 d_o:Df K mg "spans_of" QN ["stretches"] a.f_o a.fd_o
 d_p:Df K mg "check_name" Qa ["thing"] a.f_p a.fd_p
 d_B:Df K mg "check_moment" zA ["thing"] a.f_B a.fd_B
 d_C:Df K mg "check_reading" zp ["thing"] a.f_C a.fd_C
 d_O:Df K mg "is_key" jg ["thing","keyed"] a.f_O a.fd_O
 d_P:Df K mg "is_row" je ["thing","widest"] a.f_P a.fd_P
 d_Q:Df K mg "may_stand" Qq ["rows","place"] a.f_Q a.fd_Q
 d_R:Df K mg "check_rows" z9 ["rows","most","widest"] a.f_R a.fd_R
 d_aj:Df K mg "number_at" QX ["rows","moment"] a.f_aj a.fd_aj
 d_D:Df K mg "_law_cell" JI ["_law_script","_law_k"] a.f_D a.fd_D
 d_E:Df K mg "_law_mix" qbw ["_law_cell_here","_law_k"] a.f_E a.fd_E
 d_F:Df K mg "_law_begun" jo ["_law_cell_here"] a.f_F a.fd_F
 d_a:Df K mg "_law_pull" JC ["_law_state","_law_many"] a.f_a a.fd_a
 d_S:Df K mg "_law_names" jm ["_law_state","_law_many"] a.f_S a.fd_S
 d_G:Df K mg "_law_shift" jj ["_law_state"] a.f_G a.fd_G
 d_T:Df K mg "_law_rows" JB ["_law_state"] a.f_T a.fd_T
 d_r:Df K mg "_law_pieces" Zq ["_law_rows_here"] a.f_r a.fd_r
 d_s:Df K mg "_law_joined" Zs ["_law_stretches"] a.f_s a.fd_s
 d_U:Df K mg "_law_shown" ji ["_law_rows_here","_law_low","_law_high"] a.f_U a.fd_U
 d_H:Df K mg "_law_same" JA ["_law_found","_law_due"] a.f_H a.fd_H
 d_V:Df K mg "_law_near" JD ["_law_state","_law_rows_here"] a.f_V a.fd_V
 d_W:Df K mg "_law_spec" Jz ["_law_state","_law_name","_law_places","_law_tables"] a.f_W a.fd_W
 d_X:Df K mg "_law_made" JE ["_law_spec_here"] a.f_X a.fd_X
 d_Y:Df K mg "_law_spans" jh ["_law_spec_here","_law_tables"] a.f_Y a.fd_Y
 d_I:Df K mg "_law_right" jk ["_law_log","_law_kept"] a.f_I a.fd_I
 d_Z:Df K mg "_law_gone" JF ["_law_log","_law_name"] a.f_Z a.fd_Z
 d_k:Df K mg "_law_copy" JH ["_law_kept"] a.f_k a.fd_k
 d_0:Df K mg "_law_bound" jn ["_law_log","_law_kept","_law_state"] a.f_0 a.fd_0
 d_1:Df K mg "_law_dropped" QS ["_law_log","_law_kept","_law_state"] a.f_1 a.fd_1
 d_2:Df K mg "_law_put" qbv ["_law_log","_law_kept","_law_state","_law_names_here"] a.f_2 a.fd_2
 d_3:Df K mg "_law_done" JG ["_law_log","_law_kept","_law_state","_law_names_here"] a.f_3 a.fd_3
 d_ai:Df K mg "law" qeG ["_law_script"] a.f_ai a.fd_ai
 d_g:DfM K a.c_Entry "__init__" "Entry.__init__" Qf ["self","name"] a.f_g a.fd_g
 d_h:DfM K a.c_Entry "places" "Entry.places" zE ["self"] a.f_h a.fd_h
 d_u:DfM K a.c_Entry "spans" "Entry.spans" zP ["self","tables"] a.f_u a.fd_u
 d_v:DfM K a.c_Within "__init__" "Within.__init__" zO ["self","name","low","high"] a.f_v a.fd_v
 d_i:DfM K a.c_Within "spans" "Within.spans" zB ["self","tables"] a.f_i a.fd_i
 d_4:DfM K a.c_At "__init__" "At.__init__" Zt ["self","name","moment"] a.f_4 a.fd_4
 d_w:DfM K a.c_Between "__init__" "Between.__init__" zF ["self","name","place","low","high"] a.f_w a.fd_w
 d_x:DfM K a.c_Between "places" "Between.places" ze ["self"] a.f_x a.fd_x
 d_j:DfM K a.c_Between "spans" "Between.spans" zt ["self","tables"] a.f_j a.fd_j
 d_5:DfM K a.c_Read "__init__" "Read.__init__" Qt ["self","name","place","reading"] a.f_5 a.fd_5
 d_A:DfM K a.c_Log "__init__" "Log.__init__" QP ["self"] a.f_A a.fd_A
 d_6:DfM K a.c_Log "clock" "Log.clock" Qx ["self","place","table"] a.f_6 a.fd_6
 d_7:DfM K a.c_Log "put" "Log.put" Zr ["self","entry"] a.f_7 a.fd_7
 d_y:DfM K a.c_Log "bind" "Log.bind" QR ["self","later","earlier","minutes"] a.f_y a.fd_y
 d_8:DfM K a.c_Log "unbind" "Log.unbind" Qc ["self","number"] a.f_8 a.fd_8
 d_9:DfM K a.c_Log "drop" "Log.drop" QQ ["self","name"] a.f_9 a.fd_9
 d_d:DfM K a.c_Log "check_entry" "Log.check_entry" qW ["self","name"] a.f_d a.fd_d
 d_aa:DfM K a.c_Log "check_bond" "Log.check_bond" zd ["self","number"] a.f_aa a.fd_aa
 d_ab:DfM K a.c_Log "names" "Log.names" Qv ["self"] a.f_ab a.fd_ab
 d_c:DfM K a.c_Log "entry" "Log.entry" Qw ["self","name"] a.f_c a.fd_c
 d_z:DfM K a.c_Log "spans" "Log.spans" Qu ["self","name"] a.f_z a.fd_z
 d_ac:DfM K a.c_Log "bonds" "Log.bonds" Qy ["self"] a.f_ac a.fd_ac
 d_J:DfM K a.c_Log "places" "Log.places" Qd ["self"] a.f_J a.fd_J
 d_ak:DfM K a.c_Log "table" "Log.table" QY ["self","place"] a.f_ak a.fd_ak
 d_K:DfM K a.c_Log "copied" "Log.copied" Qe ["self"] a.f_K a.fd_K
 d_ad:DfM K a.c_Table "__init__" "Table.__init__" Qb ["self","rows"] a.f_ad a.fd_ad
 d_al:DfM K a.c_Table "rows" "Table.rows" QD ["self"] a.f_al a.fd_al
 d_ae:DfM K a.c_Table "pieces" "Table.pieces" zC ["self"] a.f_ae a.fd_ae
 d_am:DfM K a.c_Table "shift_at" "Table.shift_at" zw ["self","moment"] a.f_am a.fd_am
 d_an:DfM K a.c_Table "reading" "Table.reading" zI ["self","moment"] a.f_an a.fd_an
 d_af:DfM K a.c_Table "moments_between" "Table.moments_between" qI ["self","low","high"] a.f_af a.fd_af
 d_ag:DfM K a.c_NoEntry "__init__" "NoEntry.__init__" zD ["self","found"] a.f_ag a.fd_ag
 d_ah:DfM K a.c_LogError "__init__" "LogError.__init__" zq ["self","text"] a.f_ah a.fd_ah
 g_Entry:mg "Entry"=some (.ref a.c_Entry)
 cl_Entry:Cls K a.c_Entry
 M_Entry:Mk K a.c_Entry a.f_g
 n_Entry_name:NoAttr K a.c_Entry "name"
 g_Within:mg "Within"=some (.ref a.c_Within)
 cl_Within:Cls K a.c_Within
 M_Within:Mk K a.c_Within a.f_v
 n_Within_low:NoAttr K a.c_Within "low"
 n_Within_high:NoAttr K a.c_Within "high"
 n_Within_name:NoAttr K a.c_Within "name"
 g_At:mg "At"=some (.ref a.c_At)
 cl_At:Cls K a.c_At
 M_At:Mk K a.c_At a.f_4
 n_At_low:NoAttr K a.c_At "low"
 n_At_high:NoAttr K a.c_At "high"
 n_At_name:NoAttr K a.c_At "name"
 g_Between:mg "Between"=some (.ref a.c_Between)
 cl_Between:Cls K a.c_Between
 M_Between:Mk K a.c_Between a.f_w
 n_Between_place:NoAttr K a.c_Between "place"
 n_Between_low:NoAttr K a.c_Between "low"
 n_Between_high:NoAttr K a.c_Between "high"
 n_Between_name:NoAttr K a.c_Between "name"
 g_Read:mg "Read"=some (.ref a.c_Read)
 cl_Read:Cls K a.c_Read
 M_Read:Mk K a.c_Read a.f_5
 n_Read_place:NoAttr K a.c_Read "place"
 n_Read_low:NoAttr K a.c_Read "low"
 n_Read_high:NoAttr K a.c_Read "high"
 n_Read_name:NoAttr K a.c_Read "name"
 g_Log:mg "Log"=some (.ref a.c_Log)
 cl_Log:Cls K a.c_Log
 M_Log:Mk K a.c_Log a.f_A
 n_Log_tables:NoAttr K a.c_Log "tables"
 n_Log_entries:NoAttr K a.c_Log "entries"
 n_Log_bound:NoAttr K a.c_Log "bound"
 g_Table:mg "Table"=some (.ref a.c_Table)
 cl_Table:Cls K a.c_Table
 M_Table:Mk K a.c_Table a.f_ad
 n_Table_kept:NoAttr K a.c_Table "kept"
 n_len:mg "len"=none
 n_max:mg "max"=none
 n_min:mg "min"=none
 n_isinstance:mg "isinstance"=none
 n_range:mg "range"=none
 n_enumerate:mg "enumerate"=none
 n_int:mg "int"=none
 n_bool:mg "bool"=none
 n_str:mg "str"=none
 n_list:mg "list"=none
 n_tuple:mg "tuple"=none
 n_dict:mg "dict"=none
 n_sorted:mg "sorted"=none
 n_zip:mg "zip"=none
 n_all:mg "all"=none
 g_LAST:∃ t,mg "LAST"=some (.int 1000000000 t)
 g_WIDEST_READING:∃ t,mg "WIDEST_READING"=some (.int 10000000000 t)
 g_MOST_MINUTES:∃ t,mg "MOST_MINUTES"=some (.int 2000000001 t)
 g_LONGEST_NAME:∃ t,mg "LONGEST_NAME"=some (.int 8 t)
 g_LATER:∃ t,mg "LATER"=some (.int 0 t)
 g_EARLIER:∃ t,mg "EARLIER"=some (.int 1 t)
 g_MOST_PLACES:∃ t,mg "MOST_PLACES"=some (.int 6 t)
 g_MOST_ENTRIES:∃ t,mg "MOST_ENTRIES"=some (.int 60 t)
 g_MOST_BONDS:∃ t,mg "MOST_BONDS"=some (.int 100 t)
 g_MOST_ROWS:∃ t,mg "MOST_ROWS"=some (.int 21 t)
 g_WIDEST_SHIFT:∃ t,mg "WIDEST_SHIFT"=some (.int 2880 t)
 n_ValueError:mg "ValueError"=none
 g_LogError:mg "LogError"=some (.ref a.c_LogError)
 g_NoSpans:mg "NoSpans"=some (.ref a.c_NoSpans)
 g_NoTable:mg "NoTable"=some (.ref a.c_NoTable)
 g_TooMany:mg "TooMany"=some (.ref a.c_TooMany)
 g_NoMoment:mg "NoMoment"=some (.ref a.c_NoMoment)
 g_NoReading:mg "NoReading"=some (.ref a.c_NoReading)
 g_NoName:mg "NoName"=some (.ref a.c_NoName)
 g_NoPlace:mg "NoPlace"=some (.ref a.c_NoPlace)
 g_NoEntry:mg "NoEntry"=some (.ref a.c_NoEntry)
 g_Taken:mg "Taken"=some (.ref a.c_Taken)
 g_NoMinutes:mg "NoMinutes"=some (.ref a.c_NoMinutes)
 g_NoBond:mg "NoBond"=some (.ref a.c_NoBond)
 xl_LogError:xIn K a.c_LogError=true
 ci_LogError:qgy K a.c_LogError a.f_ah
 X_NoEntry:XMk K a.c_NoEntry a.f_ag
 up_NoEntry:PySem.W.mroIn K a.c_NoEntry (.ref a.c_LogError)=some true
 n_NoEntry_found:NoAttr K a.c_NoEntry "found"
 i_Within_places:qgz K a.c_Within "places" a.f_h
 i_At_places:qgz K a.c_At "places" a.f_h
 i_At_spans:qgz K a.c_At "spans" a.f_i
 i_Read_places:qgz K a.c_Read "places" a.f_x
 i_Read_spans:qgz K a.c_Read "spans" a.f_j
 ci_Entry:qgy K a.c_Entry a.f_g
 ci_Within:qgy K a.c_Within a.f_v
 ci_Between:qgy K a.c_Between a.f_w
 mr_Entry:XMro K a.c_Entry [some a.c_Entry,none]
 io_Entry:InsF K a.c_Entry
 mr_Within:XMro K a.c_Within [some a.c_Within,some a.c_Entry,none]
 io_Within:InsF K a.c_Within
 mr_At:XMro K a.c_At [some a.c_At,some a.c_Within,some a.c_Entry,none]
 io_At:InsF K a.c_At
 mr_Between:XMro K a.c_Between [some a.c_Between,some a.c_Entry,none]
 io_Between:InsF K a.c_Between
 mr_Read:XMro K a.c_Read [some a.c_Read,some a.c_Between,some a.c_Entry,none]
 io_Read:InsF K a.c_Read
 mr_Log:XMro K a.c_Log [some a.c_Log,none]
 io_Log:InsF K a.c_Log
 mr_Table:XMro K a.c_Table [some a.c_Table,none]
 io_Table:InsF K a.c_Table
 t_Entry:qhw K a.c_Entry
 t_Within:qhw K a.c_Within
 t_At:qhw K a.c_At
 t_Between:qhw K a.c_Between
 t_Read:qhw K a.c_Read
 t_Log:qhw K a.c_Log
 t_Table:qhw K a.c_Table
 ndc:([a.c_Entry,a.c_Within,a.c_At,a.c_Between,a.c_Read,a.c_Log,a.c_Table]:List Addr).Nodup
theorem qdJ {n j:Nat} (h:j < n):ixN n (j:Int)=some j:=by
 unfold ixN
 rw [if_pos (by omega),if_pos (by omega)]
 simp
theorem qdE {α β:Type} {f:α->β} {xs:List α} {i:Nat} {y:β} (h:(xs.map f)[i]?=some y):∃ x,xs[i]?=some x∧y=f x:=by
 rw [List.getElem?_map] at h
 cases e:xs[i]? with
 | none=>rw [e] at h; cases h
 | some x=>rw [e] at h; exact ⟨x,rfl,(Option.some.inj h).symm⟩
def Asc (rows:List (Int×Int)):Prop:=rows.Pairwise fun a b=>a.1 < b.1
def g2 (p:Int×Int):List Int:=[p.1,p.2]
abbrev pr:Int×Int->List V:=fun p=>(g2 p).map V.int
structure Good (rows:List (Int×Int)):Prop where
 few:rows.length≤21
 fst:∃ n,rows.head?=some (0,n)
 asc:Asc rows
 ok:∀ r∈rows,0≤r.1∧r.1≤1000000000∧-2880≤r.2∧r.2≤2880
structure Pa (rows:List (Int×Int)) (mo:Int):Prop where
 fst:(rows=[]∧mo=0)∨∃ n,rows.head?=some (0,n)
 asc:Asc rows
 top:∀ r∈rows,r.1≤mo
 ok:∀ r∈rows,0≤r.1∧-2880≤r.2∧r.2≤2880
theorem Pa.nil:Pa [] 0:=⟨.inl ⟨rfl,rfl⟩,List.Pairwise.nil,(fun r m=>nomatch m),(fun r m=>nomatch m)⟩
theorem Pa.snoc {rows:List (Int×Int)} {mo m s:Int} (h:Pa rows mo) (h0:rows=[]->m=0) (h1:rows≠[]->mo < m) (m0:0≤m) (s0:-2880≤s) (s1:s≤2880):Pa (rows++[(m,s)]) m:=by
 have lt:∀ r∈rows,r.1 < m:=fun r mr=>by
   have:=h.top r mr
   have:=h1 (fun e=>by rw [e] at mr; cases mr)
   omega
 refine ⟨.inr ?_,List.pairwise_append.mpr ⟨h.asc,List.pairwise_singleton _ _,fun r mr b mb=>?_⟩,fun r mr=>?_,fun r mr=>?_⟩
 · cases rows with
   | nil=>exact ⟨s,by rw [h0 rfl]; rfl⟩
   | cons r rs =>
     rcases h.fst with z | ⟨n,hn⟩
     · cases z.1
     · exact ⟨n,by simpa using hn⟩
 · have e:b=(m,s):=by simpa using mb
   rw [e]; exact lt r mr
 · rcases List.mem_append.mp mr with mr | mr
   · exact Int.le_of_lt (lt r mr)
   · have e:r=(m,s):=by simpa using mr
     rw [e]; exact Int.le_refl _
 · rcases List.mem_append.mp mr with mr | mr
   · exact h.ok r mr
   · have e:r=(m,s):=by simpa using mr
     rw [e]; exact ⟨m0,s0,s1⟩
theorem Pa.good {rows:List (Int×Int)} {mo:Int} (h:Pa rows mo) (hm:mo≤1000000000) (h0:0 < rows.length) (h1:rows.length≤21):Good rows:=by
 refine ⟨h1,?_,h.asc,fun r m=>?_⟩
 · rcases h.fst with z | z
   · rw [z.1] at h0; simp at h0
   · exact z
 · have:=h.ok r m
   have:=h.top r m
   omega
theorem Pa.far {rows:List (Int×Int)} {mo:Int} {l:Int×Int} (h:Pa rows mo) (hm:mo≤1000000000) (h0:1 < rows.length) (h1:rows.length≤21) (el:rows.getLast?=some l):Good (rows.set (rows.length - 1) (1000000000,l.2)):=by
 obtain ⟨ys,rfl⟩:=List.getLast?_eq_some_iff.mp el
 have ey:(ys++[l]).set ((ys++[l]).length - 1) (1000000000,l.2)=ys++[(1000000000,l.2)]:=by
   rw [List.length_append]
   show (ys++[l]).set (ys.length+1 - 1) _=_
   rw [Nat.add_sub_cancel,List.set_append_right _ _ (Nat.le_refl _),Nat.sub_self]
   rfl
 rw [ey]
 have hl:ys.length+1≤21:=by rw [List.length_append] at h1; exact h1
 have pos:0 < ys.length:=by rw [List.length_append] at h0; simp at h0; omega
 have okl:=h.ok l (by simp)
 have lt:∀ r∈ys,r.1 < 1000000000:=fun r mr=>by
   have h2:=(List.pairwise_append.mp h.asc).2.2 r mr l (by simp)
   have h3:=h.top l (by simp)
   have h4:r.1 < l.1:=h2
   omega
 refine ⟨by rw [List.length_append]; exact hl,?_,List.pairwise_append.mpr ⟨(List.pairwise_append.mp h.asc).1,List.pairwise_singleton _ _,fun r mr b mb=>?_⟩,fun r mr=>?_⟩
 · rcases h.fst with z | ⟨n,hn⟩
   · simp at z
   · cases ys with
     | nil=>simp at pos
     | cons r rs=>exact ⟨n,by simpa using hn⟩
 · have e:b=(1000000000,l.2):=by simpa using mb
   rw [e]; exact lt r mr
 · rcases List.mem_append.mp mr with mr | mr
   · have:=h.ok r (List.mem_append_left _ mr)
     have:=lt r mr
     omega
   · have e:r=(1000000000,l.2):=by simpa using mr
     rw [e]
     exact ⟨(by show (0:Int)≤1000000000; decide),(by show (1000000000:Int)≤1000000000; decide),okl.2.1,okl.2.2⟩
theorem Zb {α:Type} {xs:List α} {x:α} (h:xs.getLast?=some x):atI xs (-1)=some x:=by
 have hne:0 < xs.length:=List.length_pos_iff.mpr (fun z=>by rw [z] at h; cases h)
 unfold atI ixN
 rw [if_neg (by decide),if_pos (by omega)]
 show xs[((-1:Int)+(xs.length:Int)).toNat]?=_
 rw [tn_ xs.length,← List.getLast?_eq_getElem?]
 exact h
theorem qcl {n:Nat} (h:0 < n):ixN n (-1)=some (n - 1):=by
 unfold ixN
 rw [if_neg (by decide),if_pos (by omega)]
 rw [tn_ n]
theorem TupL.last {H:Hp} {zs:List V} {ps:List (Int×Int)} {p:Int×Int} (h:TupL pr H zs ps) (e:ps.getLast?=some p):∃ t,zs.getLast?=some (.ref t)∧H t=some (.tup (pr p)):=by
 rw [List.getLast?_eq_getElem?] at e
 obtain ⟨t,h1,h2⟩:=h.at_ e
 exact ⟨t,by rw [List.getLast?_eq_getElem?,h.1]; exact h1,h2⟩
theorem TupL.set {H:Hp} {zs:List V} {ps:List (Int×Int)} {i:Nat} {t:Addr} {p:Int×Int} (h:TupL pr H zs ps) (e:H t=some (.tup (pr p))):TupL pr H (zs.set i (.ref t)) (ps.set i p):=⟨by rw [List.length_set,List.length_set,h.1],fun j z y e1 e2=>by
 rw [List.getElem?_set] at e1 e2
 by_cases hj:i=j
 · rw [if_pos hj] at e1 e2
   split at e1
   · split at e2
     · cases e1; cases e2; exact ⟨t,rfl,e⟩
     · cases e2
   · cases e1
 · rw [if_neg hj] at e1 e2
   exact h.2 j z y e1 e2⟩
inductive qkW (H:Hp) (q:Addr) (rows:List (Int×Int)):Prop
 | mk (zs:_) (h1:H q=some (.lst zs)) (h2:TupL pr H zs rows):qkW H q rows
def Rs (H:Hp) (q:Addr) (rows:List (Int×Int)):Prop:=qkW H q rows
inductive qbr (K:PySem.W.Frag) (vs:List V) (H:Hp) (Q:VK):Prop
 | mk (a:Addr) (ns:List Int) (k:Int) (h1:vs=[.ref a,.int k]) (h2:SqL K H a (ns.map V.int)) (h3:0≤k) (h4:∀ c,Q (.int c) H):qbr K vs H Q
def qd9 (K:PySem.W.Frag):Sp:=fun vs H Q _=>qbr K vs H Q
inductive qcD (vs:List V) (H:Hp) (Q:VK):Prop
 | mk (c k:Int) (h1:vs=[.int c,.int k]) (h2:∀ n:Int,0≤n->n < 268435456->Q (.int n) H):qcD vs H Q
def qff:Sp:=fun vs H Q _=>qcD vs H Q
inductive qaC (vs:List V) (H:Hp) (Q:VK):Prop
 | mk (c:Int) (h1:vs=[.int c]) (h2:∀ (p:Addr) (A B:Int),H p=none->0≤A->Q (.ref p) (upd H p (.lst [.int A,.int B,.int 0]))):qaC vs H Q
def qcF:Sp:=fun vs H Q _=>qaC vs H Q
inductive qbk (vs:List V) (H:Hp) (Q:VK):Prop
 | mk (p:Addr) (many:Int) (h1:vs=[.ref p,.int many]) (h2:PenAt H p) (h3:0 < many) (h4:many < 340282366920938463463374607431768211456) (h5:∀ (d:Int) (H':Hp),0≤d->d < many->But p H H'->PenAt H' p->Q (.int d) H'):qbk vs H Q
def Qg:Sp:=fun vs H Q _=>qbk vs H Q
inductive qav (vs:List V) (H:Hp) (Q:VK):Prop
 | mk (p:Addr) (h1:vs=[.ref p]) (h2:PenAt H p) (h3:∀ (d:Int) (H':Hp),-2880≤d->d≤2880->But p H H'->PenAt H' p->Q (.int d) H'):qav vs H Q
def qcy:Sp:=fun vs H Q _=>qav vs H Q
inductive qbj (vs:List V) (H:Hp) (Q:VK):Prop
 | mk (p:Addr) (h1:vs=[.ref p]) (h2:PenAt H p) (h3:∀ (q:Addr) (rows:List (Int×Int)) (H':Hp),H q=none->But p H H'->PenAt H' p->Rs H' q rows->Good rows->Q (.ref q) H'):qbj vs H Q
def qd3:Sp:=fun vs H Q _=>qbj vs H Q
section
variable {P:Program} {w:World} {K:PySem.W.Frag} {mg:Str->Option Value} {base:Heap}
end
theorem But.up {p:Addr} {H:Hp} (o:HO):But p H (upd H p o):=(But.refl p H).put o
section
variable {P:Program} {w:World} {K:PySem.W.Frag} {mg:Str->Option Value} {base:Heap}
theorem qiw {a:Ad} (T:Txt K mg a):qA P w K mg base CX0 1 a.f_E a.fd_E ["_law_cell_here","_law_k"] qff:=by
 refine T.d_E.F.ok sc_Lmix (fun vs H Q E h=>?_) (fun cdv A outer s H vs Q E hr h=>?_)
 · obtain ⟨c,k,rfl,kk⟩:=h
   rfl
 · obtain ⟨c,k,rfl,kk⟩:=h
   have hu:=qJ hr
   have hU:=hr.units
   refine ⟨_,(qf (qH (i:=2) sc_Lmix.nd rfl (Or.inl rfl) (qB J6 (qB jY (qB jY (pv 0) (qB ZM qe (pv 1))) qe) qe))
     (qf (qH (i:=2) sc_Lmix.nd rfl (Or.inl rfl) (qB J6 (qB ZM (qB J6 (qB ZM (pv 2) (pv 2)) qe) qe) qe))
     (qg (qy (qB qfB (qB J6 (qB ZM (pv 2) (qB jY (pv 2) qe)) qe) qe))))),?_⟩
   try dsimp only [zv,Cx.nox]
   refine ⟨_,rfl,_,rfl,_,_,rfl,rfl,.inl ⟨by decide,by decide⟩,.inl ⟨_,_,rfl,rfl,.inl ⟨_,_,rfl,rfl,_,_,rfl,rfl,(by show (0:Int) < _; decide),?_⟩⟩⟩
   try dsimp only
   generalize hn:(c+7919 * k+12345) % 2147483629=n
   have n0:0≤n:=by omega
   have n1:n < 2147483629:=by omega
   refine ⟨_,rfl,_,rfl,_,_,rfl,rfl,.inl ⟨by omega,by omega⟩,_,_,rfl,rfl,(by show (0:Int) < _; decide),_,_,rfl,rfl,.inr ⟨by decide,by decide⟩,_,_,rfl,rfl,(by show (0:Int) < _; decide),?_⟩
   try dsimp only
   generalize hm:n * n % 2147483587 * 48271 % 2147483549=m
   have m0:0≤m:=by rw [← hm]; exact Int.emod_nonneg _ (by decide)
   have m1:m < 2147483549:=by rw [← hm]; exact Int.emod_lt_of_pos _ (by decide)
   refine ⟨_,rfl,_,rfl,.inl ⟨_,_,rfl,rfl,_,_,rfl,rfl,.inl ⟨by omega,by omega⟩,_,_,rfl,rfl,(by show (0:Int) < _; decide),_,_,rfl,rfl,⟨by decide,by decide⟩,?_⟩⟩
   try dsimp only
   generalize hz:m * (m+31) % 2147483543=z
   have z0:0≤z:=by rw [← hz]; exact Int.emod_nonneg _ (by decide)
   have z1:z < 2147483543:=by rw [← hz]; exact Int.emod_lt_of_pos _ (by decide)
   exact kk _ (by omega) (by omega)
theorem qfL {a:Ad} (T:Txt K mg a):qA P w K mg base CX0 1 a.f_F a.fd_F ["_law_cell_here"] qcF:=by
 refine T.d_F.F.ok qfk (fun vs H Q E h=>?_) (fun cdv A outer s H vs Q E hr h=>?_)
 · obtain ⟨c,rfl,kk⟩:=h
   rfl
 · obtain ⟨c,rfl,kk⟩:=h
   have hu:=qJ hr
   have hU:=hr.units
   refine ⟨_,(qg (qy (qQ (qa (qp (Ql rfl) (by rfl) T.n_max Qn (qa qe (qa (qB zH (pv 0) (qB Qo qe qe)) qb))) (qa (qB J6 (pv 0) qe) (qa qe qb)))))),?_⟩
   try dsimp only [zv,Cx.nox]
   refine ⟨_,rfl,_,_,rfl,rfl,⟨by decide,by decide,by decide⟩,_,_,rfl,rfl,_,_,rfl,?_⟩
   refine ⟨_,rfl,_,_,rfl,rfl,(by show (0:Int) < _; decide),qo (Nat.le_of_ble_eq_true rfl),fun p fp=>?_⟩
   exact kk p _ _ fp (by split<;>omega)
theorem QB {a:Ad} (T:Txt K mg a):qA P w K mg base CX0 2 a.f_a a.fd_a ["_law_state","_law_many"] Qg:=by
 have G_E:qA P w K mg base CX0 1 a.f_E a.fd_E ["_law_cell_here","_law_k"] qff:=qiw T
 refine T.d_a.F.ok sc_Lpull (fun vs H Q E h=>?_) (fun cdv A outer s H vs Q E hr h=>?_)
 · obtain ⟨p,many,rfl,⟨c,x,y,c0,hp⟩,m0,m1,kk⟩:=h
   rfl
 · obtain ⟨p,many,rfl,⟨c,x,y,c0,hp⟩,m0,m1,kk⟩:=h
   have hu:=qJ hr
   have hU:=hr.units
   have h_E:Room (1) _:=hr.mono (by decide)
   refine ⟨_,(qf (qR (qu qgW (qC (r:=rIx K) qr (pv 0) qe (fun _ _=>rfl)) qe (qG _))
       (qf (qH (i:=2) sc_Lpull.nd rfl (Or.inl rfl) (qB J6 (qC (r:=rIx K) qr (pv 0) qe (fun _ _=>rfl)) (pv 1)))
       (qf (jJ (qB qgY (qC (r:=rIx K) qr (pv 0) qe (fun _ _=>rfl)) (pv 1)) (qaL (pv 0) qe ZD))
       (qg (qy (pv 2)))))
       qw)
     (qf (jJ (qB jY (qC (r:=rIx K) qr (pv 0) qe (fun _ _=>rfl)) qe) (qaL (pv 0) qe ZD))
     (qf (qH (i:=3) sc_Lpull.nd rfl (Or.inl rfl) (qj G_E h_E rfl T.d_E.m T.d_E.k T.d_E.b .nil qq (qa (qC (r:=rIx K) qr (pv 0) qe (fun _ _=>rfl)) (qa (qB ZM qe (qC (r:=rIx K) qr (pv 0) qe (fun _ _=>rfl))) qb))))
     (qf (qH (i:=4) sc_Lpull.nd rfl (Or.inl rfl) (qj G_E h_E rfl T.d_E.m T.d_E.k T.d_E.b .nil qq (qa (qC (r:=rIx K) qr (pv 0) qe (fun _ _=>rfl)) (qa (qB jY (qB ZM qe (qC (r:=rIx K) qr (pv 0) qe (fun _ _=>rfl))) qe) qb))))
     (qg (qy (qB J6 (qB jY (qB ZM (pv 3) qe) (pv 4)) (pv 1)))))))),?_⟩
   try dsimp only [zv,Cx.nox]
   refine ⟨_,rfl,.inl ⟨p,_,_,_,rfl,rfl,SqL.of hp,rfl,_,_,rfl,rfl,_,rfl,?_⟩⟩
   refine Zf (fun hL=>?_) (fun hL=>?_)
   · refine ⟨_,rfl,.inl ⟨p,_,_,_,rfl,rfl,SqL.of hp,rfl,_,rfl,_,_,rfl,rfl,m0,?_⟩⟩
     refine ⟨_,rfl,.inl ⟨p,_,_,_,rfl,rfl,SqL.of hp,rfl,_,rfl,_,_,rfl,rfl,⟨m0,m1⟩,_,rfl,p,_,_,0,rfl,rfl,hp,rfl,?_⟩⟩
     refine ⟨_,rfl,?_⟩
     exact kk _ _ (Int.emod_nonneg _ (by omega)) (Int.emod_lt_of_pos _ m0) (But.up _) ⟨_,x,y,Int.ediv_nonneg c0 (by omega),qc⟩
   · refine ⟨_,rfl,.inl ⟨p,_,_,_,rfl,rfl,SqL.of hp,rfl,.inl ⟨_,_,rfl,rfl,_,rfl,p,_,_,2,rfl,rfl,hp,rfl,?_⟩⟩⟩
     have h1:(upd H p (.lst ([.int c,.int x,.int y].set 2 (.int (y+1))))) p=some (.lst [.int c,.int x,.int (y+1)]):=qc
     have B:But p H (upd H p (.lst ([.int c,.int x,.int y].set 2 (.int (y+1))))):=But.up _
     try dsimp only
     generalize upd H p (.lst ([.int c,.int x,.int y].set 2 (.int (y+1))))=G at h1 B ⊢
     refine ⟨_,rfl,.inl ⟨p,_,_,_,rfl,rfl,SqL.of h1,rfl,_,rfl,.inl ⟨p,_,_,_,rfl,rfl,SqL.of h1,rfl,_,_,rfl,rfl,.inl ⟨by decide,by decide⟩,_,_,rfl,fun n n0 n1=>?_⟩⟩⟩
     refine ⟨_,rfl,.inl ⟨p,_,_,_,rfl,rfl,SqL.of h1,rfl,_,rfl,.inl ⟨p,_,_,_,rfl,rfl,SqL.of h1,rfl,_,_,rfl,rfl,.inl ⟨by decide,by decide⟩,.inl ⟨_,_,rfl,rfl,_,_,rfl,fun k k0 k1=>?_⟩⟩⟩⟩
     refine ⟨_,rfl,_,_,rfl,rfl,.inr ⟨by decide,by decide⟩,_,rfl,.inl ⟨_,_,rfl,rfl,_,rfl,_,_,rfl,rfl,m0,?_⟩⟩
     exact kk _ _ (Int.emod_nonneg _ (by omega)) (Int.emod_lt_of_pos _ m0) B ⟨c,x,y+1,c0,h1⟩
theorem qfG {a:Ad} (T:Txt K mg a):qA P w K mg base CX0 3 a.f_G a.fd_G ["_law_state"] qcy:=by
 have G_a:qA P w K mg base CX0 2 a.f_a a.fd_a ["_law_state","_law_many"] Qg:=QB T
 refine T.d_G.F.ok sc_Lshift (fun vs H Q E h=>?_) (fun cdv A outer s H vs Q E hr h=>?_)
 · obtain ⟨p,rfl,hp,kk⟩:=h
   rfl
 · obtain ⟨p,rfl,hp,kk⟩:=h
   have hu:=qJ hr
   have hU:=hr.units
   have h_a:Room (2) _:=hr.mono (by decide)
   refine ⟨_,(qf (qH (i:=1) sc_Lshift.nd rfl (Or.inl rfl) (qj G_a h_a rfl T.d_a.m T.d_a.k T.d_a.b .nil qq (qa (pv 0) (qa qe qb))))
     (qf (qR (qu (uEq hU) (pv 1) qe (qG _))
       (qg (qy (qB ZM qe (qB zH (qj G_a h_a rfl T.d_a.m T.d_a.k T.d_a.b .nil qq (qa (pv 0) (qa qe qb))) qe))))
       qw)
     (qf (qR (qu (uEq hU) (pv 1) qe (qG _))
       (qg (qy (qB zH (qj G_a h_a rfl T.d_a.m T.d_a.k T.d_a.b .nil qq (qa (pv 0) (qa qe qb))) qe)))
       qw)
     (qg (qy (qB zH (qj G_a h_a rfl T.d_a.m T.d_a.k T.d_a.b .nil qq (qa (pv 0) (qa qe qb))) qe)))))),?_⟩
   try dsimp only [zv,Cx.nox]
   refine ⟨_,rfl,p,_,rfl,hp,by decide,by decide,fun w G1 w0 w1 B_G1 p_G1=>?_⟩
   refine ⟨_,rfl,.inl ⟨rfl,_,rfl,?_⟩⟩
   refine Zf (fun g=>?_) (fun g=>?_)
   · refine ⟨_,rfl,p,_,rfl,p_G1,by decide,by decide,fun d G2 d0 d1 B_G2 p_G2=>?_⟩
     refine ⟨_,_,rfl,rfl,_,_,rfl,rfl,.inl ⟨by decide,by decide⟩,?_⟩
     exact kk _ _ (by omega) (by omega) (B_G1.trans B_G2) p_G2
   refine ⟨_,rfl,.inl ⟨rfl,_,rfl,?_⟩⟩
   refine Zf (fun g=>?_) (fun g=>?_)
   · refine ⟨_,rfl,p,_,rfl,p_G1,by decide,by decide,fun d G2 d0 d1 B_G2 p_G2=>?_⟩
     refine ⟨_,_,rfl,rfl,?_⟩
     exact kk _ _ (by omega) (by omega) (B_G1.trans B_G2) p_G2
   · refine ⟨_,rfl,p,_,rfl,p_G1,by decide,by decide,fun d G2 d0 d1 B_G2 p_G2=>?_⟩
     refine ⟨_,_,rfl,rfl,?_⟩
     exact kk _ _ (by omega) (by omega) (B_G1.trans B_G2) p_G2
end
end K37
namespace K37
open PySem L2 PySem.NumText PyProof.Rows KC M04
section
variable {P:Program} {w:World} {K:PySem.W.Frag} {mg:Str->Option Value} {base:Heap}
end
theorem TupL.pen {H H':Hp} {p:Addr} {zs:List V} {ps:List (Int×Int)} (h:TupL pr H zs ps) (hp:PenAt H p) (b:But p H H'):TupL pr H' zs ps:=⟨h.1,fun j z y e1 e2=>by
 obtain ⟨t,e,ht⟩:=h.2 j z y e1 e2
 obtain ⟨c,x,y',_,hq⟩:=hp
 exact ⟨t,e,b _ _ ht (zi ht hq (by intro z; cases z))⟩⟩
section
variable {P:Program} {w:World} {K:PySem.W.Frag} {mg:Str->Option Value} {base:Heap}
theorem qg0 {a:Ad} (T:Txt K mg a):qA P w K mg base CX0 4 a.f_T a.fd_T ["_law_state"] qd3:=by
 have G_a:qA P w K mg base CX0 2 a.f_a a.fd_a ["_law_state","_law_many"] Qg:=QB T
 have G_G:qA P w K mg base CX0 3 a.f_G a.fd_G ["_law_state"] qcy:=qfG T
 refine T.d_T.F.ok sc_Lrows (fun vs H Q E h=>?_) (fun cdv A outer s H vs Q E hr h=>?_)
 · obtain ⟨p,rfl,hp,kk⟩:=h
   rfl
 · obtain ⟨p,rfl,hp,kk⟩:=h
   have hu:=qJ hr
   have hU:=hr.units
   have h_a:Room (2) _:=hr.mono (by decide)
   have h_G:Room (3) _:=hr.mono (by decide)
   refine ⟨_,(@qf _ _ _ _ _ (by exact (@qH _ _ 1 _ _ _ _ (by exact sc_Lrows.nd) (by rfl) (by exact (Or.inl rfl)) (by exact (@qC _ _ _ _ _ _ (rIx K) (by exact qr) (by exact (@qQ _ _ _ _ (by exact (@qa _ _ _ _ _ (by exact qe) (by exact (@qa _ _ _ _ _ (by exact qe) (by exact (@qa _ _ _ _ _ (by exact qe) (by exact (@qa _ _ _ _ _ (by exact qe) (by exact (@qa _ _ _ _ _ (by exact (qB Qo qe qe)) (by exact (@qb _)) (by rfl))) (by rfl))) (by rfl))) (by rfl))) (by rfl))))) (by exact (qj G_a h_a rfl T.d_a.m T.d_a.k T.d_a.b .nil qq (qa (pv 0) (qa qe qb)))) (by exact fun _ _=>rfl))) (by rfl) (by exact .inl rfl)))
     (by exact (@qf _ _ _ _ _ (by exact (qH (i:=2) sc_Lrows.nd rfl (Or.inl rfl) (qQ (qa (zR (qa qe (qa (qj G_G h_G rfl T.d_G.m T.d_G.k T.d_G.b .nil qq (qa (pv 0) qb)) qb))) qb))))
     (by exact (@qf _ _ _ _ _ (by exact (@Zu _ _ _ _ _ _ _ _ (by exact PassesOwn.never) (by rfl) (by exact (Z5 rfl T.n_range (qa (qj G_a h_a rfl T.d_a.m T.d_a.k T.d_a.b .nil qq (qa (pv 0) (qa (qC (r:=rIx K) qr (qQ (qa qe (qa qe (qa qe (qa qe qb))))) (qj G_a h_a rfl T.d_a.m T.d_a.k T.d_a.b .nil qq (qa (pv 0) (qa qe qb))) (fun _ _=>rfl)) qb))) qb))) (by exact (qv (i:=3) (sc_Lrows.nd) rfl (Or.inl rfl)))
       (by exact (qg (qF (Jk PySem.F.plainAttrs_list PySem.F.slot_list_append PySem.F.type_list_append zK (pv 2) (qa (zR (qa (qB jY (qB jY (qC (r:=rIx K) qr (qC (r:=rIx K) qr (pv 2) (jx QH qe) (fun _ _=>rfl)) qe (fun _ _=>rfl)) qe) (qj G_a h_a rfl T.d_a.m T.d_a.k T.d_a.b .nil qq (qa (pv 0) (qa (qB ZM qe (pv 1)) qb)))) (qa (qj G_G h_G rfl T.d_G.m T.d_G.k T.d_G.b .nil qq (qa (pv 0) qb)) qb))) qb))))) (by intro _; rfl)))
     (by exact (qf (qR (PW.pt (J1 (qu qgW (qp qU (by rfl) T.n_len qK (qa (pv 2) qb)) qe (qG _)) (jS (qu (uEq hU) (qj G_a h_a rfl T.d_a.m T.d_a.k T.d_a.b .nil qq (qa (pv 0) (qa qe qb))) qe (qG _)))))
       (qg (jJ (zR (qa (qB Qo qe qe) (qa (qC (r:=rIx K) qr (qC (r:=rIx K) qr (pv 2) (jx QH qe) (fun _ _=>rfl)) qe (fun _ _=>rfl)) qb))) (qaL (pv 2) (jx QH qe) ZD)))
       qw)
     (qg (qy (pv 2)))))))))),?_⟩
   try dsimp only [zv,Cx.nox]
   have p0:PenAt H p:=hp
   have t0:But p H H:=But.refl p H
   refine ⟨_,_,rfl,rfl,⟨by decide,by decide,by decide⟩,(qo (Nat.le_of_ble_eq_true rfl)),fun l1 f_l1=>?_⟩
   have n_l1:l1≠p:=p0.ne f_l1
   have e_l1:(upd H l1 (.lst [.int 1,.int 4,.int 60,.int 1440,.int (10 ^ (7:Int).toNat)])) l1=some (.lst [.int 1,.int 4,.int 60,.int 1440,.int (10 ^ (7:Int).toNat)]):=qc
   have p1:PenAt (upd H l1 (.lst [.int 1,.int 4,.int 60,.int 1440,.int (10 ^ (7:Int).toNat)])) p:=p0.upd n_l1 _
   have u1:Same H (upd H l1 (.lst [.int 1,.int 4,.int 60,.int 1440,.int (10 ^ (7:Int).toNat)])):=Same.new _ f_l1
   have t1:=t0.same u1
   try dsimp only
   generalize upd H l1 (.lst [.int 1,.int 4,.int 60,.int 1440,.int (10 ^ (7:Int).toNat)])=G1 at e_l1 p1 u1 t1 ⊢
   refine ⟨_,rfl,p,_,rfl,p1,by decide,by decide,fun da G2 da0 da1 u2 p2=>?_⟩
   have t2:=t1.trans u2
   obtain ⟨v,hv,mv⟩:=jM (xs:=([.int 1,.int 4,.int 60,.int 1440,.int (10 ^ (7:Int).toNat)]:List V)) da0 da1
   obtain ⟨u,rfl,ub0,ub1⟩:∃ u:Int,v=.int u∧1≤u∧u≤10000000:=by
     simp only [List.mem_cons,List.not_mem_nil,or_false] at mv
     rcases mv with rfl | rfl | rfl | rfl | rfl<;>exact ⟨_,rfl,by decide,by decide⟩
   refine .inl ⟨l1,_,_,_,rfl,rfl,SqL.of (u2 _ _ e_l1 n_l1),hv,?_⟩
   refine ⟨_,rfl,p,rfl,p2,fun sh G3 sh0 sh1 u3 p3=>?_⟩
   have t3:=t2.trans u3
   refine ⟨(qo (Nat.le_of_ble_eq_true rfl)),fun t f_t=>?_⟩
   have n_t:t≠p:=p3.ne f_t
   have e_t:(upd G3 t (.tup [.int 0,.int sh])) t=some (.tup [.int 0,.int sh]):=qc
   have p4:PenAt (upd G3 t (.tup [.int 0,.int sh])) p:=p3.upd n_t _
   have u4:Same G3 (upd G3 t (.tup [.int 0,.int sh])):=Same.new _ f_t
   have t4:=t3.same u4
   try dsimp only
   generalize upd G3 t (.tup [.int 0,.int sh])=G4 at e_t p4 u4 t4 ⊢
   refine ⟨(qo (Nat.le_of_ble_eq_true rfl)),fun q f_q=>?_⟩
   have n_q:q≠p:=p4.ne f_q
   have e_q:(upd G4 q (.lst [.ref t])) q=some (.lst [.ref t]):=qc
   have p5:PenAt (upd G4 q (.lst [.ref t])) p:=p4.upd n_q _
   have u5:Same G4 (upd G4 q (.lst [.ref t])):=Same.new _ f_q
   have t5:=t4.same u5
   try dsimp only
   generalize upd G4 q (.lst [.ref t])=G5 at e_q p5 u5 t5 ⊢
   have fqH:H q=none:=(t4).none f_q n_q
   have T0:TupL pr G5 [.ref t] [(0,sh)]:=by
     refine ⟨rfl,fun j z y e1 e2=>?_⟩
     cases j with
     | zero=>cases e1; cases e2; exact ⟨t,rfl,(u5 _ _ e_t)⟩
     | succ j=>cases e1
   have P0:Pa [(0,sh)] 0:=Pa.nil.snoc (fun _=>rfl) (fun z=>absurd rfl z) (by decide) (by omega) (by omega)
   clear u1 u2 u3 u4 u5 p0 p1 p2 p3 p4 t0 t1 t2 t3 t4 e_l1 e_t hv
   try unfold qX
   try dsimp only
   refine QC (t:=qi7 _ _ _) (fun σ' H'=>∃ (s3:Option V) (zs:List V) (rows:List (Int×Int)) (mo:Int),σ'=[some (.ref p),some (.int u),some (.ref q),s3]∧But p H H'∧PenAt H' p∧H' q=some (.lst zs)∧TupL pr H' zs rows∧0 < rows.length∧rows.length≤21∧Pa rows mo∧mo≤900000000) (fun N hN=>?_) ?_
   have t5':=t5
   · have p0:PenAt G5 p:=p5
     have t0:But p G5 G5:=But.refl p G5
     refine ⟨_,rfl,(qo (Nat.le_of_ble_eq_true rfl)),fun l3 f_l3=>?_⟩
     have n_l3:l3≠p:=p0.ne f_l3
     have e_l3:(upd G5 l3 (.lst [.int 4,.int 4,.int 4,.int 21])) l3=some (.lst [.int 4,.int 4,.int 4,.int 21]):=qc
     have p1:PenAt (upd G5 l3 (.lst [.int 4,.int 4,.int 4,.int 21])) p:=p0.upd n_l3 _
     have u1:Same G5 (upd G5 l3 (.lst [.int 4,.int 4,.int 4,.int 21])):=Same.new _ f_l3
     have t1:=t0.same u1
     try dsimp only
     generalize upd G5 l3 (.lst [.int 4,.int 4,.int 4,.int 21])=G1 at e_l3 p1 u1 t1 ⊢
     refine ⟨_,rfl,p,_,rfl,p1,by decide,by decide,fun db G2 db0 db1 u2 p2=>?_⟩
     have t2:=t1.trans u2
     obtain ⟨v,hv,mv⟩:=jM (xs:=([.int 4,.int 4,.int 4,.int 21]:List V)) db0 db1
     obtain ⟨m,rfl,m0,m1⟩:∃ u:Int,v=.int u∧0 < u∧u≤21:=by
       simp only [List.mem_cons,List.not_mem_nil,or_false] at mv
       rcases mv with rfl | rfl | rfl | rfl<;>exact ⟨_,rfl,by decide,by decide⟩
     refine .inl ⟨l3,_,_,_,rfl,rfl,SqL.of (u2 _ _ e_l3 n_l3),hv,?_⟩
     refine ⟨p,_,rfl,p2,m0,by omega,fun dn G3 dn0 dn1 u3 p3=>?_⟩
     have t3:=t2.trans u3
     have B0:But p H G3:=t5'.trans t3
     have hq0:=(u3 _ _ (u2 _ _ (u1 _ _ e_q) n_q) n_q)
     have T1:=(TupL.pen (TupL.pen (L2.TupL.same T0 u1) p1 u2) p2 u3)
     refine ⟨_,rfl,by omega,by omega,jd (lo:=0) (D:={ nx:=N,rt:=Q }) (fun i σ H2=>∃ (s3:Option V) (zs:List V) (rows:List (Int×Int)) (mo:Int),σ=[some (.ref p),some (.int u),some (.ref q),s3]∧But p H H2∧PenAt H2 p∧H2 q=some (.lst zs)∧TupL pr H2 zs rows∧rows.length=i+1∧Pa rows mo∧0≤mo∧mo≤30000000 * (i:Int)∧∃ s,rows.getLast?=some (mo,s)) ⟨_,_,_,0,rfl,B0,p3,hq0,T1,rfl,P0,Int.le_refl _,(by omega),sh,rfl⟩ ?_ ?_⟩
     · rintro i σ H2 hi ⟨s3,zs,rows,mo,rfl,B,pB,hq,tz,lr,pa,mo0,mo1,s,el⟩
       obtain ⟨t0,hz0,ht0⟩:=TupL.last tz el
       have hi2:i < 21:=by omega
       refine ⟨_,rfl,.inl ⟨rfl,_,SqL.of hq⟩,?_⟩
       refine ⟨_,rfl,_,rfl,.inl ⟨q,_,_,_,rfl,rfl,SqL.of hq,Zb hz0,.inr (.inl ⟨t0,_,_,_,rfl,rfl,SqT.of ht0,rfl,.inl ⟨_,_,rfl,rfl,?_⟩⟩)⟩⟩
       refine ⟨_,rfl,_,rfl,_,_,rfl,rfl,.inl ⟨by decide,by decide⟩,p,_,rfl,pB,by omega,by omega,fun d H3 d0 d1 B3 p3=>?_⟩
       refine .inl ⟨_,_,rfl,rfl,_,rfl,p,rfl,p3,fun s2 H4 s20 s21 B4 p4=>?_⟩
       have hq4:=B4 _ _ (B3 _ _ hq (n_q)) (n_q)
       have tz4:=TupL.pen (TupL.pen tz pB B3) p3 B4
       refine ⟨qo (Nat.le_of_ble_eq_true rfl),fun tt ft=>?_⟩
       have ntp:tt≠p:=p4.ne ft
       have St:=Same.new (.tup [.int (mo+1+d),.int s2]) ft
       have hq5:=St _ _ hq4
       refine ⟨q,_,_,rfl,rfl,hq5,qx (by rw [tz.1]; omega),?_⟩
       refine ⟨_,zs++[.ref tt],rows++[(mo+1+d,s2)],mo+1+d,rfl,?_,?_,qc,((tz4.same St).snoc (p:=(mo+1+d,s2)) qc).put hq5,by rw [List.length_append,lr]; rfl,pa.snoc (fun z=>by rw [z] at lr; simp at lr) (fun _=>by omega) (by omega) (by omega) (by omega),by omega,by push_cast; omega,s2,by simp⟩
       · intro b o z nb
         have:=(B.trans (B3.trans B4)) b o z nb
         rw [qh (qi z fqH),qh (qi this ft)]; exact this
       · exact (p4.upd ntp _).upd n_q _
     · rintro σ H2 ⟨s3,zs,rows,mo,rfl,B,pB,hq,tz,lr,pa,mo0,mo1,s,el⟩
       exact hN _ _ ⟨s3,zs,rows,mo,rfl,B,pB,hq,tz,by omega,by omega,pa,by omega⟩
   rintro _ H2 ⟨s3,zs,rows,mo,rfl,B,pB,hq,tz,r0,r1,pa,mo1⟩
   have e9:(10:Int) ^ (9:Int).toNat=1000000000:=by decide
   refine QC (t:=qi6 _ _ _) (fun σ' H'=>∃ rows':List (Int×Int),σ'=[some (.ref p),some (.int u),some (.ref q),s3]∧But p H H'∧PenAt H' p∧Rs H' q rows'∧Good rows') (fun N hN=>?_) ?_
   · refine ⟨_,rfl,_,_,rfl,.inl ⟨_,SqL.of hq,rfl⟩,_,_,rfl,rfl,_,rfl,Zf (fun g1=>?_) (fun g1=>qep (hN _ _ ⟨rows,rfl,B,pB,⟨zs,hq,tz⟩,pa.good (by omega) r0 r1⟩))⟩
     have g3:1 < rows.length:=by have:=tz.1; omega
     refine ⟨_,rfl,p,_,rfl,pB,by decide,by decide,fun d H3 d0 d1 B3 p3=>?_⟩
     have hq3:=B3 _ _ hq n_q
     have tz3:=TupL.pen tz pB B3
     refine .inl ⟨rfl,_,rfl,Zf (fun g2=>?_) (fun g2=>hN _ _ ⟨rows,rfl,B.trans B3,p3,⟨zs,hq3,tz3⟩,pa.good (by omega) r0 r1⟩)⟩
     cases el:rows.getLast? with
     | none =>
       rw [List.getLast?_eq_none_iff.mp el] at g3
       simp at g3
     | some l =>
       obtain ⟨t0,hz0,ht0⟩:=TupL.last tz3 el
       refine ⟨_,_,rfl,rfl,⟨by decide,by decide,by decide⟩,_,rfl,_,rfl,.inl ⟨q,_,_,_,rfl,rfl,SqL.of hq3,Zb hz0,.inr (.inl ⟨t0,_,_,_,rfl,rfl,SqT.of ht0,rfl,qo (Nat.le_of_ble_eq_true rfl),fun tt ft=>?_⟩)⟩⟩
       try dsimp only
       rw [e9]
       have St:=Same.new (.tup [.int 1000000000,.int l.2]) ft
       have ntp:tt≠p:=p3.ne ft
       refine ⟨_,rfl,_,rfl,q,_,_,zs.length - 1,rfl,rfl,St _ _ hq3,qcl (by rw [tz.1]; omega),?_⟩
       refine hN _ _ ⟨_,rfl,?_,(p3.upd ntp _).upd n_q _,⟨_,qc,(TupL.set (tz3.same St) (i:=zs.length - 1) (p:=(1000000000,l.2)) qc).put (St _ _ hq3)⟩,?_⟩
       · intro b o z nb
         have:=(B.trans B3) b o z nb
         rw [qh (qi z fqH),qh (qi this ft)]; exact this
       · rw [tz.1]
         exact pa.far (by omega) g3 r1 el
   rintro _ G6 ⟨rows',rfl,B6,p6,R6,good6⟩
   exact ⟨_,rfl,kk q rows' G6 fqH B6 p6 R6 good6⟩
end
end K37
namespace K37
open PySem L2 PySem.NumText PyProof.Rows KC M04
section
variable {P:Program} {w:World} {K:PySem.W.Frag} {mg:Str->Option Value} {base:Heap}
end
def sgn (c:Nat):Bool:=(!decide ((⟨#[c]⟩:Str).cps.toList < ("a":Str).cps.toList)) && (!decide (("z":Str).cps.toList < (⟨#[c]⟩:Str).cps.toList))
def Qj:V->Bool
 | .str x=>decide (1≤x.length) && decide (x.length≤8) && x.cps.toList.all sgn
 | _=>false
theorem qe5 {l:List Nat} {i c:Nat} (h:l[i]?=some c):l.take (i+1)=l.take i++[c]:=by
 rw [List.take_add_one,h]; rfl
theorem qih {n:Nat} (h:n≤2000):n≤sizeLine:=Nat.le_trans h (by decide)
inductive jz (vs:List V) (H:Hp) (Q:VK):Prop
 | mk (i:_) (h1:vs=[.int i]) (h2:Q (.bl true) H):jz vs H Q
def ZQ:Sp:=fun vs H Q _=>jz vs H Q
inductive j5 (vs:List V) (H:Hp) (Q:VK):Prop
 | mk (i lo hi:Int) (h1:vs=[.int i,.int lo,.int hi]) (h2:lo≤i) (h3:i≤hi) (h4:Q (.bl true) H):j5 vs H Q
def Qp:Sp:=fun vs H Q _=>j5 vs H Q
inductive jA (vs:List V) (H:Hp) (Q:VK):Prop
 | mk (i:Int) (h1:vs=[.int i]) (h2:0≤i) (h3:i≤1000000000) (h4:Q (.bl true) H):jA vs H Q
def ZR:Sp:=fun vs H Q _=>jA vs H Q
inductive ZP (vs:List V) (H:Hp) (Q:VK):Prop
 | mk (i:Int) (h1:vs=[.int i]) (h2:-10000000000≤i) (h3:i≤10000000000) (h4:Q (.bl true) H):ZP vs H Q
def ZA:Sp:=fun vs H Q _=>ZP vs H Q
inductive JR (vs:List V) (H:Hp) (Q:VK):Prop
 | mk (x:Str) (h1:vs=[.str x]) (h2:Qj (.str x)=true) (h3:∀ H',Same H H'->Q (.bl true) H'):JR vs H Q
def Ju:Sp:=fun vs H Q _=>JR vs H Q
inductive ZU (vs:List V) (H:Hp) (Q:VK):Prop
 | mk (x:Str) (h1:vs=[.str x]) (h2:Qj (.str x)=true) (h3:∀ H',Same H H'->Q .non H'):ZU vs H Q
def ZB:Sp:=fun vs H Q _=>ZU vs H Q
inductive Zh (vs:List V) (H:Hp) (Q:VK):Prop
 | mk (i:Int) (h1:vs=[.int i]) (h2:0≤i) (h3:i≤1000000000) (h4:Q .non H):Zh vs H Q
def ZV:Sp:=fun vs H Q _=>Zh vs H Q
inductive Q5 (vs:List V) (H:Hp) (Q:VK):Prop
 | mk (i:Int) (h1:vs=[.int i]) (h2:-10000000000≤i) (h3:i≤10000000000) (h4:Q .non H):Q5 vs H Q
def ZH:Sp:=fun vs H Q _=>Q5 vs H Q
inductive Z4 (K:PySem.W.Frag) (vs:List V) (H:Hp) (Q:VK):Prop
 | mk (x C dx:Addr) (nm:Str) (h1:vs=[.ref x,.str nm]) (h2:H x=some (.ins C dx [])) (h3:Qj (.str nm)=true) (h4:Cls K C) (h5:NoAttr K C "name") (h6:∀ H',But x H H'->H' x=some (.ins C dx [("name",.str nm)])->Q .non H'):Z4 K vs H Q
def QL (K:PySem.W.Frag):Sp:=fun vs H Q _=>Z4 K vs H Q
inductive ZI (K:PySem.W.Frag) (vs:List V) (H:Hp) (Q:VK):Prop
 | mk (x C dx:Addr) (nm:Str) (lo hi:Int) (h1:vs=[.ref x,.str nm,.int lo,.int hi]) (h2:H x=some (.ins C dx [])) (h3:Qj (.str nm)=true) (h4:(0≤lo∧lo≤1000000000)) (h5:(0≤hi∧hi≤1000000000)) (h6:Cls K C) (h7:NoAttr K C "name") (h8:NoAttr K C "low") (h9:NoAttr K C "high") (h10:∀ H',But x H H'->H' x=some (.ins C dx [("name",.str nm),("low",.int lo),("high",.int hi)])->Q .non H'):ZI K vs H Q
def Zc (K:PySem.W.Frag):Sp:=fun vs H Q _=>ZI K vs H Q
inductive J0 (a:Ad) (vs:List V) (H:Hp) (Q:VK):Prop
 | mk (x dx:Addr) (nm:Str) (m:Int) (h1:vs=[.ref x,.str nm,.int m]) (h2:H x=some (.ins a.c_At dx [])) (h3:Qj (.str nm)=true) (h4:(0≤m∧m≤1000000000)) (h5:∀ H',But x H H'->H' x=some (.ins a.c_At dx [("name",.str nm),("low",.int m),("high",.int m)])->Q .non H'):J0 a vs H Q
def qbs (a:Ad):Sp:=fun vs H Q _=>J0 a vs H Q
inductive Zn (K:PySem.W.Frag) (vs:List V) (H:Hp) (Q:VK):Prop
 | mk (x C dx:Addr) (nm pl:Str) (lo hi:Int) (h1:vs=[.ref x,.str nm,.str pl,.int lo,.int hi]) (h2:H x=some (.ins C dx [])) (h3:Qj (.str nm)=true) (h4:Qj (.str pl)=true) (h5:(-10000000000≤lo∧lo≤10000000000)) (h6:(-10000000000≤hi∧hi≤10000000000)) (h7:Cls K C) (h8:NoAttr K C "name") (h9:NoAttr K C "place") (h10:NoAttr K C "low") (h11:NoAttr K C "high") (h12:∀ H',But x H H'->H' x=some (.ins C dx [("name",.str nm),("place",.str pl),("low",.int lo),("high",.int hi)])->Q .non H'):Zn K vs H Q
def QW (K:PySem.W.Frag):Sp:=fun vs H Q _=>Zn K vs H Q
inductive jB (a:Ad) (vs:List V) (H:Hp) (Q:VK):Prop
 | mk (x dx:Addr) (nm pl:Str) (m:Int) (h1:vs=[.ref x,.str nm,.str pl,.int m]) (h2:H x=some (.ins a.c_Read dx [])) (h3:Qj (.str nm)=true) (h4:Qj (.str pl)=true) (h5:(-10000000000≤m∧m≤10000000000)) (h6:∀ H',But x H H'->H' x=some (.ins a.c_Read dx [("name",.str nm),("place",.str pl),("low",.int m),("high",.int m)])->Q .non H'):jB a vs H Q
def JS (a:Ad):Sp:=fun vs H Q _=>jB a vs H Q
inductive Zm (vs:List V) (H:Hp) (Q:VK):Prop
 | mk (v:V) (h1:vs=[v]) (h2:∀ l,H l=none->Q (.ref l) (upd H l (.lst []))):Zm vs H Q
def zm:Sp:=fun vs H Q _=>Zm vs H Q
section
variable {P:Program} {w:World} {K:PySem.W.Frag} {mg:Str->Option Value} {base:Heap}
theorem J7 {a:Ad} (T:Txt K mg a):qA P w K mg base CX0 1 a.f_e a.fd_e ["thing"] ZQ:=by
 refine T.d_e.F.ok qcI (fun vs H Q E h=>?_) (fun cdv A outer s H vs Q E hr h=>?_)
 · obtain ⟨i,rfl,kk⟩:=h
   rfl
 · obtain ⟨i,rfl,kk⟩:=h
   have hu:=qJ hr
   have hU:=hr.units
   refine ⟨_,(qg (qy (qaN (qp Qm (by rfl) T.n_isinstance qE (qa (pv 0) (qa (Q0 (v:=.ty "int") rfl T.n_int Jt rfl) qb))) (qcS (qjp (qp Qm (by rfl) T.n_isinstance qE (qa (pv 0) (qa (Q0 (v:=.ty "bool") rfl T.n_bool qbL rfl) qb)))))))),?_⟩
   try dsimp only [zv,Cx.nox]
   refine ⟨_,rfl,_,_,_,rfl,(by decide),rfl,true,rfl,qf3 ?_⟩
   exact ⟨_,rfl,_,_,_,rfl,(by decide),rfl,false,rfl,kk⟩
theorem Q1 {a:Ad} (T:Txt K mg a):qA P w K mg base CX0 2 a.f_b a.fd_b ["thing","low","high"] Qp:=by
 have G_e:qA P w K mg base CX0 1 a.f_e a.fd_e ["thing"] ZQ:=J7 T
 refine T.d_b.F.ok qds (fun vs H Q E h=>?_) (fun cdv A outer s H vs Q E hr h=>?_)
 · obtain ⟨i,lo,hi,rfl,h1,h2,kk⟩:=h
   rfl
 · obtain ⟨i,lo,hi,rfl,h1,h2,kk⟩:=h
   have hu:=qJ hr
   have hU:=hr.units
   have h_e:Room (1) _:=hr.mono (by decide)
   refine ⟨_,(qg (qy (qaN (qj G_e h_e rfl T.d_e.m T.d_e.k T.d_e.b .nil qq (qa (pv 0) qb)) (qcS (qei qb4 qb4 (pv 1) (pv 0) (pv 2)))))),?_⟩
   try dsimp only [zv,Cx.nox]
   refine ⟨_,rfl,i,rfl,true,rfl,qf3 ?_⟩
   refine ⟨_,rfl,_,rfl,_,_,rfl,rfl,_,rfl,Zf (fun _=>?_) (fun g=>absurd h1 g)⟩
   refine ⟨_,rfl,_,_,rfl,rfl,?_⟩
   show Q (.bl (decide (i≤hi))) H
   rw [decide_eq_true h2]
   exact kk
theorem J8 {a:Ad} (T:Txt K mg a):qA P w K mg base CX0 3 a.f_m a.fd_m ["thing"] ZR:=by
 have G_b:qA P w K mg base CX0 2 a.f_b a.fd_b ["thing","low","high"] Qp:=Q1 T
 refine T.d_m.F.ok qcJ (fun vs H Q E h=>?_) (fun cdv A outer s H vs Q E hr h=>?_)
 · obtain ⟨i,rfl,h1,h2,kk⟩:=h
   rfl
 · obtain ⟨i,rfl,h1,h2,kk⟩:=h
   have hu:=qJ hr
   have hU:=hr.units
   have h_b:Room (2) _:=hr.mono (by decide)
   obtain ⟨t_LAST,c_LAST⟩:=T.g_LAST
   refine ⟨_,(qg (qy (qj G_b h_b rfl T.d_b.m T.d_b.k T.d_b.b .nil qq (qa (pv 0) (qa qe (qa (zS (v:=.int 1000000000) rfl c_LAST ⟨_,rfl⟩) qb)))))),?_⟩
   try dsimp only [zv,Cx.nox]
   exact ⟨_,rfl,i,0,1000000000,rfl,h1,h2,kk⟩
theorem Jl {a:Ad} (T:Txt K mg a):qA P w K mg base CX0 3 a.f_f a.fd_f ["thing"] ZA:=by
 have G_b:qA P w K mg base CX0 2 a.f_b a.fd_b ["thing","low","high"] Qp:=Q1 T
 refine T.d_f.F.ok qbS (fun vs H Q E h=>?_) (fun cdv A outer s H vs Q E hr h=>?_)
 · obtain ⟨i,rfl,h1,h2,kk⟩:=h
   rfl
 · obtain ⟨i,rfl,h1,h2,kk⟩:=h
   have hu:=qJ hr
   have hU:=hr.units
   have h_b:Room (2) _:=hr.mono (by decide)
   obtain ⟨t_WIDEST_READING,c_WIDEST_READING⟩:=T.g_WIDEST_READING
   refine ⟨_,(qg (qy (qj G_b h_b rfl T.d_b.m T.d_b.k T.d_b.b .nil qq (qa (pv 0) (qa (jx QH (zS (v:=.int 10000000000) rfl c_WIDEST_READING ⟨_,rfl⟩)) (qa (zS (v:=.int 10000000000) rfl c_WIDEST_READING ⟨_,rfl⟩) qb)))))),?_⟩
   try dsimp only [zv,Cx.nox]
   exact ⟨_,rfl,_,rfl,i,-10000000000,10000000000,rfl,h1,h2,kk⟩
theorem qbA {a:Ad} (T:Txt K mg a):qA P w K mg base CX0 1 a.f_n a.fd_n ["thing"] Ju:=by
 refine T.d_n.F.ok qeE (fun vs H Q E h=>?_) (fun cdv A outer s H vs Q E hr h=>?_)
 · obtain ⟨x,rfl,ok,k⟩:=h
   rfl
 · obtain ⟨x,rfl,ok,k⟩:=h
   have hu:=qJ hr
   have hU:=hr.units
   obtain ⟨t_LONGEST_NAME,c_LONGEST_NAME⟩:=T.g_LONGEST_NAME
   refine ⟨_,(qf (qR (PW.pt (qaJ (zy (zx (qp Qm (by rfl) T.n_isinstance qE (qa (pv 0) (qa (Q0 (v:=.ty "str") rfl T.n_str qdh rfl) qb))))) (jH (zy (qgN qb4 qb4 qe (qp qU (by rfl) T.n_len qK (qa (pv 0) qb)) (zS (v:=.int 8) rfl c_LONGEST_NAME ⟨_,rfl⟩))))))
       (qg (qy qaM))
       qw)
     (qg (qy (qp (qgn rfl) (by rfl) T.n_all qgr (qa (QF rfl (CompOk.def ["sign"] [none]) (qjn (pv 0)) (fun _ _ _ _ _=>(qv (i:=0) (show List.Nodup (["sign"]:List Str) by decide +kernel) rfl (Or.inl rfl))) (fun _ _ _ _ _=>QZ) (fun _ _ _ _ _=>(qei qcT qcT qz (pv 0) qz))) qb))))),?_⟩
   try dsimp only [zv,Cx.nox]
   obtain ⟨⟨l1,l8⟩,al⟩:(1≤x.length∧x.length≤8)∧x.cps.toList.all sgn=true:=by
     simp only [Qj,Bool.and_eq_true,decide_eq_true_eq] at ok
     exact ok
   have hx:x.length=x.cps.size:=rfl
   refine ⟨_,rfl,_,_,_,rfl,(by decide),rfl,true,rfl,zj rfl ?_⟩
   refine ⟨_,rfl,_,_,rfl,⟨qih (by omega),rfl⟩,_,_,rfl,rfl,_,rfl,?_⟩
   refine Zf (fun h2=>?_) (fun h2=>absurd (by omega) h2)
   refine ⟨_,_,rfl,rfl,_,rfl,?_⟩
   refine qjB (fun h3=>absurd (by omega) h3) (fun h3=>?_)
   refine ⟨_,rfl,x,rfl,fun D fD=>?_⟩
   refine qht (x:=x) (D:=D) (fun i σ H2=>∃ (s0:Option V) (bs:List Bool),σ=[s0]∧Same H H2∧H2 D=some (.lst (bs.map V.bl))∧bs=(x.cps.toList.take i).map sgn) ⟨none,[],rfl,Same.new _ fD,qc,rfl⟩ ?_ ?_
   · rintro i c σ H2 hc ⟨s0,bs,rfl,s2,hD,hb⟩
     obtain ⟨hi,_⟩:=Array.getElem?_eq_some_iff.mp hc
     have hcl:x.cps.toList[i]?=some c:=by simpa using hc
     have hbl:bs.length≤i:=by rw [hb,List.length_map,List.length_take]; omega
     refine ⟨_,rfl,_,_,rfl,rfl,_,rfl,?_⟩
     have fin:∀ v:Bool,v=sgn c->∃ ys,H2 D=some (.lst ys)∧ys.length < sizeLine∧∃ (s0:Option V) (bs:List Bool),[some (V.str ⟨#[c]⟩)]=[s0]∧Same H (upd H2 D (.lst (ys++[.bl v])))∧(upd H2 D (.lst (ys++[.bl v]))) D=some (.lst (bs.map V.bl))∧bs=(x.cps.toList.take (i+1)).map sgn:=fun v e =>
       ⟨_,hD,qx (by rw [List.length_map]; omega),_,bs++[v],rfl,(fun b o z=>by rw [qh (qi z fD)]; exact s2 b o z),by rw [qc,List.map_append]; rfl,by rw [qe5 hcl,List.map_append,← hb,e]; rfl⟩
     refine qhd (fun h4=>?_) (fun h4=>?_)
     · refine ⟨_,_,rfl,rfl,fin _ ?_⟩
       unfold sgn
       rw [h4,Bool.true_and]
     · refine fin _ ?_
       unfold sgn
       rw [h4,Bool.false_and]
   · rintro σ H2 ⟨s0,bs,rfl,s2,hD,hb⟩
     refine ⟨D,bs,rfl,SqL.of hD,?_⟩
     have e:bs.all id=true:=by
       rw [hb,List.all_map]
       refine List.all_eq_true.mpr fun c m=>?_
       exact List.all_eq_true.mp al c (List.mem_of_mem_take m)
     first
       | (rw [e]; exact k H2 s2)
       | (have:=k H2 s2; simpa [e] using this)
theorem Jn {a:Ad} (T:Txt K mg a):qA P w K mg base CX0 2 a.f_p a.fd_p ["thing"] ZB:=by
 have G_n:qA P w K mg base CX0 1 a.f_n a.fd_n ["thing"] Ju:=qbA T
 refine T.d_p.F.ok qbU (fun vs H Q E h=>?_) (fun cdv A outer s H vs Q E hr h=>?_)
 · obtain ⟨x,rfl,ok,k⟩:=h
   rfl
 · obtain ⟨x,rfl,ok,k⟩:=h
   have hu:=qJ hr
   have hU:=hr.units
   have h_n:Room (1) _:=hr.mono (by decide)
   refine ⟨_,(qg (qR (zy (zx (qj G_n h_n rfl T.d_n.m T.d_n.k T.d_n.b .nil qq (qa (pv 0) qb))))
       (qg qT)
       qw)),?_⟩
   try dsimp only [zv,Cx.nox]
   exact ⟨_,rfl,x,rfl,ok,fun H1 S1=>⟨true,rfl,zj rfl (k H1 S1)⟩⟩
theorem qaQ {a:Ad} (T:Txt K mg a):qA P w K mg base CX0 4 a.f_B a.fd_B ["thing"] ZV:=by
 have G_m:qA P w K mg base CX0 3 a.f_m a.fd_m ["thing"] ZR:=J8 T
 refine T.d_B.F.ok qaD (fun vs H Q E h=>?_) (fun cdv A outer s H vs Q E hr h=>?_)
 · obtain ⟨i,rfl,h1,h2,k⟩:=h
   rfl
 · obtain ⟨i,rfl,h1,h2,k⟩:=h
   have hu:=qJ hr
   have hU:=hr.units
   have h_m:Room (3) _:=hr.mono (by decide)
   refine ⟨_,(qg (qR (zy (zx (qj G_m h_m rfl T.d_m.m T.d_m.k T.d_m.b .nil qq (qa (pv 0) qb))))
       (qg qT)
       qw)),?_⟩
   try dsimp only [zv,Cx.nox]
   exact ⟨_,rfl,i,rfl,h1,h2,true,rfl,zj rfl k⟩
theorem qak {a:Ad} (T:Txt K mg a):qA P w K mg base CX0 4 a.f_C a.fd_C ["thing"] ZH:=by
 have G_f:qA P w K mg base CX0 3 a.f_f a.fd_f ["thing"] ZA:=Jl T
 refine T.d_C.F.ok qah (fun vs H Q E h=>?_) (fun cdv A outer s H vs Q E hr h=>?_)
 · obtain ⟨i,rfl,h1,h2,k⟩:=h
   rfl
 · obtain ⟨i,rfl,h1,h2,k⟩:=h
   have hu:=qJ hr
   have hU:=hr.units
   have h_f:Room (3) _:=hr.mono (by decide)
   refine ⟨_,(qg (qR (zy (zx (qj G_f h_f rfl T.d_f.m T.d_f.k T.d_f.b .nil qq (qa (pv 0) qb))))
       (qg qT)
       qw)),?_⟩
   try dsimp only [zv,Cx.nox]
   exact ⟨_,rfl,i,rfl,h1,h2,true,rfl,zj rfl k⟩
theorem ZF {a:Ad} (T:Txt K mg a):qA P w K mg base CX0 3 a.f_g a.fd_g ["self","name"] (QL K):=by
 have G_p:qA P w K mg base CX0 2 a.f_p a.fd_p ["thing"] ZB:=Jn T
 refine T.d_g.F.ok qbY (fun vs H Q E h=>?_) (fun cdv A outer s H vs Q E hr h=>?_)
 · obtain ⟨x,C,dx,nm,rfl,hx,ok,cl,na,k⟩:=h
   rfl
 · obtain ⟨x,C,dx,nm,rfl,hx,ok,cl,na,k⟩:=h
   have hu:=qJ hr
   have hU:=hr.units
   have h_p:Room (2) _:=hr.mono (by decide)
   refine ⟨_,(qf (qF (qj G_p h_p rfl T.d_p.m T.d_p.k T.d_p.b .nil qq (qa (pv 1) qb)))
     (qg (Q8 (pv 0) (pv 1) rfl))),?_⟩
   try dsimp only [zv,Cx.nox]
   refine ⟨_,rfl,nm,rfl,ok,fun H1 S1=>?_⟩
   exact ⟨_,rfl,_,rfl,x,C,dx,_,rfl,S1 _ _ hx,cl,na,(by decide),k _ (fun b o z nb=>by rw [qh nb]; exact S1 b o z) qc⟩
theorem jK {a:Ad} (T:Txt K mg a):qA P w K mg base CX0 5 a.f_v a.fd_v ["self","name","low","high"] (Zc K):=by
 have G_g:qA P w K mg base CX0 3 a.f_g a.fd_g ["self","name"] (QL K):=ZF T
 have G_B:qA P w K mg base CX0 4 a.f_B a.fd_B ["thing"] ZV:=qaQ T
 refine T.d_v.F.ok qbc (fun vs H Q E h=>?_) (fun cdv A outer s H vs Q E hr h=>?_)
 · obtain ⟨x,C,dx,nm,lo,hi,rfl,hx,ok,hlo,hhi,cl,n1,n2,n3,k⟩:=h
   rfl
 · obtain ⟨x,C,dx,nm,lo,hi,rfl,hx,ok,hlo,hhi,cl,n1,n2,n3,k⟩:=h
   have hu:=qJ hr
   have hU:=hr.units
   have h_g:Room (3+1) _:=hr.mono (by decide)
   have h_B:Room (4) _:=hr.mono (by decide)
   refine ⟨_,(qf (qF (Jj T.ci_Entry G_g (h_g.mono (by decide)) T.d_g.b rfl T.g_Entry (qa (pv 0) (qa (pv 1) qb))))
     (qf (qF (qj G_B h_B rfl T.d_B.m T.d_B.k T.d_B.b .nil qq (qa (pv 2) qb)))
     (qf (qF (qj G_B h_B rfl T.d_B.m T.d_B.k T.d_B.b .nil qq (qa (pv 3) qb)))
     (qf (Q8 (pv 0) (pv 2) rfl)
     (qg (Q8 (pv 0) (pv 3) rfl)))))),?_⟩
   try dsimp only [zv,Cx.nox]
   refine ⟨_,rfl,_,rfl,x,C,dx,nm,rfl,hx,ok,cl,n1,fun H1 B1 h1=>?_⟩
   refine ⟨_,rfl,lo,rfl,hlo.1,hlo.2,?_⟩
   refine ⟨_,rfl,hi,rfl,hhi.1,hhi.2,?_⟩
   refine ⟨_,rfl,_,rfl,x,C,dx,_,rfl,h1,cl,n2,(by simp),?_⟩
   refine ⟨_,rfl,_,rfl,x,C,dx,_,rfl,qc,cl,n3,(Nat.le_of_ble_eq_true rfl),?_⟩
   exact k _ ((B1.put _).put _) (by rw [qc]; rfl)
theorem qeK {a:Ad} (T:Txt K mg a):qA P w K mg base CX0 7 a.f_4 a.fd_4 ["self","name","moment"] (qbs a):=by
 have G_v:qA P w K mg base CX0 5 a.f_v a.fd_v ["self","name","low","high"] (Zc K):=jK T
 refine T.d_4.F.ok qeF (fun vs H Q E h=>?_) (fun cdv A outer s H vs Q E hr h=>?_)
 · obtain ⟨x,dx,nm,m,rfl,hx,ok,hm,k⟩:=h
   rfl
 · obtain ⟨x,dx,nm,m,rfl,hx,ok,hm,k⟩:=h
   have hu:=qJ hr
   have hU:=hr.units
   have h_v:Room (5+1) _:=hr.mono (by decide)
   refine ⟨_,(qg (qF (Jj T.ci_Within G_v (h_v.mono (by decide)) T.d_v.b rfl T.g_Within (qa (pv 0) (qa (pv 1) (qa (pv 2) (qa (pv 2) qb))))))),?_⟩
   try dsimp only [zv,Cx.nox]
   exact ⟨_,rfl,_,rfl,_,rfl,_,rfl,x,a.c_At,dx,nm,m,m,rfl,hx,ok,hm,hm,T.cl_At,T.n_At_name,T.n_At_low,T.n_At_high,fun H1 B1 h1=>k H1 B1 h1⟩
theorem ja {a:Ad} (T:Txt K mg a):qA P w K mg base CX0 5 a.f_w a.fd_w ["self","name","place","low","high"] (QW K):=by
 have G_g:qA P w K mg base CX0 3 a.f_g a.fd_g ["self","name"] (QL K):=ZF T
 have G_p:qA P w K mg base CX0 2 a.f_p a.fd_p ["thing"] ZB:=Jn T
 have G_C:qA P w K mg base CX0 4 a.f_C a.fd_C ["thing"] ZH:=qak T
 refine T.d_w.F.ok qaH (fun vs H Q E h=>?_) (fun cdv A outer s H vs Q E hr h=>?_)
 · obtain ⟨x,C,dx,nm,pl,lo,hi,rfl,hx,ok,okp,hlo,hhi,cl,n1,n2,n3,n4,k⟩:=h
   rfl
 · obtain ⟨x,C,dx,nm,pl,lo,hi,rfl,hx,ok,okp,hlo,hhi,cl,n1,n2,n3,n4,k⟩:=h
   have hu:=qJ hr
   have hU:=hr.units
   have h_g:Room (3+1) _:=hr.mono (by decide)
   have h_p:Room (2) _:=hr.mono (by decide)
   have h_C:Room (4) _:=hr.mono (by decide)
   refine ⟨_,(qf (qF (Jj T.ci_Entry G_g (h_g.mono (by decide)) T.d_g.b rfl T.g_Entry (qa (pv 0) (qa (pv 1) qb))))
     (qf (qF (qj G_p h_p rfl T.d_p.m T.d_p.k T.d_p.b .nil qq (qa (pv 2) qb)))
     (qf (qF (qj G_C h_C rfl T.d_C.m T.d_C.k T.d_C.b .nil qq (qa (pv 3) qb)))
     (qf (qF (qj G_C h_C rfl T.d_C.m T.d_C.k T.d_C.b .nil qq (qa (pv 4) qb)))
     (qf (Q8 (pv 0) (pv 2) rfl)
     (qf (Q8 (pv 0) (pv 3) rfl)
     (qg (Q8 (pv 0) (pv 4) rfl)))))))),?_⟩
   try dsimp only [zv,Cx.nox]
   refine ⟨_,rfl,_,rfl,x,C,dx,nm,rfl,hx,ok,cl,n1,fun H1 B1 h1=>?_⟩
   refine ⟨_,rfl,pl,rfl,okp,fun H2 S2=>?_⟩
   refine ⟨_,rfl,lo,rfl,hlo.1,hlo.2,?_⟩
   refine ⟨_,rfl,hi,rfl,hhi.1,hhi.2,?_⟩
   refine ⟨_,rfl,_,rfl,x,C,dx,_,rfl,S2 _ _ h1,cl,n2,(by simp),?_⟩
   refine ⟨_,rfl,_,rfl,x,C,dx,_,rfl,qc,cl,n3,(Nat.le_of_ble_eq_true rfl),?_⟩
   refine ⟨_,rfl,_,rfl,x,C,dx,_,rfl,qc,cl,n4,(Nat.le_of_ble_eq_true rfl),?_⟩
   exact k _ ((((B1.same S2).put _).put _).put _) (by rw [qc]; rfl)
theorem qcW {a:Ad} (T:Txt K mg a):qA P w K mg base CX0 7 a.f_5 a.fd_5 ["self","name","place","reading"] (JS a):=by
 have G_w:qA P w K mg base CX0 5 a.f_w a.fd_w ["self","name","place","low","high"] (QW K):=ja T
 refine T.d_5.F.ok qcK (fun vs H Q E h=>?_) (fun cdv A outer s H vs Q E hr h=>?_)
 · obtain ⟨x,dx,nm,pl,m,rfl,hx,ok,okp,hm,k⟩:=h
   rfl
 · obtain ⟨x,dx,nm,pl,m,rfl,hx,ok,okp,hm,k⟩:=h
   have hu:=qJ hr
   have hU:=hr.units
   have h_w:Room (5+1) _:=hr.mono (by decide)
   refine ⟨_,(qg (qF (Jj T.ci_Between G_w (h_w.mono (by decide)) T.d_w.b rfl T.g_Between (qa (pv 0) (qa (pv 1) (qa (pv 2) (qa (pv 3) (qa (pv 3) qb)))))))),?_⟩
   try dsimp only [zv,Cx.nox]
   exact ⟨_,rfl,_,rfl,_,rfl,_,rfl,_,rfl,x,a.c_Read,dx,nm,pl,m,m,rfl,hx,ok,okp,hm,hm,T.cl_Read,T.n_Read_name,T.n_Read_place,T.n_Read_low,T.n_Read_high,fun H1 B1 h1=>k H1 B1 h1⟩
theorem Z9 {a:Ad} (T:Txt K mg a):qA P w K mg base CX0 1 a.f_h a.fd_h ["self"] zm:=by
 refine T.d_h.F.ok qaG (fun vs H Q E h=>?_) (fun cdv A outer s H vs Q E hr h=>?_)
 · obtain ⟨v,rfl,k⟩:=h
   rfl
 · obtain ⟨v,rfl,k⟩:=h
   have hu:=qJ hr
   have hU:=hr.units
   refine ⟨_,(qg (qy (qQ qb))),?_⟩
   try dsimp only [zv,Cx.nox]
   exact ⟨Nat.zero_le _,fun l f=>k l f⟩
end
end K37
namespace K37
open PySem L2 PySem.NumText PyProof.Rows KC M04
section
variable {P:Program} {w:World} {K:PySem.W.Frag} {mg:Str->Option Value} {base:Heap}
end
inductive Spc:Str->Str->Str->Int->Int->Prop
 | any {nm:Str}:Qj (.str nm)=true->Spc "any" nm "" 0 1000000000
 | within {nm:Str} {lo hi:Int}:Qj (.str nm)=true->(0≤lo∧lo≤1000000000)->(0≤hi∧hi≤1000000000)->Spc "within" nm "" lo hi
 | at_ {nm:Str} {m:Int}:Qj (.str nm)=true->(0≤m∧m≤1000000000)->Spc "at" nm "" m m
 | between {nm pl:Str} {lo hi:Int}:Qj (.str nm)=true->Qj (.str pl)=true->(-10000000000≤lo∧lo≤10000000000)->(-10000000000≤hi∧hi≤10000000000)->Spc "between" nm pl lo hi
 | read {nm pl:Str} {m:Int}:Qj (.str nm)=true->Qj (.str pl)=true->(-10000000000≤m∧m≤10000000000)->Spc "read" nm pl m m
inductive En (a:Ad) (H:Hp) (x:Addr):Str->Str->Str->Int->Int->Prop
 | any {dx:Addr} {nm:Str}:H x=some (.ins a.c_Entry dx [("name",.str nm)])->En a H x "any" nm "" 0 1000000000
 | within {dx:Addr} {nm:Str} {lo hi:Int}:H x=some (.ins a.c_Within dx [("name",.str nm),("low",.int lo),("high",.int hi)])->En a H x "within" nm "" lo hi
 | at_ {dx:Addr} {nm:Str} {m:Int}:H x=some (.ins a.c_At dx [("name",.str nm),("low",.int m),("high",.int m)])->En a H x "at" nm "" m m
 | between {dx:Addr} {nm pl:Str} {lo hi:Int}:H x=some (.ins a.c_Between dx [("name",.str nm),("place",.str pl),("low",.int lo),("high",.int hi)])->En a H x "between" nm pl lo hi
 | read {dx:Addr} {nm pl:Str} {m:Int}:H x=some (.ins a.c_Read dx [("name",.str nm),("place",.str pl),("low",.int m),("high",.int m)])->En a H x "read" nm pl m m
theorem En.same {a:Ad} {H H':Hp} (s:Same H H') {x:Addr} {wd nm pl:Str} {lo hi:Int} (h:En a H x wd nm pl lo hi):En a H' x wd nm pl lo hi:=by
 cases h with
 | any e=>exact .any (s _ _ e)
 | within e=>exact .within (s _ _ e)
 | at_ e=>exact .at_ (s _ _ e)
 | between e=>exact .between (s _ _ e)
 | read e=>exact .read (s _ _ e)
def qjS (wd nm pl:Str) (lo hi:Int):List V:=[.str wd,.str nm,.str pl,.int lo,.int hi]
inductive qbn (a:Ad) (vs:List V) (H:Hp) (Q:VK):Prop
 | mk (s:Addr) (wd nm pl:Str) (lo hi:Int) (h1:vs=[.ref s]) (h2:H s=some (.tup (qjS wd nm pl lo hi))) (h3:Spc wd nm pl lo hi) (h4:∀ (x:Addr) (H':Hp),Same H H'->En a H' x wd nm pl lo hi->Q (.ref x) H'):qbn a vs H Q
def qd5 (a:Ad):Sp:=fun vs H Q _=>qbn a vs H Q
theorem zL {H H':Hp} {x dx C:Addr} (h1:H x=none) (h2:H dx=none) (b:But x (upd (upd H dx (.own x)) x (.ins C dx [])) H'):Same H H':=fun c o e=>by
 have n1:=qi e h1
 have n2:=qi e h2
 exact b c o (by rw [qh n1,qh n2]; exact e) n1
section
variable {P:Program} {w:World} {K:PySem.W.Frag} {mg:Str->Option Value} {base:Heap}
theorem qg2 {a:Ad} (T:Txt K mg a):qA P w K mg base CX0 9 a.f_X a.fd_X ["_law_spec_here"] (qd5 a):=by
 have G_5:qA P w K mg base CX0 7 a.f_5 a.fd_5 ["self","name","place","reading"] (JS a):=qcW T
 have G_g:qA P w K mg base CX0 3 a.f_g a.fd_g ["self","name"] (QL K):=ZF T
 have G_v:qA P w K mg base CX0 5 a.f_v a.fd_v ["self","name","low","high"] (Zc K):=jK T
 have G_4:qA P w K mg base CX0 7 a.f_4 a.fd_4 ["self","name","moment"] (qbs a):=qeK T
 have G_w:qA P w K mg base CX0 5 a.f_w a.fd_w ["self","name","place","low","high"] (QW K):=ja T
 refine T.d_X.F.ok sc_Lmade (fun vs H Q E h=>?_) (fun cdv A outer s H vs Q E hr h=>?_)
 · obtain ⟨s,wd,nm,pl,lo,hi,rfl,hs,sp,kk⟩:=h
   rfl
 · obtain ⟨s,wd,nm,pl,lo,hi,rfl,hs,sp,kk⟩:=h
   have hu:=qJ hr
   have hU:=hr.units
   have h_5:Room (7+1) _:=hr.mono (by decide)
   have h_g:Room (3+1) _:=hr.mono (by decide)
   have h_v:Room (5+1) _:=hr.mono (by decide)
   have h_4:Room (7+1) _:=hr.mono (by decide)
   have h_w:Room (5+1) _:=hr.mono (by decide)
   refine ⟨_,(qf (jJ (pv 0) (ZL rfl (qD (qv (i:=1) (sc_Lmade.nd) rfl (Or.inl rfl)) (qD (qv (i:=2) (sc_Lmade.nd) rfl (Or.inl rfl)) (qD (qv (i:=3) (sc_Lmade.nd) rfl (Or.inl rfl)) (qD (qv (i:=4) (sc_Lmade.nd) rfl (Or.inl rfl)) (qD (qv (i:=5) (sc_Lmade.nd) rfl (Or.inl rfl)) QE)))))))
     (qf (qR (qu (uEq hU) (pv 1) qz (qG _))
       (qg (qy (JK T.M_Entry G_g h_g rfl T.g_Entry T.d_g.b .nil qq (qa (pv 2) qb))))
       qw)
     (qf (qR (qu (uEq hU) (pv 1) qz (qG _))
       (qg (qy (JK T.M_Within G_v h_v rfl T.g_Within T.d_v.b .nil qq (qa (pv 2) (qa (pv 4) (qa (pv 5) qb))))))
       qw)
     (qf (qR (qu (uEq hU) (pv 1) qz (qG _))
       (qg (qy (JK T.M_At G_4 h_4 rfl T.g_At T.d_4.b .nil qq (qa (pv 2) (qa (pv 4) qb)))))
       qw)
     (qf (qR (qu (uEq hU) (pv 1) qz (qG _))
       (qg (qy (JK T.M_Between G_w h_w rfl T.g_Between T.d_w.b .nil qq (qa (pv 2) (qa (pv 3) (qa (pv 4) (qa (pv 5) qb)))))))
       qw)
     (qg (qy (JK T.M_Read G_5 h_5 rfl T.g_Read T.d_5.b .nil qq (qa (pv 2) (qa (pv 3) (qa (pv 4) qb))))))))))),?_⟩
   try dsimp only [zv,Cx.nox]
   refine ⟨_,rfl,s,_,rfl,SqT.of hs,rfl,_,_,rfl,_,_,rfl,_,_,rfl,_,_,rfl,_,_,rfl,rfl,?_⟩
   cases sp with
   | any ok =>
     refine ⟨_,rfl,.inl ⟨rfl,_,rfl,Zf (fun _=>?_) (fun g=>absurd rfl g)⟩⟩
     exact ⟨_,rfl,fun x dx f1 f2 ne=>⟨x,_,dx,nm,rfl,qc,ok,T.cl_Entry,T.n_Entry_name,fun H1 B1 h1=>⟨rfl,kk x H1 (zL f1 f2 B1) (.any h1)⟩⟩⟩
   | within ok hlo hhi =>
     refine ⟨_,rfl,.inl ⟨rfl,_,rfl,Zf (fun g=>absurd g (by decide)) (fun _=>?_)⟩⟩
     refine ⟨_,rfl,.inl ⟨rfl,_,rfl,Zf (fun _=>?_) (fun g=>absurd rfl g)⟩⟩
     exact ⟨_,rfl,_,rfl,_,rfl,fun x dx f1 f2 ne=>⟨x,_,dx,nm,_,_,rfl,qc,ok,hlo,hhi,T.cl_Within,T.n_Within_name,T.n_Within_low,T.n_Within_high,fun H1 B1 h1=>⟨rfl,kk x H1 (zL f1 f2 B1) (.within h1)⟩⟩⟩
   | at_ ok hm =>
     refine ⟨_,rfl,.inl ⟨rfl,_,rfl,Zf (fun g=>absurd g (by decide)) (fun _=>?_)⟩⟩
     refine ⟨_,rfl,.inl ⟨rfl,_,rfl,Zf (fun g=>absurd g (by decide)) (fun _=>?_)⟩⟩
     refine ⟨_,rfl,.inl ⟨rfl,_,rfl,Zf (fun _=>?_) (fun g=>absurd rfl g)⟩⟩
     exact ⟨_,rfl,_,rfl,fun x dx f1 f2 ne=>⟨x,dx,nm,_,rfl,qc,ok,hm,fun H1 B1 h1=>⟨rfl,kk x H1 (zL f1 f2 B1) (.at_ h1)⟩⟩⟩
   | between ok okp hlo hhi =>
     refine ⟨_,rfl,.inl ⟨rfl,_,rfl,Zf (fun g=>absurd g (by decide)) (fun _=>?_)⟩⟩
     refine ⟨_,rfl,.inl ⟨rfl,_,rfl,Zf (fun g=>absurd g (by decide)) (fun _=>?_)⟩⟩
     refine ⟨_,rfl,.inl ⟨rfl,_,rfl,Zf (fun g=>absurd g (by decide)) (fun _=>?_)⟩⟩
     refine ⟨_,rfl,.inl ⟨rfl,_,rfl,Zf (fun _=>?_) (fun g=>absurd rfl g)⟩⟩
     exact ⟨_,rfl,_,rfl,_,rfl,_,rfl,fun x dx f1 f2 ne=>⟨x,_,dx,nm,pl,_,_,rfl,qc,ok,okp,hlo,hhi,T.cl_Between,T.n_Between_name,T.n_Between_place,T.n_Between_low,T.n_Between_high,fun H1 B1 h1=>⟨rfl,kk x H1 (zL f1 f2 B1) (.between h1)⟩⟩⟩
   | read ok okp hm =>
     refine ⟨_,rfl,.inl ⟨rfl,_,rfl,Zf (fun g=>absurd g (by decide)) (fun _=>?_)⟩⟩
     refine ⟨_,rfl,.inl ⟨rfl,_,rfl,Zf (fun g=>absurd g (by decide)) (fun _=>?_)⟩⟩
     refine ⟨_,rfl,.inl ⟨rfl,_,rfl,Zf (fun g=>absurd g (by decide)) (fun _=>?_)⟩⟩
     refine ⟨_,rfl,.inl ⟨rfl,_,rfl,Zf (fun g=>absurd g (by decide)) (fun _=>?_)⟩⟩
     exact ⟨_,rfl,_,rfl,_,rfl,fun x dx f1 f2 ne=>⟨x,dx,nm,pl,_,rfl,qc,ok,okp,hm,fun H1 B1 h1=>⟨rfl,kk x H1 (zL f1 f2 B1) (.read h1)⟩⟩⟩
end
end K37
namespace K37
open PySem L2 PySem.NumText PyProof.Rows KC M04
section
variable {P:Program} {w:World} {K:PySem.W.Frag} {mg:Str->Option Value} {base:Heap}
end
theorem qhs {K:PySem.W.Frag} {a:Addr} {xs:List V} {g:TG} {tt:TT} {te:TE} {D:Addr} {Q:VK} {σ:L2.St} {H:Hp} (Pv:Nat->L2.St->Hp->Prop) (h0:Pv 0 σ H) (hl:∀ i σ H,i≤xs.length->Pv i σ H->SqT K H a xs)
   (hs:∀ i x σ H,xs[i]?=some x->Pv i σ H->g x σ H fun σ3 H3=>tt σ3 H3 fun ok H4=>if ok=true then te σ3 H4 fun y H5=>∃ ys,H5 D=some (.lst ys)∧ys.length < sizeLine∧Pv (i+1) σ3 (upd H5 D (.lst (ys++[y]))) else Pv (i+1) σ3 H4)
   (hd:∀ σ H,Pv xs.length σ H->Q (.ref D) H) :
   jv (Itt K a) g tt te D Q σ H:=by
 refine ⟨fun i m σ H=>m=xs.length - i∧i≤xs.length∧Pv i σ H,⟨xs.length,by simp,Nat.zero_le _,h0⟩,?_⟩
 rintro i m σ H ⟨rfl,hi,p⟩
 have q:=hl i σ H hi p
 by_cases hlt:i < xs.length
 · refine .inr ⟨⟨xs,xs[i],q,by simp [hlt]⟩,Pv (i+1),fun σ' H' p'=>⟨xs.length - (i+1),by omega,rfl,hlt,p'⟩,fun v H' y=>?_⟩
   obtain ⟨e,y⟩:=y
   subst e
   exact hs i v σ _ (y xs q) p
 · have e:i=xs.length:=by omega
   subst e
   exact .inl ⟨⟨xs,q,Nat.le_refl _⟩,hd σ H p⟩
section
variable {P:Program} {w:World} {K:PySem.W.Frag} {mg:Str->Option Value} {base:Heap}
end
end K37
namespace K37
open PySem L2 PySem.NumText PyProof.Rows KC M04
section
variable {P:Program} {w:World} {K:PySem.W.Frag} {mg:Str->Option Value} {base:Heap}
end
theorem Za:bootBuiltins "sorted"=some (.builtin "sorted"):=by decide +kernel
theorem Rs.same {H H':Hp} {q:Addr} {rows:List (Int×Int)} (h:Rs H q rows) (s:Same H H'):Rs H' q rows:=by
 obtain ⟨zs,h1,h2⟩:=h
 exact ⟨zs,s _ _ h1,h2.same s⟩
abbrev okw (w:Int×Int):Bool:=decide (w.1≤w.2)
theorem qe3 {H:Hp} {zs:List V} {ws:List (Int×Int)} (h:TupL pr H zs ws):TupI H zs (ws.map g2):=by
 refine ⟨by rw [List.length_map]; exact h.1,fun i z r e1 e2=>?_⟩
 obtain ⟨p,hp,rfl⟩:=qdE e2
 exact h.2 i z p e1 hp
theorem qfM {H:Hp} {zs:List V} {ws:List (Int×Int)} (h:TupI H zs (ws.map g2)):TupL pr H zs ws :=
 ⟨by have:=h.len; rwa [List.length_map] at this,fun i z p e1 e2=>h.at_ i z (g2 p) e1 (by rw [List.getElem?_map,e2]; rfl)⟩
theorem qeg {rs:List (List Int)} {fs:List (Int×Int)} (h:rs.Perm (fs.map g2)):∃ ss:List (Int×Int),rs=ss.map g2∧ss.Perm fs:=by
 refine ⟨rs.map fun r=>(r.getD 0 0,r.getD 1 0),?_,?_⟩
 · rw [List.map_map]
   refine (List.map_id rs).symm.trans (List.map_congr_left fun r hr=>?_)
   obtain ⟨p,_,rfl⟩:=List.mem_map.mp (h.mem_iff.mp hr)
   rfl
 · have:=h.map fun r=>(r.getD 0 0,r.getD 1 0)
   rw [List.map_map] at this
   rwa [show (fs.map ((fun r:List Int=>(r.getD 0 0,r.getD 1 0)) ∘ g2))=fs from (List.map_congr_left fun p _=>rfl).trans (List.map_id fs)] at this
theorem qhN {ss:List (Int×Int)} (h:(ss.map g2).Pairwise fun a b=>jb b a=false):ss.Pairwise fun a b=>a.1≤b.1:=by
 refine (List.pairwise_map.mp h).imp fun {a b} g=>?_
 have g':jb [b.1,b.2] [a.1,a.2]=false:=g
 unfold jb at g'
 by_cases e:b.1=a.1
 · omega
 · rw [if_neg e] at g'
   have:=of_decide_eq_false g'
   omega
theorem qhQ (ws:List (Int×Int)) (n:Int):Mem (ws.filter okw) n↔Mem ws n:=by
 constructor
 · rintro ⟨w,hw,h⟩
   exact ⟨w,(List.mem_filter.mp hw).1,h⟩
 · rintro ⟨w,hw,h⟩
   exact ⟨w,List.mem_filter.mpr ⟨hw,decide_eq_true (by omega)⟩,h⟩
theorem qel {ss fs:List (Int×Int)} (h:ss.Perm fs) (n:Int):Mem ss n↔Mem fs n :=
 ⟨fun ⟨w,hw,k⟩=>⟨w,h.mem_iff.mp hw,k⟩,fun ⟨w,hw,k⟩=>⟨w,h.mem_iff.mpr hw,k⟩⟩
theorem qda {acc:List (Int×Int)} {l w:Int×Int} (h:acc.getLast?=some l) (e:w.1≤l.2+1):qan acc w=acc.set (acc.length - 1) (l.1,if w.2 > l.2 then w.2 else l.2):=by
 unfold qan; rw [h]; exact if_pos e
theorem qeq {acc:List (Int×Int)} {l w:Int×Int} (h:acc.getLast?=some l) (e:¬ w.1≤l.2+1):qan acc w=acc++[w]:=by
 unfold qan; rw [h]; exact if_neg e
theorem qhi (acc:List (Int×Int)) (w:Int×Int):(qan acc w).length≤acc.length+1:=by
 unfold qan
 split
 · split
   · rw [List.length_set]; omega
   · rw [List.length_append]; exact Nat.le_refl _
 · simp
theorem qer {ws:List (Int×Int)} {i:Nat} {w:Int×Int} (h:ws[i]?=some w):(ws.take (i+1)).foldl qan []=qan ((ws.take i).foldl qan []) w:=by
 rw [List.take_add_one,h,List.foldl_append]; rfl
theorem jc (ws:List (Int×Int)):∀ i,((ws.take i).foldl qan []).length≤i
 | 0=>by simp
 | i+1=>by
   cases h:ws[i]? with
   | none =>
     have:=jc ws i
     rw [List.take_add_one,h]
     simp only [Option.toList,List.append_nil]
     omega
   | some w =>
     have:=jc ws i
     have:=qhi ((ws.take i).foldl qan []) w
     rw [qer h]; omega
inductive ZO (vs:List V) (H:Hp) (Q:VK):Prop
 | mk (t:Addr) (r:Int×Int) (h1:vs=[.ref t]) (h2:H t=some (.tup (pr r))) (h3:Q (.bl true) H):ZO vs H Q
def j6:Sp:=fun vs H Q _=>ZO vs H Q
inductive QI (vs:List V) (H:Hp) (Q:VK):Prop
 | mk (q:Addr) (ws:List (Int×Int)) (h1:vs=[.ref q]) (h2:Rs H q ws) (h3:∀ H',Same H H'->Q .non H'):QI vs H Q
def Q4:Sp:=fun vs H Q _=>QI vs H Q
inductive jZ (vs:List V) (H:Hp) (Q:VK):Prop
 | mk (q:Addr) (ws:List (Int×Int)) (h1:vs=[.ref q]) (h2:Rs H q ws) (h3:ws.length < 64) (h4:∀ (d:Addr) (r:List (Int×Int)) (H':Hp),H d=none->Same H H'->Rs H' d r->Zg r->r.length≤ws.length->(∀ n,Mem r n↔Mem ws n)->Q (.ref d) H'):jZ vs H Q
def jP:Sp:=fun vs H Q _=>jZ vs H Q
section
variable {P:Program} {w:World} {K:PySem.W.Frag} {mg:Str->Option Value} {base:Heap}
theorem qb6 {a:Ad} (T:Txt K mg a):qA P w K mg base CX0 2 a.f_M a.fd_M ["thing"] j6:=by
 have G_e:qA P w K mg base CX0 1 a.f_e a.fd_e ["thing"] ZQ:=J7 T
 refine T.d_M.F.ok qbR (fun vs H Q E h=>?_) (fun cdv A outer s H vs Q E hr h=>?_)
 · obtain ⟨t,r,rfl,ht,kk⟩:=h
   rfl
 · obtain ⟨t,r,rfl,ht,kk⟩:=h
   have hu:=qJ hr
   have hU:=hr.units
   have h_e:Room (1) _:=hr.mono (by decide)
   refine ⟨_,(qg (qy (qaN (qp Qm (by rfl) T.n_isinstance qE (qa (pv 0) (qa (Q0 (v:=.ty "tuple") rfl T.n_tuple jV rfl) qb))) (qaN (Z6 (uEq hU) (qp qU (by rfl) T.n_len qK (qa (pv 0) qb)) qe (qG _)) (qaN (qj G_e h_e rfl T.d_e.m T.d_e.k T.d_e.b .nil qq (qa (qC (r:=rIx K) qr (pv 0) qe (fun _ _=>rfl)) qb)) (qcS (qj G_e h_e rfl T.d_e.m T.d_e.k T.d_e.b .nil qq (qa (qC (r:=rIx K) qr (pv 0) qe (fun _ _=>rfl)) qb)))))))),?_⟩
   try dsimp only [zv,Cx.nox]
   have ty:tyN H (.ref t)=some "tuple":=by simp only [tyN]; rw [ht]
   refine ⟨_,rfl,_,_,_,rfl,(by decide),ty,_,rfl,Jr rfl ?_⟩
   refine ⟨_,rfl,_,_,rfl,.inr ⟨_,SqT.of ht,rfl⟩,.inl ⟨rfl,_,rfl,Jr (decide_eq_true rfl) ?_⟩⟩
   refine ⟨_,rfl,.inr (.inl ⟨t,_,_,_,rfl,rfl,SqT.of ht,rfl,_,rfl,true,rfl,qf3 ?_⟩)⟩
   exact ⟨_,rfl,.inr (.inl ⟨t,_,_,_,rfl,rfl,SqT.of ht,rfl,_,rfl,kk⟩)⟩
theorem Jm {a:Ad} (T:Txt K mg a):qA P w K mg base CX0 3 a.f_N a.fd_N ["stretches"] Q4:=by
 have G_M:qA P w K mg base CX0 2 a.f_M a.fd_M ["thing"] j6:=qb6 T
 refine T.d_N.F.ok sc_check_stretches (fun vs H Q E h=>?_) (fun cdv A outer s H vs Q E hr h=>?_)
 · obtain ⟨q,ws,rfl,hrs,kk⟩:=h
   rfl
 · obtain ⟨q,ws,rfl,hrs,kk⟩:=h
   have hu:=qJ hr
   have hU:=hr.units
   have h_M:Room (2) _:=hr.mono (by decide)
   refine ⟨_,(qf (qR (zy (zx (qp Qm (by rfl) T.n_isinstance qE (qa (pv 0) (qa (Q0 (v:=.ty "list") rfl T.n_list zf rfl) qb)))))
       (qg qT)
       qw)
     (qg (Zu PassesOwn.never rfl (qfy rfl T.n_enumerate (qa (pv 0) qb)) (ZL rfl (qD (qv (i:=1) (sc_check_stretches.nd) rfl (Or.inl rfl)) (qD (qv (i:=2) (sc_check_stretches.nd) rfl (Or.inl rfl)) QE)))
       (qg (qR (zy (zx (qj G_M h_M rfl T.d_M.m T.d_M.k T.d_M.b .nil qq (qa (pv 2) qb))))
         (qg qT)
         qw))))),?_⟩
   try dsimp only [zv,Cx.nox]
   obtain ⟨zs,hq,tp⟩:=id hrs
   have ty:tyN H (.ref q)=some "list":=by simp only [tyN]; rw [hq]
   refine ⟨_,rfl,_,_,_,rfl,(by decide),ty,true,rfl,zj rfl ?_⟩
   refine ⟨_,rfl,q,rfl,⟨zs,SqL.of hq⟩,qes (K:=K) (a:=q) (xs:=zs) (fun i σ H2=>∃ s1 s2:Option V,σ=[some (.ref q),s1,s2]∧Same H H2) ⟨none,none,rfl,Same.refl H⟩ (fun i σ H2 _ ⟨_,_,_,S⟩=>SqL.of (S _ _ hq)) ?_ ?_⟩
   · rintro i x σ H2 p hx ⟨s1,s2,rfl,S⟩ hn
     have S2:Same H (upd H2 p (.tup [.int i,x])):=S.then _ hn
     obtain ⟨r,t,hr',rfl,ht⟩:=tp.of hx
     refine ⟨p,_,rfl,SqT.of qc,rfl,_,_,rfl,_,_,rfl,rfl,?_⟩
     exact ⟨_,rfl,t,r,rfl,S2 _ _ ht,_,rfl,zj rfl ⟨_,_,rfl,S2⟩⟩
   · rintro σ H2 ⟨s1,s2,rfl,S⟩
     exact kk H2 S
theorem qaP {a:Ad} (T:Txt K mg a):qA P w K mg base CX0 4 a.f_o a.fd_o ["stretches"] jP:=by
 have G_N:qA P w K mg base CX0 3 a.f_N a.fd_N ["stretches"] Q4:=Jm T
 refine T.d_o.F.ok sc_spans_of (fun vs H Q E h=>?_) (fun cdv A outer s H vs Q E hr h=>?_)
 · obtain ⟨q,ws,rfl,hrs,few,kk⟩:=h
   rfl
 · obtain ⟨q,ws,rfl,hrs,few,kk⟩:=h
   have hu:=qJ hr
   have hU:=hr.units
   have h_N:Room (3) _:=hr.mono (by decide)
   refine ⟨_,(qf (qF (qj G_N h_N rfl T.d_N.m T.d_N.k T.d_N.b .nil qq (qa (pv 0) qb)))
     (qf (qH (i:=1) sc_spans_of.nd rfl (Or.inl rfl) (qQ qb))
     (qf (Zu PassesOwn.never rfl (zJ (qp qbI (by rfl) T.n_sorted Za (qa (QF rfl (CompOk.def ["stretch"] [none]) (zJ (pv 0)) (fun _ _ _ _ _=>(qv (i:=0) (show List.Nodup (["stretch"]:List Str) by decide +kernel) rfl (Or.inl rfl))) (fun _ _ _ _ _=>(qaK (qu qb4 (qC (r:=rIx K) qr (pv 0) qe (fun _ _=>rfl)) (qC (r:=rIx K) qr (pv 0) qe (fun _ _=>rfl)) (qG _)))) (fun _ _ _ _ _=>(pv 0))) qb))) (ZL rfl (qD (qv (i:=2) (sc_spans_of.nd) rfl (Or.inl rfl)) (qD (qv (i:=3) (sc_spans_of.nd) rfl (Or.inl rfl)) QE)))
       (qg (qR (PW.pt (J1 (qgM (pv 1) (fun _=>rfl)) (jS (qu qb4 (pv 2) (qB jY (qC (r:=rIx K) qr (qC (r:=rIx K) qr (pv 1) (jx QH qe) (fun _ _=>rfl)) qe (fun _ _=>rfl)) qe) (qG _)))))
         (qg (jJ (zR (qa (qC (r:=rIx K) qr (qC (r:=rIx K) qr (pv 1) (jx QH qe) (fun _ _=>rfl)) qe (fun _ _=>rfl)) (qa (qp (Ql rfl) (by rfl) T.n_max Qn (qa (qC (r:=rIx K) qr (qC (r:=rIx K) qr (pv 1) (jx QH qe) (fun _ _=>rfl)) qe (fun _ _=>rfl)) (qa (pv 3) qb))) qb))) (qaL (pv 1) (jx QH qe) ZD)))
         (qg (qF (Jk PySem.F.plainAttrs_list PySem.F.slot_list_append PySem.F.type_list_append zK (pv 1) (qa (zR (qa (pv 2) (qa (pv 3) qb))) qb)))))))
     (qg (qy (pv 1)))))),?_⟩
   try dsimp only [zv,Cx.nox]
   refine ⟨_,rfl,q,ws,rfl,hrs,fun G0 S0=>?_⟩
   refine ⟨qo (Nat.le_of_ble_eq_true rfl),fun D fD=>?_⟩
   have SD:=Same.new (.lst []) fD
   have hD0:(upd G0 D (.lst [])) D=some (.lst []):=qc
   obtain ⟨zs,hq,tp⟩:=(hrs.same S0).same SD
   try unfold qX
   try dsimp only
   generalize upd G0 D (.lst [])=G at SD hD0 hq tp ⊢
   have hl:zs.length=ws.length:=tp.1
   refine ⟨_,rfl,q,rfl,⟨_,SqL.of hq⟩,fun C fC=>?_⟩
   refine zM (K:=K) (a:=q) (xs:=zs) (D:=C) (fun i σ H2=>∃ (c0:Option V) (cs:List V),σ=[c0]∧Same G H2∧H2 C=some (.lst cs)∧TupL pr H2 cs ((ws.take i).filter okw)) ⟨none,[],rfl,Same.new _ fC,qc,.nil⟩ (fun i σ H2 _ ⟨_,_,_,S,_⟩=>SqL.of (S _ _ hq)) ?_ ?_
   · rintro i z σ H2 hz ⟨c0,cs,rfl,S,hC,tc⟩
     obtain ⟨r,t,hr',rfl,ht⟩:=tp.of hz
     have ht2:=S _ _ ht
     have et:ws.take (i+1)=ws.take i++[r]:=by rw [List.take_add_one,hr']; rfl
     have lc:cs.length≤64:=by
       rw [tc.1]
       refine Nat.le_trans (List.length_filter_le _ _) ?_
       rw [List.length_take]; omega
     refine ⟨_,rfl,.inr (.inl ⟨t,_,_,_,rfl,rfl,SqT.of ht2,rfl,_,rfl,.inr (.inl ⟨t,_,_,_,rfl,rfl,SqT.of ht2,rfl,_,_,rfl,rfl,_,rfl,Zf (fun g=>?_) (fun g=>?_)⟩)⟩)⟩
     · refine ⟨_,rfl,_,hC,qx (by omega),_,cs++[.ref t],rfl,S.put fC _,qc,?_⟩
       rw [et,List.filter_append,show List.filter okw [r]=[r] by simp [okw,g]]
       exact (tc.snoc (p:=r) ht2).put hC
     · refine ⟨_,cs,rfl,S,hC,?_⟩
       rw [et,List.filter_append,show List.filter okw [r]=[] by simp [okw,g],List.append_nil]
       exact tc
   rintro σ H2 ⟨c0,cs,rfl,S,hC,tc⟩
   rw [hl,List.take_length] at tc
   have okf:∀ w∈ws.filter okw,w.1≤w.2:=fun w hw=>of_decide_eq_true (List.mem_filter.mp hw).2
   have lf:(ws.filter okw).length≤ws.length:=List.length_filter_le _ _
   have mok:=qhQ ws
   generalize ws.filter okw=fs at tc okf lf mok
   refine ⟨C,cs,fs.map g2,2,rfl,SqL.of hC,qe3 tc,(fun r hr=>by obtain ⟨w,_,rfl⟩:=List.mem_map.mp hr; rfl),(by decide),(by rw [tc.1]; omega),fun p zs' rs' fp hp tI ho=>?_⟩
   obtain ⟨ss,rfl,hss⟩:=qeg hp
   have ord:=qhN ho
   have oks:∀ w∈ss,w.1≤w.2:=fun w m=>okf w (hss.mem_iff.mp m)
   have lss:ss.length≤ws.length:=by rw [hss.length_eq]; exact lf
   have tz0:TupL pr H2 zs' ss:=qfM tI
   have Sp:=Same.new (.lst zs') fp
   have tz:=tz0.same Sp
   have hp1:(upd H2 p (.lst zs')) p=some (.lst zs'):=qc
   have hD1:=Sp _ _ (S _ _ hD0)
   have npD:p≠D:=fun e=>by rw [e,S _ _ hD0] at fp; cases fp
   have SG:=SD.trans (S.trans Sp)
   try dsimp only
   generalize upd H2 p (.lst zs')=G1 at tz hp1 hD1 SG ⊢
   refine ⟨p,rfl,⟨_,SqL.of hp1⟩,ju (D:={ nx:=qh9 (qi0 1) { nx:=fun _ H'=>Q .non H',rt:=Q },rt:=Q }) (K:=K) (a:=p) (xs:=zs') (fun i σ H3=>∃ (s2 s3:Option V) (ys:List V),σ=[some (.ref q),some (.ref D),s2,s3]∧But D G1 H3∧H3 D=some (.lst ys)∧TupL pr H3 ys ((ss.take i).foldl qan [])) ⟨none,none,[],rfl,(fun c o e _=>e),hD1,.nil⟩ (fun i σ H3 _ ⟨_,_,_,_,B,_⟩=>SqL.of (B _ _ hp1 npD)) ?_ ?_⟩
   · rintro i z σ H3 hz ⟨s2,s3,ys,rfl,B,hD,ty⟩
     obtain ⟨wv,t,hw,rfl,ht⟩:=tz.of hz
     have ntD:t≠D:=zi ht hD1 (by intro z; cases z)
     have ht3:=B _ _ ht ntD
     have okv:=oks wv (List.mem_of_getElem? hw)
     have ly:ys.length≤64:=by
       have:=jc ss i
       have lti:i < ss.length:=(List.getElem?_eq_some_iff.mp hw).1
       rw [ty.1]; omega
     refine ⟨t,_,rfl,SqT.of ht3,rfl,_,_,rfl,_,_,rfl,rfl,?_⟩
     rw [qer hw]
     generalize (ss.take i).foldl qan []=acc at ty ⊢
     cases ea:acc.getLast? with
     | none =>
       have e0:acc=[]:=List.getLast?_eq_none_iff.mp ea
       subst e0
       have ey:ys=[]:=List.eq_nil_of_length_eq_zero ty.1
       subst ey
       refine ⟨_,rfl,false,.inl ⟨_,SqL.of hD,rfl⟩,qep (qep ?_)⟩
       refine ⟨_,rfl,.inl ⟨rfl,_,SqL.of hD⟩,_,rfl,_,rfl,qo (Nat.le_of_ble_eq_true rfl),fun tt ft=>?_⟩
       have St:=Same.new (.tup [.int wv.1,.int wv.2]) ft
       refine ⟨D,_,_,rfl,rfl,St _ _ hD,qx (by omega),?_⟩
       refine ⟨_,_,[]++[.ref tt],rfl,(fun c o e n=>?_),qc,?_⟩
       · rw [qh n]; exact St _ _ (B c o e n)
       · exact ((TupL.nil (f:=pr)).snoc (p:=wv) qc).put (St _ _ hD)
     | some l =>
       obtain ⟨tl,hzl,htl⟩:=TupL.last ty ea
       have ey:true=!ys.isEmpty:=by
         cases ys with
         | nil=>cases hzl
         | cons y ys=>rfl
       refine ⟨_,rfl,true,.inl ⟨_,SqL.of hD,ey⟩,qf3 ?_⟩
       refine ⟨_,rfl,_,rfl,_,rfl,.inl ⟨D,_,_,_,rfl,rfl,SqL.of hD,Zb hzl,.inr (.inl ⟨tl,_,_,_,rfl,rfl,SqT.of htl,rfl,.inl ⟨_,_,rfl,rfl,_,_,rfl,rfl,_,rfl,Zf (fun g=>?_) (fun g=>?_)⟩⟩)⟩⟩
       · have g':wv.1≤l.2+1:=g
         refine ⟨_,rfl,_,rfl,.inl ⟨D,_,_,_,rfl,rfl,SqL.of hD,Zb hzl,.inr (.inl ⟨tl,_,_,_,rfl,rfl,SqT.of htl,rfl,_,rfl,_,rfl,.inl ⟨D,_,_,_,rfl,rfl,SqL.of hD,Zb hzl,.inr (.inl ⟨tl,_,_,_,rfl,rfl,SqT.of htl,rfl,_,rfl,_,_,rfl,qo (Nat.le_of_ble_eq_true rfl),fun tt ft=>?_⟩)⟩⟩)⟩⟩
         have St:=Same.new (.tup [.int l.1,.int (if wv.2 > l.2 then wv.2 else l.2)]) ft
         refine ⟨_,rfl,_,rfl,D,_,_,ys.length - 1,rfl,rfl,St _ _ hD,qcl (by cases ys with | nil=>cases hzl | cons y ys=>simp),?_⟩
         refine ⟨_,_,ys.set (ys.length - 1) (.ref tt),rfl,(fun c o e n=>?_),qc,?_⟩
         · rw [qh n]; exact St _ _ (B c o e n)
         · rw [qda ea g',← ty.1]
           exact (TupL.set (ty.same St) (i:=ys.length - 1) (p:=(l.1,if wv.2 > l.2 then wv.2 else l.2)) qc).put (St _ _ hD)
       · have g':¬ wv.1≤l.2+1:=g
         refine ⟨_,rfl,.inl ⟨rfl,_,SqL.of hD⟩,_,rfl,_,rfl,qo (Nat.le_of_ble_eq_true rfl),fun tt ft=>?_⟩
         have St:=Same.new (.tup [.int wv.1,.int wv.2]) ft
         refine ⟨D,_,_,rfl,rfl,St _ _ hD,qx (by omega),?_⟩
         refine ⟨_,_,ys++[.ref tt],rfl,(fun c o e n=>?_),qc,?_⟩
         · rw [qh n]; exact St _ _ (B c o e n)
         · rw [qeq ea g']
           exact ((ty.same St).snoc (p:=wv) qc).put (St _ _ hD)
   · rintro σ H3 ⟨s2,s3,ys,rfl,B,hD,ty⟩
     have glen:=jc ss ss.length
     rw [tz.1] at ty
     rw [List.take_length] at ty glen
     obtain ⟨f1,f2⟩:=qdK ss [] ⟨fun _ z=>(nomatch z),List.Pairwise.nil⟩ oks ord fun _ z=>nomatch z
     refine ⟨_,rfl,kk D _ H3 (S0.none fD) (fun c o e=>?_) ⟨ys,hD,ty⟩ f1 (by omega) fun n=>?_⟩
     · have n:c≠D:=qi (S0 _ _ e) fD
       exact B _ _ (SG _ _ (S0 _ _ e)) n
     · rw [f2,qel hss,mok]
       exact ⟨fun h=>h.elim (fun ⟨_,z,_⟩=>nomatch z) id,.inr⟩
end
end K37
namespace K37
open PySem L2 PySem.NumText PyProof.Rows KC M04
section
variable {P:Program} {w:World} {K:PySem.W.Frag} {mg:Str->Option Value} {base:Heap}
end
abbrev rD (r:Int×Int):PyData:=.tuple [.int r.1,.int r.2]
theorem qfn {H:Hp}:∀ {rows:List (Int×Int)} {zs:List V},TupL pr H zs rows->DVs H zs (rows.map rD)∧PyData.canLayAll0 (rows.map rD)=true∧PyData.depthAll (rows.map rD)≤2
 | [],zs,h=>by
   have:zs=[]:=List.eq_nil_of_length_eq_zero h.1
   subst this
   exact ⟨.nil,rfl,by simp [PyData.depthAll]⟩
 | r::rows,zs,h=>by
   cases zs with
   | nil=>have:=h.1; simp at this
   | cons z zs =>
     obtain ⟨t,rfl,ht⟩:=h.2 0 z r rfl rfl
     obtain ⟨h1,h2,h3⟩:=qfn (rows:=rows) (zs:=zs) ⟨by have:=h.1; simpa using this,fun i z p e1 e2=>h.2 (i+1) z p (by simpa using e1) (by simpa using e2)⟩
     refine ⟨.cons (.tup (.inl ht) (.cons (.int _) (.cons (.int _) .nil))) h1,?_,?_⟩
     · rw [List.map_cons]
       simp only [PyData.canLayAll0,PyData.canLay0,h2]
       rfl
     · rw [List.map_cons]
       simp only [PyData.depthAll,PyData.depth]
       omega
theorem qim {rows:List (Int×Int)} (h1:PyData.canLayAll0 (rows.map rD)=true) (h2:PyData.depthAll (rows.map rD)≤2):PyData.canLay0 (.list (rows.map rD))=true∧SeqAt.shaped (.list (rows.map rD))=true:=by
 have cl:PyData.canLay0 (.list (rows.map rD))=true:=by simp only [PyData.canLay0,h1]
 refine ⟨cl,?_⟩
 unfold SeqAt.shaped
 rw [cl,Bool.true_and]
 refine decide_eq_true ?_
 simp only [PyData.depth]
 omega
theorem qju {H:Hp} {a b:Addr} {ws:List (Int×Int)} {Q:VK} (h1:Rs H a ws) (h2:H b=some (.lst [])) (q:Q (.bl (!ws.isEmpty)) H):qjT (.ref a) (.ref b) H Q:=by
 obtain ⟨zs,ha,ta⟩:=h1
 obtain ⟨d1,d2,d3⟩:=qfn ta
 obtain ⟨cl,sh⟩:=qim d2 d3
 refine .inr ⟨_,_,.lst (.inl ha) d1,.lst (.inl h2) .nil,sh,rfl,?_⟩
 cases ws with
 | nil=>exact q
 | cons w ws=>exact q
abbrev jf (ss:List (Int×Int)) (i:Nat):List (Int×Int):=((ss.take i).filter okw).foldl qan []
theorem qjz {ss:List (Int×Int)} {i:Nat} {w:Int×Int} (h:ss[i]?=some w) (g:w.1≤w.2):jf ss (i+1)=qan (jf ss i) w:=by
 unfold jf
 rw [List.take_add_one,h,List.filter_append,List.foldl_append]
 show List.foldl qan _ (List.filter okw [w])=_
 rw [show List.filter okw [w]=[w] by simp [g]]; rfl
theorem qkl {ss:List (Int×Int)} {i:Nat} {w:Int×Int} (h:ss[i]?=some w) (g:¬ w.1≤w.2):jf ss (i+1)=jf ss i:=by
 unfold jf
 rw [List.take_add_one,h,List.filter_append,List.foldl_append]
 show List.foldl qan _ (List.filter okw [w])=_
 rw [show List.filter okw [w]=[] by simp [g]]; rfl
theorem qhS (ss:List (Int×Int)) (i:Nat):(jf ss i).length≤ss.length:=by
 have:=jc ((ss.take i).filter okw) ((ss.take i).filter okw).length
 rw [List.take_length] at this
 refine Nat.le_trans this (Nat.le_trans (List.length_filter_le _ _) (List.length_take_le' _ _))
inductive JZ (vs:List V) (H:Hp) (Q:VK):Prop
 | mk (q:Addr) (ws:List (Int×Int)) (h1:vs=[.ref q]) (h2:Rs H q ws) (h3:ws.length < 64) (h4:∀ (d:Addr) (r:List (Int×Int)) (H':Hp),H d=none->Same H H'->Rs H' d r->Zg r->r.length≤ws.length->(∀ n,Mem r n↔Mem ws n)->Q (.ref d) H'):JZ vs H Q
def Jw:Sp:=fun vs H Q _=>JZ vs H Q
section
variable {P:Program} {w:World} {K:PySem.W.Frag} {mg:Str->Option Value} {base:Heap}
theorem qbC {a:Ad} (T:Txt K mg a):qA P w K mg base CX0 1 a.f_s a.fd_s ["_law_stretches"] Jw:=by
 refine T.d_s.F.ok sc_Ljoined (fun vs H Q E h=>?_) (fun cdv A outer s H vs Q E hr h=>?_)
 · obtain ⟨q,ws,rfl,hrs,few,kk⟩:=h
   rfl
 · obtain ⟨q,ws,rfl,hrs,few,kk⟩:=h
   have hu:=qJ hr
   have hU:=hr.units
   refine ⟨_,(qf (qH (i:=1) sc_Ljoined.nd rfl (Or.inl rfl) (qQ qb))
     (qf (Zu PassesOwn.never rfl (zJ (qp qbI (by rfl) T.n_sorted Za (qa (pv 0) qb))) (ZL rfl (qD (qv (i:=2) (sc_Ljoined.nd) rfl (Or.inl rfl)) (qD (qv (i:=3) (sc_Ljoined.nd) rfl (Or.inl rfl)) QE)))
       (qg (qR (PW.pt (J1 (qu qb4 (pv 2) (pv 3) (qG _)) (J1 (qu (uNe hU) (pv 1) (qQ qb) (qG _)) (jS (qu qb4 (pv 2) (qB jY (qC (r:=rIx K) qr (qC (r:=rIx K) qr (pv 1) (jx QH qe) (fun _ _=>rfl)) qe (fun _ _=>rfl)) qe) (qG _))))))
         (qg (jJ (zR (qa (qC (r:=rIx K) qr (qC (r:=rIx K) qr (pv 1) (jx QH qe) (fun _ _=>rfl)) qe (fun _ _=>rfl)) (qa (qp (Ql rfl) (by rfl) T.n_max Qn (qa (qC (r:=rIx K) qr (qC (r:=rIx K) qr (pv 1) (jx QH qe) (fun _ _=>rfl)) qe (fun _ _=>rfl)) (qa (pv 3) qb))) qb))) (qaL (pv 1) (jx QH qe) ZD)))
         (qg (qR (qu qb4 (pv 2) (pv 3) (qG _))
           (qg (qF (Jk PySem.F.plainAttrs_list PySem.F.slot_list_append PySem.F.type_list_append zK (pv 1) (qa (zR (qa (pv 2) (qa (pv 3) qb))) qb))))
           qw)))))
     (qg (qy (pv 1))))),?_⟩
   try dsimp only [zv,Cx.nox]
   refine ⟨qo (Nat.le_of_ble_eq_true rfl),fun D fD=>?_⟩
   have SD:=Same.new (.lst []) fD
   have hD0:(upd H D (.lst [])) D=some (.lst []):=qc
   obtain ⟨zs,hq,tp⟩:=hrs.same SD
   try unfold qX
   try dsimp only
   generalize upd H D (.lst [])=G at SD hD0 hq tp ⊢
   have hl:zs.length=ws.length:=tp.1
   refine ⟨_,rfl,q,zs,ws.map g2,2,rfl,SqL.of hq,qe3 tp,(fun r hr=>by obtain ⟨w,_,rfl⟩:=List.mem_map.mp hr; rfl),(by decide),(by omega),fun p zs' rs' fp hp tI ho=>?_⟩
   obtain ⟨ss,rfl,hss⟩:=qeg hp
   have ord:=qhN ho
   have lss:ss.length=ws.length:=hss.length_eq
   have tz0:TupL pr G zs' ss:=qfM tI
   have Sp:=Same.new (.lst zs') fp
   have tz:=tz0.same Sp
   have hp1:(upd G p (.lst zs')) p=some (.lst zs'):=qc
   have hD1:=Sp _ _ hD0
   have npD:p≠D:=fun e=>by rw [e,hD0] at fp; cases fp
   have SG:=SD.trans Sp
   try dsimp only
   generalize upd G p (.lst zs')=G1 at tz hp1 hD1 SG ⊢
   refine ⟨p,rfl,⟨_,SqL.of hp1⟩,ju (D:={ nx:=qh9 (qi0 1) { nx:=fun _ H'=>Q .non H',rt:=Q },rt:=Q }) (K:=K) (a:=p) (xs:=zs') (fun i σ H3=>∃ (s2 s3:Option V) (ys:List V),σ=[some (.ref q),some (.ref D),s2,s3]∧But D G1 H3∧H3 D=some (.lst ys)∧TupL pr H3 ys (jf ss i)) ⟨none,none,[],rfl,(fun c o e _=>e),hD1,.nil⟩ (fun i σ H3 _ ⟨_,_,_,_,B,_⟩=>SqL.of (B _ _ hp1 npD)) ?_ ?_⟩
   · rintro i z σ H3 hz ⟨s2,s3,ys,rfl,B,hD,ty⟩
     obtain ⟨wv,t,hw,rfl,ht⟩:=tz.of hz
     have ntD:t≠D:=zi ht hD1 (by intro z; cases z)
     have ht3:=B _ _ ht ntD
     have ly:ys.length≤64:=by
       have:=qhS ss i
       rw [ty.1]; omega
     refine ⟨t,_,rfl,SqT.of ht3,rfl,_,_,rfl,_,_,rfl,rfl,?_⟩
     refine ⟨_,rfl,_,rfl,_,_,rfl,rfl,_,rfl,Zf (fun g=>?_) (fun g=>qep ?_)⟩
     · have g0:wv.1≤wv.2:=g
       rw [qjz hw g0]
       generalize jf ss i=acc at ty ⊢
       refine ⟨_,rfl,qo (Nat.le_of_ble_eq_true rfl),fun nl fnl=>?_⟩
       have Sn:=Same.new (.lst []) fnl
       have B1:But D G1 (upd H3 nl (.lst [])):=B.same Sn
       have hD2:=Sn _ _ hD
       have ty2:=ty.same Sn
       have enl:(upd H3 nl (.lst [])) nl=some (.lst []):=qc
       try dsimp only
       generalize upd H3 nl (.lst [])=H4 at B1 hD2 ty2 enl ⊢
       refine qju (ws:=acc) ⟨ys,hD2,ty2⟩ enl ?_
       cases ea:acc.getLast? with
       | none =>
         have e0:acc=[]:=List.getLast?_eq_none_iff.mp ea
         subst e0
         have ey:ys=[]:=List.eq_nil_of_length_eq_zero ty.1
         subst ey
         refine ⟨_,rfl,qep (qep ?_)⟩
         refine ⟨_,rfl,_,rfl,_,_,rfl,rfl,_,rfl,Zf (fun _=>?_) (fun g2=>absurd g g2)⟩
         refine ⟨_,rfl,.inl ⟨rfl,_,SqL.of hD2⟩,_,rfl,_,rfl,qo (Nat.le_of_ble_eq_true rfl),fun tt ft=>?_⟩
         have St:=Same.new (.tup [.int wv.1,.int wv.2]) ft
         refine ⟨D,_,_,rfl,rfl,St _ _ hD2,qx (by omega),?_⟩
         refine ⟨_,_,[]++[.ref tt],rfl,(fun c o e n=>?_),qc,?_⟩
         · rw [qh n]; exact St _ _ (B1 c o e n)
         · exact ((TupL.nil (f:=pr)).snoc (p:=wv) qc).put (St _ _ hD2)
       | some l =>
         obtain ⟨tl,hzl,htl⟩:=TupL.last ty2 ea
         have ie:(!acc.isEmpty)=true:=by
           cases acc with
           | nil=>cases ea
           | cons y ys=>rfl
         rw [ie]
         refine ⟨_,rfl,qf3 ?_⟩
         refine ⟨_,rfl,_,rfl,_,rfl,.inl ⟨D,_,_,_,rfl,rfl,SqL.of hD2,Zb hzl,.inr (.inl ⟨tl,_,_,_,rfl,rfl,SqT.of htl,rfl,.inl ⟨_,_,rfl,rfl,_,_,rfl,rfl,_,rfl,Zf (fun g=>?_) (fun g=>?_)⟩⟩)⟩⟩
         · have g':wv.1≤l.2+1:=g
           refine ⟨_,rfl,_,rfl,.inl ⟨D,_,_,_,rfl,rfl,SqL.of hD2,Zb hzl,.inr (.inl ⟨tl,_,_,_,rfl,rfl,SqT.of htl,rfl,_,rfl,_,rfl,.inl ⟨D,_,_,_,rfl,rfl,SqL.of hD2,Zb hzl,.inr (.inl ⟨tl,_,_,_,rfl,rfl,SqT.of htl,rfl,_,rfl,_,_,rfl,qo (Nat.le_of_ble_eq_true rfl),fun tt ft=>?_⟩)⟩⟩)⟩⟩
           have St:=Same.new (.tup [.int l.1,.int (if wv.2 > l.2 then wv.2 else l.2)]) ft
           refine ⟨_,rfl,_,rfl,D,_,_,ys.length - 1,rfl,rfl,St _ _ hD2,qcl (by cases ys with | nil=>cases hzl | cons y ys=>simp),?_⟩
           refine ⟨_,_,ys.set (ys.length - 1) (.ref tt),rfl,(fun c o e n=>?_),qc,?_⟩
           · rw [qh n]; exact St _ _ (B1 c o e n)
           · rw [qda ea g',← ty2.1]
             exact (TupL.set (ty2.same St) (i:=ys.length - 1) (p:=(l.1,if wv.2 > l.2 then wv.2 else l.2)) qc).put (St _ _ hD2)
         · have g':¬ wv.1≤l.2+1:=g
           refine ⟨_,rfl,_,rfl,_,_,rfl,rfl,_,rfl,Zf (fun _=>?_) (fun g2=>absurd g0 g2)⟩
           refine ⟨_,rfl,.inl ⟨rfl,_,SqL.of hD2⟩,_,rfl,_,rfl,qo (Nat.le_of_ble_eq_true rfl),fun tt ft=>?_⟩
           have St:=Same.new (.tup [.int wv.1,.int wv.2]) ft
           refine ⟨D,_,_,rfl,rfl,St _ _ hD2,qx (by omega),?_⟩
           refine ⟨_,_,ys++[.ref tt],rfl,(fun c o e n=>?_),qc,?_⟩
           · rw [qh n]; exact St _ _ (B1 c o e n)
           · rw [qeq ea g']
             exact ((ty2.same St).snoc (p:=wv) qc).put (St _ _ hD2)
     · have g0:¬ wv.1≤wv.2:=g
       rw [qkl hw g0]
       refine ⟨_,rfl,_,rfl,_,_,rfl,rfl,_,rfl,Zf (fun g2=>absurd g2 g) (fun _=>?_)⟩
       exact ⟨_,_,ys,rfl,B,hD,ty⟩
   · rintro σ H3 ⟨s2,s3,ys,rfl,B,hD,ty⟩
     rw [tz.1] at ty
     unfold jf at ty
     rw [List.take_length] at ty
     have oks:∀ w∈ss.filter okw,w.1≤w.2:=fun w hw=>of_decide_eq_true (List.mem_filter.mp hw).2
     obtain ⟨f1,f2⟩:=qdK (ss.filter okw) [] ⟨fun _ z=>(nomatch z),List.Pairwise.nil⟩ oks (ord.filter _) fun _ z=>nomatch z
     have glen:=qhS ss ss.length
     unfold jf at glen
     rw [List.take_length] at glen
     refine ⟨_,rfl,kk D _ H3 fD (fun c o e=>?_) ⟨ys,hD,ty⟩ f1 (by omega) fun n=>?_⟩
     · have n:c≠D:=qi e fD
       exact B _ _ (SG _ _ e) n
     · rw [f2,qhQ,qel hss]
       exact ⟨fun h=>h.elim (fun ⟨_,z,_⟩=>nomatch z) id,.inr⟩
end
end K37
namespace K37
open PySem L2 PySem.NumText PyProof.Rows KC M04
section
variable {P:Program} {w:World} {K:PySem.W.Frag} {mg:Str->Option Value} {base:Heap}
end
abbrev pr3:Int×Int×Int->List V:=fun p=>[.int p.1,.int p.2.1,.int p.2.2]
def ends (rows:List (Int×Int)):List Int:=(rows.drop 1).map (fun r=>r.1 - 1)++[1000000000]
def nxt:List (Int×Int)->Int
 | []=>1000000000
 | r::_=>r.1 - 1
def pcs:List (Int×Int)->List (Int×Int×Int)
 | []=>[]
 | r::rs=>(r.1,nxt rs,r.2)::pcs rs
theorem Z7:∀ rows:List (Int×Int),(pcs rows).length=rows.length
 | []=>rfl
 | r::rs=>by show (pcs rs).length+1=rs.length+1; rw [Z7 rs]
theorem qeu {rows:List (Int×Int)} (h:0 < rows.length):(ends rows).length=rows.length:=by
 unfold ends
 rw [List.length_append,List.length_map,List.length_drop]
 show rows.length - 1+1=rows.length
 omega
theorem qde (r r':Int×Int) (rs:List (Int×Int)):ends (r::r'::rs)=(r'.1 - 1)::ends (r'::rs):=rfl
theorem qfA:∀ (rows:List (Int×Int)) (i:Nat) (r:Int×Int) (e:Int),rows[i]?=some r->(ends rows)[i]?=some e->(pcs rows)[i]?=some (r.1,e,r.2)
 | [],i,r,e,h,_=>by simp at h
 | [r0],i,r,e,h,h'=>by
   cases i with
   | zero=>cases h; cases h'; rfl
   | succ i=>simp at h
 | r0::r1::rs,i,r,e,h,h'=>by
   cases i with
   | zero =>
     cases h
     rw [qde] at h'
     cases h'
     rfl
   | succ i =>
     rw [qde] at h'
     exact qfA (r1::rs) i r e h h'
theorem qkT (zs:List V) (h:0 < zs.length):qeV zs (some 1) none=zs.drop 1:=by
 unfold qeV
 rw [show HT.sIx zs.length 0 (some 1)=min 1 zs.length from HT.sIx_nat _ _ 1,HT.sIx_none,Nat.min_eq_left h]
 rw [List.take_of_length_le (by rw [List.length_drop]; exact Nat.le_refl _)]
theorem qS {rows:List (Int×Int)} (h:Good rows):0 < rows.length:=by
 obtain ⟨n,hn⟩:=h.fst
 cases rows with
 | nil=>cases hn
 | cons r rs=>exact Nat.succ_pos _
inductive JU (vs:List V) (H:Hp) (Q:VK):Prop
 | mk (q:Addr) (rows:List (Int×Int)) (h1:vs=[.ref q]) (h2:Rs H q rows) (h3:Good rows) (h4:∀ (d:Addr) (zs:List V) (H':Hp),H d=none->Same H H'->H' d=some (.lst zs)->TupL pr3 H' zs (pcs rows)->Q (.ref d) H'):JU vs H Q
def Jv:Sp:=fun vs H Q _=>JU vs H Q
section
variable {P:Program} {w:World} {K:PySem.W.Frag} {mg:Str->Option Value} {base:Heap}
theorem qbB {a:Ad} (T:Txt K mg a):qA P w K mg base CX0 1 a.f_r a.fd_r ["_law_rows_here"] Jv:=by
 refine T.d_r.F.ok sc_Lpieces (fun vs H Q E h=>?_) (fun cdv A outer s H vs Q E hr h=>?_)
 · obtain ⟨k,rows,rfl,⟨zs,hk,tp⟩,good,kk⟩:=h
   rfl
 · obtain ⟨k,rows,rfl,⟨zs,hk,tp⟩,good,kk⟩:=h
   have hu:=qJ hr
   have hU:=hr.units
   refine ⟨_,(qf (qH (i:=1) sc_Lpieces.nd rfl (Or.inl rfl) (qB jY (QF rfl (CompOk.def ["_law_row"] [none]) (zJ (Ji uSl (pv 0) (JJ qe) qb1)) (fun _ _ _ _ _=>(qv (i:=0) (show List.Nodup (["_law_row"]:List Str) by decide +kernel) rfl (Or.inl rfl))) (fun _ _ _ _ _=>QZ) (fun _ _ _ _ _=>(qB zH (qC (r:=rIx K) qr (pv 0) qe (fun _ _=>rfl)) qe))) (qQ (qa (qB Qo qe qe) qb))))
     (qg (qy (QF rfl (CompOk.def ["_law_row","_law_end"] [none,none]) (qhL rfl T.n_zip (qa (pv 0) (qa (pv 1) qb))) (fun _ _ _ _ _=>(show PG _ _ (qiO K 2 _) from (ZL rfl (qD (qv (i:=0) (show List.Nodup (["_law_row","_law_end"]:List Str) by decide +kernel) rfl (Or.inl rfl)) (qD (qv (i:=1) (show List.Nodup (["_law_row","_law_end"]:List Str) by decide +kernel) rfl (Or.inl rfl)) QE))))) (fun _ _ _ _ _=>QZ) (fun _ _ _ _ _=>(zR (qa (qC (r:=rIx K) qr (pv 0) qe (fun _ _=>rfl)) (qa (pv 1) (qa (qC (r:=rIx K) qr (pv 0) qe (fun _ _=>rfl)) qb))))))))),?_⟩
   try dsimp only [zv,Cx.nox]
   have hl:zs.length=rows.length:=tp.1
   have pos:=qS good
   have few:=good.few
   refine ⟨_,rfl,_,rfl,.inl ⟨k,_,rfl,SqL.of hk,fun sl fsl=>?_⟩⟩
   rw [qkT zs (by omega)]
   have B1:=Same.new (.lst (zs.drop 1)) fsl
   refine ⟨sl,rfl,⟨_,SqL.of qc⟩,fun D fD=>?_⟩
   have B2:=B1.then (.lst []) fD
   refine zM (K:=K) (a:=sl) (xs:=zs.drop 1) (D:=D) (fun i σ H2=>∃ c0:Option V,σ=[c0]∧Same (upd H sl (.lst (zs.drop 1))) H2∧H2 D=some (.lst (((rows.drop 1).take i).map fun r=>V.int (r.1 - 1)))) ⟨none,rfl,Same.new _ fD,qc⟩ (fun i σ H2 _ ⟨_,_,S,_⟩=>SqL.of (S _ _ qc)) ?_ ?_
   · rintro i z σ H2 hz ⟨c0,rfl,S,hD⟩
     have hz':zs[i+1]?=some z:=by rw [List.getElem?_drop] at hz; rw [Nat.add_comm]; exact hz
     have hi:i+1 < rows.length:=by rw [← hl]; exact (List.getElem?_eq_some_iff.mp hz').1
     obtain ⟨r,hr'⟩:∃ r,rows[i+1]?=some r:=⟨_,List.getElem?_eq_getElem hi⟩
     obtain ⟨u,rfl,hu'⟩:=tp.2 (i+1) z r hz' hr'
     have hu2:=S _ _ (B1 _ _ hu')
     have hrd:(rows.drop 1)[i]?=some r:=by rw [List.getElem?_drop,Nat.add_comm]; exact hr'
     have et:(rows.drop 1).take (i+1)=(rows.drop 1).take i++[r]:=by rw [List.take_add_one,hrd]; rfl
     refine ⟨_,rfl,.inr (.inl ⟨u,_,_,_,rfl,rfl,SqT.of hu2,rfl,_,_,rfl,rfl,_,hD,qx ?_,_,rfl,S.put fD _,?_⟩)⟩
     · rw [List.length_map,List.length_take,List.length_drop]; omega
     · rw [qc,et,List.map_append]; rfl
   rintro σ H2 ⟨c0,rfl,S,hD⟩
   rw [List.length_drop,hl,show rows.length - 1=(rows.drop 1).length by rw [List.length_drop],List.take_length] at hD
   refine ⟨_,_,rfl,rfl,⟨by decide,by decide,by decide⟩,qo (Nat.le_of_ble_eq_true rfl),fun l1 fl1=>?_⟩
   rw [show (10:Int) ^ (9:Int).toNat=1000000000 by decide] at *
   have C1:=Same.new (.lst [.int 1000000000]) fl1
   refine .inr (.inl ⟨D,l1,_,_,rfl,rfl,C1 _ _ hD,qc,qx (by rw [List.length_map,List.length_drop]; omega),fun e fe=>?_⟩)
   have he:(upd (upd H2 l1 (.lst [.int 1000000000])) e (.lst (((rows.drop 1).map fun r=>V.int (r.1 - 1))++[.int 1000000000]))) e=some (.lst ((ends rows).map V.int)):=by
     rw [qc]
     unfold ends
     rw [List.map_append,List.map_map]
     rfl
   have C2:=Same.new (.lst (((rows.drop 1).map fun r=>V.int (r.1 - 1))++[.int 1000000000])) fe
   have SS:=((B1.trans S).trans C1).trans C2
   try dsimp only
   generalize upd (upd H2 l1 (.lst [.int 1000000000])) e (.lst (((rows.drop 1).map fun r=>V.int (r.1 - 1))++[.int 1000000000]))=G at he SS ⊢
   have hkG:=SS _ _ hk
   have tpG:=tp.same SS
   refine ⟨_,rfl,_,rfl,false,k,e,rfl,⟨_,SqL.of hkG⟩,⟨_,SqL.of he⟩,fun D2 fD2=>?_⟩
   have el:zs.length=((ends rows).map V.int).length:=by rw [List.length_map,qeu pos,hl]
   refine qex (K:=K) (t:=false) (a:=k) (b:=e) (xs:=zs) (ys:=(ends rows).map V.int) (D:=D2) (fun i σ H3=>∃ (c0 c1:Option V) (ws:List V),σ=[c0,c1]∧Same G H3∧H3 D2=some (.lst ws)∧TupL pr3 H3 ws ((pcs rows).take i)) el ⟨none,none,[],rfl,Same.new _ fD2,qc,.nil⟩ (fun i σ H3 _ ⟨_,_,_,_,S3,_⟩=>⟨SqL.of (S3 _ _ hkG),SqL.of (S3 _ _ he)⟩) ?_ ?_
   · rintro i z y σ H3 p hz hy ⟨c0,c1,ws,rfl,S3,hD2,tw⟩ fp
     obtain ⟨ey,hey,rfl⟩:=qdE hy
     obtain ⟨r,u,hr',rfl,hu'⟩:=tpG.of hz
     have hpc:=qfA rows i r ey hr' hey
     have P1:=Same.new (.tup [.ref u,.int ey]) fp
     have S4:=S3.trans P1
     have hu2:=S4 _ _ hu'
     have et:(pcs rows).take (i+1)=(pcs rows).take i++[(r.1,ey,r.2)]:=by rw [List.take_add_one,hpc]; rfl
     refine ⟨p,_,rfl,SqT.of qc,rfl,_,_,rfl,_,_,rfl,rfl,?_⟩
     refine ⟨_,rfl,.inr (.inl ⟨u,_,_,_,rfl,rfl,SqT.of hu2,rfl,_,rfl,_,rfl,.inr (.inl ⟨u,_,_,_,rfl,rfl,SqT.of hu2,rfl,qo (Nat.le_of_ble_eq_true rfl),fun tt ft=>?_⟩)⟩)⟩
     have P2:=Same.new (.tup [.int r.1,.int ey,.int r.2]) ft
     have hD3:=P2 _ _ (P1 _ _ hD2)
     have lw:ws.length≤21:=by rw [tw.1,List.length_take,Z7]; omega
     refine ⟨_,hD3,qx (by omega),_,_,ws++[.ref tt],rfl,(S4.trans P2).put fD2 _,qc,?_⟩
     rw [et]
     exact (((tw.same P1).same P2).snoc (p:=(r.1,ey,r.2)) qc).put hD3
   · rintro σ H3 ⟨c0,c1,ws,rfl,S3,hD2,tw⟩
     rw [hl,show rows.length=(pcs rows).length by rw [Z7],List.take_length] at tw
     exact kk D2 ws H3 (SS.none fD2) (SS.trans S3) hD2 tw
end
end K37
namespace K37
open PySem L2 PySem.NumText PyProof.Rows KC M04
section
variable {P:Program} {w:World} {K:PySem.W.Frag} {mg:Str->Option Value} {base:Heap}
end
def mp (lo hi:Int) (p:Int×Int×Int):Int×Int:=(if lo - p.2.2 > p.1 then lo - p.2.2 else p.1,if hi - p.2.2 < p.2.1 then hi - p.2.2 else p.2.1)
def shw (rows:List (Int×Int)) (lo hi:Int):List (Int×Int):=(pcs rows).map (mp lo hi)
inductive qau (vs:List V) (H:Hp) (Q:VK):Prop
 | mk (q:Addr) (rows:List (Int×Int)) (lo hi:Int) (h1:vs=[.ref q,.int lo,.int hi]) (h2:Rs H q rows) (h3:Good rows) (h4:∀ (d:Addr) (r:List (Int×Int)) (H':Hp),H d=none->Same H H'->Rs H' d r->Zg r->r.length≤21->(∀ n,Mem r n↔Mem (shw rows lo hi) n)->Q (.ref d) H'):qau vs H Q
def qcx:Sp:=fun vs H Q _=>qau vs H Q
section
variable {P:Program} {w:World} {K:PySem.W.Frag} {mg:Str->Option Value} {base:Heap}
theorem qfF {a:Ad} (T:Txt K mg a):qA P w K mg base CX0 2 a.f_U a.fd_U ["_law_rows_here","_law_low","_law_high"] qcx:=by
 have G_s:qA P w K mg base CX0 1 a.f_s a.fd_s ["_law_stretches"] Jw:=qbC T
 have G_r:qA P w K mg base CX0 1 a.f_r a.fd_r ["_law_rows_here"] Jv:=qbB T
 refine T.d_U.F.ok qfj (fun vs H Q E h=>?_) (fun cdv A outer s H vs Q E hr h=>?_)
 · obtain ⟨q,rows,lo,hi,rfl,hrs,good,kk⟩:=h
   rfl
 · obtain ⟨q,rows,lo,hi,rfl,hrs,good,kk⟩:=h
   have hu:=qJ hr
   have hU:=hr.units
   have h_s:Room (1) _:=hr.mono (by decide)
   have h_r:Room (1) _:=hr.mono (by decide)
   refine ⟨_,(qg (qy (qj G_s h_s rfl T.d_s.m T.d_s.k T.d_s.b .nil qq (qa (QF rfl (CompOk.def ["_law_a","_law_b","_law_shift_here","_law_low","_law_high"] [none,none,none,some 1,some 2]) (zJ (qj G_r h_r rfl T.d_r.m T.d_r.k T.d_r.b .nil qq (qa (pv 0) qb))) (fun _ _ _ _ _=>(show PG _ _ (qiO K 3 _) from (ZL rfl (qD (qv (i:=0) (show List.Nodup (["_law_a","_law_b","_law_shift_here","_law_low","_law_high"]:List Str) by decide +kernel) rfl (Or.inl rfl)) (qD (qv (i:=1) (show List.Nodup (["_law_a","_law_b","_law_shift_here","_law_low","_law_high"]:List Str) by decide +kernel) rfl (Or.inl rfl)) (qD (qv (i:=2) (show List.Nodup (["_law_a","_law_b","_law_shift_here","_law_low","_law_high"]:List Str) by decide +kernel) rfl (Or.inl rfl)) QE)))))) (fun _ _ _ _ _=>QZ) (fun _ _ _ _ _=>(zR (qa (qp (Ql rfl) (by rfl) T.n_max Qn (qa (pv 0) (qa (qB zH (pv 3) (pv 2)) qb))) (qa (qp (Zx rfl) (by rfl) T.n_min Zy (qa (pv 1) (qa (qB zH (pv 4) (pv 2)) qb))) qb))))) qb)))),?_⟩
   try dsimp only [zv,Cx.nox]
   have lp:=Z7 rows
   have few:=good.few
   refine ⟨_,rfl,q,rows,rfl,hrs,good,fun d zs H1 fd S1 hd tz=>⟨d,rfl,⟨_,SqL.of hd⟩,fun C fC=>?_⟩⟩
   refine zM (K:=K) (a:=d) (xs:=zs) (D:=C) (fun i σ H2=>∃ (c0 c1 c2:Option V) (cs:List V),σ=[c0,c1,c2,some (.int lo),some (.int hi)]∧Same H1 H2∧H2 C=some (.lst cs)∧TupL pr H2 cs (((pcs rows).take i).map (mp lo hi))) ⟨none,none,none,[],rfl,Same.new _ fC,qc,.nil⟩ (fun i σ H2 _ ⟨_,_,_,_,_,S,_⟩=>SqL.of (S _ _ hd)) ?_ ?_
   · rintro i z σ H2 hz ⟨c0,c1,c2,cs,rfl,S,hC,tc⟩
     obtain ⟨r,u,hr',rfl,hu'⟩:=tz.of hz
     have hu2:=S _ _ hu'
     have et:(pcs rows).take (i+1)=(pcs rows).take i++[r]:=by rw [List.take_add_one,hr']; rfl
     have lc:cs.length≤21:=by rw [tc.1,List.length_map,List.length_take]; omega
     refine ⟨u,_,rfl,SqT.of hu2,rfl,_,_,rfl,_,_,rfl,_,_,rfl,rfl,?_⟩
     refine ⟨_,rfl,_,rfl,_,rfl,_,_,rfl,rfl,_,_,rfl,_,rfl,_,rfl,_,rfl,_,_,rfl,rfl,_,_,rfl,qo (Nat.le_of_ble_eq_true rfl),fun tt ft=>?_⟩
     have St:=Same.new (.tup (pr (mp lo hi r))) ft
     have hC2:=St _ _ hC
     refine ⟨_,hC2,qx (by omega),_,_,_,cs++[.ref tt],rfl,(S.trans St).put fC _,qc,?_⟩
     rw [et,List.map_append]
     exact ((tc.same St).snoc (p:=mp lo hi r) qc).put hC2
   rintro σ H2 ⟨c0,c1,c2,cs,rfl,S,hC,tc⟩
   rw [tz.1,List.take_length] at tc
   refine ⟨C,(pcs rows).map (mp lo hi),rfl,⟨cs,hC,tc⟩,(by rw [List.length_map]; omega),fun e r H3 fe S3 R can lr mem=>?_⟩
   rw [List.length_map] at lr
   exact kk e r H3 ((S1.trans S).none fe) ((S1.trans S).trans S3) R can (by omega) mem
end
end K37
namespace K37
open PySem L2 PySem.NumText PyProof.Rows KC M04
section
variable {P:Program} {w:World} {K:PySem.W.Frag} {mg:Str->Option Value} {base:Heap}
end
def qjG (k:Addr):List (Str×V):=qcs "kept" (.ref k) []
theorem qdb (k:Addr):(qjG k).lookup ("kept":Str)=some (.ref k):=by
 unfold qjG
 rw [ZG,if_pos rfl]
theorem qdL (k:Addr) {m:Str} (h1:¬ m="kept"):(qjG k).lookup m=none:=by
 unfold qjG
 rw [ZG,if_neg h1]
 rfl
inductive qkV (a:Ad) (H:Hp) (x:Addr) (rows:List (Int×Int)):Prop
 | mk (k dx:Addr) (zs:List V) (h1:H x=some (.ins a.c_Table dx (qjG k))) (h2:H k=some (.lst zs)) (h3:TupL pr H zs rows):qkV a H x rows
def Tb (a:Ad) (H:Hp) (x:Addr) (rows:List (Int×Int)):Prop:=qkV a H x rows
inductive Zj (a:Ad) (vs:List V) (H:Hp) (Q:VK):Prop
 | mk (x:Addr) (rows:List (Int×Int)) (h1:vs=[.ref x]) (h2:Tb a H x rows) (h3:Good rows) (h4:∀ (d:Addr) (zs:List V) (H':Hp),H d=none->Same H H'->H' d=some (.lst zs)->TupL pr3 H' zs (pcs rows)->Q (.ref d) H'):Zj a vs H Q
def ZW (a:Ad):Sp:=fun vs H Q _=>Zj a vs H Q
inductive zQ (a:Ad) (vs:List V) (H:Hp) (Q:VK):Prop
 | mk (x:Addr) (rows:List (Int×Int)) (lo hi:Int) (h1:vs=[.ref x,.int lo,.int hi]) (h2:Tb a H x rows) (h3:Good rows) (h4:(-10000000000≤lo∧lo≤10000000000)) (h5:(-10000000000≤hi∧hi≤10000000000)) (h6:∀ (d:Addr) (r:List (Int×Int)) (H':Hp),H d=none->Same H H'->Rs H' d r->Zg r->r.length≤21->(∀ n,Mem r n↔Mem (shw rows lo hi) n)->Q (.ref d) H'):zQ a vs H Q
def zX (a:Ad):Sp:=fun vs H Q _=>zQ a vs H Q
section
variable {P:Program} {w:World} {K:PySem.W.Frag} {mg:Str->Option Value} {base:Heap}
theorem qaR {a:Ad} (T:Txt K mg a):qA P w K mg base CX0 1 a.f_ae a.fd_ae ["self"] (ZW a):=by
 refine T.d_ae.F.ok sc_Table_pieces (fun vs H Q E h=>?_) (fun cdv A outer s H vs Q E hr h=>?_)
 · obtain ⟨x,rows,rfl,⟨k,dx,zs,hx,hk,tp⟩,good,kk⟩:=h
   rfl
 · obtain ⟨x,rows,rfl,⟨k,dx,zs,hx,hk,tp⟩,good,kk⟩:=h
   have hu:=qJ hr
   have hU:=hr.units
   obtain ⟨t_LAST,c_LAST⟩:=T.g_LAST
   refine ⟨_,(qf (qH (i:=1) sc_Table_pieces.nd rfl (Or.inl rfl) (qB jY (QF rfl (CompOk.def ["moment","shift"] [none,none]) (zJ (Ji uSl (qP (pv 0) rfl) (JJ qe) qb1)) (fun _ _ _ _ _=>(show PG _ _ (qiO K 2 _) from (ZL rfl (qD (qv (i:=0) (show List.Nodup (["moment","shift"]:List Str) by decide +kernel) rfl (Or.inl rfl)) (qD (qv (i:=1) (show List.Nodup (["moment","shift"]:List Str) by decide +kernel) rfl (Or.inl rfl)) QE))))) (fun _ _ _ _ _=>QZ) (fun _ _ _ _ _=>(qB zH (pv 0) qe))) (qQ (qa (zS (v:=.int 1000000000) rfl c_LAST ⟨_,rfl⟩) qb))))
     (qg (qy (QF rfl (CompOk.def ["row","end"] [none,none]) (qhL rfl T.n_zip (qa (qP (pv 0) rfl) (qa (pv 1) qb))) (fun _ _ _ _ _=>(show PG _ _ (qiO K 2 _) from (ZL rfl (qD (qv (i:=0) (show List.Nodup (["row","end"]:List Str) by decide +kernel) rfl (Or.inl rfl)) (qD (qv (i:=1) (show List.Nodup (["row","end"]:List Str) by decide +kernel) rfl (Or.inl rfl)) QE))))) (fun _ _ _ _ _=>QZ) (fun _ _ _ _ _=>(zR (qa (qC (r:=rIx K) qr (pv 0) qe (fun _ _=>rfl)) (qa (pv 1) (qa (qC (r:=rIx K) qr (pv 0) qe (fun _ _=>rfl)) qb))))))))),?_⟩
   try dsimp only [zv,Cx.nox]
   have hl:zs.length=rows.length:=tp.1
   have pos:=qS good
   have few:=good.few
   refine ⟨_,rfl,x,_,dx,_,_,rfl,hx,T.cl_Table,T.n_Table_kept,qdb _,_,rfl,.inl ⟨k,_,rfl,SqL.of hk,fun sl fsl=>?_⟩⟩
   rw [qkT zs (by omega)]
   have B1:=Same.new (.lst (zs.drop 1)) fsl
   refine ⟨sl,rfl,⟨_,SqL.of qc⟩,fun D fD=>?_⟩
   have B2:=B1.then (.lst []) fD
   refine zM (K:=K) (a:=sl) (xs:=zs.drop 1) (D:=D) (fun i σ H2=>∃ c0 c1:Option V,σ=[c0,c1]∧Same (upd H sl (.lst (zs.drop 1))) H2∧H2 D=some (.lst (((rows.drop 1).take i).map fun r=>V.int (r.1 - 1)))) ⟨none,none,rfl,Same.new _ fD,qc⟩ (fun i σ H2 _ ⟨_,_,_,S,_⟩=>SqL.of (S _ _ qc)) ?_ ?_
   · rintro i z σ H2 hz ⟨c0,c1,rfl,S,hD⟩
     have hz':zs[i+1]?=some z:=by rw [List.getElem?_drop] at hz; rw [Nat.add_comm]; exact hz
     have hi:i+1 < rows.length:=by rw [← hl]; exact (List.getElem?_eq_some_iff.mp hz').1
     obtain ⟨r,hr'⟩:∃ r,rows[i+1]?=some r:=⟨_,List.getElem?_eq_getElem hi⟩
     obtain ⟨u,rfl,hu'⟩:=tp.2 (i+1) z r hz' hr'
     have hu2:=S _ _ (B1 _ _ hu')
     have hrd:(rows.drop 1)[i]?=some r:=by rw [List.getElem?_drop,Nat.add_comm]; exact hr'
     have et:(rows.drop 1).take (i+1)=(rows.drop 1).take i++[r]:=by rw [List.take_add_one,hrd]; rfl
     refine ⟨u,_,rfl,SqT.of hu2,rfl,_,_,rfl,_,_,rfl,rfl,?_⟩
     refine ⟨_,rfl,_,_,rfl,rfl,_,hD,qx ?_,_,_,rfl,S.put fD _,?_⟩
     · rw [List.length_map,List.length_take,List.length_drop]; omega
     · rw [qc,et,List.map_append]; rfl
   rintro σ H2 ⟨c0,c1,rfl,S,hD⟩
   rw [List.length_drop,hl,show rows.length - 1=(rows.drop 1).length by rw [List.length_drop],List.take_length] at hD
   refine ⟨qo (Nat.le_of_ble_eq_true rfl),fun l1 fl1=>?_⟩
   have C1:=Same.new (.lst [.int 1000000000]) fl1
   refine .inr (.inl ⟨D,l1,_,_,rfl,rfl,C1 _ _ hD,qc,qx (by rw [List.length_map,List.length_drop]; omega),fun e fe=>?_⟩)
   have he:(upd (upd H2 l1 (.lst [.int 1000000000])) e (.lst (((rows.drop 1).map fun r=>V.int (r.1 - 1))++[.int 1000000000]))) e=some (.lst ((ends rows).map V.int)):=by
     rw [qc]
     unfold ends
     rw [List.map_append,List.map_map]
     rfl
   have C2:=Same.new (.lst (((rows.drop 1).map fun r=>V.int (r.1 - 1))++[.int 1000000000])) fe
   have SS:=((B1.trans S).trans C1).trans C2
   try dsimp only
   generalize upd (upd H2 l1 (.lst [.int 1000000000])) e (.lst (((rows.drop 1).map fun r=>V.int (r.1 - 1))++[.int 1000000000]))=G at he SS ⊢
   have hkG:=SS _ _ hk
   have tpG:=tp.same SS
   refine ⟨_,rfl,x,_,dx,_,_,rfl,(SS _ _ hx),T.cl_Table,T.n_Table_kept,qdb _,_,rfl,false,k,e,rfl,⟨_,SqL.of hkG⟩,⟨_,SqL.of he⟩,fun D2 fD2=>?_⟩
   have el:zs.length=((ends rows).map V.int).length:=by rw [List.length_map,qeu pos,hl]
   refine qex (K:=K) (t:=false) (a:=k) (b:=e) (xs:=zs) (ys:=(ends rows).map V.int) (D:=D2) (fun i σ H3=>∃ (c0 c1:Option V) (ws:List V),σ=[c0,c1]∧Same G H3∧H3 D2=some (.lst ws)∧TupL pr3 H3 ws ((pcs rows).take i)) el ⟨none,none,[],rfl,Same.new _ fD2,qc,.nil⟩ (fun i σ H3 _ ⟨_,_,_,_,S3,_⟩=>⟨SqL.of (S3 _ _ hkG),SqL.of (S3 _ _ he)⟩) ?_ ?_
   · rintro i z y σ H3 p hz hy ⟨c0,c1,ws,rfl,S3,hD2,tw⟩ fp
     obtain ⟨ey,hey,rfl⟩:=qdE hy
     obtain ⟨r,u,hr',rfl,hu'⟩:=tpG.of hz
     have hpc:=qfA rows i r ey hr' hey
     have P1:=Same.new (.tup [.ref u,.int ey]) fp
     have S4:=S3.trans P1
     have hu2:=S4 _ _ hu'
     have et:(pcs rows).take (i+1)=(pcs rows).take i++[(r.1,ey,r.2)]:=by rw [List.take_add_one,hpc]; rfl
     refine ⟨p,_,rfl,SqT.of qc,rfl,_,_,rfl,_,_,rfl,rfl,?_⟩
     refine ⟨_,rfl,.inr (.inl ⟨u,_,_,_,rfl,rfl,SqT.of hu2,rfl,_,rfl,_,rfl,.inr (.inl ⟨u,_,_,_,rfl,rfl,SqT.of hu2,rfl,qo (Nat.le_of_ble_eq_true rfl),fun tt ft=>?_⟩)⟩)⟩
     have P2:=Same.new (.tup [.int r.1,.int ey,.int r.2]) ft
     have hD3:=P2 _ _ (P1 _ _ hD2)
     have lw:ws.length≤21:=by rw [tw.1,List.length_take,Z7]; omega
     refine ⟨_,hD3,qx (by omega),_,_,ws++[.ref tt],rfl,(S4.trans P2).put fD2 _,qc,?_⟩
     rw [et]
     exact (((tw.same P1).same P2).snoc (p:=(r.1,ey,r.2)) qc).put hD3
   · rintro σ H3 ⟨c0,c1,ws,rfl,S3,hD2,tw⟩
     rw [hl,show rows.length=(pcs rows).length by rw [Z7],List.take_length] at tw
     exact kk D2 ws H3 (SS.none fD2) (SS.trans S3) hD2 tw
theorem Zv {a:Ad} (T:Txt K mg a):qA P w K mg base CX0 5 a.f_af a.fd_af ["self","low","high"] (zX a):=by
 have G_o:qA P w K mg base CX0 4 a.f_o a.fd_o ["stretches"] jP:=qaP T
 have G_f:qA P w K mg base CX0 3 a.f_f a.fd_f ["thing"] ZA:=Jl T
 have G_ae:qA P w K mg base CX0 1 a.f_ae a.fd_ae ["self"] (ZW a):=qaR T
 refine T.d_af.F.ok Zo (fun vs H Q E h=>?_) (fun cdv A outer s H vs Q E hr h=>?_)
 · obtain ⟨x,rows,lo,hi,rfl,tb,good,hlo,hhi,kk⟩:=h
   rfl
 · obtain ⟨x,rows,lo,hi,rfl,tb,good,hlo,hhi,kk⟩:=h
   have hu:=qJ hr
   have hU:=hr.units
   have h_o:Room (4) _:=hr.mono (by decide)
   have h_f:Room (3) _:=hr.mono (by decide)
   have h_ae:Room (1) _:=hr.mono (by decide)
   refine ⟨_,(qf (qR (zy (zx (qj G_f h_f rfl T.d_f.m T.d_f.k T.d_f.b .nil qq (qa (pv 1) qb))))
       (qg qT)
       qw)
     (qf (qR (zy (zx (qj G_f h_f rfl T.d_f.m T.d_f.k T.d_f.b .nil qq (qa (pv 2) qb))))
       (qg qT)
       qw)
     (qg (qy (qj G_o h_o rfl T.d_o.m T.d_o.k T.d_o.b .nil qq (qa (QF rfl (CompOk.def ["start","end","shift","low","high"] [none,none,none,some 1,some 2]) (zJ (Qh (pv 0) T.cl_Table T.d_ae.mt G_ae h_ae T.d_ae.b .nil qq)) (fun _ _ _ _ _=>(show PG _ _ (qiO K 3 _) from (ZL rfl (qD (qv (i:=0) (show List.Nodup (["start","end","shift","low","high"]:List Str) by decide +kernel) rfl (Or.inl rfl)) (qD (qv (i:=1) (show List.Nodup (["start","end","shift","low","high"]:List Str) by decide +kernel) rfl (Or.inl rfl)) (qD (qv (i:=2) (show List.Nodup (["start","end","shift","low","high"]:List Str) by decide +kernel) rfl (Or.inl rfl)) QE)))))) (fun _ _ _ _ _=>QZ) (fun _ _ _ _ _=>(zR (qa (qp (Ql rfl) (by rfl) T.n_max Qn (qa (pv 0) (qa (qB zH (pv 3) (pv 2)) qb))) (qa (qp (Zx rfl) (by rfl) T.n_min Zy (qa (pv 1) (qa (qB zH (pv 4) (pv 2)) qb))) qb))))) qb)))))),?_⟩
   try dsimp only [zv,Cx.nox]
   have lp:=Z7 rows
   have few:=good.few
   obtain ⟨k0,dx,zs0,hx,hk0,tp0⟩:=id tb
   refine ⟨_,rfl,lo,rfl,hlo.1,hlo.2,true,rfl,zj rfl ?_⟩
   refine ⟨_,rfl,hi,rfl,hhi.1,hhi.2,true,rfl,zj rfl ?_⟩
   refine ⟨_,rfl,x,dx,_,rfl,hx,qdL _ (by decide),x,rows,rfl,tb,good,fun d zs H1 fd S1 hd tz=>⟨d,rfl,⟨_,SqL.of hd⟩,fun C fC=>?_⟩⟩
   refine zM (K:=K) (a:=d) (xs:=zs) (D:=C) (fun i σ H2=>∃ (c0 c1 c2:Option V) (cs:List V),σ=[c0,c1,c2,some (.int lo),some (.int hi)]∧Same H1 H2∧H2 C=some (.lst cs)∧TupL pr H2 cs (((pcs rows).take i).map (mp lo hi))) ⟨none,none,none,[],rfl,Same.new _ fC,qc,.nil⟩ (fun i σ H2 _ ⟨_,_,_,_,_,S,_⟩=>SqL.of (S _ _ hd)) ?_ ?_
   · rintro i z σ H2 hz ⟨c0,c1,c2,cs,rfl,S,hC,tc⟩
     obtain ⟨r,u,hr',rfl,hu'⟩:=tz.of hz
     have hu2:=S _ _ hu'
     have et:(pcs rows).take (i+1)=(pcs rows).take i++[r]:=by rw [List.take_add_one,hr']; rfl
     have lc:cs.length≤21:=by rw [tc.1,List.length_map,List.length_take]; omega
     refine ⟨u,_,rfl,SqT.of hu2,rfl,_,_,rfl,_,_,rfl,_,_,rfl,rfl,?_⟩
     refine ⟨_,rfl,_,rfl,_,rfl,_,_,rfl,rfl,_,_,rfl,_,rfl,_,rfl,_,rfl,_,_,rfl,rfl,_,_,rfl,qo (Nat.le_of_ble_eq_true rfl),fun tt ft=>?_⟩
     have St:=Same.new (.tup (pr (mp lo hi r))) ft
     have hC2:=St _ _ hC
     refine ⟨_,hC2,qx (by omega),_,_,_,cs++[.ref tt],rfl,(S.trans St).put fC _,qc,?_⟩
     rw [et,List.map_append]
     exact ((tc.same St).snoc (p:=mp lo hi r) qc).put hC2
   rintro σ H2 ⟨c0,c1,c2,cs,rfl,S,hC,tc⟩
   rw [tz.1,List.take_length] at tc
   refine ⟨C,(pcs rows).map (mp lo hi),rfl,⟨cs,hC,tc⟩,(by rw [List.length_map]; omega),fun e r H3 fe S3 R can lr mem=>?_⟩
   rw [List.length_map] at lr
   exact kk e r H3 ((S1.trans S).none fe) ((S1.trans S).trans S3) R can (by omega) mem
end
end K37
namespace K37
open PySem L2 PySem.NumText PyProof.Rows KC M04
section
variable {P:Program} {w:World} {K:PySem.W.Frag} {mg:Str->Option Value} {base:Heap}
end
abbrev fsW (nm:Str) (lo hi:Int):List (Str×V):=[("name",.str nm),("low",.int lo),("high",.int hi)]
abbrev fsB (nm pl:Str) (lo hi:Int):List (Str×V):=[("name",.str nm),("place",.str pl),("low",.int lo),("high",.int hi)]
inductive ZK (vs:List V) (H:Hp) (Q:VK):Prop
 | mk (v u:V) (h1:vs=[v,u]) (h2:∀ (d:Addr) (H':Hp),H d=none->Same H H'->Rs H' d [(0,1000000000)]->Q (.ref d) H'):ZK vs H Q
def zT:Sp:=fun vs H Q _=>ZK vs H Q
inductive Zi (K:PySem.W.Frag) (vs:List V) (H:Hp) (Q:VK):Prop
 | mk (x C dx:Addr) (nm:Str) (lo hi:Int) (u:V) (h1:vs=[.ref x,u]) (h2:H x=some (.ins C dx (fsW nm lo hi))) (h3:Cls K C) (h4:NoAttr K C "low") (h5:NoAttr K C "high") (h6:∀ (d:Addr) (r:List (Int×Int)) (H':Hp),H d=none->Same H H'->Rs H' d r->Zg r->r.length≤1->(∀ n,Mem r n↔Mem [(lo,hi)] n)->Q (.ref d) H'):Zi K vs H Q
def zl (K:PySem.W.Frag):Sp:=fun vs H Q _=>Zi K vs H Q
inductive QV (K:PySem.W.Frag) (vs:List V) (H:Hp) (Q:VK):Prop
 | mk (x C dx:Addr) (nm pl:Str) (lo hi:Int) (h1:vs=[.ref x]) (h2:H x=some (.ins C dx (fsB nm pl lo hi))) (h3:Cls K C) (h4:NoAttr K C "place") (h5:∀ l,H l=none->Q (.ref l) (upd H l (.lst [.str pl]))):QV K vs H Q
def zn (K:PySem.W.Frag):Sp:=fun vs H Q _=>QV K vs H Q
theorem qfC {H:Hp} {t d:Addr} {w:Int×Int} (h1:H t=some (.tup (pr w))) (h2:H d=some (.lst [.ref t])):Rs H d [w]:=by
 refine ⟨_,h2,rfl,fun j z y e1 e2=>?_⟩
 cases j with
 | zero=>cases e1; cases e2; exact ⟨t,rfl,h1⟩
 | succ j=>cases e1
section
variable {P:Program} {w:World} {K:PySem.W.Frag} {mg:Str->Option Value} {base:Heap}
theorem Zd {a:Ad} (T:Txt K mg a):qA P w K mg base CX0 1 a.f_u a.fd_u ["self","tables"] zT:=by
 refine T.d_u.F.ok qbd (fun vs H Q E h=>?_) (fun cdv A outer s H vs Q E hr h=>?_)
 · obtain ⟨v,u,rfl,kk⟩:=h
   rfl
 · obtain ⟨v,u,rfl,kk⟩:=h
   have hu:=qJ hr
   have hU:=hr.units
   obtain ⟨t_LAST,c_LAST⟩:=T.g_LAST
   refine ⟨_,(qg (qy (qQ (qa (zR (qa qe (qa (zS (v:=.int 1000000000) rfl c_LAST ⟨_,rfl⟩) qb))) qb)))),?_⟩
   try dsimp only [zv,Cx.nox]
   refine ⟨qo (Nat.le_of_ble_eq_true rfl),fun t ft=>⟨qo (Nat.le_of_ble_eq_true rfl),fun d fd=>?_⟩⟩
   have S1:=Same.new (.tup [.int 0,.int 1000000000]) ft
   have S2:=Same.new (.lst [.ref t]) fd
   exact kk d _ (S1.none fd) (S1.trans S2) (qfC (w:=(0,1000000000)) (S2 _ _ qc) qc)
theorem Q2 {a:Ad} (T:Txt K mg a):qA P w K mg base CX0 5 a.f_i a.fd_i ["self","tables"] (zl K):=by
 have G_o:qA P w K mg base CX0 4 a.f_o a.fd_o ["stretches"] jP:=qaP T
 refine T.d_i.F.ok qaE (fun vs H Q E h=>?_) (fun cdv A outer s H vs Q E hr h=>?_)
 · obtain ⟨x,C,dx,nm,lo,hi,u,rfl,hx,cl,n1,n2,kk⟩:=h
   rfl
 · obtain ⟨x,C,dx,nm,lo,hi,u,rfl,hx,cl,n1,n2,kk⟩:=h
   have hu:=qJ hr
   have hU:=hr.units
   have h_o:Room (4) _:=hr.mono (by decide)
   refine ⟨_,(qg (qy (qj G_o h_o rfl T.d_o.m T.d_o.k T.d_o.b .nil qq (qa (qQ (qa (zR (qa (qP (pv 0) rfl) (qa (qP (pv 0) rfl) qb))) qb)) qb)))),?_⟩
   try dsimp only [zv,Cx.nox]
   refine ⟨_,rfl,x,_,dx,_,_,rfl,hx,cl,n1,rfl,_,rfl,x,_,dx,_,_,rfl,hx,cl,n2,rfl,qo (Nat.le_of_ble_eq_true rfl),fun t ft=>⟨qo (Nat.le_of_ble_eq_true rfl),fun d fd=>?_⟩⟩
   have S1:=Same.new (.tup [.int lo,.int hi]) ft
   have S2:=Same.new (.lst [.ref t]) fd
   refine ⟨d,[(lo,hi)],rfl,qfC (w:=(lo,hi)) (S2 _ _ qc) qc,Nat.le_of_ble_eq_true rfl,fun e r H3 fe S3 R can lr mem=>?_⟩
   exact kk e r H3 ((S1.trans S2).none fe) ((S1.trans S2).trans S3) R can lr mem
theorem Zw {a:Ad} (T:Txt K mg a):qA P w K mg base CX0 1 a.f_x a.fd_x ["self"] (zn K):=by
 refine T.d_x.F.ok Jy (fun vs H Q E h=>?_) (fun cdv A outer s H vs Q E hr h=>?_)
 · obtain ⟨x,C,dx,nm,pl,lo,hi,rfl,hx,cl,n1,kk⟩:=h
   rfl
 · obtain ⟨x,C,dx,nm,pl,lo,hi,rfl,hx,cl,n1,kk⟩:=h
   have hu:=qJ hr
   have hU:=hr.units
   refine ⟨_,(qg (qy (qQ (qa (qP (pv 0) rfl) qb)))),?_⟩
   try dsimp only [zv,Cx.nox]
   exact ⟨_,rfl,x,_,dx,_,_,rfl,hx,cl,n1,rfl,qo (Nat.le_of_ble_eq_true rfl),fun l fl=>kk l fl⟩
end
end K37
namespace K37
open PySem L2 PySem.NumText PyProof.Rows KC M04
section
variable {P:Program} {w:World} {K:PySem.W.Frag} {mg:Str->Option Value} {base:Heap}
end
theorem Good.ne {rows:List (Int×Int)} (h:Good rows):0 < rows.length:=qS h
inductive qas (vs:List V) (H:Hp) (Q:VK):Prop
 | mk (t:Addr) (r:Int×Int) (w:Int) (h1:vs=[.ref t,.int w]) (h2:H t=some (.tup (pr r))) (h3:0≤r.1) (h4:r.1≤1000000000) (h5:-w≤r.2) (h6:r.2≤w) (h7:Q (.bl true) H):qas vs H Q
def qcv:Sp:=fun vs H Q _=>qas vs H Q
inductive jy (vs:List V) (H:Hp) (Q:VK):Prop
 | mk (q:Addr) (i:Nat) (rows:List (Int×Int)) (h1:vs=[.ref q,.int i]) (h2:Rs H q rows) (h3:Good rows) (h4:i < rows.length) (h5:Q (.bl true) H):jy vs H Q
def JQ:Sp:=fun vs H Q _=>jy vs H Q
inductive ZT (vs:List V) (H:Hp) (Q:VK):Prop
 | mk (q:Addr) (rows:List (Int×Int)) (h1:vs=[.ref q,.int 21,.int 2880]) (h2:Rs H q rows) (h3:Good rows) (h4:∀ H',Same H H'->Q .non H'):ZT vs H Q
def j8:Sp:=fun vs H Q _=>ZT vs H Q
inductive ZX (a:Ad) (vs:List V) (H:Hp) (Q:VK):Prop
 | mk (x dx q:Addr) (rows:List (Int×Int)) (h1:vs=[.ref x,.ref q]) (h2:H x=some (.ins a.c_Table dx [])) (h3:Rs H q rows) (h4:Good rows) (h5:∀ H',But x H H'->Tb a H' x rows->Q .non H'):ZX a vs H Q
def j9 (a:Ad):Sp:=fun vs H Q _=>ZX a vs H Q
section
variable {P:Program} {w:World} {K:PySem.W.Frag} {mg:Str->Option Value} {base:Heap}
theorem qfD {a:Ad} (T:Txt K mg a):qA P w K mg base CX0 4 a.f_P a.fd_P ["thing","widest"] qcv:=by
 have G_m:qA P w K mg base CX0 3 a.f_m a.fd_m ["thing"] ZR:=J8 T
 have G_b:qA P w K mg base CX0 2 a.f_b a.fd_b ["thing","low","high"] Qp:=Q1 T
 refine T.d_P.F.ok qfh (fun vs H Q E h=>?_) (fun cdv A outer s H vs Q E hr h=>?_)
 · obtain ⟨t,r,w,rfl,ht,h1,h2,h3,h4,kk⟩:=h
   rfl
 · obtain ⟨t,r,w,rfl,ht,h1,h2,h3,h4,kk⟩:=h
   have hu:=qJ hr
   have hU:=hr.units
   have h_m:Room (3) _:=hr.mono (by decide)
   have h_b:Room (2) _:=hr.mono (by decide)
   refine ⟨_,(qf (qR (PW.pt (qaJ (zy (zx (qp Qm (by rfl) T.n_isinstance qE (qa (pv 0) (qa (Q0 (v:=.ty "tuple") rfl T.n_tuple jV rfl) qb))))) (jH (qu (uNe hU) (qp qU (by rfl) T.n_len qK (qa (pv 0) qb)) qe (qG _)))))
       (qg (qy qaM))
       qw)
     (qg (qy (qaN (qj G_m h_m rfl T.d_m.m T.d_m.k T.d_m.b .nil qq (qa (qC (r:=rIx K) qr (pv 0) qe (fun _ _=>rfl)) qb)) (qcS (qj G_b h_b rfl T.d_b.m T.d_b.k T.d_b.b .nil qq (qa (qC (r:=rIx K) qr (pv 0) qe (fun _ _=>rfl)) (qa (jx QH (pv 1)) (qa (pv 1) qb))))))))),?_⟩
   try dsimp only [zv,Cx.nox]
   have ty:tyN H (.ref t)=some "tuple":=by simp only [tyN]; rw [ht]
   refine ⟨_,rfl,_,_,_,rfl,(by decide),ty,true,rfl,zj rfl ?_⟩
   refine ⟨_,rfl,_,_,rfl,.inr ⟨_,SqT.of ht,rfl⟩,.inl ⟨rfl,_,rfl,qjB (fun g=>absurd rfl g) (fun _=>?_)⟩⟩
   refine ⟨_,rfl,.inr (.inl ⟨t,_,_,_,rfl,rfl,SqT.of ht,rfl,r.1,rfl,h1,h2,true,rfl,qf3 ?_⟩)⟩
   exact ⟨_,rfl,.inr (.inl ⟨t,_,_,_,rfl,rfl,SqT.of ht,rfl,_,rfl,_,rfl,_,rfl,r.2,-w,w,rfl,h3,h4,kk⟩)⟩
theorem qcV {a:Ad} (T:Txt K mg a):qA P w K mg base CX0 1 a.f_Q a.fd_Q ["rows","place"] JQ:=by
 refine T.d_Q.F.ok qcH (fun vs H Q E h=>?_) (fun cdv A outer s H vs Q E hr h=>?_)
 · obtain ⟨q,i,rows,rfl,⟨zs,hq,tp⟩,good,hi,kk⟩:=h
   rfl
 · obtain ⟨q,i,rows,rfl,⟨zs,hq,tp⟩,good,hi,kk⟩:=h
   have hu:=qJ hr
   have hU:=hr.units
   refine ⟨_,(qf (qR (qu (uEq hU) (pv 1) qe (qG _))
       (qg (qy (Z6 (uEq hU) (qC (r:=rIx K) qr (qC (r:=rIx K) qr (pv 0) qe (fun _ _=>rfl)) qe (fun _ _=>rfl)) qe (qG _))))
       qw)
     (qg (qy (Z6 qgW (qC (r:=rIx K) qr (qC (r:=rIx K) qr (pv 0) (pv 1) (fun _ _=>rfl)) qe (fun _ _=>rfl)) (qC (r:=rIx K) qr (qC (r:=rIx K) qr (pv 0) (qB zH (pv 1) qe) (fun _ _=>rfl)) qe (fun _ _=>rfl)) (qG _))))),?_⟩
   try dsimp only [zv,Cx.nox]
   refine ⟨_,rfl,.inl ⟨rfl,_,rfl,?_⟩⟩
   obtain ⟨r,hr'⟩:∃ r,rows[i]?=some r:=⟨_,List.getElem?_eq_getElem hi⟩
   obtain ⟨t,hz,ht⟩:=tp.at_ hr'
   refine Zf (fun g=>?_) (fun g=>?_)
   · have g0:i=0:=by injection g with g; omega
     subst g0
     obtain ⟨n,hn⟩:=good.fst
     have e:r=(0,n):=by
       rw [List.head?_eq_getElem?,hr'] at hn
       exact Option.some.inj hn
     subst e
     refine ⟨_,rfl,.inl ⟨q,_,_,_,rfl,rfl,SqL.of hq,QA hz,.inr (.inl ⟨t,_,_,_,rfl,rfl,SqT.of ht,rfl,.inl ⟨rfl,?_⟩⟩)⟩⟩
     exact kk
   · have g1:0 < i:=by
       refine Nat.pos_of_ne_zero fun z=>g ?_
       rw [z]; rfl
     obtain ⟨r0,hr0⟩:∃ r,rows[i - 1]?=some r:=⟨_,List.getElem?_eq_getElem (by omega)⟩
     obtain ⟨t0,hz0,ht0⟩:=tp.at_ hr0
     have lt:r0.1 < r.1:=by
       obtain ⟨l1,e1⟩:=List.getElem?_eq_some_iff.mp hr0
       obtain ⟨l2,e2⟩:=List.getElem?_eq_some_iff.mp hr'
       have:=List.pairwise_iff_getElem.mp good.asc (i - 1) i l1 l2 (by omega)
       rw [e1,e2] at this
       exact this
     refine ⟨_,rfl,_,rfl,.inl ⟨q,_,_,_,rfl,rfl,SqL.of hq,QA hz,.inr (.inl ⟨t,_,_,_,rfl,rfl,SqT.of ht,rfl,_,rfl,_,rfl,_,_,rfl,rfl,.inl ⟨q,_,_,_,rfl,rfl,SqL.of hq,(by show atI zs ((i:Int) - 1)=_; rw [show (i:Int) - 1=((i - 1:Nat):Int) by omega]; exact QA hz0),.inr (.inl ⟨t0,_,_,_,rfl,rfl,SqT.of ht0,rfl,_,_,rfl,rfl,?_⟩)⟩⟩)⟩⟩
     show Q (.bl (decide (r0.1 < r.1))) H
     rw [decide_eq_true lt]
     exact kk
theorem qb8 {a:Ad} (T:Txt K mg a):qA P w K mg base CX0 5 a.f_R a.fd_R ["rows","most","widest"] j8:=by
 have G_P:qA P w K mg base CX0 4 a.f_P a.fd_P ["thing","widest"] qcv:=qfD T
 have G_Q:qA P w K mg base CX0 1 a.f_Q a.fd_Q ["rows","place"] JQ:=qcV T
 refine T.d_R.F.ok sc_check_rows (fun vs H Q E h=>?_) (fun cdv A outer s H vs Q E hr h=>?_)
 · obtain ⟨q,rows,rfl,⟨zs,hq,tp⟩,good,kk⟩:=h
   rfl
 · obtain ⟨q,rows,rfl,⟨zs,hq,tp⟩,good,kk⟩:=h
   have hu:=qJ hr
   have hU:=hr.units
   have h_P:Room (4) _:=hr.mono (by decide)
   have h_Q:Room (1) _:=hr.mono (by decide)
   refine ⟨_,(qf (qR (PW.pt (qaJ (zy (zx (qp Qm (by rfl) T.n_isinstance qE (qa (pv 0) (qa (Q0 (v:=.ty "list") rfl T.n_list zf rfl) qb))))) (jH (qu (uEq hU) (qp qU (by rfl) T.n_len qK (qa (pv 0) qb)) qe (qG _)))))
       (qg qT)
       qw)
     (qf (qR (qu qgW (qp qU (by rfl) T.n_len qK (qa (pv 0) qb)) (pv 1) (qG _))
       (qg qT)
       qw)
     (qg (Zu PassesOwn.never rfl (qfy rfl T.n_enumerate (qa (pv 0) qb)) (ZL rfl (qD (qv (i:=3) (sc_check_rows.nd) rfl (Or.inl rfl)) (qD (qv (i:=4) (sc_check_rows.nd) rfl (Or.inl rfl)) QE)))
       (qg (qR (PW.pt (qaJ (zy (zx (qj G_P h_P rfl T.d_P.m T.d_P.k T.d_P.b .nil qq (qa (pv 4) (qa (pv 2) qb))))) (jH (zy (zx (qj G_Q h_Q rfl T.d_Q.m T.d_Q.k T.d_Q.b .nil qq (qa (pv 0) (qa (pv 3) qb))))))))
         (qg qT)
         qw)))))),?_⟩
   try dsimp only [zv,Cx.nox]
   have hl:zs.length=rows.length:=tp.1
   have few:=good.few
   have pos:=good.ne
   have ty:tyN H (.ref q)=some "list":=by simp only [tyN]; rw [hq]
   refine ⟨_,rfl,_,_,_,rfl,(by decide),ty,true,rfl,zj rfl ?_⟩
   refine ⟨_,rfl,_,_,rfl,.inl ⟨_,SqL.of hq,rfl⟩,.inl ⟨rfl,_,rfl,Zf (fun g=>?_) (fun _=>?_)⟩⟩
   · injection g with g; omega
   refine ⟨_,rfl,_,_,rfl,.inl ⟨_,SqL.of hq,rfl⟩,_,rfl,_,_,rfl,rfl,_,rfl,Zf (fun g=>?_) (fun _=>?_)⟩
   · omega
   refine ⟨_,rfl,q,rfl,⟨zs,SqL.of hq⟩,qes (K:=K) (a:=q) (xs:=zs) (fun i σ H2=>∃ s3 s4:Option V,σ=[some (.ref q),some (.int 21),some (.int 2880),s3,s4]∧Same H H2) ⟨none,none,rfl,Same.refl H⟩ (fun i σ H2 _ ⟨_,_,_,S⟩=>SqL.of (S _ _ hq)) ?_ ?_⟩
   · rintro i x σ H2 p hx ⟨s3,s4,rfl,S⟩ hn
     have S2:Same H (upd H2 p (.tup [.int i,x])):=S.then _ hn
     have hi:i < rows.length:=by rw [← hl]; exact (List.getElem?_eq_some_iff.mp hx).1
     obtain ⟨r,hr'⟩:∃ r,rows[i]?=some r:=⟨_,List.getElem?_eq_getElem hi⟩
     obtain ⟨t,rfl,ht⟩:=tp.2 i x r hx hr'
     have ok:=good.ok r (List.mem_of_getElem? hr')
     refine ⟨p,_,rfl,SqT.of qc,rfl,_,_,rfl,_,_,rfl,rfl,?_⟩
     refine ⟨_,rfl,_,rfl,t,r,2880,rfl,S2 _ _ ht,ok.1,ok.2.1,ok.2.2.1,ok.2.2.2,true,rfl,zj rfl ?_⟩
     exact ⟨_,rfl,_,rfl,q,i,rows,rfl,⟨zs,S2 _ _ hq,tp.same S2⟩,good,hi,true,rfl,zj rfl ⟨_,_,rfl,S2⟩⟩
   · rintro σ H2 ⟨s3,s4,rfl,S⟩
     exact kk H2 S
theorem qb9 {a:Ad} (T:Txt K mg a):qA P w K mg base CX0 6 a.f_ad a.fd_ad ["self","rows"] (j9 a):=by
 have G_R:qA P w K mg base CX0 5 a.f_R a.fd_R ["rows","most","widest"] j8:=qb8 T
 refine T.d_ad.F.ok qbV (fun vs H Q E h=>?_) (fun cdv A outer s H vs Q E hr h=>?_)
 · obtain ⟨x,dx,q,rows,rfl,hx,hrs,good,kk⟩:=h
   rfl
 · obtain ⟨x,dx,q,rows,rfl,hx,hrs,good,kk⟩:=h
   have hu:=qJ hr
   have hU:=hr.units
   have h_R:Room (5) _:=hr.mono (by decide)
   obtain ⟨t_MOST_ROWS,c_MOST_ROWS⟩:=T.g_MOST_ROWS
   obtain ⟨t_WIDEST_SHIFT,c_WIDEST_SHIFT⟩:=T.g_WIDEST_SHIFT
   refine ⟨_,(qf (qF (qj G_R h_R rfl T.d_R.m T.d_R.k T.d_R.b .nil qq (qa (pv 1) (qa (zS (v:=.int 21) rfl c_MOST_ROWS ⟨_,rfl⟩) (qa (zS (v:=.int 2880) rfl c_WIDEST_SHIFT ⟨_,rfl⟩) qb)))))
     (qg (Q8 (pv 0) (qY (r:=qio K) zN (by rfl) T.n_list zf (qa (pv 1) qb)) rfl))),?_⟩
   try dsimp only [zv,Cx.nox]
   refine ⟨_,rfl,q,rows,rfl,hrs,good,fun G1 S1=>?_⟩
   obtain ⟨zs,hq,tp⟩:=hrs.same S1
   have hx1:=S1 _ _ hx
   refine ⟨_,rfl,q,zs,rfl,.inl (SqL.of hq),fun k fk=>?_⟩
   have nkx:x≠k:=qi hx1 fk
   refine ⟨_,rfl,x,_,dx,[],rfl,(qh nkx).trans hx1,T.cl_Table,T.n_Table_kept,(by show 0 < 1000; decide),?_⟩
   have fkH:H k=none:=S1.none fk
   refine kk _ (fun c o e n=>?_) ⟨k,dx,zs,qc,(qh nkx.symm).trans qc,⟨tp.1,fun i z p e1 e2=>?_⟩⟩
   · rw [qh n,qh (qi e fkH)]
     exact S1 _ _ e
   · obtain ⟨t,et,ht⟩:=tp.2 i z p e1 e2
     refine ⟨t,et,?_⟩
     rw [qh (zi ht hx1 (by intro z; cases z)),qh (qi ht fk)]
     exact ht
end
end K37
namespace K37
open PySem L2 PySem.NumText PyProof.Rows KC M04
section
variable {P:Program} {w:World} {K:PySem.W.Frag} {mg:Str->Option Value} {base:Heap}
end
abbrev abc:Str:="abcdefghijklmnopqrstuvwxyz"
abbrev ch (c:Nat):Str:=⟨#[c]⟩
abbrev chs (cs:List Nat):List Str:=cs.map ch
def Ltr (c:Nat):Prop:=97≤c∧c < 123
theorem qh0 {i:Int} (h0:0≤i) (h1:i < 26):atI abc.cps.toList i=some (97+i.toNat):=by
 have:∀ n:Fin 26,atI abc.cps.toList ((n.1:Nat):Int)=some (97+n.1):=by decide +kernel
 have:=this ⟨i.toNat,by omega⟩
 rwa [Int.toNat_of_nonneg h0] at this
theorem qii {c:Nat} (h:Ltr c):sgn c=true:=by
 have:∀ n:Fin 26,sgn (97+n.1)=true:=by decide +kernel
 have:=this ⟨c - 97,by have:=h.1; have:=h.2; omega⟩
 rwa [show 97+(c - 97)=c by have:=h.1; omega] at this
theorem qf2:∀ cs:List Nat,(Txt.join "" (chs cs)).cps.toList=cs
 | []=>rfl
 | [c]=>rfl
 | c::d::r=>by
   have ih:=qf2 (d::r)
   have g:∀ ys:List Str,Txt.join "" ys=Str.join "" ys:=fun ys=>StrLaws.glued_eq_join _ _
   rw [g] at ih ⊢
   show (ch c++("":Str)++Str.join "" (chs (d::r))).cps.toList=_
   have e:∀ x y:Str,(x++y).cps.toList=x.cps.toList++y.cps.toList:=fun x y=>Array.toList_append
   rw [e,e,ih]; rfl
theorem qdS (x y:Str):(x++y).cps.toList=x.cps.toList++y.cps.toList:=Array.toList_append
theorem qdF (x:Str):x.length=x.cps.toList.length:=Array.length_toList.symm
theorem qc6 (cs:List Nat):(Txt.join "" (chs cs)).length=cs.length:=by rw [qdF,qf2]
theorem qgl (cs:List Nat):((chs cs).map (·.length)).sum+(chs cs).length * ("":Str).length=cs.length:=by
 have e:((chs cs).map (·.length)).sum=cs.length:=by
   induction cs with
   | nil=>rfl
   | cons c r ih =>
     show (ch c).length+((chs r).map (·.length)).sum=_
     rw [ih]; show 1+_=_; rw [List.length_cons]; omega
 rw [e]; rfl
theorem qg9 {x:Str} {cs:List Nat} (e:x.cps.toList=cs) (h1:1≤cs.length) (h8:cs.length≤8) (hl:∀ c∈cs,Ltr c):Qj (.str x)=true:=by
 have:x.length=cs.length:=by rw [qdF,e]
 simp only [Qj,Bool.and_eq_true,decide_eq_true_eq]
 rw [this,e]
 exact ⟨⟨h1,h8⟩,List.all_eq_true.mpr fun c m=>qii (hl c m)⟩
abbrev odds:List Int:=[1,3,5,7,9,11,15,17,19,21,23,25]
theorem qg7 {s f:Int} {j k:Nat} (h:s∈odds) (hj:j < 26) (hk:k < 26) (e:(f+s * (j:Int)) % 26=(f+s * (k:Int)) % 26):j=k:=by
 simp only [List.mem_cons,List.not_mem_nil,or_false] at h
 rcases h with rfl | rfl | rfl | rfl | rfl | rfl | rfl | rfl | rfl | rfl | rfl | rfl<;>omega
structure Nms (ns:List Str):Prop where
 nm:∀ x∈ns,Qj (.str x)=true
 nd:ns.Nodup
def NmsI (pre:List Nat) (f s:Int) (xs:List Str):Prop:=∀ (j:Nat) (x:Str),xs[j]?=some x->Qj (.str x)=true∧∃ suf,x.cps.toList=pre++(97+((f+s * (j:Int)) % 26).toNat)::suf
theorem NmsI.nil {pre:List Nat} {f s:Int}:NmsI pre f s []:=fun j x e=>by cases e
theorem NmsI.snoc {pre:List Nat} {f s:Int} {xs:List Str} {x:Str} (h:NmsI pre f s xs) (h1:Qj (.str x)=true) {suf:List Nat} (h2:x.cps.toList=pre++(97+((f+s * (xs.length:Int)) % 26).toNat)::suf):NmsI pre f s (xs++[x]):=fun j y e=>by
 by_cases hj:j < xs.length
 · rw [List.getElem?_append_left hj] at e
   exact h j y e
 · rw [List.getElem?_append_right (by omega)] at e
   have hj2:j=xs.length:=by
     have:=(List.getElem?_eq_some_iff.mp e).1
     simp at this; omega
   subst hj2
   rw [Nat.sub_self] at e
   cases e
   exact ⟨h1,suf,h2⟩
theorem NmsI.end_ {pre:List Nat} {f s:Int} {xs:List Str} (h:NmsI pre f s xs) (hs:s∈odds) (hl:xs.length≤26):Nms xs:=by
 refine ⟨fun x m=>?_,?_⟩
 · obtain ⟨j,hj⟩:=List.getElem?_of_mem m
   exact (h j x hj).1
 · rw [List.Nodup,List.pairwise_iff_getElem]
   intro i j hi hj hij e
   obtain ⟨_,s1,e1⟩:=h i _ (List.getElem?_eq_getElem hi)
   obtain ⟨_,s2,e2⟩:=h j _ (List.getElem?_eq_getElem hj)
   rw [e,e2] at e1
   have e3:=List.append_cancel_left e1
   injection e3 with e4 _
   have:=qg7 (f:=f) (j:=i) (k:=j) hs (by omega) (by omega) (by omega)
   omega
theorem qiL (cs:List Nat) (lo hi:Option Int):∃ ds:List Nat,qeV ((chs cs).map V.str) lo hi=(chs ds).map V.str∧ds=(cs.drop (HT.sIx cs.length 0 lo)).take (HT.sIx cs.length cs.length hi - HT.sIx cs.length 0 lo):=by
 refine ⟨_,?_,rfl⟩
 unfold qeV
 simp only [chs,List.length_map,List.map_take,List.map_drop]
inductive qaz (vs:List V) (H:Hp) (Q:VK):Prop
 | mk (p:Addr) (many:Int) (h1:vs=[.ref p,.int many]) (h2:PenAt H p) (h3:0≤many) (h4:many≤26) (h5:∀ (q:Addr) (ns:List Str) (H':Hp),H q=none->But p H H'->PenAt H' p->H' q=some (.lst (ns.map V.str))->(ns.length:Int)=many->Nms ns->Q (.ref q) H'):qaz vs H Q
def qcC:Sp:=fun vs H Q _=>qaz vs H Q
section
variable {P:Program} {w:World} {K:PySem.W.Frag} {mg:Str->Option Value} {base:Heap}
theorem qfJ {a:Ad} (T:Txt K mg a):qA P w K mg base CX0 3 a.f_S a.fd_S ["_law_state","_law_many"] qcC:=by
 have G_a:qA P w K mg base CX0 2 a.f_a a.fd_a ["_law_state","_law_many"] Qg:=QB T
 refine T.d_S.F.ok sc_Lnames (fun vs H Q E h=>?_) (fun cdv A outer s H vs Q E hr h=>?_)
 · obtain ⟨p,many,rfl,hp,many0,many1,kk⟩:=h
   rfl
 · obtain ⟨p,many,rfl,hp,many0,many1,kk⟩:=h
   have hu:=qJ hr
   have hU:=hr.units
   have h_a:Room (2) _:=hr.mono (by decide)
   refine ⟨_,(@qf _ _ _ _ _ (by exact (qH (i:=2) sc_Lnames.nd rfl (Or.inr rfl) qz))
     (by exact (@qf _ _ _ _ _ (by exact (qH (i:=3) sc_Lnames.nd rfl (Or.inl rfl) (qB jY qe (qj G_a h_a rfl T.d_a.m T.d_a.k T.d_a.b .nil qq (qa (pv 0) (qa qe qb))))))
     (by exact (@qf _ _ _ _ _ (by exact (qH (i:=4) sc_Lnames.nd rfl (Or.inl rfl) (qj G_a h_a rfl T.d_a.m T.d_a.k T.d_a.b .nil qq (qa (pv 0) (qa (pv 3) qb)))))
     (by exact (@qf _ _ _ _ _ (by exact (qbZ (i:=5) sc_Lnames.nd rfl (Or.inl rfl) rfl (CompOk.def ["_law_k","_law_letters","_law_state"] [none,some 2,some 0]) (Z5 rfl T.n_range (qa (pv 3) qb)) (fun _ _ _ _ _=>(qv (i:=0) (show List.Nodup (["_law_k","_law_letters","_law_state"]:List Str) by decide +kernel) rfl (Or.inl rfl))) (fun _ _ _ _ _=>QZ) (fun _ _ _ _ _=>(qC (r:=rIx K) qr (pv 1) (qj G_a h_a rfl T.d_a.m T.d_a.k T.d_a.b .nil qq (qa (pv 2) (qa qe qb))) (fun _ _=>rfl)))))
     (by exact (@qf _ _ _ _ _ (by exact (qH (i:=6) sc_Lnames.nd rfl (Or.inl rfl) (qj G_a h_a rfl T.d_a.m T.d_a.k T.d_a.b .nil qq (qa (pv 0) (qa qe qb)))))
     (by exact (@qf _ _ _ _ _ (by exact (@qH _ _ 7 _ _ _ _ (by exact sc_Lnames.nd) (by rfl) (by exact (Or.inl rfl)) (by exact (@qC _ _ _ _ _ _ (rIx K) (by exact qr) (by exact (@qQ _ _ _ _ (by exact (@qa _ _ _ _ _ (by exact qe) (by exact (@qa _ _ _ _ _ (by exact qe) (by exact (@qa _ _ _ _ _ (by exact qe) (by exact (@qa _ _ _ _ _ (by exact qe) (by exact (@qa _ _ _ _ _ (by exact qe) (by exact (@qa _ _ _ _ _ (by exact qe) (by exact (@qa _ _ _ _ _ (by exact qe) (by exact (@qa _ _ _ _ _ (by exact qe) (by exact (@qa _ _ _ _ _ (by exact qe) (by exact (@qa _ _ _ _ _ (by exact qe) (by exact (@qa _ _ _ _ _ (by exact qe) (by exact (@qa _ _ _ _ _ (by exact qe) (by exact (@qb _)) (by rfl))) (by rfl))) (by rfl))) (by rfl))) (by rfl))) (by rfl))) (by rfl))) (by rfl))) (by rfl))) (by rfl))) (by rfl))) (by rfl))))) (by exact (qj G_a h_a rfl T.d_a.m T.d_a.k T.d_a.b .nil qq (qa (pv 0) (qa qe qb)))) (by exact fun _ _=>rfl))) (by rfl) (by exact .inl rfl)))
     (by exact (qf (qH (i:=8) sc_Lnames.nd rfl (Or.inl rfl) (qQ qb))
     (qf (Zu PassesOwn.never rfl (Z5 rfl T.n_range (qa (pv 1) qb)) (qv (i:=9) (sc_Lnames.nd) rfl (Or.inl rfl))
       (qf (qH (i:=10) sc_Lnames.nd rfl (Or.inl rfl) (Ji uSl (pv 5) (JJ (qB jY (pv 4) qe)) (JJ (qB jY (qB jY (pv 4) qe) (qj G_a h_a rfl T.d_a.m T.d_a.k T.d_a.b .nil qq (qa (pv 0) (qa (qB zH (pv 3) (pv 4)) qb)))))))
       (qf (qH (i:=11) sc_Lnames.nd rfl (Or.inl rfl) (qC (r:=rIx K) qr (pv 2) (qB J6 (qB jY (pv 6) (qB ZM (pv 7) (pv 9))) qe) (fun _ _=>rfl)))
       (qg (qF (Jk PySem.F.plainAttrs_list PySem.F.slot_list_append PySem.F.type_list_append zK (pv 8) (qa (qB jY (qB jY (Jk PySem.F.plainAttrs_str PySem.F.slot_str_join PySem.F.type_str_join qfT qz (qa (Ji uSl (pv 5) qb1 (JJ (pv 4))) qb)) (pv 11)) (Jk PySem.F.plainAttrs_str PySem.F.slot_str_join PySem.F.type_str_join qfT qz (qa (pv 10) qb))) qb)))))))
     (qg (qy (pv 8))))))))))))))))),?_⟩
   try dsimp only [zv,Cx.nox]
   have p0:PenAt H p:=hp
   have t0:But p H H:=But.refl p H
   refine ⟨_,rfl,p,_,rfl,p0,by decide,by decide,fun dz G1 dz0 dz1 u1 p1=>?_⟩
   have t1:=t0.trans u1
   refine .inl ⟨_,_,rfl,rfl,?_⟩
   try unfold qX
   try dsimp only
   obtain ⟨z,hz⟩:∃ z:Int,z=1+dz:=⟨_,rfl⟩
   rw [← hz]
   refine ⟨_,rfl,_,rfl,p,_,rfl,p1,by omega,by omega,fun at_ G2 at_0 at_1 u2 p2=>?_⟩
   have t2:=t1.trans u2
   refine ⟨_,rfl,_,rfl,by omega,by omega,fun D fD=>?_⟩
   have nD:D≠p:=p2.ne fD
   refine qeR (lo:=0) (n:=z.toNat) (D:=D) (fun i σ H2=>∃ (s0:Option V) (cs:List Nat),σ=[s0,some (.str abc),some (.ref p)]∧But p G2 H2∧PenAt H2 p∧H2 D=some (.lst ((chs cs).map V.str))∧cs.length=i∧∀ c∈cs,Ltr c)
     ⟨none,[],rfl,fun b o z n=>by rw [qh (qi z fD)]; exact z,p2.upd nD _,qc,rfl,fun y hy=>nomatch hy⟩ ?_ ?_
   · rintro i σ H2 hi ⟨s0,cs,rfl,t2,p2,hD,hl,hc⟩
     refine ⟨_,rfl,_,rfl,p,_,rfl,p2,by decide,by decide,fun d H3 d0 d1 B3 p3=>?_⟩
     refine .inr (.inr ⟨_,_,_,rfl,rfl,qo (by decide +kernel),qh0 d0 d1,?_⟩)
     refine ⟨_,B3 _ _ hD nD,qx (by rw [List.length_map,List.length_map]; omega),?_⟩
     refine ⟨_,cs++[97+d.toNat],rfl,?_,p3.upd nD _,?_,?_,?_⟩
     · intro b o z n
       rw [qh (qi z fD)]
       exact B3 b o (t2 b o z n) n
     · rw [qc]; simp only [chs,List.map_append]; rfl
     · rw [List.length_append,hl]; rfl
     · intro c hm
       rcases List.mem_append.mp hm with z | z
       · exact hc c z
       · rw [show c=97+d.toNat by simpa using z]
         exact ⟨by omega,by omega⟩
   rintro σ H2 ⟨s0,cs,rfl,tC,pC,hD,hl,hc⟩
   have fD0:H D=none:=t2.none fD nD
   have T2:But p H H2:=t2.trans tC
   clear tC
   have p0:PenAt H2 p:=pC
   have t0:But p H2 H2:=But.refl p H2
   refine ⟨_,rfl,p,_,rfl,p0,by decide,by decide,fun fi G1 fi0 fi1 u1 p1=>?_⟩
   have t1:=t0.trans u1
   refine ⟨(qo (Nat.le_of_ble_eq_true rfl)),fun ol f_ol=>?_⟩
   have n_ol:ol≠p:=p1.ne f_ol
   have e_ol:(upd G1 ol (.lst [.int 1,.int 3,.int 5,.int 7,.int 9,.int 11,.int 15,.int 17,.int 19,.int 21,.int 23,.int 25])) ol=some (.lst [.int 1,.int 3,.int 5,.int 7,.int 9,.int 11,.int 15,.int 17,.int 19,.int 21,.int 23,.int 25]):=qc
   have p2:PenAt (upd G1 ol (.lst [.int 1,.int 3,.int 5,.int 7,.int 9,.int 11,.int 15,.int 17,.int 19,.int 21,.int 23,.int 25])) p:=p1.upd n_ol _
   have u2:Same G1 (upd G1 ol (.lst [.int 1,.int 3,.int 5,.int 7,.int 9,.int 11,.int 15,.int 17,.int 19,.int 21,.int 23,.int 25])):=Same.new _ f_ol
   have t2:=t1.same u2
   try dsimp only
   generalize upd G1 ol (.lst [.int 1,.int 3,.int 5,.int 7,.int 9,.int 11,.int 15,.int 17,.int 19,.int 21,.int 23,.int 25])=G2 at e_ol p2 u2 t2 ⊢
   refine ⟨_,rfl,p,_,rfl,p2,by decide,by decide,fun ds G3 ds0 ds1 u3 p3=>?_⟩
   have t3:=t2.trans u3
   obtain ⟨v,hv,mv⟩:=jM (xs:=odds.map V.int) ds0 ds1
   obtain ⟨st,ho,rfl⟩:=List.mem_map.mp mv
   refine .inl ⟨ol,_,_,_,rfl,rfl,SqL.of (u3 _ _ e_ol n_ol),hv,?_⟩
   have st0:1≤st∧st≤25:=by
     simp only [List.mem_cons,List.not_mem_nil,or_false] at ho
     rcases ho with rfl | rfl | rfl | rfl | rfl | rfl | rfl | rfl | rfl | rfl | rfl | rfl<;>decide
   refine ⟨(qo (Nat.le_of_ble_eq_true rfl)),fun q f_q=>?_⟩
   have n_q:q≠p:=p3.ne f_q
   have e_q:(upd G3 q (.lst [])) q=some (.lst []):=qc
   have p4:PenAt (upd G3 q (.lst [])) p:=p3.upd n_q _
   have u4:Same G3 (upd G3 q (.lst [])):=Same.new _ f_q
   have t4:=t3.same u4
   try dsimp only
   generalize upd G3 q (.lst [])=G4 at e_q p4 u4 t4 ⊢
   have fq0:H q=none:=T2.none ((t3).none f_q n_q) n_q
   have hD0:=(u4 _ _ (u3 _ _ (u2 _ _ (u1 _ _ hD nD)) nD))
   have B0:But p H G4:=T2.trans t4
   have nDq:D≠q:=zi hD0 e_q (by
     intro z
     injection z with z
     have z:=congrArg List.length z
     rw [List.length_map,List.length_map,hl] at z
     simp at z; omega)
   obtain ⟨pre,hpre⟩:∃ pre,pre=cs.take at_.toNat:=⟨_,rfl⟩
   have lpre:pre.length=at_.toNat:=by rw [hpre,List.length_take]; omega
   have cpre:∀ c∈pre,Ltr c:=fun c m=>hc c (List.mem_of_mem_take (hpre▸m))
   try unfold qX
   try dsimp only
   refine ⟨_,rfl,_,rfl,by omega,by omega,jd (lo:=0) (D:={ nx:=qh9 (qi0 8) { nx:=fun _ H'=>Q .non H',rt:=Q },rt:=Q }) (fun i σ H3=>∃ (s9 s10 s11:Option V) (xs:List Str),σ=[some (.ref p),some (.int many),some (.str abc),some (.int z),some (.int at_),some (.ref D),some (.int fi),some (.int st),some (.ref q),s9,s10,s11]∧But p H H3∧PenAt H3 p∧H3 D=some (.lst ((chs cs).map V.str))∧H3 q=some (.lst (xs.map V.str))∧xs.length=i∧NmsI pre fi st xs) ⟨_,_,_,[],rfl,B0,p4,hD0,e_q,rfl,.nil⟩ ?_ ?_⟩
   · rintro i σ H3 hi ⟨s9,s10,s11,xs,rfl,B,pB,hD3,hq3,lx,nm⟩
     refine ⟨_,rfl,_,rfl,.inl ⟨_,_,rfl,rfl,_,rfl,_,rfl,.inl ⟨_,_,rfl,rfl,_,rfl,_,rfl,_,rfl,_,_,rfl,rfl,p,_,rfl,pB,by omega,by omega,fun d H4 d0 d1 B4 p4=>?_⟩⟩⟩
     refine .inl ⟨_,_,rfl,rfl,_,rfl,.inl ⟨D,_,rfl,SqL.of (B4 _ _ hD3 nD),fun b fb=>?_⟩⟩
     have nb:b≠p:=p4.ne fb
     obtain ⟨ds,ed,hds⟩:=qiL cs (some (at_+1)) (some (at_+1+d))
     rw [ed]
     have lds:ds.length≤7 - at_.toNat:=by
       rw [hds,List.length_take,List.length_drop]
       rw [show at_+1=((at_.toNat+1:Nat):Int) by omega,HT.sIx_nat]
       omega
     have cds:∀ c∈ds,Ltr c:=fun c m=>hc c (List.mem_of_mem_drop (List.mem_of_mem_take (hds▸m)))
     have Sb:=Same.new (.lst ((chs ds).map V.str)) fb
     have hb5:(upd H4 b (.lst ((chs ds).map V.str))) b=some (.lst ((chs ds).map V.str)):=qc
     have p5:=p4.upd nb (.lst ((chs ds).map V.str))
     have B5:But p H3 (upd H4 b (.lst ((chs ds).map V.str))):=B4.same Sb
     try unfold qX
     try dsimp only
     generalize upd H4 b (.lst ((chs ds).map V.str))=G5 at Sb hb5 p5 B5 ⊢
     have m0:0≤(fi+st * (0+(i:Int))) % 26:=Int.emod_nonneg _ (by decide)
     have m1:(fi+st * (0+(i:Int))) % 26 < 26:=Int.emod_lt_of_pos _ (by decide)
     refine ⟨_,rfl,_,rfl,_,rfl,_,rfl,_,_,rfl,rfl,.inl ⟨by omega,by omega⟩,.inl ⟨_,_,rfl,rfl,_,_,rfl,rfl,(by show (0:Int) < _; decide),.inr (.inr ⟨_,_,_,rfl,rfl,qo (by decide +kernel),qh0 m0 m1,?_⟩)⟩⟩
     have hD5:=B5 _ _ hD3 nD
     have hq5:=B5 _ _ hq3 n_q
     refine ⟨_,rfl,.inl ⟨rfl,_,SqL.of hq5⟩,rfl,_,rfl,_,rfl,_,rfl,.inl ⟨D,_,rfl,SqL.of hD5,fun c fc=>?_⟩⟩
     have nc:c≠p:=p5.ne fc
     rw [qhp _ at_.toNat _ (by omega),show ((chs cs).map V.str).take at_.toNat=(chs pre).map V.str by rw [hpre]; simp only [chs,List.map_take]]
     have Sc:=Same.new (.lst ((chs pre).map V.str)) fc
     have hc6:(upd G5 c (.lst ((chs pre).map V.str))) c=some (.lst ((chs pre).map V.str)):=qc
     have p6:=p5.upd nc (.lst ((chs pre).map V.str))
     have hb6:=Sc _ _ hb5
     have hq6:=Sc _ _ hq5
     have hD6:=Sc _ _ hD5
     have B6:But p H3 (upd G5 c (.lst ((chs pre).map V.str))):=B5.same Sc
     try unfold qX
     try dsimp only
     generalize upd G5 c (.lst ((chs pre).map V.str))=G6 at hc6 p6 hb6 hq6 hD6 B6 ⊢
     refine ⟨_,c,_,rfl,rfl,SqL.of hc6,(by rw [qgl,lpre]; omega),_,rfl,.inr (.inr ⟨_,_,rfl,rfl,?_,?_⟩)⟩
     · rw [qc6,lpre]; exact qo (by show at_.toNat+1≤1000; omega)
     refine ⟨rfl,_,rfl,_,b,_,rfl,rfl,SqL.of hb6,(by rw [qgl]; omega),.inr (.inr ⟨_,_,rfl,rfl,?_,?_⟩)⟩
     · rw [qdF,qdS,qf2,qc6]; exact qo (by rw [List.length_append,lpre]; show _+1+_≤1000; omega)
     refine ⟨q,_,_,rfl,rfl,hq6,qx (by rw [List.length_map]; omega),?_⟩
     have ex:(Txt.join "" (chs pre)++ch (97+((fi+st * (0+(i:Int))) % 26).toNat)++Txt.join "" (chs ds)).cps.toList=pre++(97+((fi+st * (xs.length:Int)) % 26).toNat)::ds:=by
       rw [qdS,qdS,qf2,qf2,lx,Int.zero_add,List.append_assoc]; rfl
     refine ⟨_,_,_,xs++[_],rfl,?_,p6.upd n_q _,(by rw [qh nDq]; exact hD6),(by rw [qc,List.map_append]; rfl),(by rw [List.length_append,lx]; rfl),nm.snoc (qg9 ex ?_ ?_ ?_) ex⟩
     · intro b o z nb
       rw [qh (qi z fq0)]
       exact B6 b o (B b o z nb) nb
     · rw [List.length_append,List.length_cons]; omega
     · rw [List.length_append,List.length_cons,lpre]; omega
     · intro c hm
       rcases List.mem_append.mp hm with z | z
       · exact cpre c z
       · rcases List.mem_cons.mp z with z | z
         · rw [z,lx]; rw [Int.zero_add] at m0 m1; exact ⟨by omega,by omega⟩
         · exact cds c z
   · rintro σ H3 ⟨s9,s10,s11,xs,rfl,B,pB,hD3,hq3,lx,nm⟩
     exact ⟨_,rfl,kk q xs H3 fq0 B pB hq3 (by rw [lx]; omega) (nm.end_ ho (by omega))⟩
end
end K37
namespace K37
open PySem L2 PySem.NumText PyProof.Rows KC M04
section
variable {P:Program} {w:World} {K:PySem.W.Frag} {mg:Str->Option Value} {base:Heap}
end
theorem PenAt.sm {H H':Hp} {p:Addr} (h:PenAt H p) (s:Same H H'):PenAt H' p:=by
 obtain ⟨c,x,y,c0,e⟩:=h
 exact ⟨c,x,y,c0,s _ _ e⟩
theorem qhM:∀ {rows:List (Int×Int)},(∀ r∈rows,0≤r.1∧r.1≤1000000000∧-2880≤r.2∧r.2≤2880)->∀ p∈pcs rows,(0≤p.1∧p.1≤1000000000)∧(-1≤p.2.1∧p.2.1≤1000000000)∧-2880≤p.2.2∧p.2.2≤2880
 | [],_,p,m=>nomatch m
 | r::rs,h,p,m=>by
   rcases List.mem_cons.mp m with rfl | m
   · have h0:=h r List.mem_cons_self
     refine ⟨⟨h0.1,h0.2.1⟩,?_,h0.2.2⟩
     cases rs with
     | nil=>exact (show (-1:Int)≤1000000000∧(1000000000:Int)≤1000000000 by decide)
     | cons r2 rs =>
       have h1:=h r2 (List.mem_cons_of_mem _ List.mem_cons_self)
       show -1≤r2.1 - 1∧r2.1 - 1≤_
       omega
   · exact qhM (fun r m=>h r (List.mem_cons_of_mem _ m)) p m
theorem Rs.neP {H:Hp} {p q:Addr} {rows:List (Int×Int)} (hp:PenAt H p) (h:Rs H q rows):q≠p:=by
 obtain ⟨zs,hq,tz⟩:=h
 obtain ⟨c,x,y,_,e⟩:=hp
 refine zi hq e (fun z=>?_)
 injection z with z
 subst z
 have l:=tz.1
 cases rows with
 | nil=>cases l
 | cons r rs =>
   obtain ⟨t,e1,_⟩:=tz.2 0 _ r rfl rfl
   cases e1
theorem Rs.bp {H H':Hp} {p q:Addr} {rows:List (Int×Int)} (h:Rs H q rows) (hp:PenAt H p) (b:But p H H'):Rs H' q rows:=by
 have n:=h.neP hp
 obtain ⟨zs,hq,tz⟩:=h
 exact ⟨zs,b _ _ hq n,TupL.pen tz hp b⟩
inductive qbm (vs:List V) (H:Hp) (Q:VK):Prop
 | mk (p q:Addr) (rows:List (Int×Int)) (h1:vs=[.ref p,.ref q]) (h2:PenAt H p) (h3:Rs H q rows) (h4:Good rows) (h5:∀ (n:Int) (H':Hp),-10000≤n->n≤1000010000->But p H H'->PenAt H' p->Q (.int n) H'):qbm vs H Q
def qd4:Sp:=fun vs H Q _=>qbm vs H Q
section
variable {P:Program} {w:World} {K:PySem.W.Frag} {mg:Str->Option Value} {base:Heap}
theorem qg1 {a:Ad} (T:Txt K mg a):qA P w K mg base CX0 3 a.f_V a.fd_V ["_law_state","_law_rows_here"] qd4:=by
 have G_r:qA P w K mg base CX0 1 a.f_r a.fd_r ["_law_rows_here"] Jv:=qbB T
 have G_a:qA P w K mg base CX0 2 a.f_a a.fd_a ["_law_state","_law_many"] Qg:=QB T
 refine T.d_V.F.ok sc_Lnear (fun vs H Q E h=>?_) (fun cdv A outer s H vs Q E hr h=>?_)
 · obtain ⟨p,q,rows,rfl,hp,hrs,good,kk⟩:=h
   rfl
 · obtain ⟨p,q,rows,rfl,hp,hrs,good,kk⟩:=h
   have hu:=qJ hr
   have hU:=hr.units
   have h_r:Room (1) _:=hr.mono (by decide)
   have h_a:Room (2) _:=hr.mono (by decide)
   refine ⟨_,(@qf _ _ _ _ _ (by exact (jJ (qC (r:=rIx K) qr (qj G_r h_r rfl T.d_r.m T.d_r.k T.d_r.b .nil qq (qa (pv 1) qb)) (qj G_a h_a rfl T.d_a.m T.d_a.k T.d_a.b .nil qq (qa (pv 0) (qa (qp qU (by rfl) T.n_len qK (qa (pv 1) qb)) qb))) (fun _ _=>rfl)) (ZL rfl (qD (qv (i:=2) (sc_Lnear.nd) rfl (Or.inl rfl)) (qD (qv (i:=3) (sc_Lnear.nd) rfl (Or.inl rfl)) (qD (qv (i:=4) (sc_Lnear.nd) rfl (Or.inl rfl)) QE))))))
     (by exact (@qf _ _ _ _ _ (by exact (qH (i:=5) sc_Lnear.nd rfl (Or.inl rfl) (qQ (qa (pv 2) (qa (pv 3) (qa (pv 2) (qa (pv 3) (qa (qB jY (pv 2) (qB qfB (qB zH (pv 3) (pv 2)) qe)) qb))))))))
     (by exact (@qg _ _ _ (by exact (@qy _ _ _ _ (by exact (@qB _ _ _ _ _ _ _ _ (by exact jY) (by exact (qB jY (qC (r:=rIx K) qr (pv 5) (qj G_a h_a rfl T.d_a.m T.d_a.k T.d_a.b .nil qq (qa (pv 0) (qa qe qb))) (fun _ _=>rfl)) (pv 4))) (by exact (@qC _ _ _ _ _ _ (rIx K) (by exact qr) (by exact (@qQ _ _ _ _ (by exact (@qa _ _ _ _ _ (by exact qe) (by exact (@qa _ _ _ _ _ (by exact qe) (by exact (@qa _ _ _ _ _ (by exact qe) (by exact (@qa _ _ _ _ _ (by exact (jx QH qe)) (by exact (@qa _ _ _ _ _ (by exact (qB zH (qj G_a h_a rfl T.d_a.m T.d_a.k T.d_a.b .nil qq (qa (pv 0) (qa qe qb))) qe)) (by exact (@qb _)) (by rfl))) (by rfl))) (by rfl))) (by rfl))) (by rfl))))) (by exact (qj G_a h_a rfl T.d_a.m T.d_a.k T.d_a.b .nil qq (qa (pv 0) (qa qe qb)))) (by exact fun _ _=>rfl)))))))))))),?_⟩
   try dsimp only [zv,Cx.nox]
   have p0:PenAt H p:=hp
   have t0:But p H H:=But.refl p H
   have lr:=good.few
   have l0:=qS good
   obtain ⟨zs0,hq0,tz0⟩:=id hrs
   refine ⟨_,rfl,q,rows,rfl,hrs,good,fun d zs G1 fd S1 hd tz=>?_⟩
   have u1:=S1
   have p1:=PenAt.sm p0 u1
   have t1:=t0.same u1
   have nd:d≠p:=hp.ne fd
   refine ⟨_,rfl,_,rfl,_,_,rfl,.inl ⟨_,SqL.of (S1 _ _ hq0),rfl⟩,p,_,rfl,p1,by rw [tz0.1]; omega,by rw [tz0.1]; omega,fun i G2 i0 i1 u2 p2=>?_⟩
   have t2:=t1.trans u2
   obtain ⟨j,rfl⟩:=Int.eq_ofNat_of_zero_le i0
   have jl:j < (pcs rows).length:=by rw [Z7,← tz0.1]; omega
   obtain ⟨t,hz,ht⟩:=tz.at_ (List.getElem?_eq_getElem jl)
   have bd:=qhM good.ok _ (List.getElem_mem jl)
   generalize (pcs rows)[j]=pc at ht bd
   have nt:t≠p:=by
     obtain ⟨c,x,y,_,e⟩:=p1
     exact zi ht e (by intro z; cases z)
   refine .inl ⟨d,_,_,_,rfl,rfl,SqL.of (u2 _ _ hd nd),QA hz,?_⟩
   refine ⟨t,_,rfl,SqT.of (u2 _ _ ht nt),rfl,_,_,rfl,_,_,rfl,_,_,rfl,rfl,?_⟩
   obtain ⟨a1,b1,s1⟩:=pc
   obtain ⟨ha,hb,hs⟩:=bd
   try dsimp only at ha hb hs
   refine ⟨_,rfl,_,rfl,_,rfl,_,rfl,_,rfl,_,rfl,_,rfl,_,_,rfl,rfl,_,_,rfl,rfl,⟨by decide,by decide⟩,.inl ⟨_,_,rfl,rfl,?_⟩⟩
   refine ⟨(qo (Nat.le_of_ble_eq_true rfl)),fun l f_l=>?_⟩
   have n_l:l≠p:=p2.ne f_l
   have e_l:(upd G2 l (.lst [.int a1,.int b1,.int a1,.int b1,.int (a1+(b1 - a1) / 2)])) l=some (.lst [.int a1,.int b1,.int a1,.int b1,.int (a1+(b1 - a1) / 2)]):=qc
   have p3:PenAt (upd G2 l (.lst [.int a1,.int b1,.int a1,.int b1,.int (a1+(b1 - a1) / 2)])) p:=p2.upd n_l _
   have u3:Same G2 (upd G2 l (.lst [.int a1,.int b1,.int a1,.int b1,.int (a1+(b1 - a1) / 2)])):=Same.new _ f_l
   have t3:=t2.same u3
   try dsimp only
   generalize upd G2 l (.lst [.int a1,.int b1,.int a1,.int b1,.int (a1+(b1 - a1) / 2)])=G3 at e_l p3 u3 t3 ⊢
   refine ⟨_,rfl,_,rfl,p,_,rfl,p3,by decide,by decide,fun j2 G4 j20 j21 u4 p4=>?_⟩
   have t4:=t3.trans u4
   obtain ⟨v,hv,mv⟩:=jM (xs:=([.int a1,.int b1,.int a1,.int b1,.int (a1+(b1 - a1) / 2)]:List V)) j20 j21
   obtain ⟨x,rfl,x0,x1⟩:∃ x:Int,v=.int x∧-1≤x∧x≤1000000000:=by
     simp only [List.mem_cons,List.not_mem_nil,or_false] at mv
     rcases mv with rfl | rfl | rfl | rfl | rfl<;>exact ⟨_,rfl,by omega,by omega⟩
   refine .inl ⟨l,_,_,_,rfl,rfl,SqL.of (u4 _ _ e_l n_l),hv,_,rfl,.inl ⟨_,_,rfl,rfl,?_⟩⟩
   refine ⟨_,rfl,_,rfl,p,_,rfl,p4,by decide,by decide,fun y G5 y0 y1 u5 p5=>?_⟩
   have t5:=t4.trans u5
   refine ⟨_,_,rfl,rfl,?_⟩
   refine ⟨(qo (Nat.le_of_ble_eq_true rfl)),fun l2 f_l2=>?_⟩
   have n_l2:l2≠p:=p5.ne f_l2
   have e_l2:(upd G5 l2 (.lst [.int 0,.int 0,.int 1,.int (-1),.int (y - 100)])) l2=some (.lst [.int 0,.int 0,.int 1,.int (-1),.int (y - 100)]):=qc
   have p6:PenAt (upd G5 l2 (.lst [.int 0,.int 0,.int 1,.int (-1),.int (y - 100)])) p:=p5.upd n_l2 _
   have u6:Same G5 (upd G5 l2 (.lst [.int 0,.int 0,.int 1,.int (-1),.int (y - 100)])):=Same.new _ f_l2
   have t6:=t5.same u6
   try dsimp only
   generalize upd G5 l2 (.lst [.int 0,.int 0,.int 1,.int (-1),.int (y - 100)])=G6 at e_l2 p6 u6 t6 ⊢
   refine ⟨_,rfl,p,_,rfl,p6,by decide,by decide,fun j3 G7 j30 j31 u7 p7=>?_⟩
   have t7:=t6.trans u7
   obtain ⟨v,hv2,mv2⟩:=jM (xs:=([.int 0,.int 0,.int 1,.int (-1),.int (y - 100)]:List V)) j30 j31
   obtain ⟨z,rfl,z0,z1⟩:∃ x:Int,v=.int x∧-100≤x∧x≤100:=by
     simp only [List.mem_cons,List.not_mem_nil,or_false] at mv2
     rcases mv2 with rfl | rfl | rfl | rfl | rfl<;>exact ⟨_,rfl,by omega,by omega⟩
   refine .inl ⟨l2,_,_,_,rfl,rfl,SqL.of (u7 _ _ e_l2 n_l2),hv2,.inl ⟨_,_,rfl,rfl,?_⟩⟩
   exact kk _ _ (by omega) (by omega) t7 p7
end
end K37
namespace K37
open PySem L2 PySem.NumText PyProof.Rows KC M04
section
variable {P:Program} {w:World} {K:PySem.W.Frag} {mg:Str->Option Value} {base:Heap}
end
abbrev Pls:=List (Str×Addr×List (Int×Int))
def dkv (ps:Pls):List (Key×V):=ps.map fun x=>((.inr x.1:Key),V.ref x.2.1)
structure TdI (H:Hp) (ps:Pls):Prop where
 rs:∀ x∈ps,Rs H x.2.1 x.2.2
 good:∀ x∈ps,Good x.2.2
 nm:∀ x∈ps,Qj (.str x.1)=true
 nd:(ps.map (·.1)).Nodup
 ne:0 < ps.length
 few:ps.length≤6
def Td (H:Hp) (d:Addr) (ps:Pls):Prop:=Rd H d (.dK (dkv ps))∧TdI H ps
theorem Rd.bp {H H':Hp} {p d:Addr} {kvs:List (Key×V)} (h:Rd H d (.dK kvs)) (hp:PenAt H p) (b:But p H H'):Rd H' d (.dK kvs):=by
 obtain ⟨c,x,y,_,e⟩:=hp
 rcases h with h | ⟨o,h⟩
 · exact .inl (b _ _ h (zi h e (by intro z; cases z)))
 · exact .inr ⟨o,b _ _ h (zi h e (by intro z; cases z))⟩
theorem Rd.sm {H H':Hp} {d:Addr} {u:HO} (h:Rd H d u) (b:Same H H'):Rd H' d u:=by
 rcases h with h | ⟨o,h⟩
 · exact .inl (b _ _ h)
 · exact .inr ⟨o,b _ _ h⟩
theorem Td.bp {H H':Hp} {p d:Addr} {ps:Pls} (h:Td H d ps) (hp:PenAt H p) (b:But p H H'):Td H' d ps :=
 ⟨Rd.bp h.1 hp b,⟨fun x m=>(h.2.rs x m).bp hp b,h.2.good,h.2.nm,h.2.nd,h.2.ne,h.2.few⟩⟩
theorem qbg:∀ {ps:Pls},(ps.map (·.1)).Nodup->∀ x∈ps,qaf (dkv ps) (.inr x.1)=some (V.ref x.2.1)
 | [],_,x,m=>nomatch m
 | y::ps,nd,x,m=>by
   rw [List.map_cons,List.nodup_cons] at nd
   unfold dkv qaf
   rw [List.map_cons,List.find?_cons]
   rcases List.mem_cons.mp m with rfl | m
   · simp
   · have n:¬ ((.inr y.1:Key)=.inr x.1):=fun e=>by
       injection e with e
       exact nd.1 (e▸List.mem_map_of_mem m)
     rw [show decide (((.inr y.1:Key),V.ref y.2.1).1=.inr x.1)=false by simpa using n]
     exact qbg nd.2 x m
theorem qiW:∀ {ps:Pls} {pl:Str},pl∉ps.map (·.1)->qaf (dkv ps) (.inr pl)=none
 | [],_,_=>rfl
 | y::ps,pl,h=>by
   rw [List.map_cons,List.mem_cons,not_or] at h
   unfold dkv qaf
   rw [List.map_cons,List.find?_cons]
   have n:¬ ((.inr y.1:Key)=.inr pl):=fun e=>by injection e with e; exact h.1 e.symm
   rw [show decide (((.inr y.1:Key),V.ref y.2.1).1=.inr pl)=false by simpa using n]
   exact qiW h.2
theorem Td.get {H:Hp} {d:Addr} {ps:Pls} (h:Td H d ps) {x:Str×Addr×List (Int×Int)} (m:x∈ps):qbf H d (.str x.1) (some (.ref x.2.1)):=.inl ⟨_,.inr x.1,h.1,rfl,(qbg h.2.nd x m).symm⟩
inductive qbh (vs:List V) (H:Hp) (Q:VK):Prop
 | mk (p q tb:Addr) (nm:Str) (ps:Pls) (h1:vs=[.ref p,.str nm,.ref q,.ref tb]) (h2:PenAt H p) (h3:Qj (.str nm)=true) (h4:H q=some (.lst ((ps.map (·.1)).map V.str))) (h5:Td H tb ps) (h6:∀ (s:Addr) (wd pl:Str) (lo hi:Int) (H':Hp),H s=none->But p H H'->PenAt H' p->H' s=some (.tup (qjS wd nm pl lo hi))->Spc wd nm pl lo hi->(pl=""∨pl∈ps.map (·.1))->Q (.ref s) H'):qbh vs H Q
def qd2:Sp:=fun vs H Q _=>qbh vs H Q
section
variable {P:Program} {w:World} {K:PySem.W.Frag} {mg:Str->Option Value} {base:Heap}
theorem qgZ {a:Ad} (T:Txt K mg a):qA P w K mg base CX0 4 a.f_W a.fd_W ["_law_state","_law_name","_law_places","_law_tables"] qd2:=by
 have G_a:qA P w K mg base CX0 2 a.f_a a.fd_a ["_law_state","_law_many"] Qg:=QB T
 have G_V:qA P w K mg base CX0 3 a.f_V a.fd_V ["_law_state","_law_rows_here"] qd4:=qg1 T
 refine T.d_W.F.ok sc_Lspec (fun vs H Q E h=>?_) (fun cdv A outer s H vs Q E hr h=>?_)
 · obtain ⟨p,q,tb,nm,ps,rfl,hp,hnm,hq,td,kk⟩:=h
   rfl
 · obtain ⟨p,q,tb,nm,ps,rfl,hp,hnm,hq,td,kk⟩:=h
   have hu:=qJ hr
   have hU:=hr.units
   have h_a:Room (2) _:=hr.mono (by decide)
   have h_V:Room (3) _:=hr.mono (by decide)
   refine ⟨_,(@qf _ _ _ _ _ (by exact (@qH _ _ 4 _ _ _ _ (by exact sc_Lspec.nd) (by rfl) (by exact (Or.inl rfl)) (by exact (@qC _ _ _ _ _ _ (rIx K) (by exact qr) (by exact (@qQ _ _ _ _ (by exact (@qa _ _ _ _ _ (by exact qz) (by exact (@qa _ _ _ _ _ (by exact qz) (by exact (@qa _ _ _ _ _ (by exact qz) (by exact (@qa _ _ _ _ _ (by exact qz) (by exact (@qa _ _ _ _ _ (by exact qz) (by exact (@qa _ _ _ _ _ (by exact qz) (by exact (@qa _ _ _ _ _ (by exact qz) (by exact (@qa _ _ _ _ _ (by exact qz) (by exact (@qb _)) (by rfl))) (by rfl))) (by rfl))) (by rfl))) (by rfl))) (by rfl))) (by rfl))) (by rfl))))) (by exact (qj G_a h_a rfl T.d_a.m T.d_a.k T.d_a.b .nil qq (qa (pv 0) (qa qe qb)))) (by exact fun _ _=>rfl))) (by rfl) (by exact .inl rfl)))
     (by exact (@qf _ _ _ _ _ (by exact (qH (i:=5) sc_Lspec.nd rfl (Or.inl rfl) (qC (r:=rIx K) qr (pv 2) (qj G_a h_a rfl T.d_a.m T.d_a.k T.d_a.b .nil qq (qa (pv 0) (qa (qp qU (by rfl) T.n_len qK (qa (pv 2) qb)) qb))) (fun _ _=>rfl))))
     (by exact (@qf _ _ _ _ _ (by exact (qH (i:=6) sc_Lspec.nd rfl (Or.inl rfl) (qL hu (pv 3) (pv 5) (fun _ _=>rfl))))
     (by exact (@qf _ _ _ _ _ (by exact (@qR _ _ _ _ _ _ _ _ (by exact (qu qcU (pv 4) (zR (qa qz (qa qz qb))) (by with_unfolding_all rfl)))
       (by exact (@qf _ _ _ _ _ (by exact (qH (i:=7) sc_Lspec.nd rfl (Or.inl rfl) (qj G_V h_V rfl T.d_V.m T.d_V.k T.d_V.b .nil qq (qa (pv 0) (qa (pv 6) qb)))))
       (by exact (@qf _ _ _ _ _ (by exact (@qR _ _ _ _ _ _ _ _ (by exact (qu (uEq hU) (qj G_a h_a rfl T.d_a.m T.d_a.k T.d_a.b .nil qq (qa (pv 0) (qa qe qb))) qe (qG _)))
         (by exact (@qg _ _ _ (by exact (@qH _ _ 7 _ _ _ _ (by exact sc_Lspec.nd) (by rfl) (by exact (Or.inl rfl)) (by exact (@qC _ _ _ _ _ _ (rIx K) (by exact qr) (by exact (@qQ _ _ _ _ (by exact (@qa _ _ _ _ _ (by exact (qB Qo qe qe)) (by exact (@qa _ _ _ _ _ (by exact (qB zH qe (qB Qo qe qe))) (by exact (@qa _ _ _ _ _ (by exact (qj G_a h_a rfl T.d_a.m T.d_a.k T.d_a.b .nil qq (qa (pv 0) (qa (qB Qo qe qe) qb)))) (by exact (@qb _)) (by rfl))) (by rfl))) (by rfl))))) (by exact (qj G_a h_a rfl T.d_a.m T.d_a.k T.d_a.b .nil qq (qa (pv 0) (qa qe qb)))) (by exact fun _ _=>rfl))) (by rfl) (by exact .inl rfl)))))
         (by exact qw)))
       (by exact (@qf _ _ _ _ _ (by exact (@qH _ _ 8 _ _ _ _ (by exact sc_Lspec.nd) (by rfl) (by exact (Or.inl rfl)) (by exact (@qp _ _ _ _ _ _ _ _ _ (by exact (Zx rfl)) (by rfl) (by exact T.n_min) (by exact Zy) (by exact (@qa _ _ _ _ _ (by exact (qB Qo qe qe)) (by exact (@qa _ _ _ _ _ (by exact (@qB _ _ _ _ _ _ _ _ (by exact jY) (by exact (pv 7)) (by exact (@qC _ _ _ _ _ _ (rIx K) (by exact qr) (by exact (@qQ _ _ _ _ (by exact (@qa _ _ _ _ _ (by exact qe) (by exact (@qa _ _ _ _ _ (by exact qe) (by exact (@qa _ _ _ _ _ (by exact qe) (by exact (@qa _ _ _ _ _ (by exact qe) (by exact (@qa _ _ _ _ _ (by exact (qB Qo qe qe)) (by exact (@qa _ _ _ _ _ (by exact (jx QH qe)) (by exact (@qb _)) (by rfl))) (by rfl))) (by rfl))) (by rfl))) (by rfl))) (by rfl))))) (by exact (qj G_a h_a rfl T.d_a.m T.d_a.k T.d_a.b .nil qq (qa (pv 0) (qa qe qb)))) (by exact fun _ _=>rfl))))) (by exact (@qb _)) (by rfl))) (by rfl))) (by decide) (by rfl) (by rfl) (by rfl))) (by rfl) (by exact .inl rfl)))
       (by exact (qg (qy (zR (qa (pv 4) (qa (pv 1) (qa (pv 5) (qa (pv 7) (qa (qC (r:=rIx K) qr (qQ (qa (qp (Ql rfl) (by rfl) T.n_max Qn (qa (pv 8) (qa (qB zH qe (qB Qo qe qe)) qb))) (qa (pv 7) qb))) (qY qa8 (by rfl) T.n_int Jt (qa (Z6 (uEq hU) (pv 4) qz (qG _)) qb)) (fun _ _=>rfl)) qb)))))))))))))))
       (by exact qw)))
     (by exact (@qf _ _ _ _ _ (by exact (qH (i:=7) sc_Lspec.nd rfl (Or.inl rfl) (qp (Zx rfl) (by rfl) T.n_min Zy (qa (qB Qo qe qe) (qa (qp (Ql rfl) (by rfl) T.n_max Qn (qa qe (qa (qB zH (qB jY (qC (r:=rIx K) qr (qC (r:=rIx K) qr (pv 6) (qj G_a h_a rfl T.d_a.m T.d_a.k T.d_a.b .nil qq (qa (pv 0) (qa (qp qU (by rfl) T.n_len qK (qa (pv 6) qb)) qb))) (fun _ _=>rfl)) qe (fun _ _=>rfl)) (qj G_a h_a rfl T.d_a.m T.d_a.k T.d_a.b .nil qq (qa (pv 0) (qa qe qb)))) qe) qb))) qb)))))
     (by exact (@qf _ _ _ _ _ (by exact (@qR _ _ _ _ _ _ _ _ (by exact (qu (uEq hU) (qj G_a h_a rfl T.d_a.m T.d_a.k T.d_a.b .nil qq (qa (pv 0) (qa qe qb))) qe (qG _)))
       (by exact (@qg _ _ _ (by exact (@qH _ _ 7 _ _ _ _ (by exact sc_Lspec.nd) (by rfl) (by exact (Or.inl rfl)) (by exact (@qC _ _ _ _ _ _ (rIx K) (by exact qr) (by exact (@qQ _ _ _ _ (by exact (@qa _ _ _ _ _ (by exact qe) (by exact (@qa _ _ _ _ _ (by exact (qB Qo qe qe)) (by exact (@qa _ _ _ _ _ (by exact (qj G_a h_a rfl T.d_a.m T.d_a.k T.d_a.b .nil qq (qa (pv 0) (qa (qB jY (qB Qo qe qe) qe) qb)))) (by exact (@qb _)) (by rfl))) (by rfl))) (by rfl))))) (by exact (qj G_a h_a rfl T.d_a.m T.d_a.k T.d_a.b .nil qq (qa (pv 0) (qa qe qb)))) (by exact fun _ _=>rfl))) (by rfl) (by exact .inl rfl)))))
       (by exact qw)))
     (by exact (@qf _ _ _ _ _ (by exact (@qH _ _ 8 _ _ _ _ (by exact sc_Lspec.nd) (by rfl) (by exact (Or.inl rfl)) (by exact (@qp _ _ _ _ _ _ _ _ _ (by exact (Zx rfl)) (by rfl) (by exact T.n_min) (by exact Zy) (by exact (@qa _ _ _ _ _ (by exact (qB Qo qe qe)) (by exact (@qa _ _ _ _ _ (by exact (@qp _ _ _ _ _ _ _ _ _ (by exact (Ql rfl)) (by rfl) (by exact T.n_max) (by exact Qn) (by exact (@qa _ _ _ _ _ (by exact qe) (by exact (@qa _ _ _ _ _ (by exact (@qB _ _ _ _ _ _ _ _ (by exact jY) (by exact (pv 7)) (by exact (@qC _ _ _ _ _ _ (rIx K) (by exact qr) (by exact (@qQ _ _ _ _ (by exact (@qa _ _ _ _ _ (by exact qe) (by exact (@qa _ _ _ _ _ (by exact qe) (by exact (@qa _ _ _ _ _ (by exact qe) (by exact (@qa _ _ _ _ _ (by exact qe) (by exact (@qa _ _ _ _ _ (by exact (qB Qo qe qe)) (by exact (@qa _ _ _ _ _ (by exact (jx QH qe)) (by exact (@qb _)) (by rfl))) (by rfl))) (by rfl))) (by rfl))) (by rfl))) (by rfl))))) (by exact (qj G_a h_a rfl T.d_a.m T.d_a.k T.d_a.b .nil qq (qa (pv 0) (qa qe qb)))) (by exact fun _ _=>rfl))))) (by exact (@qb _)) (by rfl))) (by rfl))) (by decide) (by rfl) (by rfl) (by rfl))) (by exact (@qb _)) (by rfl))) (by rfl))) (by decide) (by rfl) (by rfl) (by rfl))) (by rfl) (by exact .inl rfl)))
     (by exact (qf (qR (qu (uEq hU) (pv 4) qz (qG _))
       (qg (qy (zR (qa (pv 4) (qa (pv 1) (qa qz (qa qe (qa (qB Qo qe qe) qb))))))))
       qw)
     (qg (qy (zR (qa (pv 4) (qa (pv 1) (qa qz (qa (pv 7) (qa (qC (r:=rIx K) qr (qQ (qa (pv 8) (qa (pv 7) qb))) (qY qa8 (by rfl) T.n_int Jt (qa (Z6 (uEq hU) (pv 4) qz (qG _)) qb)) (fun _ _=>rfl)) qb))))))))))))))))))))))),?_⟩
   try dsimp only [zv,Cx.nox]
   have p0:PenAt H p:=hp
   have t0:But p H H:=But.refl p H
   have lps:=td.2.ne
   have lpf:=td.2.few
   have nq:q≠p:=by
     obtain ⟨c,x,y,_,e⟩:=hp
     refine zi hq e (fun z=>?_)
     injection z with z
     cases ps with
     | nil=>cases lps
     | cons a r=>cases z
   have lq:((ps.map (·.1)).map V.str).length=ps.length:=by rw [List.length_map,List.length_map]
   refine ⟨(qo (Nat.le_of_ble_eq_true rfl)),fun lw f_lw=>?_⟩
   have n_lw:lw≠p:=p0.ne f_lw
   have e_lw:(upd H lw (.lst [.str "any",.str "within",.str "at",.str "between",.str "read",.str "between",.str "read",.str "read"])) lw=some (.lst [.str "any",.str "within",.str "at",.str "between",.str "read",.str "between",.str "read",.str "read"]):=qc
   have p1:PenAt (upd H lw (.lst [.str "any",.str "within",.str "at",.str "between",.str "read",.str "between",.str "read",.str "read"])) p:=p0.upd n_lw _
   have u1:Same H (upd H lw (.lst [.str "any",.str "within",.str "at",.str "between",.str "read",.str "between",.str "read",.str "read"])):=Same.new _ f_lw
   have t1:=t0.same u1
   try dsimp only
   generalize upd H lw (.lst [.str "any",.str "within",.str "at",.str "between",.str "read",.str "between",.str "read",.str "read"])=G1 at e_lw p1 u1 t1 ⊢
   refine ⟨_,rfl,p,_,rfl,p1,by decide,by decide,fun iw G2 iw0 iw1 u2 p2=>?_⟩
   have t2:=t1.trans u2
   obtain ⟨v,hv,mv⟩:=jM (xs:=([.str "any",.str "within",.str "at",.str "between",.str "read",.str "between",.str "read",.str "read"]:List V)) iw0 iw1
   obtain ⟨wd,rfl,hw⟩:∃ wd:Str,v=.str wd∧((wd="between"∨wd="read")∨wd="any"∨wd="within"∨wd="at"):=by
     simp only [List.mem_cons,List.not_mem_nil,or_false] at mv
     rcases mv with rfl | rfl | rfl | rfl | rfl | rfl | rfl | rfl
     · exact ⟨_,rfl,.inr (.inl rfl)⟩
     · exact ⟨_,rfl,.inr (.inr (.inl rfl))⟩
     · exact ⟨_,rfl,.inr (.inr (.inr rfl))⟩
     · exact ⟨_,rfl,.inl (.inl rfl)⟩
     · exact ⟨_,rfl,.inl (.inr rfl)⟩
     · exact ⟨_,rfl,.inl (.inl rfl)⟩
     · exact ⟨_,rfl,.inl (.inr rfl)⟩
     · exact ⟨_,rfl,.inl (.inr rfl)⟩
   refine .inl ⟨lw,_,_,_,rfl,rfl,SqL.of (u2 _ _ e_lw n_lw),hv,?_⟩
   refine ⟨_,rfl,_,rfl,_,rfl,_,_,rfl,.inl ⟨_,SqL.of (t2 _ _ hq nq),rfl⟩,p,_,rfl,p2,by rw [lq]; omega,by rw [lq]; omega,fun ip G3 ip0 ip1 u3 p3=>?_⟩
   have t3:=t2.trans u3
   obtain ⟨j,rfl⟩:=Int.eq_ofNat_of_zero_le ip0
   have jl:j < ps.length:=by rw [lq] at ip1; omega
   have mx:=List.getElem_mem jl
   have hx:((ps.map (·.1)).map V.str)[j]?=some (.str ps[j].1):=by rw [List.getElem?_map,List.getElem?_map,List.getElem?_eq_getElem jl]; rfl
   generalize ps[j]=x at mx hx
   refine .inl ⟨q,_,_,_,rfl,rfl,SqL.of (t3 _ _ hq nq),QA hx,?_⟩
   have td3:=td.bp hp t3
   refine ⟨_,rfl,_,rfl,tb,_,rfl,td3.get mx,?_⟩
   have good:=td.2.good x mx
   have nmx:=td.2.nm x mx
   have mpl:x.1∈ps.map (·.1):=List.mem_map_of_mem mx
   have hrs0:=td.2.rs x mx
   obtain ⟨pl,rq,rows⟩:=x
   try dsimp only at good nmx mpl hrs0
   have e10:(10:Int) ^ (10:Int).toNat=10000000000:=by decide
   have e9:(10:Int) ^ (9:Int).toNat=1000000000:=by decide
   have e6:(10:Int) ^ (6:Int).toNat=1000000:=by decide
   have e8:(10:Int) ^ (8:Int).toNat=100000000:=by decide
   refine ⟨_,rfl,(qo (Nat.le_of_ble_eq_true rfl)),fun tt f_tt=>?_⟩
   have n_tt:tt≠p:=p3.ne f_tt
   have e_tt:(upd G3 tt (.tup [.str "between",.str "read"])) tt=some (.tup [.str "between",.str "read"]):=qc
   have p4:PenAt (upd G3 tt (.tup [.str "between",.str "read"])) p:=p3.upd n_tt _
   have u4:Same G3 (upd G3 tt (.tup [.str "between",.str "read"])):=Same.new _ f_tt
   have t4:=t3.same u4
   try dsimp only
   generalize upd G3 tt (.tup [.str "between",.str "read"])=G4 at e_tt p4 u4 t4 ⊢
   refine ⟨tt,_,rfl,.inr (SqT.of e_tt),rfl,rfl,_,rfl,?_⟩
   clear u1 u2 u3 u4 p1 p2 p3 t1 t2 t3 e_tt e_lw hv mv td3 hx
   rcases hw with hw | hw
   all_goals have t4_:=t4
   · have p0:PenAt G4 p:=p4
     have t0:But p G4 G4:=But.refl p G4
     have e1:inV (.str wd) [.str "between",.str "read"]=true:=by rcases hw with rfl | rfl<;>decide
     refine Jr e1 ?_
     have T0:But p H G4:=t4_
     refine ⟨_,rfl,_,rfl,p,rq,rows,rfl,p0,hrs0.bp hp T0,good,fun n G1 n0 n1 u1 p1=>?_⟩
     have t1:=t0.trans u1
     try unfold qX
     try dsimp only
     refine QC (t:=qi6 _ _ _) (fun σ' H'=>∃ lo:Int,σ'=[some (.ref p),some (.str nm),some (.ref q),some (.ref tb),some (.str wd),some (.str pl),some (.ref rq),some (.int lo),none]∧(-10000000000≤lo∧lo≤10000000000)∧But p H H'∧PenAt H' p) (fun N hN=>?_) ?_
     have t1_:=t1
     · have p0:PenAt G1 p:=p1
       have t0:But p G1 G1:=But.refl p G1
       refine ⟨_,rfl,p,_,rfl,p0,by decide,by decide,fun d8 G1 d80 d81 u1 p1=>?_⟩
       have t1:=t0.trans u1
       refine .inl ⟨rfl,_,rfl,Zf (fun g=>?_) (fun g=>hN _ _ ⟨n,rfl,⟨by omega,by omega⟩,T0.trans (t1_.trans t1),p1⟩)⟩
       have w10:(0:Int) < 10 ^ (10:Int).toNat∧(10:Int) ^ (10:Int).toNat < 340282366920938463463374607431768211456:=by decide
       refine ⟨_,_,rfl,rfl,⟨by decide,by decide,by decide⟩,_,_,rfl,rfl,⟨by decide,by decide,by decide⟩,_,_,rfl,rfl,_,rfl,_,_,rfl,rfl,⟨by decide,by decide,by decide⟩,p,_,rfl,p1,w10.1,w10.2,fun dz G2 dz0 dz1 u2 p2=>?_⟩
       have t2:=t1.trans u2
       refine ⟨(qo (Nat.le_of_ble_eq_true rfl)),fun l3 f_l3=>?_⟩
       have n_l3:l3≠p:=p2.ne f_l3
       have e_l3:(upd G2 l3 (.lst [.int (10 ^ (10:Int).toNat),.int (0 - 10 ^ (10:Int).toNat),.int dz])) l3=some (.lst [.int (10 ^ (10:Int).toNat),.int (0 - 10 ^ (10:Int).toNat),.int dz]):=qc
       have p3:PenAt (upd G2 l3 (.lst [.int (10 ^ (10:Int).toNat),.int (0 - 10 ^ (10:Int).toNat),.int dz])) p:=p2.upd n_l3 _
       have u3:Same G2 (upd G2 l3 (.lst [.int (10 ^ (10:Int).toNat),.int (0 - 10 ^ (10:Int).toNat),.int dz])):=Same.new _ f_l3
       have t3:=t2.same u3
       try dsimp only
       generalize upd G2 l3 (.lst [.int (10 ^ (10:Int).toNat),.int (0 - 10 ^ (10:Int).toNat),.int dz])=G3 at e_l3 p3 u3 t3 ⊢
       refine ⟨_,rfl,p,_,rfl,p3,by decide,by decide,fun i3 G4 i30 i31 u4 p4=>?_⟩
       have t4:=t3.trans u4
       obtain ⟨v,hv,mv⟩:=jM (xs:=([.int (10 ^ (10:Int).toNat),.int (0 - 10 ^ (10:Int).toNat),.int dz]:List V)) i30 i31
       rw [e10] at dz1
       obtain ⟨lo,rfl,lo0,lo1⟩:∃ lo:Int,v=.int lo∧-10000000000≤lo∧lo≤10000000000:=by
         simp only [List.mem_cons,List.not_mem_nil,or_false] at mv
         rcases mv with rfl | rfl | rfl<;>exact ⟨_,rfl,by omega,by omega⟩
       refine .inl ⟨l3,_,_,_,rfl,rfl,SqL.of (u4 _ _ e_l3 n_l3),hv,?_⟩
       exact hN _ _ ⟨lo,rfl,⟨lo0,lo1⟩,T0.trans (t1_.trans t4),p4⟩
     rintro _ H5 ⟨lo,rfl,lob,T5,p5⟩
     have p0:PenAt H5 p:=p5
     have t0:But p H5 H5:=But.refl p H5
     refine ⟨_,_,rfl,rfl,⟨by decide,by decide,by decide⟩,_,rfl,_,_,rfl,rfl,⟨by decide,by decide,by decide⟩,_,rfl,(qo (Nat.le_of_ble_eq_true rfl)),fun l6 f_l6=>?_⟩
     have n_l6:l6≠p:=p0.ne f_l6
     have e_l6:(upd H5 l6 (.lst [.int 0,.int 1,.int 60,.int 3000,.int (10 ^ (6:Int).toNat),.int (-1)])) l6=some (.lst [.int 0,.int 1,.int 60,.int 3000,.int (10 ^ (6:Int).toNat),.int (-1)]):=qc
     have p1:PenAt (upd H5 l6 (.lst [.int 0,.int 1,.int 60,.int 3000,.int (10 ^ (6:Int).toNat),.int (-1)])) p:=p0.upd n_l6 _
     have u1:Same H5 (upd H5 l6 (.lst [.int 0,.int 1,.int 60,.int 3000,.int (10 ^ (6:Int).toNat),.int (-1)])):=Same.new _ f_l6
     have t1:=t0.same u1
     try dsimp only
     generalize upd H5 l6 (.lst [.int 0,.int 1,.int 60,.int 3000,.int (10 ^ (6:Int).toNat),.int (-1)])=G1 at e_l6 p1 u1 t1 ⊢
     refine ⟨_,rfl,p,_,rfl,p1,by decide,by decide,fun i6 G2 i60 i61 u2 p2=>?_⟩
     have t2:=t1.trans u2
     obtain ⟨v,hv,mv⟩:=jM (xs:=([.int 0,.int 1,.int 60,.int 3000,.int (10 ^ (6:Int).toNat),.int (-1)]:List V)) i60 i61
     obtain ⟨z,rfl,z0,z1⟩:∃ z:Int,v=.int z∧-1≤z∧z≤1000000:=by
       simp only [List.mem_cons,List.not_mem_nil,or_false] at mv
       rcases mv with rfl | rfl | rfl | rfl | rfl | rfl<;>exact ⟨_,rfl,by omega,by omega⟩
     refine .inl ⟨l6,_,_,_,rfl,rfl,SqL.of (u2 _ _ e_l6 n_l6),hv,.inl ⟨_,_,rfl,rfl,_,_,rfl,?_⟩⟩
     try unfold qX
     try dsimp only
     obtain ⟨hh,ehh⟩:∃ hh:Int,hh=if lo+z < 10 ^ (10:Int).toNat then lo+z else 10 ^ (10:Int).toNat:=⟨_,rfl⟩
     rw [← ehh]
     have hh1:hh≤10000000000:=by rw [ehh,e10]; split<;>omega
     refine ⟨_,rfl,_,rfl,_,rfl,_,rfl,_,rfl,_,_,rfl,rfl,⟨by decide,by decide,by decide⟩,_,_,rfl,rfl,_,_,rfl,_,rfl,(qo (Nat.le_of_ble_eq_true rfl)),fun l7 f_l7=>?_⟩
     have n_l7:l7≠p:=p2.ne f_l7
     have e_l7:(upd G2 l7 (.lst [.int (if 0 - 10 ^ (10:Int).toNat > hh then 0 - 10 ^ (10:Int).toNat else hh),.int lo])) l7=some (.lst [.int (if 0 - 10 ^ (10:Int).toNat > hh then 0 - 10 ^ (10:Int).toNat else hh),.int lo]):=qc
     have p3:PenAt (upd G2 l7 (.lst [.int (if 0 - 10 ^ (10:Int).toNat > hh then 0 - 10 ^ (10:Int).toNat else hh),.int lo])) p:=p2.upd n_l7 _
     have u3:Same G2 (upd G2 l7 (.lst [.int (if 0 - 10 ^ (10:Int).toNat > hh then 0 - 10 ^ (10:Int).toNat else hh),.int lo])):=Same.new _ f_l7
     have t3:=t2.same u3
     try dsimp only
     generalize upd G2 l7 (.lst [.int (if 0 - 10 ^ (10:Int).toNat > hh then 0 - 10 ^ (10:Int).toNat else hh),.int lo])=G3 at e_l7 p3 u3 t3 ⊢
     refine ⟨_,rfl,.inl ⟨rfl,.inr ⟨_,rfl,?_⟩⟩⟩
     have h7:=e_l7
     have nn:=t3
     rcases hw with rfl | rfl
     · refine .inl ⟨l7,_,_,_,rfl,rfl,SqL.of h7,rfl,qo (Nat.le_of_ble_eq_true rfl),fun s fs=>?_⟩
       have ns:s≠p:=p3.ne fs
       refine kk s _ _ _ _ _ ((T5.trans t3).none fs ns) ((T5.trans t3).same (Same.new _ fs)) (p3.upd ns _) qc (.between hnm nmx lob ?_) (.inr mpl)
       rw [e10]
       split<;>omega
     · refine .inl ⟨l7,_,_,_,rfl,rfl,SqL.of h7,rfl,qo (Nat.le_of_ble_eq_true rfl),fun s fs=>?_⟩
       have ns:s≠p:=p3.ne fs
       exact kk s _ _ _ _ _ ((T5.trans t3).none fs ns) ((T5.trans t3).same (Same.new _ fs)) (p3.upd ns _) qc (.read hnm nmx lob) (.inr mpl)
   · have p0:PenAt G4 p:=p4
     have t0:But p G4 G4:=But.refl p G4
     have e1:inV (.str wd) [.str "between",.str "read"]=false:=by rcases hw with rfl | rfl | rfl<;>decide
     refine zj e1 ?_
     have T0:But p H G4:=t4_
     obtain ⟨zr,hzr,tzr⟩:=hrs0.bp hp T0
     have nr:rq≠p:=(hrs0.bp hp T0).neP p0
     have lr:=good.few
     have l0:=qS good
     refine ⟨_,_,rfl,rfl,⟨by decide,by decide,by decide⟩,_,rfl,_,rfl,_,rfl,_,_,rfl,.inl ⟨_,SqL.of hzr,rfl⟩,p,_,rfl,p0,by rw [tzr.1]; omega,by rw [tzr.1]; omega,fun ir G1 ir0 ir1 u1 p1=>?_⟩
     have t1:=t0.trans u1
     obtain ⟨j,rfl⟩:=Int.eq_ofNat_of_zero_le ir0
     have jl:j < rows.length:=by rw [← tzr.1]; omega
     obtain ⟨t,hz,ht⟩:=tzr.at_ (List.getElem?_eq_getElem jl)
     have bd:=good.ok _ (List.getElem_mem jl)
     generalize rows[j]=rw_ at ht bd
     have nt:t≠p:=by
       obtain ⟨c,x,y,_,e⟩:=p0
       exact zi ht e (by intro z; cases z)
     refine .inl ⟨rq,_,_,_,rfl,rfl,SqL.of (u1 _ _ hzr nr),QA hz,.inr (.inl ⟨t,_,_,_,rfl,rfl,SqT.of (u1 _ _ ht nt),rfl,?_⟩)⟩
     refine ⟨_,rfl,p,_,rfl,p1,by decide,by decide,fun d4 G2 d40 d41 u2 p2=>?_⟩
     have t2:=t1.trans u2
     refine .inl ⟨_,_,rfl,rfl,_,_,rfl,rfl,_,_,rfl,_,_,rfl,?_⟩
     try unfold qX
     try dsimp only
     generalize hlo:(if (if rw_.1+d4 - 200 > 0 then rw_.1+d4 - 200 else 0) < 10 ^ (9:Int).toNat then (if rw_.1+d4 - 200 > 0 then rw_.1+d4 - 200 else 0) else 10 ^ (9:Int).toNat)=n
     have nb:0≤n∧n≤1000000000:=by
       rw [e9] at hlo
       subst hlo
       split<;>split<;>omega
     clear hlo
     refine QC (t:=qi6 _ _ _) (fun σ' H'=>∃ lo:Int,σ'=[some (.ref p),some (.str nm),some (.ref q),some (.ref tb),some (.str wd),some (.str pl),some (.ref rq),some (.int lo),none]∧(0≤lo∧lo≤1000000000)∧But p H H'∧PenAt H' p) (fun N hN=>?_) ?_
     have t2_:=t2
     · have p0:PenAt G2 p:=p2
       have t0:But p G2 G2:=But.refl p G2
       refine ⟨_,rfl,p,_,rfl,p0,by decide,by decide,fun d6 G1 d60 d61 u1 p1=>?_⟩
       have t1:=t0.trans u1
       refine .inl ⟨rfl,_,rfl,Zf (fun g=>?_) (fun g=>hN _ _ ⟨n,rfl,nb,T0.trans (t2_.trans t1),p1⟩)⟩
       have w9:(0:Int) < 10 ^ (9:Int).toNat+1∧(10:Int) ^ (9:Int).toNat+1 < 340282366920938463463374607431768211456:=by decide
       refine ⟨_,_,rfl,rfl,⟨by decide,by decide,by decide⟩,_,rfl,_,_,rfl,rfl,⟨by decide,by decide,by decide⟩,.inl ⟨_,_,rfl,rfl,p,_,rfl,p1,w9.1,w9.2,fun dz G2 dz0 dz1 u2 p2=>?_⟩⟩
       have t2:=t1.trans u2
       refine ⟨(qo (Nat.le_of_ble_eq_true rfl)),fun l3 f_l3=>?_⟩
       have n_l3:l3≠p:=p2.ne f_l3
       have e_l3:(upd G2 l3 (.lst [.int 0,.int (10 ^ (9:Int).toNat),.int dz])) l3=some (.lst [.int 0,.int (10 ^ (9:Int).toNat),.int dz]):=qc
       have p3:PenAt (upd G2 l3 (.lst [.int 0,.int (10 ^ (9:Int).toNat),.int dz])) p:=p2.upd n_l3 _
       have u3:Same G2 (upd G2 l3 (.lst [.int 0,.int (10 ^ (9:Int).toNat),.int dz])):=Same.new _ f_l3
       have t3:=t2.same u3
       try dsimp only
       generalize upd G2 l3 (.lst [.int 0,.int (10 ^ (9:Int).toNat),.int dz])=G3 at e_l3 p3 u3 t3 ⊢
       refine ⟨_,rfl,p,_,rfl,p3,by decide,by decide,fun i3 G4 i30 i31 u4 p4=>?_⟩
       have t4:=t3.trans u4
       obtain ⟨v,hv,mv⟩:=jM (xs:=([.int 0,.int (10 ^ (9:Int).toNat),.int dz]:List V)) i30 i31
       rw [e9] at dz1
       obtain ⟨lo,rfl,lo0,lo1⟩:∃ lo:Int,v=.int lo∧0≤lo∧lo≤1000000000:=by
         simp only [List.mem_cons,List.not_mem_nil,or_false] at mv
         rcases mv with rfl | rfl | rfl<;>exact ⟨_,rfl,by omega,by omega⟩
       refine .inl ⟨l3,_,_,_,rfl,rfl,SqL.of (u4 _ _ e_l3 n_l3),hv,?_⟩
       exact hN _ _ ⟨lo,rfl,⟨lo0,lo1⟩,T0.trans (t2_.trans t4),p4⟩
     rintro _ H5 ⟨lo,rfl,lob,T5,p5⟩
     have p0:PenAt H5 p:=p5
     have t0:But p H5 H5:=But.refl p H5
     refine ⟨_,_,rfl,rfl,⟨by decide,by decide,by decide⟩,_,rfl,_,_,rfl,rfl,⟨by decide,by decide,by decide⟩,_,rfl,(qo (Nat.le_of_ble_eq_true rfl)),fun l6 f_l6=>?_⟩
     have n_l6:l6≠p:=p0.ne f_l6
     have e_l6:(upd H5 l6 (.lst [.int 0,.int 1,.int 30,.int 5000,.int (10 ^ (8:Int).toNat),.int (-1)])) l6=some (.lst [.int 0,.int 1,.int 30,.int 5000,.int (10 ^ (8:Int).toNat),.int (-1)]):=qc
     have p1:PenAt (upd H5 l6 (.lst [.int 0,.int 1,.int 30,.int 5000,.int (10 ^ (8:Int).toNat),.int (-1)])) p:=p0.upd n_l6 _
     have u1:Same H5 (upd H5 l6 (.lst [.int 0,.int 1,.int 30,.int 5000,.int (10 ^ (8:Int).toNat),.int (-1)])):=Same.new _ f_l6
     have t1:=t0.same u1
     try dsimp only
     generalize upd H5 l6 (.lst [.int 0,.int 1,.int 30,.int 5000,.int (10 ^ (8:Int).toNat),.int (-1)])=G1 at e_l6 p1 u1 t1 ⊢
     refine ⟨_,rfl,p,_,rfl,p1,by decide,by decide,fun i6 G2 i60 i61 u2 p2=>?_⟩
     have t2:=t1.trans u2
     obtain ⟨v,hv,mv⟩:=jM (xs:=([.int 0,.int 1,.int 30,.int 5000,.int (10 ^ (8:Int).toNat),.int (-1)]:List V)) i60 i61
     obtain ⟨z,rfl,z0,z1⟩:∃ z:Int,v=.int z∧-1≤z∧z≤100000000:=by
       simp only [List.mem_cons,List.not_mem_nil,or_false] at mv
       rcases mv with rfl | rfl | rfl | rfl | rfl | rfl<;>exact ⟨_,rfl,by omega,by omega⟩
     refine .inl ⟨l6,_,_,_,rfl,rfl,SqL.of (u2 _ _ e_l6 n_l6),hv,.inl ⟨_,_,rfl,rfl,_,_,rfl,_,_,rfl,?_⟩⟩
     try unfold qX
     try dsimp only
     generalize ehh:(if (if lo+z > 0 then lo+z else 0) < 10 ^ (9:Int).toNat then (if lo+z > 0 then lo+z else 0) else 10 ^ (9:Int).toNat)=hh
     have hhb:0≤hh∧hh≤1000000000:=by
       rw [e9] at ehh
       subst ehh
       split<;>split<;>omega
     clear ehh
     rcases hw with rfl | hw
     · refine ⟨_,rfl,.inl ⟨rfl,_,rfl,Zf (fun _=>?_) (fun g=>absurd rfl g)⟩⟩
       refine ⟨_,rfl,_,rfl,_,_,rfl,rfl,⟨by decide,by decide,by decide⟩,qo (Nat.le_of_ble_eq_true rfl),fun s fs=>?_⟩
       have ns:s≠p:=p2.ne fs
       refine kk s _ "" 0 1000000000 _ ((T5.trans t2).none fs ns) ((T5.trans t2).same (Same.new _ fs)) (p2.upd ns _) ?_ (.any hnm) (.inl rfl)
       rw [qc,← e9]; rfl
     have nany:¬ V.str wd=V.str "any":=by rcases hw with rfl | rfl<;>decide
     refine ⟨_,rfl,.inl ⟨rfl,_,rfl,Zf (fun g=>absurd g nany) (fun _=>?_)⟩⟩
     refine ⟨_,rfl,_,rfl,_,rfl,_,rfl,_,rfl,(qo (Nat.le_of_ble_eq_true rfl)),fun l7 f_l7=>?_⟩
     have n_l7:l7≠p:=p2.ne f_l7
     have e_l7:(upd G2 l7 (.lst [.int hh,.int lo])) l7=some (.lst [.int hh,.int lo]):=qc
     have p3:PenAt (upd G2 l7 (.lst [.int hh,.int lo])) p:=p2.upd n_l7 _
     have u3:Same G2 (upd G2 l7 (.lst [.int hh,.int lo])):=Same.new _ f_l7
     have t3:=t2.same u3
     try dsimp only
     generalize upd G2 l7 (.lst [.int hh,.int lo])=G3 at e_l7 p3 u3 t3 ⊢
     refine ⟨_,rfl,.inl ⟨rfl,.inr ⟨_,rfl,?_⟩⟩⟩
     have h7:=e_l7
     rcases hw with rfl | rfl
     · refine .inl ⟨l7,_,_,_,rfl,rfl,SqL.of h7,rfl,qo (Nat.le_of_ble_eq_true rfl),fun s fs=>?_⟩
       have ns:s≠p:=p3.ne fs
       exact kk s _ _ _ _ _ ((T5.trans t3).none fs ns) ((T5.trans t3).same (Same.new _ fs)) (p3.upd ns _) qc (.within hnm lob hhb) (.inl rfl)
     · refine .inl ⟨l7,_,_,_,rfl,rfl,SqL.of h7,rfl,qo (Nat.le_of_ble_eq_true rfl),fun s fs=>?_⟩
       have ns:s≠p:=p3.ne fs
       exact kk s _ _ _ _ _ ((T5.trans t3).none fs ns) ((T5.trans t3).same (Same.new _ fs)) (p3.upd ns _) qc (.at_ hnm lob) (.inl rfl)
end
end K37
namespace K37
open PySem L2 PySem.NumText PyProof.Rows KC M04
section
variable {P:Program} {w:World} {K:PySem.W.Frag} {mg:Str->Option Value} {base:Heap}
end
inductive Due (ps:Pls) (wd pl:Str) (lo hi:Int):List (Int×Int)->Prop
 | pl {x:Str×Addr×List (Int×Int)}:(wd="between"∨wd="read")->x∈ps->x.1=pl->Due ps wd pl lo hi (shw x.2.2 lo hi)
 | no:(wd="any"∨wd="within"∨wd="at")->Due ps wd pl lo hi [(lo,hi)]
inductive ZS (vs:List V) (H:Hp) (Q:VK):Prop
 | mk (i:Int) (h1:vs=[.int i]) (h2:-2000000000≤i) (h3:i≤2000000001) (h4:Q (.bl true) H):ZS vs H Q
def j7:Sp:=fun vs H Q _=>ZS vs H Q
theorem qam:bootBuiltins "ValueError"=some (.type "ValueError"):=by decide +kernel
inductive qat (vs:List V) (H:Hp) (Q:VK):Prop
 | mk (x:Str) (d:Addr) (o:Option V) (h1:vs=[.str x,.ref d]) (h2:qbf H d (.str x) o) (h3:Q (.bl o.isSome) H):qat vs H Q
def qcw:Sp:=fun vs H Q _=>qat vs H Q
inductive Q6 (K:PySem.W.Frag) (vs:List V) (H:Hp) (Q:VK):Prop
 | mk (ea:Addr) (x:Str) (C:Addr) (dx:Option Addr) (tb:Value) (h1:vs=[.ref ea,.str x]) (h2:H ea=some (.ext (ExO ea C dx tb))) (h3:xIn K C=true) (h4:Q .non H):Q6 K vs H Q
def ZJ (K:PySem.W.Frag):Sp:=fun vs H Q _=>Q6 K vs H Q
inductive Zk (a:Ad) (vs:List V) (H:Hp) (Q:VK):Prop
 | mk (ea:Addr) (v:V) (h1:vs=[.ref ea,v]) (h2:H ea=some (.ext (ExO ea a.c_NoEntry none .none))) (h3:∀ dx,H dx=none->dx≠ea->Q .non (upd (upd H ea (.ext (ExO ea a.c_NoEntry (some dx) .none))) dx (.xd [("found",v)]))):Zk a vs H Q
def ZY (a:Ad):Sp:=fun vs H Q _=>Zk a vs H Q
inductive Q7 (a:Ad) (vs:List V) (H:Hp) (Q:VK):Prop
 | mk (x C dx tb:Addr) (nm pl:Str) (lo hi:Int) (ta:Addr) (rows:List (Int×Int)) (h1:vs=[.ref x,.ref tb]) (h2:(C=a.c_Between∨C=a.c_Read)) (h3:H x=some (.ins C dx (fsB nm pl lo hi))) (h4:qbf H tb (.str pl) (some (.ref ta))) (h5:Tb a H ta rows) (h6:Good rows) (h7:(-10000000000≤lo∧lo≤10000000000)) (h8:(-10000000000≤hi∧hi≤10000000000)) (h9:∀ (d:Addr) (r:List (Int×Int)) (H':Hp),H d=none->Same H H'->Rs H' d r->Zg r->r.length≤21->(∀ n,Mem r n↔Mem (shw rows lo hi) n)->Q (.ref d) H'):Q7 a vs H Q
def za (a:Ad):Sp:=fun vs H Q _=>Q7 a vs H Q
section
variable {P:Program} {w:World} {K:PySem.W.Frag} {mg:Str->Option Value} {base:Heap}
theorem qb7 {a:Ad} (T:Txt K mg a):qA P w K mg base CX0 3 a.f_L a.fd_L ["thing"] j7:=by
 have G_b:qA P w K mg base CX0 2 a.f_b a.fd_b ["thing","low","high"] Qp:=Q1 T
 refine T.d_L.F.ok qbT (fun vs H Q E h=>?_) (fun cdv A outer s H vs Q E hr h=>?_)
 · obtain ⟨i,rfl,h1,h2,kk⟩:=h
   rfl
 · obtain ⟨i,rfl,h1,h2,kk⟩:=h
   have hu:=qJ hr
   have hU:=hr.units
   have h_b:Room (2) _:=hr.mono (by decide)
   obtain ⟨t_MOST_MINUTES,c_MOST_MINUTES⟩:=T.g_MOST_MINUTES
   refine ⟨_,(qg (qy (qj G_b h_b rfl T.d_b.m T.d_b.k T.d_b.b .nil qq (qa (pv 0) (qa (qB zH qe (zS (v:=.int 2000000001) rfl c_MOST_MINUTES ⟨_,rfl⟩)) (qa (zS (v:=.int 2000000001) rfl c_MOST_MINUTES ⟨_,rfl⟩) qb)))))),?_⟩
   try dsimp only [zv,Cx.nox]
   exact ⟨_,rfl,_,_,rfl,rfl,i,1 - 2000000001,2000000001,rfl,(by omega),(by omega),kk⟩
theorem qal {a:Ad} (T:Txt K mg a):qA P w K mg base CX0 1 a.f_ah a.fd_ah ["self","text"] (ZJ K):=by
 refine T.d_ah.F.ok qai (fun vs H Q E h=>?_) (fun cdv A outer s H vs Q E hr h=>?_)
 · obtain ⟨ea,x,C,dx,tb,rfl,he,xi,kk⟩:=h
   rfl
 · obtain ⟨ea,x,C,dx,tb,rfl,he,xi,kk⟩:=h
   have hu:=qJ hr
   have hU:=hr.units
   refine ⟨_,(qg (qF (qgR rfl T.n_ValueError qam (qa (pv 0) (qa (pv 1) qb))))),?_⟩
   try dsimp only [zv,Cx.nox]
   exact ⟨_,rfl,_,rfl,ea,C,dx,tb,_,rfl,Nat.le_of_ble_eq_true rfl,he,xi,kk⟩
theorem qaS {a:Ad} (T:Txt K mg a):qA P w K mg base CX0 3 a.f_ag a.fd_ag ["self","found"] (ZY a):=by
 have G_ah:qA P w K mg base CX0 1 a.f_ah a.fd_ah ["self","text"] (ZJ K):=qal T
 refine T.d_ag.F.ok qaF (fun vs H Q E h=>?_) (fun cdv A outer s H vs Q E hr h=>?_)
 · obtain ⟨ea,v,rfl,he,kk⟩:=h
   rfl
 · obtain ⟨ea,v,rfl,he,kk⟩:=h
   have hu:=qJ hr
   have hU:=hr.units
   have h_ah:Room (1+1) _:=hr.mono (by decide)
   refine ⟨_,(qf (qF (Jj T.ci_LogError G_ah (h_ah.mono (by decide)) T.d_ah.b rfl T.g_LogError (qa (pv 0) (qa qz qb))))
     (qg (qiq (pv 0) (pv 1) rfl))),?_⟩
   try dsimp only [zv,Cx.nox]
   refine ⟨_,rfl,ea,_,_,_,_,rfl,he,T.X_NoEntry.c.xi,?_⟩
   exact ⟨_,rfl,_,rfl,ea,_,_,rfl,he,T.X_NoEntry.c,T.n_NoEntry_found,kk⟩
theorem qfE {a:Ad} (T:Txt K mg a):qA P w K mg base CX0 1 a.f_O a.fd_O ["thing","keyed"] qcw:=by
 refine T.d_O.F.ok qfi (fun vs H Q E h=>?_) (fun cdv A outer s H vs Q E hr h=>?_)
 · obtain ⟨x,d,o,rfl,dg,kk⟩:=h
   rfl
 · obtain ⟨x,d,o,rfl,dg,kk⟩:=h
   have hu:=qJ hr
   have hU:=hr.units
   refine ⟨_,(qg (qy (qaN (qp Qm (by rfl) T.n_isinstance qE (qa (pv 0) (qa (Q0 (v:=.ty "str") rfl T.n_str qdh rfl) qb))) (qcS (Z6 (qhO hu) (pv 0) (pv 1) (by with_unfolding_all rfl)))))),?_⟩
   try dsimp only [zv,Cx.nox]
   refine ⟨_,rfl,_,_,_,rfl,(by decide),rfl,true,rfl,qf3 ?_⟩
   exact ⟨_,rfl,_,rfl,d,_,rfl,dg,kk⟩
theorem QG {a:Ad} (T:Txt K mg a):qA P w K mg base CX0 6 a.f_j a.fd_j ["self","tables"] (za a):=by
 have G_af:qA P w K mg base CX0 5 a.f_af a.fd_af ["self","low","high"] (zX a):=Zv T
 refine T.d_j.F.ok qaj (fun vs H Q E h=>?_) (fun cdv A outer s H vs Q E hr h=>?_)
 · obtain ⟨x,C,dx,tb,nm,pl,lo,hi,ta,rows,rfl,hC,hx,dg,tbr,good,hlo,hhi,kk⟩:=h
   rfl
 · obtain ⟨x,C,dx,tb,nm,pl,lo,hi,ta,rows,rfl,hC,hx,dg,tbr,good,hlo,hhi,kk⟩:=h
   have hu:=qJ hr
   have hU:=hr.units
   have h_af:Room (5) _:=hr.mono (by decide)
   refine ⟨_,(qf (qR (qu (qaO hu) (qP (pv 0) rfl) (pv 1) (by with_unfolding_all rfl))
       (qg qT)
       qw)
     (qg (qy (q9 (qL hu (pv 1) (qP (pv 0) rfl) (fun _ _=>rfl)) T.cl_Table T.d_af.mt G_af h_af T.d_af.b .nil qq (qa (qP (pv 0) rfl) (qa (qP (pv 0) rfl) qb)))))),?_⟩
   try dsimp only [zv,Cx.nox]
   obtain ⟨cl,n_place,n_low,n_high⟩:Cls K C∧NoAttr K C "place"∧NoAttr K C "low"∧NoAttr K C "high":=by
     rcases hC with rfl | rfl
     · exact ⟨T.cl_Between,T.n_Between_place,T.n_Between_low,T.n_Between_high⟩
     · exact ⟨T.cl_Read,T.n_Read_place,T.n_Read_low,T.n_Read_high⟩
   refine ⟨_,rfl,x,_,dx,_,_,rfl,hx,cl,n_place,rfl,_,rfl,tb,_,rfl,dg,_,rfl,zj rfl ?_⟩
   obtain ⟨k0,dt,zs0,ht,hk0,tp0⟩:=id tbr
   refine ⟨_,rfl,_,rfl,x,_,dx,_,_,rfl,hx,cl,n_place,rfl,tb,_,rfl,dg,ta,dt,_,rfl,ht,qdL _ (by decide),?_⟩
   exact ⟨_,rfl,x,_,dx,_,_,rfl,hx,cl,n_low,rfl,_,rfl,x,_,dx,_,_,rfl,hx,cl,n_high,rfl,ta,rows,lo,hi,rfl,tbr,good,hlo,hhi,kk⟩
end
end K37
namespace K37
open PySem L2 PySem.NumText PyProof.Rows KC M04
section
variable {P:Program} {w:World} {K:PySem.W.Frag} {mg:Str->Option Value} {base:Heap}
end
structure Ent where
 nm:Str
 wd:Str
 pl:Str
 lo:Int
 hi:Int
 x:Addr
def ekv (es:List Ent):List (Key×V):=es.map fun e=>((.inr e.nm:Key),V.ref e.x)
abbrev prB (b:Str×Str×Int):List V:=[.str b.1,.str b.2.1,.int b.2.2]
abbrev fsL (td ed bl:Addr):List (Str×V):=[("tables",.ref td),("entries",.ref ed),("bound",.ref bl)]
structure Lg (a:Ad) (H:Hp) (x dx td ed bl:Addr) (ts:Pls) (es:List Ent) (bs:List (Str×Str×Int)):Prop where
 hx:H x=some (.ins a.c_Log dx (fsL td ed bl))
 ht:H td=some (.dK (dkv ts))
 he:H ed=some (.dK (ekv es))
 hb:∃ zs,H bl=some (.lst zs)∧TupL prB H zs bs
 tt:∀ t∈ts,Tb a H t.2.1 t.2.2
 tg:∀ t∈ts,Good t.2.2
 tn:∀ t∈ts,Qj (.str t.1)=true
 en:∀ e∈es,En a H e.x e.wd e.nm e.pl e.lo e.hi
 sp:∀ e∈es,Spc e.wd e.nm e.pl e.lo e.hi
 pls:∀ e∈es,e.pl=""∨e.pl∈ts.map (·.1)
 ne:td≠ed
 ndt:(ts.map (·.1)).Nodup
 nde:(es.map (·.nm)).Nodup
theorem Tb.sm {a:Ad} {H H':Hp} {x:Addr} {rows:List (Int×Int)} (h:Tb a H x rows) (s:Same H H'):Tb a H' x rows:=by
 obtain ⟨k,dx,zs,h1,h2,h3⟩:=h
 exact ⟨k,dx,zs,s _ _ h1,s _ _ h2,h3.same s⟩
theorem Lg.sm {a:Ad} {H H':Hp} {x dx td ed bl:Addr} {ts:Pls} {es:List Ent} {bs:List (Str×Str×Int)} (h:Lg a H x dx td ed bl ts es bs) (s:Same H H'):Lg a H' x dx td ed bl ts es bs:=by
 obtain ⟨zs,hb,tb⟩:=h.hb
 exact ⟨s _ _ h.hx,s _ _ h.ht,s _ _ h.he,⟨zs,s _ _ hb,tb.same s⟩,fun t m=>(h.tt t m).sm s,h.tg,h.tn,fun e m=>(h.en e m).same s,h.sp,h.pls,h.ne,h.ndt,h.nde⟩
theorem qdM:∀ {es:List Ent},(es.map (·.nm)).Nodup->∀ e∈es,qaf (ekv es) (.inr e.nm)=some (V.ref e.x)
 | [],_,x,m=>nomatch m
 | y::ps,nd,x,m=>by
   rw [List.map_cons,List.nodup_cons] at nd
   unfold ekv qaf
   rw [List.map_cons,List.find?_cons]
   rcases List.mem_cons.mp m with rfl | m
   · simp
   · have n:¬ ((.inr y.nm:Key)=.inr x.nm):=fun e=>by
       injection e with e
       exact nd.1 (e▸List.mem_map_of_mem m)
     rw [show decide (((.inr y.nm:Key),V.ref y.x).1=.inr x.nm)=false by simpa using n]
     exact qdM nd.2 x m
theorem qev:∀ {es:List Ent} {pl:Str},pl∉es.map (·.nm)->qaf (ekv es) (.inr pl)=none
 | [],_,_=>rfl
 | y::ps,pl,h=>by
   rw [List.map_cons,List.mem_cons,not_or] at h
   unfold ekv qaf
   rw [List.map_cons,List.find?_cons]
   have n:¬ ((.inr y.nm:Key)=.inr pl):=fun e=>by injection e with e; exact h.1 e.symm
   rw [show decide (((.inr y.nm:Key),V.ref y.x).1=.inr pl)=false by simpa using n]
   exact qev h.2
theorem Lg.eget {a:Ad} {H:Hp} {x dx td ed bl:Addr} {ts:Pls} {es:List Ent} {bs:List (Str×Str×Int)} (h:Lg a H x dx td ed bl ts es bs) {e:Ent} (m:e∈es):qbf H ed (.str e.nm) (some (.ref e.x)):=.inl ⟨_,.inr e.nm,.inl h.he,rfl,(qdM h.nde e m).symm⟩
theorem Lg.tget {a:Ad} {H:Hp} {x dx td ed bl:Addr} {ts:Pls} {es:List Ent} {bs:List (Str×Str×Int)} (h:Lg a H x dx td ed bl ts es bs) {t:Str×Addr×List (Int×Int)} (m:t∈ts):qbf H td (.str t.1) (some (.ref t.2.1)):=.inl ⟨_,.inr t.1,.inl h.ht,rfl,(qbg h.ndt t m).symm⟩
inductive Jb (a:Ad) (vs:List V) (H:Hp) (Q:VK):Prop
 | mk (x dx:Addr) (h1:vs=[.ref x]) (h2:H x=some (.ins a.c_Log dx [])) (h3:∀ (td ed bl:Addr) (H':Hp),But x H H'->H td=none->H ed=none->H bl=none->Lg a H' x dx td ed bl [] [] []->Q .non H'):Jb a vs H Q
def jQ (a:Ad):Sp:=fun vs H Q _=>Jb a vs H Q
inductive QJ (a:Ad) (vs:List V) (H:Hp) (Q:VK) (E:XK):Prop
 | mk (x dx td ed bl:Addr) (ts:Pls) (es:List Ent) (bs:List (Str×Str×Int)) (nm:Str) (h1:vs=[.ref x,.str nm]) (h2:Lg a H x dx td ed bl ts es bs) (h3:((nm∈es.map (·.nm)∧Q .non H)∨(nm∉es.map (·.nm)∧Rz a.c_NoEntry "found" (.str nm) H E))):QJ a vs H Q E
def zG (a:Ad):Sp:=fun vs H Q E=>QJ a vs H Q E
inductive jD (a:Ad) (vs:List V) (H:Hp) (Q:VK):Prop
 | mk (x dx td ed bl:Addr) (ts:Pls) (es:List Ent) (bs:List (Str×Str×Int)) (h1:vs=[.ref x]) (h2:Lg a H x dx td ed bl ts es bs) (h3:∀ l,H l=none->Q (.ref l) (upd H l (.lst ((es.map (·.nm)).map V.str)))):jD a vs H Q
def JW (a:Ad):Sp:=fun vs H Q _=>jD a vs H Q
inductive jE (a:Ad) (vs:List V) (H:Hp) (Q:VK) (E:XK):Prop
 | mk (x dx td ed bl:Addr) (ts:Pls) (es:List Ent) (bs:List (Str×Str×Int)) (nm:Str) (h1:vs=[.ref x,.str nm]) (h2:Lg a H x dx td ed bl ts es bs) (h3:((∃ e,e∈es∧e.nm=nm∧Q (.ref e.x) H)∨(nm∉es.map (·.nm)∧Rz a.c_NoEntry "found" (.str nm) H E))):jE a vs H Q E
def Z2 (a:Ad):Sp:=fun vs H Q E=>jE a vs H Q E
inductive jG (a:Ad) (vs:List V) (H:Hp) (Q:VK):Prop
 | mk (x dx td ed bl:Addr) (ts:Pls) (es:List Ent) (bs:List (Str×Str×Int)) (h1:vs=[.ref x]) (h2:Lg a H x dx td ed bl ts es bs) (h3:∀ l zs,H l=none->TupL prB H zs bs->Q (.ref l) (upd H l (.lst zs))):jG a vs H Q
def JY (a:Ad):Sp:=fun vs H Q _=>jG a vs H Q
inductive Z1 (a:Ad) (vs:List V) (H:Hp) (Q:VK):Prop
 | mk (x dx td ed bl:Addr) (ts:Pls) (es:List Ent) (bs:List (Str×Str×Int)) (h1:vs=[.ref x]) (h2:Lg a H x dx td ed bl ts es bs) (h3:ts.length≤6) (h4:∀ l ss,H l=none->ss.Perm (ts.map (·.1))->sortedS ss=true->Q (.ref l) (upd H l (.lst (ss.map V.str)))):Z1 a vs H Q
def ZC (a:Ad):Sp:=fun vs H Q _=>Z1 a vs H Q
theorem Tb.putD {a:Ad} {H:Hp} {x d:Addr} {rows:List (Int×Int)} {kvs:List (Key×V)} (h:Tb a H x rows) (e:H d=some (.dK kvs)) (o:HO):Tb a (upd H d o) x rows:=by
 obtain ⟨k,dx,zs,h1,h2,h3⟩:=h
 refine ⟨k,dx,zs,by rw [qh (zi h1 e (by intro z; cases z))]; exact h1,by rw [qh (zi h2 e (by intro z; cases z))]; exact h2,h3.1,fun j z y e1 e2=>?_⟩
 obtain ⟨t,et,ht⟩:=h3.2 j z y e1 e2
 exact ⟨t,et,by rw [qh (zi ht e (by intro z; cases z))]; exact ht⟩
theorem En.putD {a:Ad} {H:Hp} {d x:Addr} {wd nm pl:Str} {lo hi:Int} {kvs:List (Key×V)} (h:En a H x wd nm pl lo hi) (e:H d=some (.dK kvs)) (o:HO):En a (upd H d o) x wd nm pl lo hi:=by
 have k:∀ C dx fs,H x=some (.ins C dx fs)->(upd H d o) x=some (.ins C dx fs):=fun C dx fs e'=>by
   rw [qh (zi e' e (by intro z; cases z))]; exact e'
 cases h with
 | any e=>exact .any (k _ _ _ e)
 | within e=>exact .within (k _ _ _ e)
 | at_ e=>exact .at_ (k _ _ _ e)
 | between e=>exact .between (k _ _ _ e)
 | read e=>exact .read (k _ _ _ e)
theorem TupL.putD {β:Type} {f:β->List V} {H:Hp} {d:Addr} {kvs:List (Key×V)} {zs:List V} {ps:List β} (h:TupL f H zs ps) (e:H d=some (.dK kvs)) (o:HO):TupL f (upd H d o) zs ps:=⟨h.1,fun j z y e1 e2=>by
 obtain ⟨t,et,ht⟩:=h.2 j z y e1 e2
 exact ⟨t,et,by rw [qh (zi ht e (by intro z; cases z))]; exact ht⟩⟩
theorem qbt {H:Hp} {td:Addr} {ts:Pls} (h:H td=some (.dK (dkv ts))):Rd H td (.dK ((ts.map fun x=>(x.1,V.ref x.2.1)).map fun p=>((.inr p.1:Key),p.2))):=by
 rw [List.map_map]
 exact .inl h
section
variable {P:Program} {w:World} {K:PySem.W.Frag} {mg:Str->Option Value} {base:Heap}
theorem qaT {a:Ad} (T:Txt K mg a):qA P w K mg base CX0 1 a.f_A a.fd_A ["self"] (jQ a):=by
 refine T.d_A.F.ok qdt (fun vs H Q E h=>?_) (fun cdv A outer s H vs Q E hr h=>?_)
 · obtain ⟨x,dx,rfl,hx,kk⟩:=h
   rfl
 · obtain ⟨x,dx,rfl,hx,kk⟩:=h
   have hu:=qJ hr
   have hU:=hr.units
   refine ⟨_,(qf (Q8 (pv 0) qap rfl)
     (qf (Q8 (pv 0) qap rfl)
     (qg (Q8 (pv 0) (qQ qb) rfl)))),?_⟩
   try dsimp only [zv,Cx.nox]
   intro td ftd
   have n1:td≠x:=fun e=>by rw [e,hx] at ftd; cases ftd
   refine ⟨_,rfl,x,_,dx,_,rfl,(by rw [qh n1.symm]; exact hx),T.cl_Log,T.n_Log_tables,(by decide),?_⟩
   intro ed fed
   have n2:ed≠x:=fun e=>by rw [e,qc] at fed; cases fed
   have n3:ed≠td:=fun e=>by rw [e,qh n1,qc] at fed; cases fed
   rw [qh n2,qh n3] at fed
   refine ⟨_,rfl,x,_,dx,_,rfl,(by rw [qh n2.symm,qc]),T.cl_Log,T.n_Log_entries,(Nat.le_of_ble_eq_true rfl),?_⟩
   refine ⟨qo (Nat.le_of_ble_eq_true rfl),fun bl fbl=>?_⟩
   have n4:bl≠x:=fun e=>by rw [e,qc] at fbl; cases fbl
   have n5:bl≠ed:=fun e=>by rw [e,qh n2,qc] at fbl; cases fbl
   have n6:bl≠td:=fun e=>by rw [e,qh n1,qh n3.symm,qh n1,qc] at fbl; cases fbl
   rw [qh n4,qh n5,qh n4,qh n6] at fbl
   refine ⟨_,rfl,x,_,dx,_,rfl,(by rw [qh n4.symm,qc]),T.cl_Log,T.n_Log_bound,(Nat.le_of_ble_eq_true rfl),?_⟩
   refine kk td ed bl _ (fun b o e nb=>?_) ftd fed fbl ⟨?_,?_,?_,⟨[],?_,.nil⟩,(fun _ m=>nomatch m),(fun _ m=>nomatch m),(fun _ m=>nomatch m),(fun _ m=>nomatch m),(fun _ m=>nomatch m),(fun _ m=>nomatch m),n3.symm,List.nodup_nil,List.nodup_nil⟩
   · rw [qh nb,qh (qi e fbl),qh nb,qh (qi e fed),qh nb,qh (qi e ftd)]; exact e
   · rw [qc]; rfl
   · rw [qh n1,qh n6.symm,qh n1,qh n3.symm,qh n1,qc]; rfl
   · rw [qh n2,qh n5.symm,qh n2,qc]; rfl
   · rw [qh n4,qc]
theorem Qi {a:Ad} (T:Txt K mg a):qA P w K mg base (CX1 P w) 5 a.f_d a.fd_d ["self","name"] (zG a):=by
 have G_O:qA P w K mg base CX0 1 a.f_O a.fd_O ["thing","keyed"] qcw:=qfE T
 have G_ag:qA P w K mg base CX0 3 a.f_ag a.fd_ag ["self","found"] (ZY a):=qaS T
 refine T.d_d.F.okX Jg (fun vs H Q E h=>?_) (fun cdv A outer s H vs Q E hr h=>?_)
 · obtain ⟨x,dx,td,ed,bl,ts,es,bs,nm,rfl,hL,kk⟩:=h
   rfl
 · obtain ⟨x,dx,td,ed,bl,ts,es,bs,nm,rfl,hL,kk⟩:=h
   have hu:=qJ hr
   have hU:=hr.units
   have h_O:Room (1) _:=hr.mono (by decide)
   have h_ag:Room (3+1) _:=hr.mono (by decide)
   refine ⟨_,(qg (qR (zy (zx (qj G_O h_O rfl T.d_O.m T.d_O.k T.d_O.b .nil qq (qa (pv 1) (qa (qP (pv 0) rfl) qb)))))
       (qg (qgO throws_cx rfl (qgQ T.X_NoEntry G_ag h_ag rfl T.g_NoEntry T.d_ag.b (qa (pv 1) qb))))
       qw)),?_⟩
   try dsimp only [zv,Cx.nox]
   rcases kk with ⟨m,kk⟩ | ⟨m,kz⟩
   · obtain ⟨e,me,rfl⟩:=List.mem_map.mp m
     exact ⟨_,rfl,_,rfl,x,_,dx,_,_,rfl,hL.hx,T.cl_Log,T.n_Log_entries,rfl,e.nm,ed,_,rfl,hL.eget me,true,rfl,zj rfl kk⟩
   · refine ⟨_,rfl,_,rfl,x,_,dx,_,_,rfl,hL.hx,T.cl_Log,T.n_Log_entries,rfl,nm,ed,none,rfl,.inl ⟨_,.inr nm,.inl hL.he,rfl,(qev m).symm⟩,false,rfl,Jr rfl ?_⟩
     refine ⟨_,rfl,Nat.le_of_ble_eq_true rfl,fun ea fea=>⟨ea,_,rfl,qc,fun dx' fdx ne=>?_⟩⟩
     rw [qh ne] at fdx
     exact ⟨rfl,ea,_,_,rfl,T.X_NoEntry.c.xi,(qh (Ne.symm ne)).trans qc,Rz.sure kz fea fdx ne⟩
theorem qcX {a:Ad} (T:Txt K mg a):qA P w K mg base CX0 1 a.f_ab a.fd_ab ["self"] (JW a):=by
 refine T.d_ab.F.ok qcM (fun vs H Q E h=>?_) (fun cdv A outer s H vs Q E hr h=>?_)
 · obtain ⟨x,dx,td,ed,bl,ts,es,bs,rfl,hL,kk⟩:=h
   rfl
 · obtain ⟨x,dx,td,ed,bl,ts,es,bs,rfl,hL,kk⟩:=h
   have hu:=qJ hr
   have hU:=hr.units
   refine ⟨_,(qg (qy (qY (r:=qfr) (qbK rfl) (by rfl) T.n_list zf (qa (qP (pv 0) rfl) qb)))),?_⟩
   try dsimp only [zv,Cx.nox]
   refine ⟨_,rfl,x,_,dx,_,_,rfl,hL.hx,T.cl_Log,T.n_Log_entries,rfl,ed,_,rfl,.inl hL.he,fun l fl=>?_⟩
   have e:((ekv es).map fun p=>kV p.1)=(es.map (·.nm)).map V.str:=by
     unfold ekv
     rw [List.map_map,List.map_map]; rfl
   rw [e]
   exact kk l fl
theorem qaa {a:Ad} (T:Txt K mg a):qA P w K mg base (CX1 P w) 6 a.f_c a.fd_c ["self","name"] (Z2 a):=by
 have G_d:qA P w K mg base (CX1 P w) 5 a.f_d a.fd_d ["self","name"] (zG a):=Qi T
 refine T.d_c.F.okX qcN (fun vs H Q E h=>?_) (fun cdv A outer s H vs Q E hr h=>?_)
 · obtain ⟨x,dx,td,ed,bl,ts,es,bs,nm,rfl,hL,kk⟩:=h
   rfl
 · obtain ⟨x,dx,td,ed,bl,ts,es,bs,nm,rfl,hL,kk⟩:=h
   have hu:=qJ hr
   have hU:=hr.units
   have h_d:Room (5) _:=hr.mono (by decide)
   refine ⟨_,(qf (qF (q9 (pv 0) T.cl_Log T.d_d.mt G_d h_d T.d_d.b .nil throws_cx.passes (qa (pv 1) qb)))
     (qg (qy (qL hu (qP (pv 0) rfl) (pv 1) (fun _ _=>rfl))))),?_⟩
   try dsimp only [zv,Cx.nox]
   rcases kk with ⟨e,me,rfl,kk⟩ | ⟨m,kz⟩
   · refine ⟨_,rfl,x,dx,_,rfl,hL.hx,rfl,_,rfl,x,dx,td,ed,bl,ts,es,bs,e.nm,rfl,hL,.inl ⟨List.mem_map_of_mem me,?_⟩⟩
     exact ⟨_,rfl,x,_,dx,_,_,rfl,hL.hx,T.cl_Log,T.n_Log_entries,rfl,_,rfl,ed,_,rfl,hL.eget me,kk⟩
   · exact ⟨_,rfl,x,dx,_,rfl,hL.hx,rfl,_,rfl,x,dx,td,ed,bl,ts,es,bs,nm,rfl,hL,.inr ⟨m,kz⟩⟩
theorem qcZ {a:Ad} (T:Txt K mg a):qA P w K mg base CX0 1 a.f_ac a.fd_ac ["self"] (JY a):=by
 refine T.d_ac.F.ok qcP (fun vs H Q E h=>?_) (fun cdv A outer s H vs Q E hr h=>?_)
 · obtain ⟨x,dx,td,ed,bl,ts,es,bs,rfl,hL,kk⟩:=h
   rfl
 · obtain ⟨x,dx,td,ed,bl,ts,es,bs,rfl,hL,kk⟩:=h
   have hu:=qJ hr
   have hU:=hr.units
   refine ⟨_,(qg (qy (qY (r:=qio K) zN (by rfl) T.n_list zf (qa (qP (pv 0) rfl) qb)))),?_⟩
   try dsimp only [zv,Cx.nox]
   obtain ⟨zs,hb,tbb⟩:=hL.hb
   exact ⟨_,rfl,x,_,dx,_,_,rfl,hL.hx,T.cl_Log,T.n_Log_bound,rfl,bl,zs,rfl,.inl (SqL.of hb),fun l fl=>kk l zs fl tbb⟩
theorem Jo {a:Ad} (T:Txt K mg a):qA P w K mg base CX0 1 a.f_J a.fd_J ["self"] (ZC a):=by
 refine T.d_J.F.ok qbX (fun vs H Q E h=>?_) (fun cdv A outer s H vs Q E hr h=>?_)
 · obtain ⟨x,dx,td,ed,bl,ts,es,bs,rfl,hL,few,kk⟩:=h
   rfl
 · obtain ⟨x,dx,td,ed,bl,ts,es,bs,rfl,hL,few,kk⟩:=h
   have hu:=qJ hr
   have hU:=hr.units
   refine ⟨_,(qg (qy (qp (r:=qfp) (qbJ rfl) (by rfl) T.n_sorted Za (qa (qP (pv 0) rfl) qb)))),?_⟩
   try dsimp only [zv,Cx.nox]
   refine ⟨_,rfl,x,_,dx,_,_,rfl,hL.hx,T.cl_Log,T.n_Log_tables,rfl,td,_,rfl,qbt hL.ht,(by rw [List.length_map]; omega),fun l ss fl pm so=>?_⟩
   rw [List.map_map] at pm
   exact kk l ss fl pm so
end
end K37
namespace K37
open PySem L2 PySem.NumText PyProof.Rows KC M04
section
variable {P:Program} {w:World} {K:PySem.W.Frag} {mg:Str->Option Value} {base:Heap}
end
def pls (pl:Str):List Str:=if pl="" then [] else [pl]
theorem qce {pl:Str} (h:Qj (.str pl)=true):pl≠"":=fun e=>by
 subst e
 exact absurd h (by decide +kernel)
theorem Ze {x:Str} (h:Qj (.str x)=true):PyData.strOk x=true:=by
 have hs:x.cps.toList.all sgn=true:=by
   simp only [Qj,Bool.and_eq_true] at h
   exact h.2
 unfold PyData.strOk
 rw [← Array.all_toList]
 refine List.all_eq_true.mpr fun c m=>?_
 have:=List.all_eq_true.mp hs c m
 unfold sgn at this
 rw [Bool.and_eq_true] at this
 have h2:=this.2
 rw [Bool.not_eq_true',decide_eq_false_iff_not] at h2
 have h3:¬ (122 < c):=fun z=>h2 (by
   show ([122]:List Nat) < [c]
   exact List.Lex.rel z)
 exact decide_eq_true (by omega)
theorem qfw {K:PySem.W.Frag} {mg:Str->Option Value} {a:Ad} (T:Txt K mg a) {σ:L2.St} {H:Hp} {Q:VK} {te:TE} {x:Addr} {wd nm pl:Str} {lo hi:Int} (hte:∀ R:VK,R (.ref x) H->te σ H R) (en:En a H x wd nm pl lo hi) (sp:Spc wd nm pl lo hi)
   (k:∀ l,H l=none->Q (.ref l) (upd H l (.lst ((pls pl).map V.str)))):qag a.c_Entry "places" zm [] E0 te qdY σ H Q∨qag a.c_Within "places" zm [] E0 te qdY σ H Q∨qag a.c_At "places" zm [] E0 te qdY σ H Q∨qag a.c_Between "places" (zn K) [] E0 te qdY σ H Q∨qag a.c_Read "places" (zn K) [] E0 te qdY σ H Q:=by
 cases en with
 | @any dx _ hx=>exact .inl (hte _ ⟨x,dx,_,rfl,hx,rfl,_,rfl,fun l fl=>k l fl⟩)
 | @within dx _ _ _ hx=>exact .inr (.inl (hte _ ⟨x,dx,_,rfl,hx,rfl,_,rfl,fun l fl=>k l fl⟩))
 | @at_ dx _ _ hx=>exact .inr (.inr (.inl (hte _ ⟨x,dx,_,rfl,hx,rfl,_,rfl,fun l fl=>k l fl⟩)))
 | @between dx _ _ _ _ hx =>
   have e:pls pl=[pl]:=if_neg (qce (by cases sp with | between _ h _ _=>exact h))
   rw [e] at k
   exact .inr (.inr (.inr (.inl (hte _ ⟨x,dx,_,rfl,hx,rfl,x,_,dx,_,_,_,_,rfl,hx,T.cl_Between,T.n_Between_place,fun l fl=>k l fl⟩))))
 | @read dx _ _ _ hx =>
   have e:pls pl=[pl]:=if_neg (qce (by cases sp with | read _ h _=>exact h))
   rw [e] at k
   exact .inr (.inr (.inr (.inr (hte _ ⟨x,dx,_,rfl,hx,rfl,x,_,dx,_,_,_,_,rfl,hx,T.cl_Read,T.n_Read_place,fun l fl=>k l fl⟩))))
theorem qgG {K:PySem.W.Frag} {mg:Str->Option Value} {a:Ad} (T:Txt K mg a) {σ:L2.St} {H:Hp} {Q:VK} {te:TE} {x:Addr} {wd nm pl:Str} {lo hi:Int} (hte:∀ R:VK,R (.ref x) H->te σ H R) (en:En a H x wd nm pl lo hi) {ps:Pls} {W:List (Int×Int)} {ta:TA} (sp:Spc wd nm pl lo hi) (due:Due ps wd pl lo hi W)
   (hta:∀ R:List V->Hp->Prop,(∀ d,((wd="between"∨wd="read")->∃ (tt:Addr) (rows:List (Int×Int)),qbf H d (.str pl) (some (.ref tt))∧Tb a H tt rows∧Good rows∧W=shw rows lo hi)->R [.ref d] H)->ta σ H R)
   (k:∀ (f:Addr) (r:List (Int×Int)) (H':Hp),H f=none->Same H H'->Rs H' f r->Zg r->r.length≤21->(∀ n,Mem r n↔Mem W n)->Q (.ref f) H'):qag a.c_Entry "spans" zT [] E0 te ta σ H Q∨qag a.c_Within "spans" (zl K) [] E0 te ta σ H Q∨qag a.c_At "spans" (zl K) [] E0 te ta σ H Q∨qag a.c_Between "spans" (za a) [] E0 te ta σ H Q∨qag a.c_Read "spans" (za a) [] E0 te ta σ H Q:=by
 cases en with
 | @any dx _ hx =>
   cases due with
   | pl h _ _=>exact absurd h (by decide)
   | no _ =>
     refine .inl (hte _ ⟨x,dx,_,rfl,hx,rfl,hta _ fun d _=>⟨_,_,rfl,fun f H' ff S' R=>k f _ H' ff S' R ⟨fun w m=>?_,List.pairwise_singleton _ _⟩ (Nat.le_of_ble_eq_true rfl) fun n=>Iff.rfl⟩⟩)
     rw [List.mem_singleton.mp m]
     decide
 | @within dx _ _ _ hx =>
   cases due with
   | pl h _ _=>exact absurd h (by decide)
   | no _=>exact .inr (.inl (hte _ ⟨x,dx,_,rfl,hx,rfl,hta _ fun d _=>⟨x,_,dx,_,_,_,_,rfl,hx,T.cl_Within,T.n_Within_low,T.n_Within_high,fun f r H' ff S' R c l m=>k f r H' ff S' R c (Nat.le_trans l (Nat.le_of_ble_eq_true rfl)) m⟩⟩))
 | @at_ dx _ _ hx =>
   cases due with
   | pl h _ _=>exact absurd h (by decide)
   | no _=>exact .inr (.inr (.inl (hte _ ⟨x,dx,_,rfl,hx,rfl,hta _ fun d _=>⟨x,_,dx,_,_,_,_,rfl,hx,T.cl_At,T.n_At_low,T.n_At_high,fun f r H' ff S' R c l m=>k f r H' ff S' R c (Nat.le_trans l (Nat.le_of_ble_eq_true rfl)) m⟩⟩)))
 | @between dx _ _ _ _ hx =>
   refine .inr (.inr (.inr (.inl (hte _ ⟨x,dx,_,rfl,hx,rfl,hta _ fun d h=>?_⟩))))
   obtain ⟨tt,rows,dg,tb,good,eW⟩:=h (.inl rfl)
   cases sp with
   | between _ _ h1 h2=>exact ⟨x,_,dx,d,_,_,_,_,tt,rows,rfl,.inl rfl,hx,dg,tb,good,h1,h2,fun f r H' ff S' R c l m=>k f r H' ff S' R c l (by rw [eW]; exact m)⟩
 | @read dx _ _ _ hx =>
   refine .inr (.inr (.inr (.inr (hte _ ⟨x,dx,_,rfl,hx,rfl,hta _ fun d h=>?_⟩))))
   obtain ⟨tt,rows,dg,tb,good,eW⟩:=h (.inr rfl)
   cases sp with
   | read _ _ h1=>exact ⟨x,_,dx,d,_,_,_,_,tt,rows,rfl,.inr rfl,hx,dg,tb,good,h1,h1,fun f r H' ff S' R c l m=>k f r H' ff S' R c l (by rw [eW]; exact m)⟩
theorem jq {l:List Addr} (n:l.Nodup) {i j:Nat} {x y:Addr} (hi:l[i]?=some x) (hj:l[j]?=some y) (h:i≠j):x≠y:=by
 intro e
 subst e
 obtain ⟨h1,e1⟩:=List.getElem?_eq_some_iff.mp hi
 obtain ⟨h2,e2⟩:=List.getElem?_eq_some_iff.mp hj
 exact h ((List.getElem_inj n).mp (e1.trans e2.symm))
theorem qO {H G:Hp} {l:Addr} {o:HO} (h:upd H l o=G) (f:H l=none):Same H G∧G l=some o:=by
 subst h
 exact ⟨Same.new o f,qc⟩
theorem qjI {K:PySem.W.Frag} {mg:Str->Option Value} {a:Ad} (T:Txt K mg a) {H:Hp} {x:Addr} {wd nm pl:Str} {lo hi:Int} (en:En a H x wd nm pl lo hi):∃ C,qdn K H (.ref x) (.ref C)∧PySem.W.kitOne K (.ref C) (.ref a.c_Entry)=some true:=by
 cases en with
 | @any dx _ hx=>exact ⟨_,T.io_Entry.ty hx,by rw [qaY T.mr_Entry rfl T.t_Entry]; simp⟩
 | @within dx _ _ _ hx=>exact ⟨_,T.io_Within.ty hx,by rw [qaY T.mr_Within rfl T.t_Entry]; simp⟩
 | @at_ dx _ _ hx=>exact ⟨_,T.io_At.ty hx,by rw [qaY T.mr_At rfl T.t_Entry]; simp⟩
 | @between dx _ _ _ _ hx=>exact ⟨_,T.io_Between.ty hx,by rw [qaY T.mr_Between rfl T.t_Entry]; simp⟩
 | @read dx _ _ _ hx=>exact ⟨_,T.io_Read.ty hx,by rw [qaY T.mr_Read rfl T.t_Entry]; simp⟩
theorem qiH {K:PySem.W.Frag} {mg:Str->Option Value} {a:Ad} (T:Txt K mg a) {H:Hp} {x:Addr} {wd nm pl:Str} {lo hi:Int} (en:En a H x wd nm pl lo hi):∃ C dx fs,H x=some (.ins C dx fs)∧Cls K C∧NoAttr K C "name"∧fs.lookup ("name":Str)=some (V.str nm):=by
 cases en with
 | @any dx _ hx=>exact ⟨_,dx,_,hx,T.cl_Entry,T.n_Entry_name,rfl⟩
 | @within dx _ _ _ hx=>exact ⟨_,dx,_,hx,T.cl_Within,T.n_Within_name,rfl⟩
 | @at_ dx _ _ hx=>exact ⟨_,dx,_,hx,T.cl_At,T.n_At_name,rfl⟩
 | @between dx _ _ _ _ hx=>exact ⟨_,dx,_,hx,T.cl_Between,T.n_Between_name,rfl⟩
 | @read dx _ _ _ hx=>exact ⟨_,dx,_,hx,T.cl_Read,T.n_Read_name,rfl⟩
theorem qjl {H:Hp} {C:Addr} {cs ws:List V} {qs:List (Str×Str×Int)} {rows:List (Int×Int)} (h1:H C=some (.lst cs)) (t1:TupL prB H cs qs) (g:0 < rows.length) (t2:TupL pr H ws rows):H C≠some (.lst ws):=fun e=>by
 rw [h1] at e
 cases e
 cases rows with
 | nil=>cases g
 | cons r rs =>
   obtain ⟨t,hz,ht⟩:=t2.at_ (i:=0) (p:=r) rfl
   obtain ⟨q,u,hq,eu,hu⟩:=t1.of hz
   cases eu
   rw [ht] at hu
   cases hu
theorem Tb.putB {a:Ad} {H:Hp} {x bl:Addr} {rows:List (Int×Int)} {zs:List V} {bs:List (Str×Str×Int)} (h:Tb a H x rows) (g:Good rows) (e:H bl=some (.lst zs)) (tb:TupL prB H zs bs) (o:HO):Tb a (upd H bl o) x rows:=by
 obtain ⟨k,dx,ws,h1,h2,h3⟩:=h
 have nk:k≠bl:=fun z=>qjl e tb (qS g) h3 (by rw [← z]; exact h2)
 refine ⟨k,dx,ws,by rw [qh (zi h1 e (by intro z; cases z))]; exact h1,by rw [qh nk]; exact h2,h3.1,fun j z y e1 e2=>?_⟩
 obtain ⟨t,et,ht⟩:=h3.2 j z y e1 e2
 exact ⟨t,et,by rw [qh (zi ht e (by intro z; cases z))]; exact ht⟩
theorem En.putL {a:Ad} {H:Hp} {d x:Addr} {wd nm pl:Str} {lo hi:Int} {zs:List V} (h:En a H x wd nm pl lo hi) (e:H d=some (.lst zs)) (o:HO):En a (upd H d o) x wd nm pl lo hi:=by
 have k:∀ C dx fs,H x=some (.ins C dx fs)->(upd H d o) x=some (.ins C dx fs):=fun C dx fs e'=>by
   rw [qh (zi e' e (by intro z; cases z))]; exact e'
 cases h with
 | any e=>exact .any (k _ _ _ e)
 | within e=>exact .within (k _ _ _ e)
 | at_ e=>exact .at_ (k _ _ _ e)
 | between e=>exact .between (k _ _ _ e)
 | read e=>exact .read (k _ _ _ e)
inductive JV (a:Ad) (vs:List V) (H:Hp) (Q:VK):Prop
 | mk (x dx td ed bl:Addr) (ts:Pls) (es:List Ent) (bs:List (Str×Str×Int)) (e:Ent) (h1:vs=[.ref x,.ref e.x]) (h2:Lg a H x dx td ed bl ts es bs) (h3:En a H e.x e.wd e.nm e.pl e.lo e.hi) (h4:Spc e.wd e.nm e.pl e.lo e.hi) (h5:e.nm∉es.map (·.nm)) (h6:(e.pl=""∨e.pl∈ts.map (·.1))) (h7:es.length < 60) (h8:∀ H',But ed H H'->Lg a H' x dx td ed bl ts (es++[e]) bs->Q .non H'):JV a vs H Q
def qbl (a:Ad):Sp:=fun vs H Q _=>JV a vs H Q
inductive Je (a:Ad) (vs:List V) (H:Hp) (Q:VK) (E:XK):Prop
 | mk (x dx td ed bl:Addr) (ts:Pls) (es:List Ent) (bs:List (Str×Str×Int)) (n1 n2:Str) (m:Int) (h1:vs=[.ref x,.str n1,.str n2,.int m]) (h2:Lg a H x dx td ed bl ts es bs) (h3:((n1∈es.map (·.nm)∧n2∈es.map (·.nm)∧-2000000000≤m∧m≤2000000001∧bs.length < 100∧∀ H',But bl H H'->Lg a H' x dx td ed bl ts es (bs++[(n1,n2,m)])->Q (.int (bs.length:Int)) H')∨(n1∉es.map (·.nm)∧Rz a.c_NoEntry "found" (.str n1) H E))):Je a vs H Q E
def jR (a:Ad):Sp:=fun vs H Q E=>Je a vs H Q E
inductive jC (a:Ad) (vs:List V) (H:Hp) (Q:VK) (E:XK):Prop
 | mk (x dx td ed bl:Addr) (ts:Pls) (es:List Ent) (bs:List (Str×Str×Int)) (nm:Str) (h1:vs=[.ref x,.str nm]) (h2:Lg a H x dx td ed bl ts es bs) (h3:((∃ (e:Ent) (W:List (Int×Int)),e∈es∧e.nm=nm∧Due ts e.wd e.pl e.lo e.hi W∧∀ (f:Addr) (r:List (Int×Int)) (H':Hp),H f=none->Same H H'->Rs H' f r->Zg r->r.length≤21->(∀ n,Mem r n↔Mem W n)->Q (.ref f) H')∨(nm∉es.map (·.nm)∧Rz a.c_NoEntry "found" (.str nm) H E))):jC a vs H Q E
def Z0 (a:Ad):Sp:=fun vs H Q E=>jC a vs H Q E
section
variable {P:Program} {w:World} {K:PySem.W.Frag} {mg:Str->Option Value} {base:Heap}
theorem qeJ {a:Ad} (T:Txt K mg a):qA P w K mg base CX0 2 a.f_7 a.fd_7 ["self","entry"] (qbl a):=by
 have G_h:qA P w K mg base CX0 1 a.f_h a.fd_h ["self"] zm:=Z9 T
 have G_x:qA P w K mg base CX0 1 a.f_x a.fd_x ["self"] (zn K):=Zw T
 have G_J:qA P w K mg base CX0 1 a.f_J a.fd_J ["self"] (ZC a):=Jo T
 refine T.d_7.F.ok sc_Log_put (fun vs H Q E h=>?_) (fun cdv A outer s H vs Q E hr h=>?_)
 · obtain ⟨x,dx,td,ed,bl,ts,es,bs,e,rfl,hL,en,sp,no,hpl,few,kk⟩:=h
   rfl
 · obtain ⟨x,dx,td,ed,bl,ts,es,bs,e,rfl,hL,en,sp,no,hpl,few,kk⟩:=h
   have hu:=qJ hr
   have hU:=hr.units
   have h_h:Room (1) _:=hr.mono (by decide)
   have h_x:Room (1) _:=hr.mono (by decide)
   have h_J:Room (1) _:=hr.mono (by decide)
   obtain ⟨t_MOST_ENTRIES,c_MOST_ENTRIES⟩:=T.g_MOST_ENTRIES
   refine ⟨_,(qf (qR (zy (zx (qp (r:=qkM K) qhu (by rfl) T.n_isinstance qE (qa (pv 1) (qa (zS (v:=.ref a.c_Entry) rfl T.g_Entry rfl) qb)))))
       (qg qT)
       qw)
     (qf (qR (qu (qhO hu) (qP (pv 1) rfl) (qP (pv 0) rfl) (by with_unfolding_all rfl))
       (qg qT)
       qw)
     (qf (Zu PassesOwn.never rfl (zJ (PE.or (Qh (pv 1) T.cl_Entry T.d_h.mt G_h h_h T.d_h.b .nil qq) (PE.or (Qh (pv 1) T.cl_Within T.i_Within_places G_h h_h T.d_h.b .nil qq) (PE.or (Qh (pv 1) T.cl_At T.i_At_places G_h h_h T.d_h.b .nil qq) (PE.or (Qh (pv 1) T.cl_Between T.d_x.mt G_x h_x T.d_x.b .nil qq) (Qh (pv 1) T.cl_Read T.i_Read_places G_x h_x T.d_x.b .nil qq)))))) (qv (i:=2) (sc_Log_put.nd) rfl (Or.inl rfl))
       (qg (qR (qu (qaO hu) (pv 2) (qP (pv 0) rfl) (by with_unfolding_all rfl))
         (qg qT)
         qw)))
     (qf (qR (qu qgX (qp qdg (by rfl) T.n_len qK (qa (qP (pv 0) rfl) qb)) (zS (v:=.int 60) rfl c_MOST_ENTRIES ⟨_,rfl⟩) (qG _))
       (qg qT)
       qw)
     (qg (qb0 hu (qP (pv 0) rfl) (qP (pv 1) rfl) (pv 1) rfl)))))),?_⟩
   try dsimp only [zv,Cx.nox]
   obtain ⟨C,ty,hk⟩:=qjI T en
   refine ⟨_,rfl,_,_,_,_,rfl,ty,hk,true,rfl,zj rfl ?_⟩
   obtain ⟨Ce,de,fe,he,cle,nae,lke⟩:=qiH T en
   have dg:qbf H ed (.str e.nm) none:=.inl ⟨_,.inr e.nm,.inl hL.he,rfl,(qev no).symm⟩
   refine ⟨_,rfl,e.x,Ce,de,fe,_,rfl,he,cle,nae,lke,_,rfl,x,_,dx,_,_,rfl,hL.hx,T.cl_Log,T.n_Log_entries,rfl,ed,_,rfl,dg,_,rfl,zj rfl ?_⟩
   try unfold qX
   try dsimp only
   refine QC (t:=qi7 _ _ _) (fun σ' H'=>∃ s2:Option V,σ'=[some (.ref x),some (.ref e.x),s2]∧Same H H') (fun N hN=>?_) ?_
   · refine qfw T (fun R h=>⟨_,rfl,h⟩) en sp fun l fl=>?_
     generalize hG:upd H l _=G
     obtain ⟨SG,eG⟩:=qO hG fl
     clear hG
     refine ⟨l,rfl,⟨_,SqL.of eG⟩,ju (D:={ nx:=N,rt:=Q }) (K:=K) (a:=l) (xs:=(pls e.pl).map V.str) (fun j σ H'=>∃ s2:Option V,σ=[some (.ref x),some (.ref e.x),s2]∧H'=G) ⟨_,rfl,rfl⟩ (fun j σ H' _ ⟨_,_,h⟩=>h▸SqL.of eG) ?_ ?_⟩
     · rintro j z σ H' hz ⟨s2,rfl,rfl⟩
       obtain ⟨y,hy,rfl⟩:∃ y,(pls e.pl)[j]?=some y∧V.str y=z:=by
         rw [List.getElem?_map] at hz
         exact Option.map_eq_some_iff.mp hz
       have my:=List.mem_of_getElem? hy
       unfold pls at my
       split at my
       · cases my
       · rename_i np
         have ey:y=e.pl:=List.mem_singleton.mp my
         subst ey
         obtain ⟨t,mt,et⟩:=List.mem_map.mp (hpl.resolve_left np)
         have dgt:=(hL.sm SG).tget mt
         rw [et] at dgt
         exact ⟨_,rfl,_,rfl,x,_,dx,_,_,rfl,(hL.sm SG).hx,T.cl_Log,T.n_Log_tables,rfl,td,_,rfl,dgt,_,rfl,zj rfl ⟨_,rfl,rfl⟩⟩
     · rintro σ H' ⟨s2,rfl,rfl⟩
       exact hN _ _ ⟨s2,rfl,SG⟩
   rintro _ H1 ⟨s2,rfl,S1⟩
   have hL1:=hL.sm S1
   refine ⟨_,rfl,x,_,dx,_,_,rfl,hL1.hx,T.cl_Log,T.n_Log_entries,rfl,ed,_,rfl,hL1.he,_,_,rfl,rfl,_,rfl,Zf (fun g=>absurd g ?_) (fun _=>?_)⟩
   · unfold ekv; rw [List.length_map]; omega
   have ep:qbb (ekv es) (.inr e.nm) (V.ref e.x)=ekv (es++[e]):=by
     rw [qgL _ (qev no)]
     unfold ekv
     rw [List.map_append]; rfl
   refine ⟨_,rfl,_,rfl,x,_,dx,_,_,rfl,hL1.hx,T.cl_Log,T.n_Log_entries,rfl,_,rfl,e.x,Ce,de,fe,_,rfl,S1 _ _ he,cle,nae,lke,ed,_,rfl,DPut.k (k:=.inr e.nm) hL1.he (by unfold ekv; rw [List.length_map]; exact Nat.lt_of_lt_of_le (by omega:es.length < 100) (qo (by decide:100≤1000))),?_⟩
   rw [ep]
   obtain ⟨zs,hb,tbb⟩:=hL1.hb
   refine kk _ (fun b o e nb=>by rw [qh nb]; exact S1 b o e) ⟨by rw [qh (zi hL1.hx hL1.he (by intro z; cases z))]; exact hL1.hx,by rw [qh hL1.ne]; exact hL1.ht,qc,⟨zs,by rw [qh (zi hb hL1.he (by intro z; cases z))]; exact hb,TupL.putD tbb hL1.he _⟩,fun y m=>(hL1.tt y m).putD hL1.he _,hL1.tg,hL1.tn,fun y m=>?_,fun y m=>?_,fun y m=>?_,hL1.ne,hL1.ndt,?_⟩
   · rcases List.mem_append.mp m with m | m
     · exact (hL1.en y m).putD hL1.he _
     · rw [List.mem_singleton.mp m]; exact (en.same S1).putD hL1.he _
   · rcases List.mem_append.mp m with m | m
     · exact hL1.sp y m
     · rw [List.mem_singleton.mp m]; exact sp
   · rcases List.mem_append.mp m with m | m
     · exact hL1.pls y m
     · rw [List.mem_singleton.mp m]; exact hpl
   · rw [List.map_append]
     exact List.nodup_append.mpr ⟨hL1.nde,by simp,fun y m z mz e'=>no (by rw [List.mem_singleton.mp mz] at e'; have e2:y=e.nm:=e'; rw [← e2]; exact m)⟩
theorem qaU {a:Ad} (T:Txt K mg a):qA P w K mg base (CX1 P w) 6 a.f_y a.fd_y ["self","later","earlier","minutes"] (jR a):=by
 have G_d:qA P w K mg base (CX1 P w) 5 a.f_d a.fd_d ["self","name"] (zG a):=Qi T
 have G_L:qA P w K mg base CX0 3 a.f_L a.fd_L ["thing"] j7:=qb7 T
 refine T.d_y.F.okX qdv (fun vs H Q E h=>?_) (fun cdv A outer s H vs Q E hr h=>?_)
 · obtain ⟨x,dx,td,ed,bl,ts,es,bs,n1,n2,m,rfl,hL,kk⟩:=h
   rfl
 · obtain ⟨x,dx,td,ed,bl,ts,es,bs,n1,n2,m,rfl,hL,kk⟩:=h
   have hu:=qJ hr
   have hU:=hr.units
   have h_d:Room (5) _:=hr.mono (by decide)
   have h_L:Room (3) _:=hr.mono (by decide)
   obtain ⟨t_MOST_BONDS,c_MOST_BONDS⟩:=T.g_MOST_BONDS
   refine ⟨_,(qf (qF (q9 (pv 0) T.cl_Log T.d_d.mt G_d h_d T.d_d.b .nil throws_cx.passes (qa (pv 1) qb)))
     (qf (qF (q9 (pv 0) T.cl_Log T.d_d.mt G_d h_d T.d_d.b .nil throws_cx.passes (qa (pv 2) qb)))
     (qf (qR (zy (zx (qj G_L h_L rfl T.d_L.m T.d_L.k T.d_L.b .nil qq (qa (pv 3) qb))))
       (qg qT)
       qw)
     (qf (qR (qu qgX (qp qU (by rfl) T.n_len qK (qa (qP (pv 0) rfl) qb)) (zS (v:=.int 100) rfl c_MOST_BONDS ⟨_,rfl⟩) (qG _))
       (qg qT)
       qw)
     (qf (qF (Jk PySem.F.plainAttrs_list PySem.F.slot_list_append PySem.F.type_list_append zK (qP (pv 0) rfl) (qa (zR (qa (pv 1) (qa (pv 2) (qa (pv 3) qb)))) qb)))
     (qg (qy (qB zH (qp qU (by rfl) T.n_len qK (qa (qP (pv 0) rfl) qb)) qe)))))))),?_⟩
   try dsimp only [zv,Cx.nox]
   rcases kk with ⟨me,mf,m0,m1,few,kk⟩ | ⟨mn,kz⟩
   case inr=>exact ⟨_,rfl,x,dx,_,rfl,hL.hx,rfl,_,rfl,x,dx,td,ed,bl,ts,es,bs,n1,rfl,hL,.inr ⟨mn,kz⟩⟩
   refine ⟨_,rfl,x,dx,_,rfl,hL.hx,rfl,_,rfl,x,dx,td,ed,bl,ts,es,bs,n1,rfl,hL,.inl ⟨me,?_⟩⟩
   refine ⟨_,rfl,x,dx,_,rfl,hL.hx,rfl,_,rfl,x,dx,td,ed,bl,ts,es,bs,n2,rfl,hL,.inl ⟨mf,?_⟩⟩
   refine ⟨_,rfl,m,rfl,m0,m1,true,rfl,zj rfl ?_⟩
   obtain ⟨zs,hb,tbb⟩:=hL.hb
   have lz:zs.length=bs.length:=tbb.1
   refine ⟨_,rfl,x,_,dx,_,_,rfl,hL.hx,T.cl_Log,T.n_Log_bound,rfl,_,_,rfl,.inl ⟨_,SqL.of hb,rfl⟩,_,_,rfl,rfl,_,rfl,Zf (fun g=>absurd g (by omega)) (fun _=>?_)⟩
   refine ⟨_,rfl,x,_,dx,_,_,rfl,hL.hx,T.cl_Log,T.n_Log_bound,rfl,.inl ⟨rfl,_,SqL.of hb⟩,_,rfl,_,rfl,_,rfl,qo (Nat.le_of_ble_eq_true rfl),fun t ft=>?_⟩
   generalize hG:upd H t _=G
   obtain ⟨SG,eG⟩:=qO hG ft
   clear hG
   have hLG:=hL.sm SG
   have hbG:=SG _ _ hb
   have tbG:TupL prB G zs bs:=tbb.same SG
   refine ⟨bl,_,_,rfl,rfl,hbG,qx (by omega),?_⟩
   have hL2:Lg a (upd G bl (.lst (zs++[.ref t]))) x dx td ed bl ts es (bs++[(n1,n2,m)]):=⟨by rw [qh (zi hLG.hx hbG (by intro z; cases z))]; exact hLG.hx,by rw [qh (zi hLG.ht hbG (by intro z; cases z))]; exact hLG.ht,by rw [qh (zi hLG.he hbG (by intro z; cases z))]; exact hLG.he,⟨_,qc,(tbG.snoc (p:=(n1,n2,m)) eG).put hbG⟩,fun y my=>(hLG.tt y my).putB (hLG.tg y my) hbG tbG _,hLG.tg,hLG.tn,fun y my=>(hLG.en y my).putL hbG _,hLG.sp,hLG.pls,hLG.ne,hLG.ndt,hLG.nde⟩
   have B2:But bl H (upd G bl (.lst (zs++[.ref t]))):=fun b o e nb=>by rw [qh nb]; exact SG b o e
   obtain ⟨zs2,hb2,tb2⟩:=hL2.hb
   generalize upd G bl (.lst (zs++[.ref t]))=G2 at hL2 B2 hb2 tb2 ⊢
   have l2:zs2.length=bs.length+1:=by rw [tb2.1,List.length_append]; rfl
   refine ⟨_,rfl,x,_,dx,_,_,rfl,hL2.hx,T.cl_Log,T.n_Log_bound,rfl,_,_,rfl,.inl ⟨_,SqL.of hb2,rfl⟩,_,_,rfl,rfl,?_⟩
   have e3:((zs2.length:Int) - 1)=(bs.length:Int):=by omega
   rw [e3]
   exact kk _ B2 hL2
theorem J9 {a:Ad} (T:Txt K mg a):qA P w K mg base (CX1 P w) 7 a.f_z a.fd_z ["self","name"] (Z0 a):=by
 have G_u:qA P w K mg base CX0 1 a.f_u a.fd_u ["self","tables"] zT:=Zd T
 have G_i:qA P w K mg base CX0 5 a.f_i a.fd_i ["self","tables"] (zl K):=Q2 T
 have G_j:qA P w K mg base CX0 6 a.f_j a.fd_j ["self","tables"] (za a):=QG T
 have G_c:qA P w K mg base (CX1 P w) 6 a.f_c a.fd_c ["self","name"] (Z2 a):=qaa T
 refine T.d_z.F.okX qcL (fun vs H Q E h=>?_) (fun cdv A outer s H vs Q E hr h=>?_)
 · obtain ⟨x,dx,td,ed,bl,ts,es,bs,nm,rfl,hL,kk⟩:=h
   rfl
 · obtain ⟨x,dx,td,ed,bl,ts,es,bs,nm,rfl,hL,kk⟩:=h
   have hu:=qJ hr
   have hU:=hr.units
   have h_u:Room (1) _:=hr.mono (by decide)
   have h_i:Room (5) _:=hr.mono (by decide)
   have h_j:Room (6) _:=hr.mono (by decide)
   have h_c:Room (6) _:=hr.mono (by decide)
   refine ⟨_,(qg (qy (PE.or (q9 (q9 (pv 0) T.cl_Log T.d_c.mt G_c h_c T.d_c.b .nil throws_cx.passes (qa (pv 1) qb)) T.cl_Entry T.d_u.mt G_u h_u T.d_u.b .nil qq (qa (qP (pv 0) rfl) qb)) (PE.or (q9 (q9 (pv 0) T.cl_Log T.d_c.mt G_c h_c T.d_c.b .nil throws_cx.passes (qa (pv 1) qb)) T.cl_Within T.d_i.mt G_i h_i T.d_i.b .nil qq (qa (qP (pv 0) rfl) qb)) (PE.or (q9 (q9 (pv 0) T.cl_Log T.d_c.mt G_c h_c T.d_c.b .nil throws_cx.passes (qa (pv 1) qb)) T.cl_At T.i_At_spans G_i h_i T.d_i.b .nil qq (qa (qP (pv 0) rfl) qb)) (PE.or (q9 (q9 (pv 0) T.cl_Log T.d_c.mt G_c h_c T.d_c.b .nil throws_cx.passes (qa (pv 1) qb)) T.cl_Between T.d_j.mt G_j h_j T.d_j.b .nil qq (qa (qP (pv 0) rfl) qb)) (q9 (q9 (pv 0) T.cl_Log T.d_c.mt G_c h_c T.d_c.b .nil throws_cx.passes (qa (pv 1) qb)) T.cl_Read T.i_Read_spans G_j h_j T.d_j.b .nil qq (qa (qP (pv 0) rfl) qb)))))))),?_⟩
   try dsimp only [zv,Cx.nox]
   rcases kk with ⟨e,W,me,rfl,due,kk⟩ | ⟨mn,kz⟩
   case inr=>exact .inl ⟨_,rfl,x,dx,_,rfl,hL.hx,rfl,_,rfl,x,dx,td,ed,bl,ts,es,bs,nm,rfl,hL,.inr ⟨mn,kz⟩⟩
   refine qgG T (fun R h=>⟨_,rfl,x,dx,_,rfl,hL.hx,rfl,_,rfl,x,dx,td,ed,bl,ts,es,bs,e.nm,rfl,hL,.inl ⟨e,me,rfl,h⟩⟩) (hL.en e me) (hL.sp e me) due (fun R hR=>⟨_,rfl,x,_,dx,_,_,rfl,hL.hx,T.cl_Log,T.n_Log_tables,rfl,hR td fun hw=>?_⟩) kk
   cases due with
   | @pl x0 _ mx ex =>
     have dg:=hL.tget mx
     rw [ex] at dg
     exact ⟨x0.2.1,x0.2.2,dg,hL.tt x0 mx,hL.tg x0 mx,rfl⟩
   | no h=>exact absurd hw (by rcases h with h | h | h<;>rw [h]<;>decide)
end
end K37
namespace K37
open PySem L2 PySem.NumText PyProof.Rows KC M04
section
variable {P:Program} {w:World} {K:PySem.W.Frag} {mg:Str->Option Value} {base:Heap}
end
abbrev S5:=Str×Str×Str×Int×Int
abbrev prS (s:S5):List V:=qjS s.1 s.2.1 s.2.2.1 s.2.2.2.1 s.2.2.2.2
abbrev eS (e:Ent):S5:=(e.wd,e.nm,e.pl,e.lo,e.hi)
abbrev tR (t:Str×Addr×List (Int×Int)):Str×List (Int×Int):=(t.1,t.2.2)
structure Imm (H H':Hp):Prop where
 tup:∀ t xs,H t=some (.tup xs)->H' t=some (.tup xs)
 ins:∀ x C d fs,H x=some (.ins C d fs)->fs.lookup ("bound":Str)=none->H' x=some (.ins C d fs)
 row:∀ q t zs r,H q=some (.lst (.ref t::zs))->H t=some (.tup (pr r))->H' q=some (.lst (.ref t::zs))
inductive Mu (H:Hp) (m:Addr):Prop
 | d {kvs:List (Key×V)}:H m=some (.dK kvs)->Mu H m
 | log {C d:Addr} {fs:List (Str×V)}:H m=some (.ins C d fs)->fs.lookup ("bound":Str)≠none->Mu H m
 | ls {zs:List V}:H m=some (.lst zs)->(∀ t ws r,zs=.ref t::ws->H t≠some (.tup (pr r)))->Mu H m
theorem ButL.imm {M:List Addr} {H H':Hp} (h:ButL M H H') (mu:∀ m∈M,Mu H m):Imm H H':=by
 refine ⟨fun t xs e=>h t _ e fun m=>?_,fun x C d fs e n=>h x _ e fun m=>?_,fun q t zs r e et=>h q _ e fun m=>?_⟩
 · cases mu t m with
   | d e'=>rw [e] at e'; cases e'
   | log e' _=>rw [e] at e'; cases e'
   | ls e' _=>rw [e] at e'; cases e'
 · cases mu x m with
   | d e'=>rw [e] at e'; cases e'
   | log e' hn=>rw [e] at e'; cases e'; exact hn n
   | ls e' _=>rw [e] at e'; cases e'
 · cases mu q m with
   | d e'=>rw [e] at e'; cases e'
   | log e' _=>rw [e] at e'; cases e'
   | ls e' hz=>rw [e] at e'; cases e'; exact hz t zs r rfl et
theorem Imm.sm {H H':Hp} (s:Same H H'):Imm H H':=⟨fun _ _ e=>s _ _ e,fun _ _ _ _ e _=>s _ _ e,fun _ _ _ _ e _=>s _ _ e⟩
theorem TupL.im {β:Type} {f:β->List V} {H H':Hp} {zs:List V} {ps:List β} (h:TupL f H zs ps) (i:Imm H H'):TupL f H' zs ps:=⟨h.1,fun j z y e1 e2=>by
 obtain ⟨t,et,ht⟩:=h.2 j z y e1 e2
 exact ⟨t,et,i.tup _ _ ht⟩⟩
theorem qhD {H H':Hp} {q:Addr} {zs:List V} {rows:List (Int×Int)} (hq:H q=some (.lst zs)) (tz:TupL pr H zs rows) (g:0 < rows.length) (i:Imm H H'):H' q=some (.lst zs):=by
 cases rows with
 | nil=>cases g
 | cons r rs =>
   obtain ⟨t,hz,ht⟩:=tz.at_ (i:=0) (p:=r) rfl
   cases zs with
   | nil=>cases hz
   | cons z ws=>cases hz; exact i.row _ t _ r hq ht
theorem Rs.im {H H':Hp} {q:Addr} {rows:List (Int×Int)} (h:Rs H q rows) (g:0 < rows.length) (i:Imm H H'):Rs H' q rows:=by
 obtain ⟨zs,hq,tz⟩:=h
 exact ⟨zs,qhD hq tz g i,TupL.im tz i⟩
theorem Tb.im {a:Ad} {H H':Hp} {x:Addr} {rows:List (Int×Int)} (h:Tb a H x rows) (g:Good rows) (i:Imm H H'):Tb a H' x rows:=by
 obtain ⟨k,dx,zs,h1,h2,h3⟩:=h
 exact ⟨k,dx,zs,i.ins _ _ _ _ h1 (qdL _ (by decide)),qhD h2 h3 (qS g) i,TupL.im h3 i⟩
theorem En.mp {a:Ad} {H H':Hp} {x:Addr} {wd nm pl:Str} {lo hi:Int} (h:En a H x wd nm pl lo hi) (k:∀ C d fs,H x=some (.ins C d fs)->fs.lookup ("bound":Str)=none->H' x=some (.ins C d fs)):En a H' x wd nm pl lo hi:=by
 cases h with
 | any e=>exact .any (k _ _ _ e rfl)
 | within e=>exact .within (k _ _ _ e rfl)
 | at_ e=>exact .at_ (k _ _ _ e rfl)
 | between e=>exact .between (k _ _ _ e rfl)
 | read e=>exact .read (k _ _ _ e rfl)
theorem Lg.im {a:Ad} {H H':Hp} {x dx td ed bl:Addr} {ts:Pls} {es:List Ent} {bs:List (Str×Str×Int)} (h:Lg a H x dx td ed bl ts es bs) (i:Imm H H') (k:∀ b∈[x,td,ed,bl],∀ o,H b=some o->H' b=some o):Lg a H' x dx td ed bl ts es bs:=by
 obtain ⟨zs,hb,tb⟩:=h.hb
 exact ⟨k _ (by simp) _ h.hx,k _ (by simp) _ h.ht,k _ (by simp) _ h.he,⟨zs,k _ (by simp) _ hb,TupL.im tb i⟩,fun t m=>(h.tt t m).im (h.tg t m) i,h.tg,h.tn,fun e m=>(h.en e m).mp fun _ _ _=>i.ins _ _ _ _,h.sp,h.pls,h.ne,h.ndt,h.nde⟩
theorem qek {H:Hp} {m:Addr} {zs:List V} {bs:List (Str×Str×Int)} (e:H m=some (.lst zs)) (t:TupL prB H zs bs):Mu H m:=.ls e fun u ws r ez eu=>by
 subst ez
 obtain ⟨q,v,hq,ev,hv⟩:=t.of (i:=0) (z:=.ref u) rfl
 cases ev
 rw [eu] at hv
 cases hv
theorem qfS {H:Hp} {m:Addr} {zs:List V} {bs:List S5} (e:H m=some (.lst zs)) (t:TupL prS H zs bs):Mu H m:=.ls e fun u ws r ez eu=>by
 subst ez
 obtain ⟨q,v,hq,ev,hv⟩:=t.of (i:=0) (z:=.ref u) rfl
 cases ev
 rw [eu] at hv
 cases hv
theorem qhP {H:Hp} {m:Addr} {ns:List Str} (e:H m=some (.lst (ns.map V.str))):Mu H m:=.ls e fun u ws r ez=>by
 cases ns with
 | nil=>cases ez
 | cons _ _=>cases ez
theorem PenAt.mu {H:Hp} {p:Addr} (h:PenAt H p):Mu H p:=by
 obtain ⟨c,x,y,_,e⟩:=h
 exact .ls e fun u ws r ez=>by cases ez
theorem Lg.mu {a:Ad} {H:Hp} {x dx td ed bl:Addr} {ts:Pls} {es:List Ent} {bs:List (Str×Str×Int)} (h:Lg a H x dx td ed bl ts es bs):∀ m∈[x,td,ed,bl],Mu H m:=by
 intro m hm
 simp only [List.mem_cons,List.not_mem_nil,or_false] at hm
 obtain ⟨zs,hb,tb⟩:=h.hb
 rcases hm with rfl | rfl | rfl | rfl
 · exact .log h.hx (by intro z; cases z)
 · exact .d h.ht
 · exact .d h.he
 · exact qek hb tb
def jI (ts:Pls) (pl:Str) (t:Addr) (rows:List (Int×Int)):Pls:=if pl∈ts.map (·.1) then ts.map (fun y=>if y.1=pl then (pl,t,rows) else y) else ts++[(pl,t,rows)]
theorem any_dkv {ts:Pls} {pl:Str}:((dkv ts).any fun kv=>decide (kv.1=(.inr pl:Key)))=true↔pl∈ts.map (·.1):=by
 unfold dkv
 rw [List.any_map,List.any_eq_true,List.mem_map]
 constructor
 · rintro ⟨y,m,e⟩
   have e':(.inr y.1:Key)=.inr pl:=by simpa using e
   exact ⟨y,m,by injection e'⟩
 · rintro ⟨y,m,e⟩
   exact ⟨y,m,by simp [e]⟩
theorem qdO {ts:Pls} {pl:Str} {t:Addr} {rows:List (Int×Int)}:qbb (dkv ts) (.inr pl) (V.ref t)=dkv (jI ts pl t rows):=by
 unfold qbb jI
 by_cases h:pl∈ts.map (·.1)
 · rw [if_pos (any_dkv.mpr h),if_pos h]
   unfold dkv
   rw [List.map_map,List.map_map]
   refine List.map_congr_left fun y _=>?_
   by_cases e:y.1=pl
   · simp [e]
   · have:¬ ((.inr y.1:Key)=.inr pl):=fun z=>e (by injection z)
     simp [e]
 · rw [if_neg (fun z=>h (any_dkv.mp z)),if_neg h]
   unfold dkv
   rw [List.map_append]; rfl
theorem qfs {ts ps:Pls} (h:ts.map tR=ps.map tR) (pl:Str) (t q:Addr) (rows:List (Int×Int)):(jI ts pl t rows).map tR=(jI ps pl q rows).map tR:=by
 have hk:ts.map (·.1)=ps.map (·.1):=by
   have:=congrArg (List.map Prod.fst) h
   rw [List.map_map,List.map_map] at this
   exact this
 have g:∀ (l:Pls) (z:Addr),(l.map (fun y=>if y.1=pl then (pl,z,rows) else y)).map tR=(l.map tR).map (fun y=>if y.1=pl then (pl,rows) else y):=fun l z=>by
   rw [List.map_map,List.map_map]
   refine List.map_congr_left fun y _=>?_
   by_cases e:y.1=pl
   · simp [e]
   · simp [e]
 unfold jI
 rw [hk]
 by_cases c:pl∈ps.map (·.1)
 · rw [if_pos c,if_pos c,g,g,h]
 · rw [if_neg c,if_neg c,List.map_append,List.map_append,h]; rfl
theorem Jh {ts:Pls} {pl:Str} {t:Addr} {rows:List (Int×Int)}:(jI ts pl t rows).map (·.1)=if pl∈ts.map (·.1) then ts.map (·.1) else ts.map (·.1)++[pl]:=by
 unfold jI
 by_cases c:pl∈ts.map (·.1)
 · rw [if_pos c,if_pos c,List.map_map]
   refine List.map_congr_left fun y _=>?_
   by_cases e:y.1=pl
   · simp [e]
   · simp [e]
 · rw [if_neg c,if_neg c,List.map_append]; rfl
theorem ZE {ts:Pls} {pl:Str} {t:Addr} {rows:List (Int×Int)} {y:Str×Addr×List (Int×Int)} (m:y∈jI ts pl t rows):y∈ts∨y=(pl,t,rows):=by
 unfold jI at m
 split at m
 · obtain ⟨z,mz,e⟩:=List.mem_map.mp m
   split at e
   · exact .inr e.symm
   · exact .inl (e▸mz)
 · rcases List.mem_append.mp m with m | m
   · exact .inl m
   · exact .inr (List.mem_singleton.mp m)
theorem qdx {ts:Pls} (h:(ts.map (·.1)).Nodup) {pl:Str} {t:Addr} {rows:List (Int×Int)}:((jI ts pl t rows).map (·.1)).Nodup:=by
 rw [Jh]
 split
 · exact h
 · rename_i c
   exact List.nodup_append.mpr ⟨h,by simp,fun y m z mz e=>c (by rw [List.mem_singleton.mp mz] at e; exact e▸m)⟩
theorem qgK {ts:Pls} {pl:Str} {t:Addr} {rows:List (Int×Int)} {n:Str} (m:n∈ts.map (·.1)):n∈(jI ts pl t rows).map (·.1):=by
 rw [Jh]
 split
 · exact m
 · exact List.mem_append_left _ m
theorem TupL.er {β:Type} {f:β->List V} {H:Hp} {zs:List V} {ps:List β} (h:TupL f H zs ps) (n:Nat):TupL f H (zs.eraseIdx n) (ps.eraseIdx n):=by
 have hl:=h.1
 refine ⟨by rw [List.length_eraseIdx,List.length_eraseIdx,hl],fun j z y e1 e2=>?_⟩
 rw [List.getElem?_eraseIdx] at e1 e2
 by_cases c:j < n
 · rw [if_pos c] at e1 e2; exact h.2 j z y e1 e2
 · rw [if_neg c] at e1 e2; exact h.2 (j+1) z y e1 e2
abbrev kb (nm:Str) (b:Str×Str×Int):Bool:=!decide (nm=b.1) && !decide (nm=b.2.1)
theorem qhm {es:List Ent} {nm:Str}:qdN (ekv es) (.inr nm)=ekv (es.filter fun e=>decide (e.nm≠nm)):=by
 unfold qdN ekv
 rw [List.filter_map]
 congr 1
 refine List.filter_congr fun e _=>?_
 show decide ((.inr e.nm:Key)≠.inr nm)=decide (e.nm≠nm)
 by_cases h:e.nm=nm
 · simp [h]
 · have:¬ ((.inr e.nm:Key)=.inr nm):=fun z=>h (by injection z)
   simp [h]
inductive jF (a:Ad) (vs:List V) (H:Hp) (Q:VK):Prop
 | mk (x dx td ed bl:Addr) (ts:Pls) (es:List Ent) (bs:List (Str×Str×Int)) (pl:Str) (t:Addr) (rows:List (Int×Int)) (h1:vs=[.ref x,.str pl,.ref t]) (h2:Lg a H x dx td ed bl ts es bs) (h3:Qj (.str pl)=true) (h4:(pl∉ts.map (·.1)->ts.length < 6)) (h5:ts.length≤6) (h6:Tb a H t rows) (h7:Good rows) (h8:∀ H',But td H H'->Lg a H' x dx td ed bl (jI ts pl t rows) es bs->Q .non H'):jF a vs H Q
def JX (a:Ad):Sp:=fun vs H Q _=>jF a vs H Q
inductive QU (a:Ad) (vs:List V) (H:Hp) (Q:VK):Prop
 | mk (x dx td ed bl:Addr) (ts:Pls) (es:List Ent) (bs:List (Str×Str×Int)) (n:Nat) (h1:vs=[.ref x,.int (n:Int)]) (h2:Lg a H x dx td ed bl ts es bs) (h3:n < bs.length) (h4:Q .non H):QU a vs H Q
def Zl (a:Ad):Sp:=fun vs H Q _=>QU a vs H Q
inductive ZZ (a:Ad) (vs:List V) (H:Hp) (Q:VK):Prop
 | mk (x dx td ed bl:Addr) (ts:Pls) (es:List Ent) (bs:List (Str×Str×Int)) (n:Nat) (h1:vs=[.ref x,.int (n:Int)]) (h2:Lg a H x dx td ed bl ts es bs) (h3:n < bs.length) (h4:bs.length≤100) (h5:∀ H',But bl H H'->Lg a H' x dx td ed bl ts es (bs.eraseIdx n)->Q .non H'):ZZ a vs H Q
def Ja (a:Ad):Sp:=fun vs H Q _=>ZZ a vs H Q
inductive Jc (a:Ad) (vs:List V) (H:Hp) (Q:VK):Prop
 | mk (x dx td ed bl:Addr) (ts:Pls) (es:List Ent) (bs:List (Str×Str×Int)) (nm:Str) (h1:vs=[.ref x,.str nm]) (h2:Lg a H x dx td ed bl ts es bs) (h3:nm∈es.map (·.nm)) (h4:bs.length≤100) (h5:∀ (bl':Addr) (H':Hp),H bl'=none->ButL [x,ed] H H'->Lg a H' x dx td ed bl' ts (es.filter fun e=>decide (e.nm≠nm)) (bs.filter (kb nm))->Q .non H'):Jc a vs H Q
def qay (a:Ad):Sp:=fun vs H Q _=>Jc a vs H Q
inductive Z3 (a:Ad) (vs:List V) (H:Hp) (Q:VK):Prop
 | mk (x dx td ed bl:Addr) (ts:Pls) (es:List Ent) (bs:List (Str×Str×Int)) (h1:vs=[.ref x]) (h2:Lg a H x dx td ed bl ts es bs) (h3:∀ (x' dx' td' ed' bl':Addr) (H':Hp),H x'=none->H td'=none->H ed'=none->H bl'=none->Same H H'->Lg a H' x' dx' td' ed' bl' ts es bs->Q (.ref x') H'):Z3 a vs H Q
def Jd (a:Ad):Sp:=fun vs H Q _=>Z3 a vs H Q
section
variable {P:Program} {w:World} {K:PySem.W.Frag} {mg:Str->Option Value} {base:Heap}
theorem qcY {a:Ad} (T:Txt K mg a):qA P w K mg base CX0 2 a.f_6 a.fd_6 ["self","place","table"] (JX a):=by
 have G_n:qA P w K mg base CX0 1 a.f_n a.fd_n ["thing"] Ju:=qbA T
 refine T.d_6.F.ok qcO (fun vs H Q E h=>?_) (fun cdv A outer s H vs Q E hr h=>?_)
 · obtain ⟨x,dx,td,ed,bl,ts,es,bs,pl,t,rows,rfl,hL,ok,few,few6,tb,good,kk⟩:=h
   rfl
 · obtain ⟨x,dx,td,ed,bl,ts,es,bs,pl,t,rows,rfl,hL,ok,few,few6,tb,good,kk⟩:=h
   have hu:=qJ hr
   have hU:=hr.units
   have h_n:Room (1) _:=hr.mono (by decide)
   obtain ⟨t_MOST_PLACES,c_MOST_PLACES⟩:=T.g_MOST_PLACES
   refine ⟨_,(qf (qR (zy (zx (qj G_n h_n rfl T.d_n.m T.d_n.k T.d_n.b .nil qq (qa (pv 1) qb))))
       (qg qT)
       qw)
     (qf (qR (PW.pt (J1 (qu (qaO hu) (pv 1) (qP (pv 0) rfl) (by with_unfolding_all rfl)) (jS (qu qgX (qp qdg (by rfl) T.n_len qK (qa (qP (pv 0) rfl) qb)) (zS (v:=.int 6) rfl c_MOST_PLACES ⟨_,rfl⟩) (qG _)))))
       (qg qT)
       qw)
     (qg (qb0 hu (qP (pv 0) rfl) (pv 1) (pv 2) rfl)))),?_⟩
   try dsimp only [zv,Cx.nox]
   refine ⟨_,rfl,pl,rfl,ok,fun H1 S1=>⟨true,rfl,zj rfl ?_⟩⟩
   have hL1:=hL.sm S1
   obtain ⟨zs,hb,tbb⟩:=hL1.hb
   have K1:Q .non (upd H1 td (.dK (qbb (dkv ts) (.inr pl) (V.ref t)))):=by
     rw [qdO (rows:=rows)]
     refine kk _ (fun b o e nb=>by rw [qh nb]; exact S1 b o e) ⟨by rw [qh (zi hL1.hx hL1.ht (by intro z; cases z))]; exact hL1.hx,qc,by rw [qh hL1.ne.symm]; exact hL1.he,⟨zs,by rw [qh (zi hb hL1.ht (by intro z; cases z))]; exact hb,TupL.putD tbb hL1.ht _⟩,fun y m=>?_,fun y m=>?_,fun y m=>?_,fun e m=>(hL1.en e m).putD hL1.ht _,hL1.sp,fun e m=>?_,hL1.ne,qdx hL1.ndt,hL1.nde⟩
     · rcases ZE m with m | rfl
       · exact (hL1.tt y m).putD hL1.ht _
       · exact (tb.sm S1).putD hL1.ht _
     · rcases ZE m with m | rfl
       · exact hL1.tg y m
       · exact good
     · rcases ZE m with m | rfl
       · exact hL1.tn y m
       · exact ok
     · rcases hL1.pls e m with h | h
       · exact .inl h
       · exact .inr (qgK h)
   by_cases no:pl∈ts.map (·.1)
   · obtain ⟨y,my,ey⟩:=List.mem_map.mp no
     have dg:=hL1.tget my
     rw [ey] at dg
     refine ⟨_,rfl,_,rfl,x,_,dx,_,_,rfl,hL1.hx,T.cl_Log,T.n_Log_tables,rfl,td,_,rfl,dg,_,rfl,zj rfl ?_⟩
     exact ⟨_,rfl,_,rfl,x,_,dx,_,_,rfl,hL1.hx,T.cl_Log,T.n_Log_tables,rfl,_,rfl,td,_,rfl,DPut.k (k:=.inr pl) hL1.ht (by unfold dkv; rw [List.length_map]; exact Nat.lt_of_lt_of_le (by omega:ts.length < 60) (qo (by decide:60≤1000))),K1⟩
   · have few:=few no
     have dg:qbf H1 td (.str pl) none:=.inl ⟨_,.inr pl,.inl hL1.ht,rfl,(qiW no).symm⟩
     refine ⟨_,rfl,_,rfl,x,_,dx,_,_,rfl,hL1.hx,T.cl_Log,T.n_Log_tables,rfl,td,_,rfl,dg,_,rfl,Jr rfl ?_⟩
     refine ⟨_,rfl,x,_,dx,_,_,rfl,hL1.hx,T.cl_Log,T.n_Log_tables,rfl,td,_,rfl,hL1.ht,_,_,rfl,rfl,_,rfl,Zf (fun g=>absurd g ?_) (fun _=>?_)⟩
     · unfold dkv; rw [List.length_map]; omega
     exact ⟨_,rfl,_,rfl,x,_,dx,_,_,rfl,hL1.hx,T.cl_Log,T.n_Log_tables,rfl,_,rfl,td,_,rfl,DPut.k (k:=.inr pl) hL1.ht (by unfold dkv; rw [List.length_map]; exact Nat.lt_of_lt_of_le (by omega:ts.length < 60) (qo (by decide:60≤1000))),K1⟩
theorem JL {a:Ad} (T:Txt K mg a):qA P w K mg base CX0 3 a.f_aa a.fd_aa ["self","number"] (Zl a):=by
 have G_b:qA P w K mg base CX0 2 a.f_b a.fd_b ["thing","low","high"] Qp:=Q1 T
 refine T.d_aa.F.ok Jx (fun vs H Q E h=>?_) (fun cdv A outer s H vs Q E hr h=>?_)
 · obtain ⟨x,dx,td,ed,bl,ts,es,bs,n,rfl,hL,hn,kk⟩:=h
   rfl
 · obtain ⟨x,dx,td,ed,bl,ts,es,bs,n,rfl,hL,hn,kk⟩:=h
   have hu:=qJ hr
   have hU:=hr.units
   have h_b:Room (2) _:=hr.mono (by decide)
   refine ⟨_,(qg (qR (zy (zx (qj G_b h_b rfl T.d_b.m T.d_b.k T.d_b.b .nil qq (qa (pv 1) (qa qe (qa (qB zH (qp qU (by rfl) T.n_len qK (qa (qP (pv 0) rfl) qb)) qe) qb))))))
       (qg qT)
       qw)),?_⟩
   try dsimp only [zv,Cx.nox]
   obtain ⟨zs,hb,tbb⟩:=hL.hb
   have lz:zs.length=bs.length:=tbb.1
   exact ⟨_,rfl,_,rfl,x,_,dx,_,_,rfl,hL.hx,T.cl_Log,T.n_Log_bound,rfl,_,_,rfl,.inl ⟨_,SqL.of hb,rfl⟩,_,_,rfl,rfl,(n:Int),0,_,rfl,(by omega),(by omega),true,rfl,zj rfl kk⟩
theorem qca {a:Ad} (T:Txt K mg a):qA P w K mg base CX0 4 a.f_8 a.fd_8 ["self","number"] (Ja a):=by
 have G_aa:qA P w K mg base CX0 3 a.f_aa a.fd_aa ["self","number"] (Zl a):=JL T
 refine T.d_8.F.ok qbW (fun vs H Q E h=>?_) (fun cdv A outer s H vs Q E hr h=>?_)
 · obtain ⟨x,dx,td,ed,bl,ts,es,bs,n,rfl,hL,hn,few,kk⟩:=h
   rfl
 · obtain ⟨x,dx,td,ed,bl,ts,es,bs,n,rfl,hL,hn,few,kk⟩:=h
   have hu:=qJ hr
   have hU:=hr.units
   have h_aa:Room (3) _:=hr.mono (by decide)
   refine ⟨_,(qf (qF (q9 (pv 0) T.cl_Log T.d_aa.mt G_aa h_aa T.d_aa.b .nil qq (qa (pv 1) qb)))
     (qg (qF (Jk PySem.F.plainAttrs_list PySem.F.slot_list_pop PySem.F.type_list_pop qcf (qP (pv 0) rfl) (qa (pv 1) qb))))),?_⟩
   try dsimp only [zv,Cx.nox]
   refine ⟨_,rfl,x,dx,_,rfl,hL.hx,rfl,_,rfl,x,dx,td,ed,bl,ts,es,bs,n,rfl,hL,hn,?_⟩
   obtain ⟨zs,hb,tbb⟩:=hL.hb
   have lz:zs.length=bs.length:=tbb.1
   refine ⟨_,rfl,x,_,dx,_,_,rfl,hL.hx,T.cl_Log,T.n_Log_bound,rfl,.inl ⟨rfl,_,SqL.of hb⟩,_,rfl,bl,zs,_,n,zs[n]'(by omega),rfl,rfl,hb,(by omega),(by omega),(qa1 (qdJ (by omega))).1,List.getElem?_eq_getElem (by omega),?_⟩
   refine kk _ (fun b o e nb=>by rw [qh nb]; exact e) ⟨by rw [qh (zi hL.hx hb (by intro z; cases z))]; exact hL.hx,by rw [qh (zi hL.ht hb (by intro z; cases z))]; exact hL.ht,by rw [qh (zi hL.he hb (by intro z; cases z))]; exact hL.he,⟨_,qc,(TupL.er tbb n).put hb⟩,fun y my=>(hL.tt y my).putB (hL.tg y my) hb tbb _,hL.tg,hL.tn,fun y my=>(hL.en y my).putL hb _,hL.sp,hL.pls,hL.ne,hL.ndt,hL.nde⟩
end
theorem qab {H:Hp} {a b:Addr} {o:HO} (h:upd H a o b=none):H b=none:=by
 by_cases e:b=a
 · subst e; rw [qc] at h; cases h
 · rw [qh e] at h; exact h
theorem qbN {H L M:Hp} {x n:Addr} {o o' o1:HO} (S:Same H L) (fx:H x=none) (fn:L n=none) (hx:L x=some o1) (hM:upd (upd L n o) x o'=M):Same H M∧M x=some o'∧M n=some o∧H n=none∧∀ b ob,L b=some ob->b≠x->M b=some ob:=by
 subst hM
 have nx:n≠x:=fun e=>by rw [e,hx] at fn; cases fn
 refine ⟨fun b ob e=>?_,qc,by rw [qh nx,qc],S.none fn,fun b ob e nb=>?_⟩
 · rw [qh (qi e fx),qh (qi (S b ob e) fn)]; exact S b ob e
 · rw [qh nb,qh (qi e fn)]; exact e
theorem jO {α:Type} {p:α->Bool} {l:List α} {i:Nat} {x:α} (h:l[i]?=some x):(l.take (i+1)).filter p=(l.take i).filter p++(if p x=true then [x] else []):=by
 rw [List.take_add_one,h,List.filter_append]
 congr 1
 by_cases c:p x=true
 · simp [c]
 · simp [c]
section
variable {P:Program} {w:World} {K:PySem.W.Frag} {mg:Str->Option Value} {base:Heap}
theorem qdz {a:Ad} (T:Txt K mg a):qA P w K mg base CX0 6 a.f_9 a.fd_9 ["self","name"] (qay a):=by
 have G_d:qA P w K mg base (CX1 P w) 5 a.f_d a.fd_d ["self","name"] (zG a):=Qi T
 refine T.d_9.F.ok qdu (fun vs H Q E h=>?_) (fun cdv A outer s H vs Q E hr h=>?_)
 · obtain ⟨x,dx,td,ed,bl,ts,es,bs,nm,rfl,hL,mn,few,kk⟩:=h
   rfl
 · obtain ⟨x,dx,td,ed,bl,ts,es,bs,nm,rfl,hL,mn,few,kk⟩:=h
   have hu:=qJ hr
   have hU:=hr.units
   have h_d:Room (5) _:=hr.mono (by decide)
   obtain ⟨t_LATER,c_LATER⟩:=T.g_LATER
   obtain ⟨t_EARLIER,c_EARLIER⟩:=T.g_EARLIER
   refine ⟨_,(qf (qF (q9 (pv 0) T.cl_Log T.d_d.mt G_d h_d T.d_d.b .nil qiI (qa (pv 1) qb)))
     (qf (qF (qgT (qP (pv 0) rfl) (pv 1) ⟨rfl,rfl,rfl,rfl⟩))
     (qg (Q8 (pv 0) (QF rfl (CompOk.def ["bond","name"] [none,some 1]) (zJ (qP (pv 0) rfl)) (fun _ _ _ _ _=>(qv (i:=0) (show List.Nodup (["bond","name"]:List Str) by decide +kernel) rfl (Or.inl rfl))) (fun _ _ _ _ _=>(qaK (PW.pt (J1 (qu (uNe hU) (pv 1) (qC (r:=rIx K) qr (pv 0) (zS (v:=.int 0) rfl c_LATER ⟨_,rfl⟩) (fun _ _=>rfl)) (qG _)) (jS (qu (uNe hU) (pv 1) (qC (r:=rIx K) qr (pv 0) (zS (v:=.int 1) rfl c_EARLIER ⟨_,rfl⟩) (fun _ _=>rfl)) (qG _))))))) (fun _ _ _ _ _=>(pv 0))) rfl)))),?_⟩
   try dsimp only [zv,Cx.nox]
   refine ⟨_,rfl,x,dx,_,rfl,hL.hx,rfl,_,rfl,x,dx,td,ed,bl,ts,es,bs,nm,rfl,hL,.inl ⟨mn,?_⟩⟩
   obtain ⟨e0,me0,rfl⟩:=List.mem_map.mp mn
   refine ⟨_,rfl,x,_,dx,_,_,rfl,hL.hx,T.cl_Log,T.n_Log_entries,rfl,ed,rfl,.inl ⟨_,.inl hL.he⟩,_,rfl,_,.inr e0.nm,_,hL.he,rfl,qdM hL.nde e0 me0,?_⟩
   rw [qhm]
   obtain ⟨zs,hb,tbb⟩:=hL.hb
   have gx:(upd H ed (.dK (ekv (es.filter fun e=>decide (e.nm≠e0.nm))))) x=_:=(qh (zi hL.hx hL.he (by intro z; cases z))).trans hL.hx
   have gt:(upd H ed (.dK (ekv (es.filter fun e=>decide (e.nm≠e0.nm))))) td=_:=(qh hL.ne).trans hL.ht
   have ge:(upd H ed (.dK (ekv (es.filter fun e=>decide (e.nm≠e0.nm))))) ed=_:=qc
   have gb:(upd H ed (.dK (ekv (es.filter fun e=>decide (e.nm≠e0.nm))))) bl=_:=(qh (zi hb hL.he (by intro z; cases z))).trans hb
   have tg:TupL prB (upd H ed (.dK (ekv (es.filter fun e=>decide (e.nm≠e0.nm))))) zs bs:=TupL.putD tbb hL.he _
   have BG:But ed H (upd H ed (.dK (ekv (es.filter fun e=>decide (e.nm≠e0.nm))))):=fun b o e nb=>by rw [qh nb]; exact e
   have FG:∀ b,(upd H ed (.dK (ekv (es.filter fun e=>decide (e.nm≠e0.nm))))) b=none->H b=none:=fun b h=>qab h
   generalize upd H ed (.dK (ekv (es.filter fun e=>decide (e.nm≠e0.nm))))=G at gx gt ge gb tg BG FG ⊢
   refine ⟨_,rfl,x,_,dx,_,_,rfl,gx,T.cl_Log,T.n_Log_bound,rfl,bl,rfl,⟨_,SqL.of gb⟩,fun D fD=>?_⟩
   refine zM (K:=K) (a:=bl) (xs:=zs) (D:=D) (fun i σ H2=>∃ (c0:Option V) (ws:List V),σ=[c0,some (.str e0.nm)]∧Same G H2∧H2 D=some (.lst ws)∧TupL prB H2 ws ((bs.take i).filter (kb e0.nm))) ⟨none,[],rfl,Same.new _ fD,qc,.nil⟩ (fun i σ H2 _ ⟨_,_,_,S,_⟩=>SqL.of (S _ _ gb)) ?_ ?_
   · rintro i z σ H2 hz ⟨c0,ws,rfl,S,hD,tw⟩
     obtain ⟨b,u,hb',rfl,hu'⟩:=tg.of hz
     have hu2:=S _ _ hu'
     have lw:ws.length≤100:=by
       have h1:=tw.1
       have h2:=List.length_filter_le (kb e0.nm) (bs.take i)
       rw [List.length_take] at h2
       omega
     have tf:=jO (p:=kb e0.nm) hb'
     refine ⟨_,rfl,_,rfl,.inr (.inl ⟨u,_,_,_,rfl,rfl,SqT.of hu2,rfl,.inl ⟨rfl,_,rfl,?_⟩⟩)⟩
     by_cases c1:e0.nm=b.1
     · refine zj (by simp [c1]) (zj rfl ?_)
       refine ⟨_,ws,rfl,S,hD,?_⟩
       rw [tf,if_neg (by simp [kb,c1]),List.append_nil]; exact tw
     refine Jr (by simp [c1]) ?_
     refine ⟨_,rfl,_,rfl,.inr (.inl ⟨u,_,_,_,rfl,rfl,SqT.of hu2,rfl,.inl ⟨rfl,_,rfl,?_⟩⟩)⟩
     by_cases c2:e0.nm=b.2.1
     · refine zj (by simp [c2]) ?_
       refine ⟨_,ws,rfl,S,hD,?_⟩
       rw [tf,if_neg (by simp [kb,c2]),List.append_nil]; exact tw
     refine Jr (by simp [c2]) ?_
     refine ⟨_,rfl,ws,hD,qx (by omega),_,_,rfl,S.put fD _,qc,?_⟩
     rw [tf,if_pos (by simp [kb,c1,c2])]
     exact (tw.snoc hu2).put hD
   rintro σ H2 ⟨c0,ws,rfl,S,hD,tw⟩
   rw [tg.1,List.take_length] at tw
   refine ⟨_,rfl,x,_,dx,_,rfl,S _ _ gx,T.cl_Log,T.n_Log_bound,(Nat.le_of_ble_eq_true rfl),?_⟩
   have nxt:td≠x:=zi hL.ht hL.hx (by intro z; cases z)
   have nxe:ed≠x:=zi hL.he hL.hx (by intro z; cases z)
   have nxD:D≠x:=zi hD (S _ _ gx) (by intro z; cases z)
   have ef:qcs ("bound":Str) (.ref D) (fsL td ed bl)=fsL td ed D:=rfl
   rw [ef]
   have BL:ButL [x,ed] H (upd H2 x (.ins a.c_Log dx (fsL td ed D))):=fun b o e nb=>by
     simp only [List.mem_cons,List.not_mem_nil,or_false,not_or] at nb
     rw [qh nb.1]
     exact S b o (BG b o e nb.2)
   have im:Imm H (upd H2 x (.ins a.c_Log dx (fsL td ed D))):=ButL.imm BL fun m mm=>hL.mu m (by
     simp only [List.mem_cons,List.not_mem_nil,or_false] at mm ⊢
     rcases mm with h | h
     · exact .inl h
     · exact .inr (.inr (.inl h)))
   refine kk D _ (FG D fD) BL ⟨qc,by rw [qh nxt]; exact S _ _ gt,by rw [qh nxe]; exact S _ _ ge,⟨ws,by rw [qh nxD]; exact hD,?_⟩,fun t m=>(hL.tt t m).im (hL.tg t m) im,hL.tg,hL.tn,fun e m=>?_,fun e m=>hL.sp e (List.mem_filter.mp m).1,fun e m=>hL.pls e (List.mem_filter.mp m).1,hL.ne,hL.ndt,?_⟩
   · refine ⟨tw.1,fun j z y e1 e2=>?_⟩
     obtain ⟨t,et,ht⟩:=tw.2 j z y e1 e2
     exact ⟨t,et,by rw [qh (zi ht (S _ _ gx) (by intro z; cases z))]; exact ht⟩
   · exact (hL.en e (List.mem_filter.mp m).1).mp fun _ _ _=>im.ins _ _ _ _
   · exact List.Nodup.sublist (List.Sublist.map _ List.filter_sublist) hL.nde
theorem qcb {a:Ad} (T:Txt K mg a):qA P w K mg base CX0 3 a.f_K a.fd_K ["self"] (Jd a):=by
 have G_A:qA P w K mg base CX0 1 a.f_A a.fd_A ["self"] (jQ a):=qaT T
 refine T.d_K.F.ok sc_Log_copied (fun vs H Q E h=>?_) (fun cdv A outer s H vs Q E hr h=>?_)
 · obtain ⟨x,dx,td,ed,bl,ts,es,bs,rfl,hL,kk⟩:=h
   rfl
 · obtain ⟨x,dx,td,ed,bl,ts,es,bs,rfl,hL,kk⟩:=h
   have hu:=qJ hr
   have hU:=hr.units
   have h_A:Room (1+1) _:=hr.mono (by decide)
   refine ⟨_,(qf (qH (i:=1) sc_Log_copied.nd rfl (Or.inl rfl) (qeh T.M_Log G_A h_A rfl T.g_Log T.d_A.b .nil qq))
     (qf (Q8 (pv 1) (qY (r:=qef) JO (by rfl) T.n_dict JP (qa (qP (pv 0) rfl) qb)) rfl)
     (qf (Q8 (pv 1) (qY (r:=qef) JO (by rfl) T.n_dict JP (qa (qP (pv 0) rfl) qb)) rfl)
     (qf (Q8 (pv 1) (qY (r:=qio K) zN (by rfl) T.n_list zf (qa (qP (pv 0) rfl) qb)) rfl)
     (qg (qy (pv 1))))))),?_⟩
   try dsimp only [zv,Cx.nox]
   refine fun x1 dx1 f1 f2 ne=>⟨x1,dx1,rfl,qc,fun td1 ed1 bl1 L1 B1 g1 g2 g3 hL1=>⟨rfl,?_⟩⟩
   have S1:Same H L1:=zL f1 f2 B1
   obtain ⟨zs,hb,tbb⟩:=hL.hb
   refine ⟨_,rfl,x,_,dx,_,_,rfl,(S1 _ _ hL.hx),T.cl_Log,T.n_Log_tables,rfl,td,_,rfl,.inl (S1 _ _ hL.ht),fun td2 ftd2=>?_⟩
   have n1:td2≠x1:=fun e=>by rw [e,hL1.hx] at ftd2; cases ftd2
   refine ⟨_,rfl,x1,_,dx1,_,rfl,(by rw [qh n1.symm]; exact hL1.hx),T.cl_Log,T.n_Log_tables,(Nat.le_of_ble_eq_true rfl),?_⟩
   generalize hM:upd (upd L1 td2 _) x1 _=M1
   obtain ⟨S2,m1,m2,f3,k2⟩:=qbN S1 f1 ftd2 hL1.hx hM
   clear hM
   try unfold qX
   try dsimp only
   refine ⟨_,rfl,x,_,dx,_,_,rfl,(S2 _ _ hL.hx),T.cl_Log,T.n_Log_entries,rfl,ed,_,rfl,.inl (S2 _ _ hL.he),fun ed2 fed2=>?_⟩
   have n2:ed2≠x1:=fun e=>by rw [e,m1] at fed2; cases fed2
   have n3:ed2≠td2:=fun e=>by rw [e,m2] at fed2; cases fed2
   refine ⟨_,rfl,x1,_,dx1,_,rfl,(by rw [qh n2.symm]; exact m1),T.cl_Log,T.n_Log_entries,(Nat.le_of_ble_eq_true rfl),?_⟩
   generalize hM:upd (upd M1 ed2 _) x1 _=M2
   obtain ⟨S3,m3,m4,f4,k3⟩:=qbN S2 f1 fed2 m1 hM
   clear hM
   try unfold qX
   try dsimp only
   refine ⟨_,rfl,x,_,dx,_,_,rfl,(S3 _ _ hL.hx),T.cl_Log,T.n_Log_bound,rfl,bl,zs,rfl,.inl (SqL.of (S3 _ _ hb)),fun bl2 fbl2=>?_⟩
   have n4:bl2≠x1:=fun e=>by rw [e,m3] at fbl2; cases fbl2
   refine ⟨_,rfl,x1,_,dx1,_,rfl,(by rw [qh n4.symm]; exact m3),T.cl_Log,T.n_Log_bound,(Nat.le_of_ble_eq_true rfl),?_⟩
   generalize hM:upd (upd M2 bl2 _) x1 _=M3
   obtain ⟨S4,m5,m6,f5,k4⟩:=qbN S3 f1 fbl2 m3 hM
   clear hM
   have im:=Imm.sm S4
   refine ⟨_,rfl,kk x1 dx1 td2 ed2 bl2 M3 f1 f3 f4 f5 S4 ⟨m5,k4 _ _ (k3 _ _ m2 n1) n1,k4 _ _ m4 n2,⟨zs,m6,TupL.im tbb im⟩,fun t m=>(hL.tt t m).im (hL.tg t m) im,hL.tg,hL.tn,fun e m=>(hL.en e m).mp fun _ _ _=>im.ins _ _ _ _,hL.sp,hL.pls,n3.symm,hL.ndt,hL.nde⟩⟩
end
end K37
namespace K37
open PySem L2 PySem.NumText PyProof.Rows KC M04
section
variable {P:Program} {w:World} {K:PySem.W.Frag} {mg:Str->Option Value} {base:Heap}
end
theorem qjb {wd nm pl:Str} {lo hi:Int} (h:Spc wd nm pl lo hi):PyData.strOk wd=true∧PyData.strOk nm=true∧PyData.strOk pl=true:=by
 cases h with
 | any h=>exact ⟨by decide +kernel,Ze h,by decide +kernel⟩
 | within h _ _=>exact ⟨by decide +kernel,Ze h,by decide +kernel⟩
 | at_ h _=>exact ⟨by decide +kernel,Ze h,by decide +kernel⟩
 | between h h2 _ _=>exact ⟨by decide +kernel,Ze h,Ze h2⟩
 | read h h2 _=>exact ⟨by decide +kernel,Ze h,Ze h2⟩
def nb (y:V):Prop:=(∃ i,y=.int i)∨∃ s,y=.str s
inductive qaw (vs:List V) (H:Hp) (Q:VK):Prop
 | mk (q r:Addr) (zs:List V) (ds:List PyData) (h1:vs=[.ref q,.ref r]) (h2:H q=some (.lst zs)) (h3:DVs H zs ds) (h4:DV H (.ref r) (.list ds)) (h5:PyData.canLay0 (.list ds)=true) (h6:SeqAt.shaped (.list ds)=true) (h7:(∀ z∈zs,∃ t xs,z=.ref t∧H t=some (.tup xs)∧∀ y∈xs,nb y)) (h8:∀ H',Same H H'->Q (.bl true) H'):qaw vs H Q
def qcz:Sp:=fun vs H Q _=>qaw vs H Q
inductive JT (vs:List V) (H:Hp) (Q:VK):Prop
 | mk (s tb:Addr) (wd nm pl:Str) (lo hi:Int) (ps:Pls) (W:List (Int×Int)) (h1:vs=[.ref s,.ref tb]) (h2:H s=some (.tup (qjS wd nm pl lo hi))) (h3:Rd H tb (.dK (dkv ps))) (h4:(ps.map (·.1)).Nodup) (h5:(∀ x∈ps,Rs H x.2.1 x.2.2∧Good x.2.2)) (h6:Due ps wd pl lo hi W) (h7:∀ (d:Addr) (r:List (Int×Int)) (H':Hp),H d=none->Same H H'->Rs H' d r->Zg r->r.length≤21->(∀ n,Mem r n↔Mem W n)->Q (.ref d) H'):JT vs H Q
def qbi:Sp:=fun vs H Q _=>JT vs H Q
theorem shp {d:PyData} (c:PyData.canLay0 d=true) (h:PyData.depth d≤10):SeqAt.shaped d=true:=by
 unfold SeqAt.shaped
 rw [c,Bool.true_and]
 exact decide_eq_true (by omega)
theorem qdB {H:Hp} {x y:V} {d:PyData} {Q:VK} (h1:DV H x d) (h2:DV H y d) (c:PyData.canLay0 d=true) (sh:SeqAt.shaped d=true) (q:Q (.bl false) H):qjT x y H Q:=by
 refine .inr ⟨d,d,h1,h2,sh,sh,?_⟩
 rw [SeqAt.eqv_refl _ c]
 exact q
abbrev dP (w:Int×Int):PyData:=.tuple [.int w.1,.int w.2]
theorem qfm {H:Hp} {q:Addr} {ws:List (Int×Int)} (h:Rs H q ws):∃ zs,H q=some (.lst zs)∧DVs H zs (ws.map dP)∧PyData.canLay0 (.list (ws.map dP))=true∧SeqAt.shaped (.list (ws.map dP))=true∧∀ z∈zs,∃ t xs,z=.ref t∧H t=some (.tup xs)∧∀ y∈xs,nb y:=by
 obtain ⟨zs,hq,tz⟩:=h
 have d1:=qgb (g:=g2) tz
 obtain ⟨l1,l2⟩:=qen (g:=g2) ws
 have cl:PyData.canLay0 (.list (ws.map dP))=true:=by simp only [PyData.canLay0]; exact l1
 refine ⟨zs,hq,d1,cl,shp cl (by simp only [PyData.depth]; have:PyData.depthAll (ws.map dP)≤2:=l2; omega),fun z m=>?_⟩
 obtain ⟨j,hj⟩:=List.getElem?_of_mem m
 obtain ⟨w,t,hw,rfl,ht⟩:=tz.of hj
 refine ⟨t,_,rfl,ht,fun y my=>?_⟩
 obtain ⟨i,_,rfl⟩:=List.mem_map.mp my
 exact .inl ⟨i,rfl⟩
abbrev dB (b:Str×Str×Int):PyData:=.tuple [.str b.1,.str b.2.1,.int b.2.2]
theorem qjV {H:Hp}:∀ {zs:List V} {bs:List (Str×Str×Int)},TupL prB H zs bs->DVs H zs (bs.map dB)
 | [],[],_=>.nil
 | z::zs,p::ps,h=>by
   obtain ⟨t,e,q⟩:=h.2 0 z p rfl rfl
   subst e
   exact .cons (.tup (.inl q) (.cons (.str _) (.cons (.str _) (.cons (.int _) .nil)))) (qjV ⟨by simpa using h.1,fun i z p e1 e2=>h.2 (i+1) z p (by simpa using e1) (by simpa using e2)⟩)
 | [],_::_,h=>by simp [TupL] at h
 | _::_,[],h=>by simp [TupL] at h
theorem qkk:∀ (bs:List (Str×Str×Int)),(∀ b∈bs,PyData.strOk b.1=true∧PyData.strOk b.2.1=true)->PyData.canLayAll0 (bs.map dB)=true∧PyData.depthAll (bs.map dB)≤2
 | [],_=>⟨rfl,by simp [PyData.depthAll]⟩
 | p::r,h=>by
   obtain ⟨h1,h2⟩:=qkk r fun x m=>h x (List.mem_cons_of_mem _ m)
   obtain ⟨o1,o2⟩:=h p List.mem_cons_self
   refine ⟨by simp [PyData.canLayAll0,PyData.canLay0,h1,o1,o2],?_⟩
   simp only [List.map_cons,PyData.depthAll,PyData.depth]; omega
theorem qku {H:Hp} {zs:List V} {bs:List (Str×Str×Int)} (tz:TupL prB H zs bs):∀ z∈zs,∃ t xs,z=.ref t∧H t=some (.tup xs)∧∀ y∈xs,nb y:=fun z m=>by
 obtain ⟨j,hj⟩:=List.getElem?_of_mem m
 obtain ⟨w,t,hw,rfl,ht⟩:=tz.of hj
 refine ⟨t,_,rfl,ht,fun y my=>?_⟩
 simp only [List.mem_cons,List.not_mem_nil,or_false] at my
 rcases my with rfl | rfl | rfl
 · exact .inr ⟨_,rfl⟩
 · exact .inr ⟨_,rfl⟩
 · exact .inl ⟨_,rfl⟩
theorem qjK {wd nm pl:Str} {lo hi:Int} {ps:Pls} (sp:Spc wd nm pl lo hi) (h:pl=""∨pl∈ps.map (·.1)):∃ W,Due ps wd pl lo hi W:=by
 cases sp with
 | any _=>exact ⟨_,.no (.inl rfl)⟩
 | within _ _ _=>exact ⟨_,.no (.inr (.inl rfl))⟩
 | at_ _ _=>exact ⟨_,.no (.inr (.inr rfl))⟩
 | between _ hn _ _ =>
   obtain ⟨x,mx,ex⟩:=List.mem_map.mp (h.resolve_left (qce hn))
   exact ⟨_,.pl (.inl rfl) mx ex⟩
 | read _ hn _ =>
   obtain ⟨x,mx,ex⟩:=List.mem_map.mp (h.resolve_left (qce hn))
   exact ⟨_,.pl (.inr rfl) mx ex⟩
theorem qjJ {wd pl:Str} {lo hi:Int} {ts ps:Pls} {W:List (Int×Int)} (h:ts.map tR=ps.map tR) (d:Due ps wd pl lo hi W):Due ts wd pl lo hi W:=by
 cases d with
 | @pl x hw mx ex =>
   have:tR x∈ts.map tR:=h▸List.mem_map_of_mem (f:=tR) mx
   obtain ⟨y,my,ey⟩:=List.mem_map.mp this
   injection ey with e1 e2
   rw [← e2]
   exact .pl hw my (e1.trans ex)
 | no h=>exact .no h
theorem qa0 {ts ps:Pls} (h:ts.map tR=ps.map tR):ts.map (·.1)=ps.map (·.1):=by
 have:=congrArg (List.map Prod.fst) h
 rw [List.map_map,List.map_map] at this
 exact this
abbrev kpd (ktd ksl kbl kgl:Addr):List (Key×V):=[(.inr "tables",.ref ktd),(.inr "specs",.ref ksl),(.inr "bonds",.ref kbl),(.inr "gone",.ref kgl)]
theorem kp1 {a b c d:Addr}:qaf (kpd a b c d) (.inr "tables")=some (.ref a):=by unfold kpd; rw [Zz rfl]
theorem kp2 {a b c d:Addr}:qaf (kpd a b c d) (.inr "specs")=some (.ref b):=by unfold kpd; rw [QK (by show ¬ ((Sum.inr ("tables":Str):Key)=.inr "specs"); decide),Zz rfl]
theorem kp3 {a b c d:Addr}:qaf (kpd a b c d) (.inr "bonds")=some (.ref c):=by unfold kpd; rw [QK (by show ¬ ((Sum.inr ("tables":Str):Key)=.inr "bonds"); decide),QK (by show ¬ ((Sum.inr ("specs":Str):Key)=.inr "bonds"); decide),Zz rfl]
theorem kp4 {a b c d:Addr}:qaf (kpd a b c d) (.inr "gone")=some (.ref d):=by unfold kpd; rw [QK (by show ¬ ((Sum.inr ("tables":Str):Key)=.inr "gone"); decide),QK (by show ¬ ((Sum.inr ("specs":Str):Key)=.inr "gone"); decide),QK (by show ¬ ((Sum.inr ("bonds":Str):Key)=.inr "gone"); decide),Zz rfl]
structure K4 (H:Hp) (kd ktd ksl kbl kgl:Addr) (ps:Pls) (ss:List S5) (bs:List (Str×Str×Int)) (gn:List Str):Prop where
 hd:H kd=some (.dK (kpd ktd ksl kbl kgl))
 ht:H ktd=some (.dK (dkv ps))
 hs:∃ zs,H ksl=some (.lst zs)∧TupL prS H zs ss
 hb:∃ zs,H kbl=some (.lst zs)∧TupL prB H zs bs
 hg:H kgl=some (.lst (gn.map V.str))
 rs:∀ y∈ps,Rs H y.2.1 y.2.2
 gd:∀ y∈ps,Good y.2.2
theorem K4.g1 {H:Hp} {kd ktd ksl kbl kgl:Addr} {ps:Pls} {ss:List S5} {bs:List (Str×Str×Int)} {gn:List Str} (h:K4 H kd ktd ksl kbl kgl ps ss bs gn):qbf H kd (.str "tables") (some (.ref ktd)):=.inl ⟨_,.inr "tables",.inl h.hd,rfl,kp1.symm⟩
theorem K4.g2 {H:Hp} {kd ktd ksl kbl kgl:Addr} {ps:Pls} {ss:List S5} {bs:List (Str×Str×Int)} {gn:List Str} (h:K4 H kd ktd ksl kbl kgl ps ss bs gn):qbf H kd (.str "specs") (some (.ref ksl)):=.inl ⟨_,.inr "specs",.inl h.hd,rfl,kp2.symm⟩
theorem K4.g3 {H:Hp} {kd ktd ksl kbl kgl:Addr} {ps:Pls} {ss:List S5} {bs:List (Str×Str×Int)} {gn:List Str} (h:K4 H kd ktd ksl kbl kgl ps ss bs gn):qbf H kd (.str "bonds") (some (.ref kbl)):=.inl ⟨_,.inr "bonds",.inl h.hd,rfl,kp3.symm⟩
theorem K4.g4 {H:Hp} {kd ktd ksl kbl kgl:Addr} {ps:Pls} {ss:List S5} {bs:List (Str×Str×Int)} {gn:List Str} (h:K4 H kd ktd ksl kbl kgl ps ss bs gn):qbf H kd (.str "gone") (some (.ref kgl)):=.inl ⟨_,.inr "gone",.inl h.hd,rfl,kp4.symm⟩
theorem K4.im {H H':Hp} {kd ktd ksl kbl kgl:Addr} {ps:Pls} {ss:List S5} {bs:List (Str×Str×Int)} {gn:List Str} (h:K4 H kd ktd ksl kbl kgl ps ss bs gn) (i:Imm H H') (k:∀ b∈[kd,ktd,ksl,kbl,kgl],∀ o,H b=some o->H' b=some o):K4 H' kd ktd ksl kbl kgl ps ss bs gn:=by
 obtain ⟨zs,h1,h2⟩:=h.hs
 obtain ⟨ws,h3,h4⟩:=h.hb
 exact ⟨k _ (by simp) _ h.hd,k _ (by simp) _ h.ht,⟨zs,k _ (by simp) _ h1,TupL.im h2 i⟩,⟨ws,k _ (by simp) _ h3,TupL.im h4 i⟩,k _ (by simp) _ h.hg,fun y m=>(h.rs y m).im (qS (h.gd y m)) i,h.gd⟩
theorem K4.sm {H H':Hp} {kd ktd ksl kbl kgl:Addr} {ps:Pls} {ss:List S5} {bs:List (Str×Str×Int)} {gn:List Str} (h:K4 H kd ktd ksl kbl kgl ps ss bs gn) (s:Same H H'):K4 H' kd ktd ksl kbl kgl ps ss bs gn:=h.im (.sm s) fun _ _ _ e=>s _ _ e
theorem K4.mu {H:Hp} {kd ktd ksl kbl kgl:Addr} {ps:Pls} {ss:List S5} {bs:List (Str×Str×Int)} {gn:List Str} (h:K4 H kd ktd ksl kbl kgl ps ss bs gn):∀ m∈[kd,ktd,ksl,kbl,kgl],Mu H m:=by
 intro m hm
 simp only [List.mem_cons,List.not_mem_nil,or_false] at hm
 obtain ⟨zs,h1,h2⟩:=h.hs
 obtain ⟨ws,h3,h4⟩:=h.hb
 rcases hm with rfl | rfl | rfl | rfl | rfl
 · exact .d h.hd
 · exact .d h.ht
 · exact qfS h1 h2
 · exact qek h3 h4
 · exact qhP h.hg
structure Pu (ns:List Str) (ts ps:Pls) (es:List Ent) (ss:List S5) (bs:List (Str×Str×Int)):Prop where
 et:ts.map tR=ps.map tR
 ee:es.map eS=ss
 pn:∀ n∈ps.map (·.1),n∈ns.take 6
 sn:∀ n∈ss.map (·.2.1),n∈ns.drop 6
 bn:∀ b∈bs,b.1∈ss.map (·.2.1)∧b.2.1∈ss.map (·.2.1)
 fb:bs.length≤100
 ln:ns.length=20
theorem qar:∀ {l m:List Str},l.Nodup->(∀ x∈l,x∈m)->l.length≤m.length
 | [],_,_,_=>Nat.zero_le _
 | x::l,m,nd,h=>by
   rw [List.nodup_cons] at nd
   have mx:=h x List.mem_cons_self
   have:=qar (l:=l) (m:=m.erase x) nd.2 fun y my=>by
     have ne:y≠x:=fun e=>nd.1 (by rw [← e]; exact my)
     exact (List.mem_erase_of_ne ne).mpr (h y (List.mem_cons_of_mem _ my))
   rw [List.length_erase_of_mem mx] at this
   have:=List.length_pos_of_mem mx
   rw [List.length_cons]
   omega
theorem Pu.enn {ns:List Str} {ts ps:Pls} {es:List Ent} {ss:List S5} {bs:List (Str×Str×Int)} (h:Pu ns ts ps es ss bs):es.map (·.nm)=ss.map (·.2.1):=by rw [← h.ee,List.map_map]; rfl
theorem Pu.fews {ns:List Str} {ts ps:Pls} {es:List Ent} {ss:List S5} {bs:List (Str×Str×Int)} (h:Pu ns ts ps es ss bs) (nd:(es.map (·.nm)).Nodup):ss.length≤14:=by
 have:=qar (by rw [← h.enn]; exact nd) h.sn
 rw [List.length_map,List.length_drop,h.ln] at this
 exact this
theorem Pu.fewp {ns:List Str} {ts ps:Pls} {es:List Ent} {ss:List S5} {bs:List (Str×Str×Int)} (h:Pu ns ts ps es ss bs) (nd:(ts.map (·.1)).Nodup):ps.length≤6:=by
 have:=qar (by rw [← qa0 h.et]; exact nd) h.pn
 rw [List.length_map,List.length_take] at this
 omega
theorem Pu.fewt {ns:List Str} {ts ps:Pls} {es:List Ent} {ss:List S5} {bs:List (Str×Str×Int)} (h:Pu ns ts ps es ss bs) (nd:(ts.map (·.1)).Nodup):ts.length≤6:=by
 have:=congrArg List.length h.et
 rw [List.length_map,List.length_map] at this
 rw [this]; exact h.fewp nd
theorem qik {i:Nat} {v:V} {u:TS} {D:qeW} {σ:L2.St} {H:Hp} (h:u D (σ.set i (some v)) H):qj2 (qjR (tC v) (qhk i)) u D σ H:=h
theorem qcg {K:PySem.W.Frag} {C:Addr} (xi:xIn K C=true):PySem.W.mroIn K C (.ref C)=some true:=by
 obtain ⟨cd,bm,hcd,hmro,_,_⟩:=xcd xi
 unfold PySem.W.mroIn
 rw [hcd,Option.bind_some,hmro,if_neg (by simp)]
 simp
theorem qco {n:Str} {ns:List Str}:inV (.str n) (ns.map V.str)=decide (n∈ns):=by
 unfold inV
 rw [List.any_map,Bool.eq_iff_iff,List.any_eq_true,decide_eq_true_iff]
 constructor
 · rintro ⟨y,m,e⟩
   have:y=n:=by simpa [eqV] using e
   exact this▸m
 · intro m
   exact ⟨n,m,by simp [eqV]⟩
theorem qdc (ns:List Str):(ns.map V.str).all qcp=true:=by
 rw [List.all_map,List.all_eq_true]
 intro x _
 rfl
inductive qbq (vs:List V) (H:Hp) (Q:VK):Prop
 | mk (kd ktd ksl kbl kgl:Addr) (ps:Pls) (ss:List S5) (bs:List (Str×Str×Int)) (gn:List Str) (h1:vs=[.ref kd]) (h2:K4 H kd ktd ksl kbl kgl ps ss bs gn) (h3:∀ (kd' ktd' ksl' kbl' kgl':Addr) (H':Hp),(∀ b∈[kd',ktd',ksl',kbl',kgl'],H b=none)->[kd',ktd',ksl',kbl',kgl'].Nodup->Same H H'->K4 H' kd' ktd' ksl' kbl' kgl' ps ss bs gn->Q (.ref kd') H'):qbq vs H Q
def qd8:Sp:=fun vs H Q _=>qbq vs H Q
inductive qbo (a:Ad) (vs:List V) (H:Hp) (Q:VK):Prop
 | mk (x dx td ed bl:Addr) (ts:Pls) (es:List Ent) (bs:List (Str×Str×Int)) (nm:Str) (h1:vs=[.ref x,.str nm]) (h2:Lg a H x dx td ed bl ts es bs) (h3:nm∉es.map (·.nm)) (h4:∀ H',Same H H'->Q (.bl true) H'):qbo a vs H Q
def qd6 (a:Ad):Sp:=fun vs H Q _=>qbo a vs H Q
inductive qax (a:Ad) (vs:List V) (H:Hp) (Q:VK):Prop
 | mk (x dx td ed bl kd ktd ksl kbl kgl:Addr) (ts:Pls) (es:List Ent) (bs:List (Str×Str×Int)) (ps:Pls) (ss:List S5) (gn ns:List Str) (h1:vs=[.ref x,.ref kd]) (h2:Lg a H x dx td ed bl ts es bs) (h3:K4 H kd ktd ksl kbl kgl ps ss bs gn) (h4:Pu ns ts ps es ss bs) (h5:∀ H',Same H H'->Q (.bl true) H'):qax a vs H Q
def qcA (a:Ad):Sp:=fun vs H Q _=>qax a vs H Q
section
variable {P:Program} {w:World} {K:PySem.W.Frag} {mg:Str->Option Value} {base:Heap}
theorem qfH {a:Ad} (T:Txt K mg a):qA P w K mg base CX0 1 a.f_H a.fd_H ["_law_found","_law_due"] qcz:=by
 refine T.d_H.F.ok sc_Lsame (fun vs H Q E h=>?_) (fun cdv A outer s H vs Q E hr h=>?_)
 · obtain ⟨q,r,zs,ds,rfl,hq,dv,dvr,cl,sh,hnb,kk⟩:=h
   rfl
 · obtain ⟨q,r,zs,ds,rfl,hq,dv,dvr,cl,sh,hnb,kk⟩:=h
   have hu:=qJ hr
   have hU:=hr.units
   refine ⟨_,(qf (qR (PW.pt (qaJ (zy (zx (qp Qm (by rfl) T.n_isinstance qE (qa (pv 0) (qa (Q0 (v:=.ty "list") rfl T.n_list zf rfl) qb))))) (jH (qu (uNe hU) (pv 0) (pv 1) (qG _)))))
       (qg (qy qaM))
       qw)
     (qf (Zu PassesOwn.never rfl (zJ (pv 0)) (qv (i:=2) (sc_Lsame.nd) rfl (Or.inl rfl))
       (qg (qR (PW.pt (qaJ (zy (zx (qp Qm (by rfl) T.n_isinstance qE (qa (pv 2) (qa (Q0 (v:=.ty "tuple") rfl T.n_tuple jV rfl) qb))))) (jH (qu (uNe hU) (QF rfl (CompOk.def ["_law_one"] [none]) (qjm (pv 2)) (fun _ _ _ _ _=>(qv (i:=0) (show List.Nodup (["_law_one"]:List Str) by decide +kernel) rfl (Or.inl rfl))) (fun _ _ _ _ _=>(qaK (zx (qp Qm (by rfl) T.n_isinstance qE (qa (pv 0) (qa (Q0 (v:=.ty "bool") rfl T.n_bool qbL rfl) qb)))))) (fun _ _ _ _ _=>(pv 0))) (qQ qb) (qG _)))))
         (qg (qy qaM))
         qw)))
     (qg (qy qaM)))),?_⟩
   try dsimp only [zv,Cx.nox]
   have ty:tyN H (.ref q)=some "list":=by simp only [tyN]; rw [hq]
   refine ⟨_,rfl,_,_,_,rfl,(by decide),ty,true,rfl,zj rfl ?_⟩
   refine ⟨_,rfl,_,rfl,qdB (.lst (.inl hq) dv) dvr cl sh ⟨_,rfl,qep ?_⟩⟩
   refine ⟨_,rfl,q,rfl,⟨_,SqL.of hq⟩,ju (D:={ nx:=qh9 (tC (.bl true)) { nx:=fun _ H'=>Q .non H',rt:=Q },rt:=Q }) (K:=K) (a:=q) (xs:=zs) (fun i σ H2=>∃ (s2:Option V),σ=[some (.ref q),some (.ref r),s2]∧Same H H2) ⟨_,rfl,Same.refl H⟩ (fun i σ H2 _ ⟨_,_,S⟩=>SqL.of (S _ _ hq)) ?_ ?_⟩
   · rintro i z σ H2 hz ⟨s2,rfl,S⟩
     obtain ⟨t,xs,rfl,ht,hxs⟩:=hnb z (List.mem_of_getElem? hz)
     have ht2:=S _ _ ht
     have tyt:tyN H2 (.ref t)=some "tuple":=by simp only [tyN]; rw [ht2]
     refine ⟨_,rfl,_,_,_,rfl,(by decide),tyt,true,rfl,zj rfl ?_⟩
     refine ⟨_,rfl,t,rfl,⟨_,SqT.of ht2⟩,fun C fC=>?_⟩
     refine qhs (K:=K) (a:=t) (xs:=xs) (D:=C) (fun i σ H3=>∃ c0:Option V,σ=[c0]∧Same H2 H3∧H3 C=some (.lst [])) ⟨none,rfl,Same.new _ fC,qc⟩ (fun i σ H3 _ ⟨_,_,S3,_⟩=>SqT.of (S3 _ _ ht2)) ?_ ?_
     · rintro i' y σ H3 hy ⟨c0,rfl,S3,hC⟩
       rcases hxs y (List.mem_of_getElem? hy) with ⟨n,rfl⟩ | ⟨n,rfl⟩
       · exact ⟨_,rfl,_,_,_,rfl,(by decide),rfl,false,rfl,qep ⟨_,rfl,S3,hC⟩⟩
       · exact ⟨_,rfl,_,_,_,rfl,(by decide),rfl,false,rfl,qep ⟨_,rfl,S3,hC⟩⟩
     rintro σ H3 ⟨c0,rfl,S3,hC⟩
     refine ⟨qo (Nat.le_of_ble_eq_true rfl),fun nl fnl=>?_⟩
     have S4:Same H (upd H3 nl (.lst [])):=S.trans (S3.then (.lst []) fnl)
     refine .inr ⟨_,_,.lst (.inl (Same.new (.lst []) fnl _ _ hC)) .nil,.lst (.inl qc) .nil,rfl,rfl,?_⟩
     refine ⟨_,rfl,qep ?_⟩
     exact ⟨_,rfl,S4⟩
   · rintro σ H2 ⟨s2,rfl,S⟩
     exact kk H2 S
theorem qeI {a:Ad} (T:Txt K mg a):qA P w K mg base CX0 3 a.f_Y a.fd_Y ["_law_spec_here","_law_tables"] qbi:=by
 have G_s:qA P w K mg base CX0 1 a.f_s a.fd_s ["_law_stretches"] Jw:=qbC T
 have G_U:qA P w K mg base CX0 2 a.f_U a.fd_U ["_law_rows_here","_law_low","_law_high"] qcx:=qfF T
 refine T.d_Y.F.ok sc_Lspans (fun vs H Q E h=>?_) (fun cdv A outer s H vs Q E hr h=>?_)
 · obtain ⟨s,tb,wd,nm,pl,lo,hi,ps,W,rfl,hs,rd,nd,hps,due,kk⟩:=h
   rfl
 · obtain ⟨s,tb,wd,nm,pl,lo,hi,ps,W,rfl,hs,rd,nd,hps,due,kk⟩:=h
   have hu:=qJ hr
   have hU:=hr.units
   have h_s:Room (1) _:=hr.mono (by decide)
   have h_U:Room (2) _:=hr.mono (by decide)
   refine ⟨_,(qf (jJ (pv 0) (ZL rfl (qD (qv (i:=2) (sc_Lspans.nd) rfl (Or.inl rfl)) (qD (qv (i:=3) (sc_Lspans.nd) rfl (Or.inl rfl)) (qD (qv (i:=4) (sc_Lspans.nd) rfl (Or.inl rfl)) (qD (qv (i:=5) (sc_Lspans.nd) rfl (Or.inl rfl)) (qD (qv (i:=6) (sc_Lspans.nd) rfl (Or.inl rfl)) QE)))))))
     (qf (qR (qu qcU (pv 2) (zR (qa qz (qa qz qb))) (by with_unfolding_all rfl))
       (qg (qy (qj G_U h_U rfl T.d_U.m T.d_U.k T.d_U.b .nil qq (qa (qL hu (pv 1) (pv 4) (fun _ _=>rfl)) (qa (pv 5) (qa (pv 6) qb))))))
       qw)
     (qg (qy (qj G_s h_s rfl T.d_s.m T.d_s.k T.d_s.b .nil qq (qa (qQ (qa (zR (qa (pv 5) (qa (pv 6) qb))) qb)) qb)))))),?_⟩
   try dsimp only [zv,Cx.nox]
   refine ⟨_,rfl,s,_,rfl,SqT.of hs,rfl,_,_,rfl,_,_,rfl,_,_,rfl,_,_,rfl,_,_,rfl,rfl,?_⟩
   refine ⟨_,rfl,qo (Nat.le_of_ble_eq_true rfl),fun tt ft=>?_⟩
   have St:=Same.new (.tup [.str "between",.str "read"]) ft
   refine ⟨tt,_,rfl,.inr (SqT.of qc),rfl,rfl,_,rfl,?_⟩
   cases due with
   | @pl x hw mx ex =>
     subst ex
     refine Jr (by rcases hw with rfl | rfl<;>decide) ?_
     exact ⟨_,rfl,_,rfl,tb,_,rfl,.inl ⟨_,.inr x.1,Rd.sm rd St,rfl,(qbg nd x mx).symm⟩,_,rfl,_,rfl,x.2.1,x.2.2,lo,hi,rfl,(hps x mx).1.same St,(hps x mx).2,fun d r H' fd S R can lr mem=>kk d r H' (St.none fd) (St.trans S) R can lr mem⟩
   | no hw =>
     refine zj (by rcases hw with rfl | rfl | rfl<;>decide) ?_
     refine ⟨_,rfl,_,rfl,qo (Nat.le_of_ble_eq_true rfl),fun t ft2=>⟨qo (Nat.le_of_ble_eq_true rfl),fun l fl=>?_⟩⟩
     have S1:=Same.new (.tup [.int lo,.int hi]) ft2
     have S2:=Same.new (.lst [.ref t]) fl
     have S3:=(St.trans S1).trans S2
     refine ⟨l,[(lo,hi)],rfl,qfC (w:=(lo,hi)) (S2 _ _ qc) qc,Nat.le_of_ble_eq_true rfl,fun e r H3 fe S4 R can lr mem=>?_⟩
     exact kk e r H3 (S3.none fe) (S3.trans S4) R can (Nat.le_trans lr (Nat.le_of_ble_eq_true rfl)) mem
end
end K37
namespace K37
open PySem L2 PySem.NumText PyProof.Rows KC M04
section
variable {P:Program} {w:World} {K:PySem.W.Frag} {mg:Str->Option Value} {base:Heap}
theorem qg5 {a:Ad} (T:Txt K mg a):qA P w K mg base CX0 1 a.f_k a.fd_k ["_law_kept"] qd8:=by
 refine T.d_k.F.ok sc_Lcopy (fun vs H Q E h=>?_) (fun cdv A outer s H vs Q E hr h=>?_)
 · obtain ⟨kd,ktd,ksl,kbl,kgl,ps,ss,bs,gn,rfl,hK,kk⟩:=h
   rfl
 · obtain ⟨kd,ktd,ksl,kbl,kgl,ps,ss,bs,gn,rfl,hK,kk⟩:=h
   have hu:=qJ hr
   have hU:=hr.units
   refine ⟨_,(qf (qH (i:=1) sc_Lcopy.nd rfl (Or.inl rfl) (qY (r:=qef) JO (by rfl) T.n_dict JP (qa (qL hu (pv 0) qz (fun _ _=>rfl)) qb)))
     (qg (qy (qfz (Q9 qz (pv 1) (Q9 qz (qY (r:=qio K) zN (by rfl) T.n_list zf (qa (qL hu (pv 0) qz (fun _ _=>rfl)) qb)) (Q9 qz (qY (r:=qio K) zN (by rfl) T.n_list zf (qa (qL hu (pv 0) qz (fun _ _=>rfl)) qb)) (Q9 qz (qY (r:=qio K) zN (by rfl) T.n_list zf (qa (qL hu (pv 0) qz (fun _ _=>rfl)) qb)) qfu)))) rfl rfl (by simp) (by decide))))),?_⟩
   try dsimp only [zv,Cx.nox]
   obtain ⟨zs,hs,ts⟩:=hK.hs
   obtain ⟨zb,hb,tb⟩:=hK.hb
   refine ⟨_,rfl,kd,_,rfl,hK.g1,ktd,_,rfl,.inl hK.ht,fun t ft=>?_⟩
   generalize hG:upd H t _=G0
   obtain ⟨S0,e0⟩:=qO hG ft
   clear hG
   try unfold qX
   try dsimp only
   intro k fk
   have n0:t≠k:=qi e0 fk
   have S1:Same G0 (upd G0 k (.dK [])):=Same.new _ fk
   have K1:=(hK.sm S0).sm S1
   have f1:H k=none:=S0.none fk
   have ek:(upd G0 k (.dK [])) k=some (.dK []):=qc
   have et:=S1 _ _ e0
   have ST:=S0.trans S1
   generalize upd G0 k (.dK [])=G1 at S1 K1 ek et ST ⊢
   refine ⟨_,rfl,_,rfl,kd,_,rfl,K1.g2,ksl,zs,rfl,.inl (SqL.of (ST _ _ hs)),fun l1 fl1=>?_⟩
   generalize hG:upd G1 l1 _=G2
   obtain ⟨S2,e2⟩:=qO hG fl1
   clear hG
   have ST2:=ST.trans S2
   refine ⟨_,rfl,kd,_,rfl,(hK.sm ST2).g3,kbl,zb,rfl,.inl (SqL.of (ST2 _ _ hb)),fun l2 fl2=>?_⟩
   generalize hG:upd G2 l2 _=G3
   obtain ⟨S3,e3⟩:=qO hG fl2
   clear hG
   have ST3:=ST2.trans S3
   refine ⟨_,rfl,kd,_,rfl,(hK.sm ST3).g4,kgl,_,rfl,.inl (SqL.of (ST3 _ _ hK.hg)),fun l3 fl3=>?_⟩
   generalize hG:upd G3 l3 _=G4
   obtain ⟨S4,e4⟩:=qO hG fl3
   clear hG
   have ST4:=ST3.trans S4
   have S24:=(S2.trans S3).trans S4
   refine ⟨S24 _ _ ek,[(Sum.inr "tables",_),(Sum.inr "specs",_),(Sum.inr "bonds",_),(Sum.inr "gone",_)],rfl,(Nat.le_of_ble_eq_true rfl),?_⟩
   have a1:l1≠k:=(qi ek fl1).symm
   have a2:l1≠t:=(qi et fl1).symm
   have b1:l2≠k:=(qi (S2 _ _ ek) fl2).symm
   have b2:l2≠t:=(qi (S2 _ _ et) fl2).symm
   have b3:l2≠l1:=(qi e2 fl2).symm
   have c1:l3≠k:=(qi (S3 _ _ (S2 _ _ ek)) fl3).symm
   have c2:l3≠t:=(qi (S3 _ _ (S2 _ _ et)) fl3).symm
   have c3:l3≠l1:=(qi (S3 _ _ e2) fl3).symm
   have c4:l3≠l2:=(qi e3 fl3).symm
   have SF:∀ o,Same H (upd G4 k o):=fun o b u e=>by rw [qh (qi e f1)]; exact ST4 b u e
   have im:=fun o=>Imm.sm (SF o)
   refine kk k t l1 l2 l3 _ (fun b m=>?_) ?_ (SF _) ⟨?_,?_,⟨zs,?_,TupL.im ts (im _)⟩,⟨zb,?_,TupL.im tb (im _)⟩,?_,fun y m=>(hK.rs y m).im (qS (hK.gd y m)) (im _),hK.gd⟩
   · simp only [List.mem_cons,List.not_mem_nil,or_false] at m
     rcases m with rfl | rfl | rfl | rfl | rfl
     · exact f1
     · exact ft
     · exact ST.none fl1
     · exact ST2.none fl2
     · exact ST3.none fl3
   · simp only [List.nodup_cons,List.mem_cons,List.not_mem_nil,or_false,not_or,List.nodup_nil,not_false_eq_true,and_true]
     exact ⟨⟨n0.symm,a1.symm,b1.symm,c1.symm⟩,⟨a2.symm,b2.symm,c2.symm⟩,⟨b3.symm,c3.symm⟩,c4.symm⟩
   · rw [qc]; rfl
   · rw [qh n0]; exact S24 _ _ et
   · rw [qh a1]; exact S4 _ _ (S3 _ _ e2)
   · rw [qh b1]; exact S4 _ _ e3
   · rw [qh c1]; exact e4
theorem qg3 {a:Ad} (T:Txt K mg a):qA P w K mg base CX0 8 a.f_Z a.fd_Z ["_law_log","_law_name"] (qd6 a):=by
 have G_c:qA P w K mg base (CX1 P w) 6 a.f_c a.fd_c ["self","name"] (Z2 a):=qaa T
 have G_u:qA P w K mg base CX0 1 a.f_u a.fd_u ["self","tables"] zT:=Zd T
 have G_i:qA P w K mg base CX0 5 a.f_i a.fd_i ["self","tables"] (zl K):=Q2 T
 have G_j:qA P w K mg base CX0 6 a.f_j a.fd_j ["self","tables"] (za a):=QG T
 have G_z:qA P w K mg base (CX1 P w) 7 a.f_z a.fd_z ["self","name"] (Z0 a):=J9 T
 have G_y:qA P w K mg base (CX1 P w) 6 a.f_y a.fd_y ["self","later","earlier","minutes"] (jR a):=qaU T
 refine T.d_Z.F.ok sc_Lgone (fun vs H Q E h=>?_) (fun cdv A outer s H vs Q E hr h=>?_)
 · obtain ⟨x,dx,td,ed,bl,ts,es,bs,nm,rfl,hL,mn,kk⟩:=h
   rfl
 · obtain ⟨x,dx,td,ed,bl,ts,es,bs,nm,rfl,hL,mn,kk⟩:=h
   have hu:=qJ hr
   have hU:=hr.units
   have h_c:Room (6) _:=hr.mono (by decide)
   have h_u:Room (1) _:=hr.mono (by decide)
   have h_i:Room (5) _:=hr.mono (by decide)
   have h_j:Room (6) _:=hr.mono (by decide)
   have h_z:Room (7) _:=hr.mono (by decide)
   have h_y:Room (6) _:=hr.mono (by decide)
   refine ⟨_,(qf (qH (i:=2) sc_Lgone.nd rfl (Or.inl rfl) qe)
     (qf (Zu PassesOwn.never rfl (Z5 rfl T.n_range (qa qe qb)) (qv (i:=3) (sc_Lgone.nd) rfl (Or.inl rfl))
       (qg (qir (i:=4) rfl rfl (by exact (qjj (qu (uEq hU) (pv 3) qe (qG _))
           (qdw (qb3 (pv 0) T.cl_Log T.d_c.mt G_c h_c T.d_c.b (qa (pv 1) qb)))
           (qjj (qu (uEq hU) (pv 3) qe (qG _))
             (qdw (qb3 (pv 0) T.cl_Log T.d_z.mt G_z h_z T.d_z.b (qa (pv 1) qb)))
             (qdw (qb3 (pv 0) T.cl_Log T.d_y.mt G_y h_y T.d_y.b (qa (pv 1) (qa (pv 1) (qa qe qb))))))))
         rfl T.g_NoEntry T.X_NoEntry.c.xi sc_Lgone.nd rfl (Or.inl rfl) rfl (fun ea=>(by exact
         (qg (qH (i:=2) sc_Lgone.nd rfl (Or.inl rfl) (qB jY (pv 2) (qY qa8 (by rfl) T.n_int Jt (qa (Z6 (uEq hU) (show PE _ _ (qiZ K _ "found") from qit (pv 4) rfl) (pv 1) (qG _)) qb))))))))))
     (qg (qy (Z6 (uEq hU) (pv 2) qe (qG _)))))),?_⟩
   try dsimp only [zv,Cx.nox]
   refine qik ?_
   refine QC (t:=qi7 _ _ _) (fun σ' H'=>∃ s3 s4:Option V,σ'=[some (.ref x),some (.str nm),some (.int 3),s3,s4]∧Same H H') (fun N hN=>?_) ?_
   · refine ⟨_,rfl,by decide,by decide,jd (lo:=0) (D:={ nx:=N,rt:=Q }) (fun i σ H'=>∃ s3 s4:Option V,σ=[some (.ref x),some (.str nm),some (.int (i:Int)),s3,s4]∧Same H H') ⟨_,_,rfl,Same.refl H⟩ ?_ ?_⟩
     · rintro i σ H2 hi ⟨s3,s4,rfl,S⟩
       have hi':i < 3:=hi
       have hL2:=hL.sm S
       obtain rfl | rfl | rfl:i=0∨i=1∨i=2:=by omega
       · refine ⟨_,rfl,.inl ⟨rfl,_,rfl,Jr rfl ?_⟩⟩
         refine ⟨_,rfl,x,dx,_,rfl,hL2.hx,rfl,_,rfl,x,dx,td,ed,bl,ts,es,bs,nm,rfl,hL2,.inr ⟨mn,?_⟩⟩
         intro ea dx2 G SG fe fd hd xa
         refine ⟨_,ea,rfl,rfl,T.X_NoEntry.c.xi,qcg T.X_NoEntry.c.xi,?_⟩
         refine ⟨_,rfl,_,rfl,ea,_,dx2,_,_,rfl,xa,hd,T.X_NoEntry.c,T.n_NoEntry_found,rfl,_,rfl,.inl ⟨rfl,.inr ⟨_,rfl,.inl ⟨_,_,rfl,rfl,?_⟩⟩⟩⟩
         have e1:(if decide (V.str nm=V.str nm)=true then (1:Int) else 0)=1:=if_pos (decide_eq_true rfl)
         rw [e1]
         exact ⟨_,_,rfl,S.trans SG⟩
       · refine ⟨_,rfl,.inl ⟨rfl,_,rfl,zj rfl ?_⟩⟩
         refine ⟨_,rfl,.inl ⟨rfl,_,rfl,Jr rfl ?_⟩⟩
         refine ⟨_,rfl,x,dx,_,rfl,hL2.hx,rfl,_,rfl,x,dx,td,ed,bl,ts,es,bs,nm,rfl,hL2,.inr ⟨mn,?_⟩⟩
         intro ea dx2 G SG fe fd hd xa
         refine ⟨_,ea,rfl,rfl,T.X_NoEntry.c.xi,qcg T.X_NoEntry.c.xi,?_⟩
         refine ⟨_,rfl,_,rfl,ea,_,dx2,_,_,rfl,xa,hd,T.X_NoEntry.c,T.n_NoEntry_found,rfl,_,rfl,.inl ⟨rfl,.inr ⟨_,rfl,.inl ⟨_,_,rfl,rfl,?_⟩⟩⟩⟩
         have e1:(if decide (V.str nm=V.str nm)=true then (1:Int) else 0)=1:=if_pos (decide_eq_true rfl)
         rw [e1]
         exact ⟨_,_,rfl,S.trans SG⟩
       · refine ⟨_,rfl,.inl ⟨rfl,_,rfl,zj rfl ?_⟩⟩
         refine ⟨_,rfl,.inl ⟨rfl,_,rfl,zj rfl ?_⟩⟩
         refine ⟨_,rfl,x,dx,_,rfl,hL2.hx,rfl,_,rfl,_,rfl,x,dx,td,ed,bl,ts,es,bs,nm,nm,0,rfl,hL2,.inr ⟨mn,?_⟩⟩
         intro ea dx2 G SG fe fd hd xa
         refine ⟨_,ea,rfl,rfl,T.X_NoEntry.c.xi,qcg T.X_NoEntry.c.xi,?_⟩
         refine ⟨_,rfl,_,rfl,ea,_,dx2,_,_,rfl,xa,hd,T.X_NoEntry.c,T.n_NoEntry_found,rfl,_,rfl,.inl ⟨rfl,.inr ⟨_,rfl,.inl ⟨_,_,rfl,rfl,?_⟩⟩⟩⟩
         have e1:(if decide (V.str nm=V.str nm)=true then (1:Int) else 0)=1:=if_pos (decide_eq_true rfl)
         rw [e1]
         exact ⟨_,_,rfl,S.trans SG⟩
     · rintro σ H2 ⟨s3,s4,rfl,S⟩
       exact hN _ _ ⟨_,_,rfl,S⟩
   rintro _ H2 ⟨s3,s4,rfl,S⟩
   exact ⟨_,rfl,.inl ⟨rfl,kk H2 S⟩⟩
end
end K37
namespace K37
open PySem L2 PySem.NumText PyProof.Rows KC M04
section
variable {P:Program} {w:World} {K:PySem.W.Frag} {mg:Str->Option Value} {base:Heap}
theorem qfI {a:Ad} (T:Txt K mg a):qA P w K mg base CX0 9 a.f_I a.fd_I ["_law_log","_law_kept"] (qcA a):=by
 have G_ab:qA P w K mg base CX0 1 a.f_ab a.fd_ab ["self"] (JW a):=qcX T
 have G_h:qA P w K mg base CX0 1 a.f_h a.fd_h ["self"] zm:=Z9 T
 have G_x:qA P w K mg base CX0 1 a.f_x a.fd_x ["self"] (zn K):=Zw T
 have G_J:qA P w K mg base CX0 1 a.f_J a.fd_J ["self"] (ZC a):=Jo T
 have G_H:qA P w K mg base CX0 1 a.f_H a.fd_H ["_law_found","_law_due"] qcz:=qfH T
 have G_ac:qA P w K mg base CX0 1 a.f_ac a.fd_ac ["self"] (JY a):=qcZ T
 have G_u:qA P w K mg base CX0 1 a.f_u a.fd_u ["self","tables"] zT:=Zd T
 have G_i:qA P w K mg base CX0 5 a.f_i a.fd_i ["self","tables"] (zl K):=Q2 T
 have G_j:qA P w K mg base CX0 6 a.f_j a.fd_j ["self","tables"] (za a):=QG T
 have G_z:qA P w K mg base (CX1 P w) 7 a.f_z a.fd_z ["self","name"] (Z0 a):=J9 T
 have G_Y:qA P w K mg base CX0 3 a.f_Y a.fd_Y ["_law_spec_here","_law_tables"] qbi:=qeI T
 have G_Z:qA P w K mg base CX0 8 a.f_Z a.fd_Z ["_law_log","_law_name"] (qd6 a):=qg3 T
 refine T.d_I.F.ok sc_Lright (fun vs H Q E h=>?_) (fun cdv A outer s H vs Q E hr h=>?_)
 · obtain ⟨x,dx,td,ed,bl,kd,ktd,ksl,kbl,kgl,ts,es,bs,ps,ss,gn,ns,rfl,hL,hK,hu',kk⟩:=h
   rfl
 · obtain ⟨x,dx,td,ed,bl,kd,ktd,ksl,kbl,kgl,ts,es,bs,ps,ss,gn,ns,rfl,hL,hK,hu',kk⟩:=h
   have hu:=qJ hr
   have hU:=hr.units
   have h_ab:Room (1) _:=hr.mono (by decide)
   have h_h:Room (1) _:=hr.mono (by decide)
   have h_x:Room (1) _:=hr.mono (by decide)
   have h_J:Room (1) _:=hr.mono (by decide)
   have h_H:Room (1) _:=hr.mono (by decide)
   have h_ac:Room (1) _:=hr.mono (by decide)
   have h_u:Room (1) _:=hr.mono (by decide)
   have h_i:Room (5) _:=hr.mono (by decide)
   have h_j:Room (6) _:=hr.mono (by decide)
   have h_z:Room (7) _:=hr.mono (by decide)
   have h_Y:Room (3) _:=hr.mono (by decide)
   have h_Z:Room (8) _:=hr.mono (by decide)
   refine ⟨_,(qf (qbZ (i:=2) sc_Lright.nd rfl (Or.inl rfl) rfl (CompOk.def ["_law_spec_here"] [none]) (zJ (qL hu (pv 1) qz (fun _ _=>rfl))) (fun _ _ _ _ _=>(qv (i:=0) (show List.Nodup (["_law_spec_here"]:List Str) by decide +kernel) rfl (Or.inl rfl))) (fun _ _ _ _ _=>QZ) (fun _ _ _ _ _=>(qC (r:=rIx K) qr (pv 0) qe (fun _ _=>rfl))))
     (qf (qR (PW.pt (qaJ (qu (uNe hU) (Qh (pv 0) T.cl_Log T.d_ab.mt G_ab h_ab T.d_ab.b .nil qq) (pv 2) (qG _)) (qaJ (qu (uNe hU) (Qh (pv 0) T.cl_Log T.d_J.mt G_J h_J T.d_J.b .nil qq) (qp (r:=qfp) (qbJ rfl) (by rfl) T.n_sorted Za (qa (qL hu (pv 1) qz (fun _ _=>rfl)) qb)) (qG _)) (jH (zy (zx (qj G_H h_H rfl T.d_H.m T.d_H.k T.d_H.b .nil qq (qa (Qh (pv 0) T.cl_Log T.d_ac.mt G_ac h_ac T.d_ac.b .nil qq) (qa (qL hu (pv 1) qz (fun _ _=>rfl)) qb)))))))))
       (qg (qy qaM))
       qw)
     (qf (Zu PassesOwn.never rfl (zJ (qL hu (pv 1) qz (fun _ _=>rfl))) (qv (i:=3) (sc_Lright.nd) rfl (Or.inl rfl))
       (qg (qR (zy (zx (qj G_H h_H rfl T.d_H.m T.d_H.k T.d_H.b .nil qq (qa (q9 (pv 0) T.cl_Log T.d_z.mt G_z h_z T.d_z.b .nil qiI (qa (qC (r:=rIx K) qr (pv 3) qe (fun _ _=>rfl)) qb)) (qa (qj G_Y h_Y rfl T.d_Y.m T.d_Y.k T.d_Y.b .nil qq (qa (pv 3) (qa (qL hu (pv 1) qz (fun _ _=>rfl)) qb))) qb)))))
         (qg (qy qaM))
         qw)))
     (qf (Zu PassesOwn.never rfl (zJ (qL hu (pv 1) qz (fun _ _=>rfl))) (qv (i:=4) (sc_Lright.nd) rfl (Or.inl rfl))
       (qg (qR (PW.pt (J1 (qu (r:=rIn K true) Z8 (pv 4) (pv 2) (by with_unfolding_all rfl)) (jS (zy (zx (qj G_Z h_Z rfl T.d_Z.m T.d_Z.k T.d_Z.b .nil qq (qa (pv 0) (qa (pv 4) qb))))))))
         (qg (qy qaM))
         qw)))
     (qg (qy qaM)))))),?_⟩
   try dsimp only [zv,Cx.nox]
   obtain ⟨zs,hs,tz⟩:=hK.hs
   have kt:=qa0 hu'.et
   have enn:=hu'.enn
   have fewt:=hu'.fewt hL.ndt
   have fewp:=hu'.fewp hL.ndt
   have fews:=hu'.fews hL.nde
   have ndp:(ps.map (·.1)).Nodup:=kt▸hL.ndt
   have spS:∀ s∈ss,Spc s.1 s.2.1 s.2.2.1 s.2.2.2.1 s.2.2.2.2:=fun s m=>by
     rw [← hu'.ee] at m
     obtain ⟨e,me,rfl⟩:=List.mem_map.mp m
     exact hL.sp e me
   have plS:∀ s∈ss,s.2.2.1=""∨s.2.2.1∈ps.map (·.1):=fun s m=>by
     rw [← hu'.ee] at m
     obtain ⟨e,me,rfl⟩:=List.mem_map.mp m
     rw [← kt]
     exact hL.pls e me
   have nok:∀ n∈ss.map (·.2.1),PyData.strOk n=true:=fun n m=>by
     obtain ⟨s,ms,rfl⟩:=List.mem_map.mp m
     exact (qjb (spS s ms)).2.1
   obtain ⟨lb1,lb2⟩:=qkk bs fun b m=>⟨nok _ (hu'.bn b m).1,nok _ (hu'.bn b m).2⟩
   have clB:PyData.canLay0 (.list (bs.map dB))=true:=by simp only [PyData.canLay0,lb1]
   have shB:=shp clB (by simp only [PyData.depth]; omega)
   obtain ⟨ln1,ln2⟩:=qck (ss.map (·.2.1)) nok
   have clN:PyData.canLay0 (.list ((ss.map (·.2.1)).map .str))=true:=by simp only [PyData.canLay0,ln1]
   have shN:=shp clN (by simp only [PyData.depth]; omega)
   refine ⟨_,rfl,kd,_,rfl,hK.g2,ksl,rfl,⟨_,SqL.of hs⟩,fun D fD=>?_⟩
   refine zM (K:=K) (a:=ksl) (xs:=zs) (D:=D) (fun i σ H2=>∃ c0:Option V,σ=[c0]∧Same H H2∧H2 D=some (.lst (((ss.take i).map (·.2.1)).map V.str))) ⟨none,rfl,Same.new _ fD,qc⟩ (fun i σ H2 _ ⟨_,_,S,_⟩=>SqL.of (S _ _ hs)) ?_ ?_
   · rintro i z σ H2 hz ⟨c0,rfl,S,hD⟩
     obtain ⟨s,u,hs',rfl,hu'⟩:=tz.of hz
     refine ⟨_,rfl,.inr (.inl ⟨u,_,_,_,rfl,rfl,SqT.of (S _ _ hu'),rfl,_,hD,qx (by rw [List.length_map,List.length_map,List.length_take]; omega),_,rfl,S.put fD _,?_⟩)⟩
     rw [qc,List.take_add_one,hs',List.map_append,List.map_append]; rfl
   rintro σ H1 ⟨c0,rfl,S1,hD⟩
   rw [tz.1,List.take_length] at hD
   try unfold qX
   try dsimp only
   have hL1:=hL.sm S1
   refine ⟨_,rfl,x,dx,_,rfl,hL1.hx,rfl,x,dx,td,ed,bl,ts,es,bs,rfl,hL1,fun l1 f1=>?_⟩
   generalize hG:upd H1 l1 _=H2
   obtain ⟨S2,e2⟩:=qO hG f1
   clear hG
   rw [enn] at e2
   refine ⟨_,rfl,qdB (.lst (.inl e2) (qa4 _)) (.lst (.inl (S2 _ _ hD)) (qa4 _)) clN shN ⟨_,rfl,zj rfl ?_⟩⟩
   have hL2:=hL1.sm S2
   refine ⟨_,rfl,x,dx,_,rfl,hL2.hx,rfl,x,dx,td,ed,bl,ts,es,bs,rfl,hL2,fewt,fun l3 sa f3 pm so=>?_⟩
   generalize hG:upd H2 l3 _=H3
   obtain ⟨S3,e3⟩:=qO hG f3
   clear hG
   have S03:=(S1.trans S2).trans S3
   have hK3:=hK.sm S03
   refine ⟨_,rfl,kd,_,rfl,hK3.g1,ktd,_,rfl,qbt hK3.ht,(by rw [List.length_map]; omega),fun l4 sb f4 pm4 so4=>?_⟩
   generalize hG:upd H3 l4 _=H4
   obtain ⟨S4,e4⟩:=qO hG f4
   clear hG
   rw [List.map_map] at pm4
   have esab:sa=sb:=qdr ((pm.trans (by rw [kt]; exact List.Perm.refl _)).trans pm4.symm) so so4
   subst esab
   have oks:∀ n∈sa,PyData.strOk n=true:=fun n m=>by
     obtain ⟨y,my,ey⟩:=List.mem_map.mp (pm.mem_iff.mp m)
     exact ey▸Ze (hL.tn y my)
   obtain ⟨ls1,ls2⟩:=qck sa oks
   have clP:PyData.canLay0 (.list (sa.map .str))=true:=by simp only [PyData.canLay0,ls1]
   have shP:=shp clP (by simp only [PyData.depth]; omega)
   refine qdB (.lst (.inl (S4 _ _ e3)) (qa4 _)) (.lst (.inl e4) (qa4 _)) clP shP ⟨_,rfl,zj rfl ?_⟩
   have S04:=S03.trans S4
   have hL4:=hL.sm S04
   refine ⟨_,rfl,x,dx,_,rfl,hL4.hx,rfl,x,dx,td,ed,bl,ts,es,bs,rfl,hL4,fun l5 zb f5 tb=>?_⟩
   generalize hG:upd H4 l5 _=H5
   obtain ⟨S5,e5⟩:=qO hG f5
   clear hG
   have S05:=S04.trans S5
   have hK5:=hK.sm S05
   obtain ⟨zk,hbk,tbk⟩:=hK5.hb
   refine ⟨_,rfl,kd,_,rfl,hK5.g3,l5,kbl,zb,bs.map dB,rfl,e5,qjV (tb.same S5),.lst (.inl hbk) (qjV tbk),clB,shB,qku (tb.same S5),fun H6 S6=>⟨true,rfl,zj rfl ?_⟩⟩
   have S06:=S05.trans S6
   have hD6:=S6 _ _ (S5 _ _ (S4 _ _ (S3 _ _ (S2 _ _ hD))))
   clear S6 S5 S4 S3 S2 S03 S04 S05 e2 e3 e4 e5 hK3 hK5 hL1 hL2 hL4 S1 hD
   try unfold qX
   try dsimp only
   refine QC (t:=qi7 _ _ _) (fun σ' H'=>∃ s3:Option V,σ'=[some (.ref x),some (.ref kd),some (.ref D),s3,none]∧Same H H'∧H' D=some (.lst ((ss.map (·.2.1)).map V.str))) (fun N hN=>?_) ?_
   · refine ⟨_,rfl,kd,_,rfl,(hK.sm S06).g2,ksl,rfl,⟨_,SqL.of (S06 _ _ hs)⟩,ju (K:=K) (a:=ksl) (xs:=zs) (D:={ nx:=N,rt:=Q }) (fun j σ H'=>∃ s3:Option V,σ=[some (.ref x),some (.ref kd),some (.ref D),s3,none]∧Same H H'∧H' D=some (.lst ((ss.map (·.2.1)).map V.str))) ⟨_,rfl,S06,hD6⟩ (fun j σ H' _ ⟨_,_,S,_⟩=>SqL.of (S _ _ hs)) ?_ ?_⟩
     · rintro j z σ H3 hz ⟨s3,rfl,S3,hD3⟩
       obtain ⟨s,u,hsj,rfl,hu2⟩:=tz.of hz
       obtain ⟨e,hej,hes'⟩:∃ e,es[j]?=some e∧eS e=s:=by
         rw [← hu'.ee,List.getElem?_map] at hsj
         exact Option.map_eq_some_iff.mp hsj
       subst hes'
       have me:=List.mem_of_getElem? hej
       have hL3:=hL.sm S3
       have hu3:=S3 _ _ hu2
       obtain ⟨W,due⟩:=qjK (hL.sp e me) (plS (eS e) (List.mem_of_getElem? hsj))
       refine ⟨_,rfl,x,dx,_,rfl,hL3.hx,rfl,_,rfl,.inr (.inl ⟨u,_,_,_,rfl,rfl,SqT.of hu3,rfl,x,dx,td,ed,bl,ts,es,bs,e.nm,rfl,hL3,.inl ⟨e,W,me,rfl,qjJ hu'.et due,fun f r H4 ff S4 R4 c4 l4 m4=>?_⟩⟩)⟩
       have S34:=S3.trans S4
       have hK4:=hK.sm S34
       refine ⟨_,rfl,_,rfl,kd,_,rfl,hK4.g1,u,ktd,e.wd,e.nm,e.pl,e.lo,e.hi,ps,W,rfl,S34 _ _ hu2,.inl hK4.ht,ndp,fun y my=>⟨hK4.rs y my,hK4.gd y my⟩,due,fun d2 r2 H5 fd2 S5 R5 c5 l5 m5=>?_⟩
       have er:r2=r:=qdf c5 c4 fun n=>(m5 n).trans (m4 n).symm
       subst er
       obtain ⟨z1,hz1,dz1,cz,sz,nz⟩:=qfm (R4.same S5)
       obtain ⟨z2,hz2,dz2,_,_,_⟩:=qfm R5
       exact ⟨f,d2,z1,_,rfl,hz1,dz1,.lst (.inl hz2) dz2,cz,sz,nz,fun H6 S6=>⟨true,rfl,zj rfl ⟨_,rfl,(S34.trans S5).trans S6,S6 _ _ (S5 _ _ (S4 _ _ hD3))⟩⟩⟩
     · rintro σ H3 ⟨s3,rfl,S3,hD3⟩
       exact hN _ _ ⟨_,rfl,S3,hD3⟩
   rintro _ H3 ⟨s3,rfl,S3,hD3⟩
   refine ⟨_,rfl,kd,_,rfl,(hK.sm S3).g4,kgl,rfl,⟨_,SqL.of (S3 _ _ hK.hg)⟩,ju (K:=K) (a:=kgl) (xs:=gn.map V.str) (D:={ nx:=qh9 (tC (.bl true)) { nx:=fun _ H'=>Q .non H',rt:=Q },rt:=Q }) (fun j σ H'=>∃ s4:Option V,σ=[some (.ref x),some (.ref kd),some (.ref D),s3,s4]∧Same H H'∧H' D=some (.lst ((ss.map (·.2.1)).map V.str))) ⟨_,rfl,S3,hD3⟩ (fun j σ H' _ ⟨_,_,S,_⟩=>SqL.of (S _ _ hK.hg)) ?_ ?_⟩
   · rintro j z σ H4 hz ⟨s4,rfl,S4,hD4⟩
     obtain ⟨y,hy,rfl⟩:∃ y,gn[j]?=some y∧V.str y=z:=by
       rw [List.getElem?_map] at hz
       exact Option.map_eq_some_iff.mp hz
     refine ⟨_,rfl,_,rfl,D,_,rfl,.inl (SqL.of hD4),rfl,qdc _,_,rfl,?_⟩
     rw [qco]
     by_cases c:y∈ss.map (·.2.1)
     · exact zj (by simp [c]) (zj rfl ⟨_,rfl,S4,hD4⟩)
     · refine Jr (by simp [c]) ?_
       exact ⟨_,rfl,_,rfl,x,dx,td,ed,bl,ts,es,bs,y,rfl,hL.sm S4,(by rw [enn]; exact c),fun H5 S5=>⟨true,rfl,zj rfl ⟨_,rfl,S4.trans S5,S5 _ _ hD4⟩⟩⟩
   · rintro σ H4 ⟨s4,rfl,S4,_⟩
     exact kk H4 S4
end
end K37
namespace K37
open PySem L2 PySem.NumText PyProof.Rows KC M04
section
variable {P:Program} {w:World} {K:PySem.W.Frag} {mg:Str->Option Value} {base:Heap}
end
structure Fp where
 x:Addr
 dx:Addr
 td:Addr
 ed:Addr
 bl:Addr
 kd:Addr
 ktd:Addr
 ksl:Addr
 kbl:Addr
 kgl:Addr
def Fp.mu (f:Fp):List Addr:=[f.x,f.td,f.ed,f.bl,f.kd,f.ktd,f.ksl,f.kbl,f.kgl]
structure Dt where
 ts:Pls
 ps:Pls
 es:List Ent
 ss:List S5
 bs:List (Str×Str×Int)
 gn:List Str
structure Sd (a:Ad) (ns:List Str) (H:Hp) (f:Fp) (D:Dt):Prop where
 lg:Lg a H f.x f.dx f.td f.ed f.bl D.ts D.es D.bs
 k4:K4 H f.kd f.ktd f.ksl f.kbl f.kgl D.ps D.ss D.bs D.gn
 pu:Pu ns D.ts D.ps D.es D.ss D.bs
 nd:f.mu.Nodup
theorem Sd.mu {a:Ad} {ns:List Str} {H:Hp} {f:Fp} {D:Dt} (S:Sd a ns H f D):∀ m∈f.mu,Mu H m:=fun m hm=>by
 rcases List.mem_append.mp (show m∈[f.x,f.td,f.ed,f.bl]++[f.kd,f.ktd,f.ksl,f.kbl,f.kgl] from hm) with h | h
 · exact S.lg.mu m h
 · exact S.k4.mu m h
theorem Sd.im {a:Ad} {ns:List Str} {H H':Hp} {f:Fp} {D:Dt} (S:Sd a ns H f D) (i:Imm H H') (k:∀ b∈f.mu,∀ o,H b=some o->H' b=some o):Sd a ns H' f D :=
 ⟨S.lg.im i fun b m=>k b (List.mem_append_left [f.kd,f.ktd,f.ksl,f.kbl,f.kgl] m),S.k4.im i fun b m=>k b (List.mem_append_right [f.x,f.td,f.ed,f.bl] m),S.pu,S.nd⟩
theorem Sd.sm {a:Ad} {ns:List Str} {H H':Hp} {f:Fp} {D:Dt} (S:Sd a ns H f D) (s:Same H H'):Sd a ns H' f D:=S.im (.sm s) fun _ _ _ e=>s _ _ e
theorem Sd.bp {a:Ad} {ns:List Str} {H H':Hp} {f:Fp} {D:Dt} {p:Addr} (S:Sd a ns H f D) (hp:PenAt H p) (n:p∉f.mu) (b:But p H H'):Sd a ns H' f D :=
 S.im (ButL.imm (M:=[p]) (fun c o e m=>b c o e (by simpa using m)) (fun m hm=>by rw [List.mem_singleton.mp hm]; exact PenAt.mu hp)) fun c m o e=>b c o e (fun z=>n (z▸m))
theorem kin {f:Fp} (n:f.mu.Nodup) {b c:Addr} (hb:b∈[f.kd,f.ktd,f.ksl,f.kbl,f.kgl]) (hc:c∈[f.x,f.td,f.ed,f.bl]):b≠c:=fun e =>
 (List.nodup_append.mp (show ([f.x,f.td,f.ed,f.bl]++[f.kd,f.ktd,f.ksl,f.kbl,f.kgl]).Nodup from n)).2.2 c hc b hb e.symm
def Nx (a:Ad) (ns:List Str) (p:Addr) (H:Hp) (f:Fp) (D:Dt) (H':Hp):Prop:=∃ (f':Fp) (D':Dt),f'.x=f.x∧f'.kd=f.kd∧(∀ b∈f'.mu,b∈f.mu∨H b=none)∧ButL (p::f.mu) H H'∧PenAt H' p∧Sd a ns H' f' D'∧D'.gn.length≤D.gn.length+1
theorem Nx.skip {a:Ad} {ns:List Str} {p:Addr} {H H':Hp} {f:Fp} {D:Dt} (S:Sd a ns H f D) (hp:PenAt H p) (n:p∉f.mu) (b:But p H H') (hp':PenAt H' p):Nx a ns p H f D H' :=
 ⟨f,D,rfl,rfl,fun _ m=>.inl m,fun c o e m=>b c o e (fun z=>m (z▸List.mem_cons_self)),hp',S.bp hp n b,by omega⟩
inductive qaB (a:Ad) (vs:List V) (H:Hp) (Q:VK):Prop
 | mk (p:Addr) (f:Fp) (D:Dt) (ns:List Str) (h1:vs=[.ref f.x,.ref f.kd,.ref p]) (h2:Sd a ns H f D) (h3:PenAt H p) (h4:p∉f.mu) (h5:D.gn.length≤900) (h6:∀ H',Nx a ns p H f D H'->Q .non H'):qaB a vs H Q
def qcE (a:Ad):Sp:=fun vs H Q _=>qaB a vs H Q
inductive Jf (a:Ad) (vs:List V) (H:Hp) (Q:VK):Prop
 | mk (p:Addr) (f:Fp) (D:Dt) (ns:List Str) (h1:vs=[.ref f.x,.ref f.kd,.ref p]) (h2:Sd a ns H f D) (h3:PenAt H p) (h4:p∉f.mu) (h5:D.gn.length≤900) (h6:∀ H',Nx a ns p H f D H'->Q .non H'):Jf a vs H Q
def qaA (a:Ad):Sp:=fun vs H Q _=>Jf a vs H Q
section
variable {P:Program} {w:World} {K:PySem.W.Frag} {mg:Str->Option Value} {base:Heap}
end
theorem qej {ss:List S5} {j:Nat} (h:j < ss.length):((ss.map (·.2.1)).map V.str)[j]?=some (.str (ss[j]'h).2.1):=by
 rw [List.getElem?_map,List.getElem?_map,List.getElem?_eq_getElem h]; rfl
section
variable {P:Program} {w:World} {K:PySem.W.Frag} {mg:Str->Option Value} {base:Heap}
theorem qfK {a:Ad} (T:Txt K mg a):qA P w K mg base CX0 7 a.f_0 a.fd_0 ["_law_log","_law_kept","_law_state"] (qcE a):=by
 have G_y:qA P w K mg base (CX1 P w) 6 a.f_y a.fd_y ["self","later","earlier","minutes"] (jR a):=qaU T
 have G_a:qA P w K mg base CX0 2 a.f_a a.fd_a ["_law_state","_law_many"] Qg:=QB T
 refine T.d_0.F.ok sc_Lbound (fun vs H Q E h=>?_) (fun cdv A outer s H vs Q E hr h=>?_)
 · obtain ⟨p,f,D,ns,rfl,S,hp,np,gl,kk⟩:=h
   rfl
 · obtain ⟨p,f,D,ns,rfl,S,hp,np,gl,kk⟩:=h
   have hu:=qJ hr
   have hU:=hr.units
   have h_y:Room (6) _:=hr.mono (by decide)
   have h_a:Room (2) _:=hr.mono (by decide)
   refine ⟨_,(qf (qbZ (i:=3) sc_Lbound.nd rfl (Or.inl rfl) rfl (CompOk.def ["_law_spec_here"] [none]) (zJ (qL hu (pv 1) qz (fun _ _=>rfl))) (fun _ _ _ _ _=>(qv (i:=0) (show List.Nodup (["_law_spec_here"]:List Str) by decide +kernel) rfl (Or.inl rfl))) (fun _ _ _ _ _=>QZ) (fun _ _ _ _ _=>(qC (r:=rIx K) qr (pv 0) qe (fun _ _=>rfl))))
     (qf (qR (PW.pt (qaJ (qu (qb5 hU) (pv 3) (qQ qb) (qG _)) (jH (qu qgX (qp qU (by rfl) T.n_len qK (qa (qL hu (pv 1) qz (fun _ _=>rfl)) qb)) qe (qG _)))))
       (qg qdy)
       qw)
     (qf (qH (i:=4) sc_Lbound.nd rfl (Or.inl rfl) (qC (r:=rIx K) qr (pv 3) (qj G_a h_a rfl T.d_a.m T.d_a.k T.d_a.b .nil qq (qa (pv 2) (qa (qp qU (by rfl) T.n_len qK (qa (pv 3) qb)) qb))) (fun _ _=>rfl)))
     (qf (qH (i:=5) sc_Lbound.nd rfl (Or.inl rfl) (qC (r:=rIx K) qr (pv 3) (qj G_a h_a rfl T.d_a.m T.d_a.k T.d_a.b .nil qq (qa (pv 2) (qa (qp qU (by rfl) T.n_len qK (qa (pv 3) qb)) qb))) (fun _ _=>rfl)))
     (qf (qH (i:=6) sc_Lbound.nd rfl (Or.inl rfl) (qC (r:=rIx K) qr (qQ (qa (qB zH (qj G_a h_a rfl T.d_a.m T.d_a.k T.d_a.b .nil qq (qa (pv 2) (qa qe qb))) qe) (qa (qB zH (qj G_a h_a rfl T.d_a.m T.d_a.k T.d_a.b .nil qq (qa (pv 2) (qa (qB ZM qe (qB Qo qe qe)) qb))) (qB Qo qe qe)) qb))) (qj G_a h_a rfl T.d_a.m T.d_a.k T.d_a.b .nil qq (qa (pv 2) (qa qe qb))) (fun _ _=>rfl)))
     (qf (qF (q9 (pv 0) T.cl_Log T.d_y.mt G_y h_y T.d_y.b .nil qiI (qa (pv 4) (qa (pv 5) (qa (pv 6) qb)))))
     (qg (qF (Jk PySem.F.plainAttrs_list PySem.F.slot_list_append PySem.F.type_list_append zK (qL hu (pv 1) qz (fun _ _=>rfl)) (qa (zR (qa (pv 4) (qa (pv 5) (qa (pv 6) qb)))) qb)))))))))),?_⟩
   try dsimp only [zv,Cx.nox]
   obtain ⟨zs,hs,tz⟩:=S.k4.hs
   have fews:=S.pu.fews S.lg.nde
   refine ⟨_,rfl,f.kd,_,rfl,S.k4.g2,f.ksl,rfl,⟨_,SqL.of hs⟩,fun D1 fD=>?_⟩
   refine zM (K:=K) (a:=f.ksl) (xs:=zs) (D:=D1) (fun i σ H2=>∃ c0:Option V,σ=[c0]∧Same H H2∧H2 D1=some (.lst (((D.ss.take i).map (·.2.1)).map V.str))) ⟨none,rfl,Same.new _ fD,qc⟩ (fun i σ H2 _ ⟨_,_,S,_⟩=>SqL.of (S _ _ hs)) ?_ ?_
   · rintro i z σ H2 hz ⟨c0,rfl,S,hD⟩
     obtain ⟨s,u,hs',rfl,hu'⟩:=tz.of hz
     refine ⟨_,rfl,.inr (.inl ⟨u,_,_,_,rfl,rfl,SqT.of (S _ _ hu'),rfl,_,hD,qx (by rw [List.length_map,List.length_map,List.length_take]; omega),_,rfl,S.put fD _,?_⟩)⟩
     rw [qc,List.take_add_one,hs',List.map_append,List.map_append]; rfl
   rintro σ H1 ⟨c0,rfl,S1,hD⟩
   rw [tz.1,List.take_length] at hD
   try unfold qX
   try dsimp only
   refine ⟨_,rfl,qo (Nat.le_of_ble_eq_true rfl),fun n0 fn0=>?_⟩
   generalize hG:upd H1 n0 _=H2
   obtain ⟨S2',e2⟩:=qO hG fn0
   clear hG
   have S2:=S1.trans S2'
   have hD2:=S2' _ _ hD
   have nDp:D1≠p:=hp.ne fD
   have p2:=PenAt.sm hp S2
   have Sd2:=S.sm S2
   clear S1 hD fn0
   refine ⟨D1,n0,_,rfl,rfl,SqL.of hD2,SqL.of e2,_,rfl,qhd (fun g=>Jr rfl ?_) (fun g=>?_)⟩
   · exact kk _ (.skip S hp np (fun b o e _=>S2 b o e) p2)
   have l0:0 < D.ss.length:=by
     cases hss:D.ss with
     | nil=>rw [hss] at g; cases g
     | cons _ _=>simp
   obtain ⟨zb,hb,tb⟩:=Sd2.k4.hb
   have lzb:zb.length=D.bs.length:=tb.1
   refine ⟨_,rfl,f.kd,_,rfl,Sd2.k4.g3,_,_,rfl,.inl ⟨_,SqL.of hb,rfl⟩,_,_,rfl,rfl,_,rfl,Zf (fun g2=>?_) (fun g2=>?_)⟩
   · exact kk _ (.skip S hp np (fun b o e _=>S2 b o e) p2)
   have lD:((D.ss.map (·.2.1)).map V.str).length=D.ss.length:=by rw [List.length_map,List.length_map]
   clear hb tb e2
   try unfold qX
   try dsimp only
   refine ⟨_,rfl,_,rfl,_,rfl,_,_,rfl,.inl ⟨_,SqL.of hD2,rfl⟩,p,_,rfl,p2,(by omega),(by omega),fun d3 H3 d30 d31 B3 p3=>?_⟩
   obtain ⟨j3,rfl⟩:=Int.eq_ofNat_of_zero_le d30
   have hj3:j3 < D.ss.length:=by omega
   refine .inl ⟨D1,_,_,_,rfl,rfl,SqL.of (B3 _ _ hD2 nDp),QA (qej hj3),?_⟩
   try unfold qX
   try dsimp only
   refine ⟨_,rfl,_,rfl,_,rfl,_,_,rfl,.inl ⟨_,SqL.of (B3 _ _ hD2 nDp),rfl⟩,p,_,rfl,p3,(by omega),(by omega),fun d4 H4 d40 d41 B4 p4=>?_⟩
   obtain ⟨j4,rfl⟩:=Int.eq_ofNat_of_zero_le d40
   have hj4:j4 < D.ss.length:=by omega
   refine .inl ⟨D1,_,_,_,rfl,rfl,SqL.of (B4 _ _ (B3 _ _ hD2 nDp) nDp),QA (qej hj4),?_⟩
   have m1:(D.ss[j3]'hj3).2.1∈D.ss.map (·.2.1):=List.mem_map_of_mem (List.getElem_mem hj3)
   have m2:(D.ss[j4]'hj4).2.1∈D.ss.map (·.2.1):=List.mem_map_of_mem (List.getElem_mem hj4)
   generalize (D.ss[j3]'hj3).2.1=nm1 at m1 ⊢
   generalize (D.ss[j4]'hj4).2.1=nm2 at m2 ⊢
   have Sd4:=(Sd2.bp p2 np B3).bp p3 np B4
   have BB4:But p H H4:=fun b o e n=>B4 b o (B3 b o (S2 b o e) n) n
   clear B3 B4 hD2 p2 Sd2 p3
   try unfold qX
   try dsimp only
   have e9:(10:Int) ^ (9:Int).toNat=1000000000:=by decide
   refine ⟨_,rfl,p,_,rfl,p4,by decide,by decide,fun v1 H5 v10 v11 B5 p5=>⟨_,_,rfl,rfl,?_⟩⟩
   refine ⟨_,rfl,_,_,rfl,rfl,⟨by decide,by decide,by decide⟩,_,_,rfl,rfl,.inl ⟨by decide,by decide⟩,p,_,rfl,p5,(by rw [e9]; decide),(by rw [e9]; decide),fun v2 H6 v20 v21 B6 p6=>⟨_,_,rfl,rfl,⟨by decide,by decide,by decide⟩,_,_,rfl,rfl,qo (Nat.le_of_ble_eq_true rfl),fun L fL=>?_⟩⟩
   generalize hG:upd H6 L _=H7
   obtain ⟨S7,e7⟩:=qO hG fL
   clear hG
   have p7:=PenAt.sm p6 S7
   have nL:L≠p:=p6.ne fL
   refine ⟨_,rfl,p,_,rfl,p7,by decide,by decide,fun v3 H8 v30 v31 B8 p8=>?_⟩
   obtain ⟨mi,hmi,mi0,mi1⟩:∃ mi:Int,atI [V.int (v1 - 60),V.int (v2 - 10 ^ (9:Int).toNat)] v3=some (.int mi)∧-2000000000≤mi∧mi≤2000000001:=by
     rw [e9] at v21 ⊢
     obtain rfl | rfl:v3=0∨v3=1:=by omega
     · exact ⟨_,rfl,by omega,by omega⟩
     · exact ⟨_,rfl,by omega,by omega⟩
   refine .inl ⟨L,_,_,_,rfl,rfl,SqL.of (B8 _ _ e7 nL),hmi,?_⟩
   have Sd8:=(((Sd4.bp p4 np B5).bp p5 np B6).sm S7).bp p7 np B8
   have BB8:But p H H8:=fun b o e n=>B8 b o (S7 b o (B6 b o (B5 b o (BB4 b o e n) n) n)) n
   clear B5 B6 S7 B8 p4 p5 p6 p7 BB4 Sd4 e7 fL
   try unfold qX
   try dsimp only
   have enn:=S.pu.enn
   refine ⟨_,rfl,f.x,f.dx,_,rfl,Sd8.lg.hx,rfl,_,rfl,_,rfl,_,rfl,f.x,f.dx,f.td,f.ed,f.bl,D.ts,D.es,D.bs,nm1,nm2,mi,rfl,Sd8.lg,.inl ⟨(by rw [enn]; exact m1),(by rw [enn]; exact m2),mi0,mi1,(by omega),fun H9 B9 L9=>?_⟩⟩
   have mbl:Mu H8 f.bl:=Sd8.mu _ (by simp [Fp.mu])
   have i9:Imm H8 H9:=ButL.imm (M:=[f.bl]) (fun c o e m=>B9 c o e (by simpa using m)) (fun m hm=>by rw [List.mem_singleton.mp hm]; exact mbl)
   have K9:=Sd8.k4.im i9 fun b m o e=>B9 b o e (kin S.nd m (by simp))
   have n9:p≠f.bl:=fun z=>np (by rw [z]; simp [Fp.mu])
   have p9:PenAt H9 p:=by
     obtain ⟨c,u,v,c0,e⟩:=p8
     exact ⟨c,u,v,c0,B9 _ _ e n9⟩
   obtain ⟨zc,hc,tc⟩:=K9.hb
   have lzc:zc.length=D.bs.length:=tc.1
   refine ⟨_,rfl,f.kd,_,rfl,K9.g3,.inl ⟨rfl,_,SqL.of hc⟩,_,rfl,_,rfl,_,rfl,qo (Nat.le_of_ble_eq_true rfl),fun t ft=>?_⟩
   generalize hG:upd H9 t _=Ha
   obtain ⟨Sa,ea⟩:=qO hG ft
   clear hG
   have Ka:=K9.sm Sa
   have La:=L9.sm Sa
   have ta:TupL prB Ha zc D.bs:=tc.same Sa
   refine ⟨f.kbl,_,_,rfl,rfl,Sa _ _ hc,qx (by omega),?_⟩
   have BF:But f.kbl Ha (upd Ha f.kbl (.lst (zc++[.ref t]))):=fun b o e n=>by rw [qh n]; exact e
   have iF:Imm Ha (upd Ha f.kbl (.lst (zc++[.ref t]))):=ButL.imm (M:=[f.kbl]) (fun c o e m=>BF c o e (by simpa using m)) (fun m hm=>by rw [List.mem_singleton.mp hm]; exact qek (Sa _ _ hc) ta)
   have nq:p≠f.kbl:=fun z=>np (by rw [z]; simp [Fp.mu])
   have ek:(upd Ha f.kbl (.lst (zc++[.ref t]))) f.kbl=some (.lst (zc++[.ref t])):=qc
   generalize upd Ha f.kbl (.lst (zc++[.ref t]))=Hf at BF iF ek ⊢
   obtain ⟨zs2,hs2,tz2⟩:=Ka.hs
   refine kk Hf ⟨f,{ D with bs:=D.bs++[(nm1,nm2,mi)] },rfl,rfl,fun _ m=>.inl m,fun b o e m=>?_,?_,⟨?_,⟨BF _ _ Ka.hd (jq S.nd (i:=4) (j:=7) rfl rfl (by decide)),BF _ _ Ka.ht (jq S.nd (i:=5) (j:=7) rfl rfl (by decide)),⟨zs2,BF _ _ hs2 (jq S.nd (i:=6) (j:=7) rfl rfl (by decide)),TupL.im tz2 iF⟩,⟨_,ek,TupL.im (ta.snoc (p:=(nm1,nm2,mi)) ea) iF⟩,BF _ _ Ka.hg (jq S.nd (i:=8) (j:=7) rfl rfl (by decide)),fun y m=>(Ka.rs y m).im (qS (Ka.gd y m)) iF,Ka.gd⟩,⟨S.pu.et,S.pu.ee,S.pu.pn,S.pu.sn,fun b mb=>?_,?_,S.pu.ln⟩,S.nd⟩,Nat.le_succ _⟩
   · have mm:=List.not_mem_of_not_mem_cons m
     have h1:b≠p:=fun z=>m (z▸List.mem_cons_self)
     exact BF b o (Sa b o (B9 b o (BB8 b o e h1) (fun z=>mm (by rw [z]; simp [Fp.mu])))) (fun z=>mm (by rw [z]; simp [Fp.mu]))
   · obtain ⟨c,u,v,c0,e⟩:=PenAt.sm p9 Sa
     exact ⟨c,u,v,c0,BF _ _ e nq⟩
   · exact La.im iF fun b m o e=>BF b o e (fun z=>kin S.nd (b:=f.kbl) (by simp) m z.symm)
   · rcases List.mem_append.mp mb with mb | mb
     · exact S.pu.bn b mb
     · rw [List.mem_singleton.mp mb]; exact ⟨m1,m2⟩
   · show (D.bs++[(nm1,nm2,mi)]).length≤100
     rw [List.length_append]
     show D.bs.length+1≤100
     omega
end
end K37
namespace K37
open PySem L2 PySem.NumText PyProof.Rows KC M04
section
variable {P:Program} {w:World} {K:PySem.W.Frag} {mg:Str->Option Value} {base:Heap}
end
theorem qfQ:∀ {l:List Addr} {i:Nat} {y:Addr},l.Nodup->y∉l->(l.set i y).Nodup
 | [],_,_,_,_=>by simp
 | x::l,0,y,nd,h=>by
   rw [List.set_cons_zero,List.nodup_cons]
   exact ⟨fun m=>h (List.mem_cons_of_mem _ m),(List.nodup_cons.mp nd).2⟩
 | x::l,i+1,y,nd,h=>by
   rw [List.nodup_cons] at nd
   rw [List.set_cons_succ,List.nodup_cons]
   refine ⟨fun m=>?_,qfQ nd.2 fun m=>h (List.mem_cons_of_mem _ m)⟩
   rcases List.mem_or_eq_of_mem_set m with m | e
   · exact nd.1 m
   · exact h (by rw [e]; exact List.mem_cons_self)
theorem qjk {k1 k2 k3 k4 e:Addr}:qbb (kpd k1 k2 k3 k4) (.inr "bonds") (.ref e)=kpd k1 k2 e k4:=rfl
theorem qlc {n x y:Str}:inV (.str n) [.str x,.str y]=(decide (n=x) || decide (n=y)):=by
 have:=qco (n:=n) (ns:=[x,y])
 rw [show [x,y].map V.str=[.str x,.str y] from rfl] at this
 rw [this,Bool.eq_iff_iff]
 simp
theorem qdd:∀ {ss:List S5} {j:Nat} {s:S5},(ss.map (·.2.1)).Nodup->ss[j]?=some s->ss.eraseIdx j=ss.filter fun q=>decide (q.2.1≠s.2.1)
 | [],_,_,_,h=>by cases h
 | x::l,0,s,nd,h=>by
   cases h
   rw [List.map_cons,List.nodup_cons] at nd
   rw [List.eraseIdx_cons_zero,List.filter_cons_of_neg (by simp)]
   refine (List.filter_eq_self.mpr fun q m=>?_).symm
   have:q.2.1≠x.2.1:=fun e=>nd.1 (by rw [← e]; exact List.mem_map_of_mem (f:=fun q:S5=>q.2.1) m)
   simpa using this
 | x::l,j+1,s,nd,h=>by
   rw [List.map_cons,List.nodup_cons] at nd
   have h':l[j]?=some s:=h
   have hx:x.2.1≠s.2.1:=fun e=>nd.1 (by rw [e]; exact List.mem_map_of_mem (f:=fun q:S5=>q.2.1) (List.mem_of_getElem? h'))
   rw [List.eraseIdx_cons_succ,List.filter_cons_of_pos (by simpa using hx),qdd nd.2 h']
theorem But.one {m:Addr} {H H':Hp} (b:But m H H') (u:Mu H m):Imm H H':=ButL.imm (M:=[m]) (fun c o e h=>b c o e (by simpa using h)) (fun c hc=>by rw [List.mem_singleton.mp hc]; exact u)
theorem PenAt.bt {p:Addr} {H H':Hp} (h:PenAt H p) (k:∀ o,H p=some o->H' p=some o):PenAt H' p:=by
 obtain ⟨c,u,v,c0,e⟩:=h
 exact ⟨c,u,v,c0,k _ e⟩
section
variable {P:Program} {w:World} {K:PySem.W.Frag} {mg:Str->Option Value} {base:Heap}
theorem qdA {a:Ad} (T:Txt K mg a):qA P w K mg base CX0 7 a.f_1 a.fd_1 ["_law_log","_law_kept","_law_state"] (qaA a):=by
 have G_9:qA P w K mg base CX0 6 a.f_9 a.fd_9 ["self","name"] (qay a):=qdz T
 have G_a:qA P w K mg base CX0 2 a.f_a a.fd_a ["_law_state","_law_many"] Qg:=QB T
 refine T.d_1.F.ok sc_Ldropped (fun vs H Q E h=>?_) (fun cdv A outer s H vs Q E hr h=>?_)
 · obtain ⟨p,f,D,ns,rfl,S,hp,np,gl,kk⟩:=h
   rfl
 · obtain ⟨p,f,D,ns,rfl,S,hp,np,gl,kk⟩:=h
   have hu:=qJ hr
   have hU:=hr.units
   have h_9:Room (6) _:=hr.mono (by decide)
   have h_a:Room (2) _:=hr.mono (by decide)
   refine ⟨_,(qf (qR (qu (qb5 hU) (qL hu (pv 1) qz (fun _ _=>rfl)) (qQ qb) (qG _))
       (qg qdy)
       qw)
     (qf (qH (i:=3) sc_Ldropped.nd rfl (Or.inr rfl) (Jk PySem.F.plainAttrs_list PySem.F.slot_list_pop PySem.F.type_list_pop qcf (qL hu (pv 1) qz (fun _ _=>rfl)) (qa (qj G_a h_a rfl T.d_a.m T.d_a.k T.d_a.b .nil qq (qa (pv 2) (qa (qp qU (by rfl) T.n_len qK (qa (qL hu (pv 1) qz (fun _ _=>rfl)) qb)) qb))) qb)))
     (qf (qF (q9 (pv 0) T.cl_Log T.d_9.mt G_9 h_9 T.d_9.b .nil qq (qa (qC (r:=rIx K) qr (pv 3) qe (fun _ _=>rfl)) qb)))
     (qf (qF (Jk PySem.F.plainAttrs_list PySem.F.slot_list_append PySem.F.type_list_append zK (qL hu (pv 1) qz (fun _ _=>rfl)) (qa (qC (r:=rIx K) qr (pv 3) qe (fun _ _=>rfl)) qb)))
     (qg (qb0 hu (pv 1) qz (QF rfl (CompOk.def ["_law_bond","_law_spec_here"] [none,some 3]) (zJ (qL hu (pv 1) qz (fun _ _=>rfl))) (fun _ _ _ _ _=>(qv (i:=0) (show List.Nodup (["_law_bond","_law_spec_here"]:List Str) by decide +kernel) rfl (Or.inl rfl))) (fun _ _ _ _ _=>(qaK (qu (r:=rIn K true) Z8 (qC (r:=rIx K) qr (pv 1) qe (fun _ _=>rfl)) (zR (qa (qC (r:=rIx K) qr (pv 0) qe (fun _ _=>rfl)) (qa (qC (r:=rIx K) qr (pv 0) qe (fun _ _=>rfl)) qb))) (by with_unfolding_all rfl)))) (fun _ _ _ _ _=>(pv 0))) rfl)))))),?_⟩
   try dsimp only [zv,Cx.nox]
   obtain ⟨zs,hs,tz⟩:=S.k4.hs
   have fews:=S.pu.fews S.lg.nde
   have lz:zs.length=D.ss.length:=tz.1
   refine ⟨_,rfl,f.kd,_,rfl,S.k4.g2,qo (Nat.le_of_ble_eq_true rfl),fun n0 fn0=>?_⟩
   generalize hG:upd H n0 _=H2
   obtain ⟨S2,e2⟩:=qO hG fn0
   clear hG
   have Sd2:=S.sm S2
   have p2:=PenAt.sm hp S2
   refine ⟨f.ksl,n0,_,rfl,rfl,SqL.of (S2 _ _ hs),SqL.of e2,_,rfl,qhd (fun g=>?_) (fun g=>?_)⟩
   · exact kk _ (.skip S hp np (fun b o e _=>S2 b o e) p2)
   have l0:0 < zs.length:=by
     cases hss:zs with
     | nil=>rw [hss] at g; cases g
     | cons _ _=>simp
   clear g e2 fn0
   try unfold qX
   try dsimp only
   refine ⟨_,rfl,f.kd,_,rfl,Sd2.k4.g2,.inl ⟨rfl,_,SqL.of (S2 _ _ hs)⟩,_,rfl,_,rfl,f.kd,_,rfl,Sd2.k4.g2,_,_,rfl,.inl ⟨_,SqL.of (S2 _ _ hs),rfl⟩,p,_,rfl,p2,(by omega),(by omega),fun d H3 d0 d1 B3 p3=>?_⟩
   obtain ⟨j,rfl⟩:=Int.eq_ofNat_of_zero_le d0
   have hj:j < D.ss.length:=by omega
   have Sd3:=Sd2.bp p2 np B3
   have BB3:But p H H3:=fun b o e n=>B3 b o (S2 b o e) n
   have nks:f.ksl≠p:=fun z=>np (by rw [← z]; simp [Fp.mu])
   have hs3:=B3 _ _ (S2 _ _ hs) nks
   have tz3:TupL prS H3 zs D.ss:=TupL.im tz (ButL.imm (M:=[p]) (fun c o e h=>BB3 c o e (by simpa using h)) (fun c hc=>by rw [List.mem_singleton.mp hc]; exact PenAt.mu hp))
   obtain ⟨u,hzu,hu3⟩:=tz3.at_ (List.getElem?_eq_getElem hj)
   refine ⟨f.ksl,zs,_,j,.ref u,rfl,rfl,hs3,(by omega),(by omega),(qa1 (qdJ (by omega))).1,hzu,?_⟩
   have hss:D.ss[j]?=some (D.ss[j]'hj):=List.getElem?_eq_getElem hj
   generalize D.ss[j]'hj=s at hu3 hss
   have BC:But f.ksl H3 (upd H3 f.ksl (.lst (zs.eraseIdx j))):=fun b o e n=>by rw [qh n]; exact e
   have ek:(upd H3 f.ksl (.lst (zs.eraseIdx j))) f.ksl=some (.lst (zs.eraseIdx j)):=qc
   generalize upd H3 f.ksl (.lst (zs.eraseIdx j))=H4 at BC ek ⊢
   have i4:=But.one BC (qfS hs3 tz3)
   have L4:=Sd3.lg.im i4 fun b m o e=>BC b o e (fun z=>kin S.nd (b:=f.ksl) (by simp) m z.symm)
   obtain ⟨zb3,hb3,tb3⟩:=Sd3.k4.hb
   have K4':K4 H4 f.kd f.ktd f.ksl f.kbl f.kgl D.ps (D.ss.eraseIdx j) D.bs D.gn:=⟨BC _ _ Sd3.k4.hd (jq S.nd (i:=4) (j:=6) rfl rfl (by decide)),BC _ _ Sd3.k4.ht (jq S.nd (i:=5) (j:=6) rfl rfl (by decide)),⟨_,ek,TupL.im (TupL.er tz3 j) i4⟩,⟨zb3,BC _ _ hb3 (jq S.nd (i:=7) (j:=6) rfl rfl (by decide)),TupL.im tb3 i4⟩,BC _ _ Sd3.k4.hg (jq S.nd (i:=8) (j:=6) rfl rfl (by decide)),fun y m=>(Sd3.k4.rs y m).im (qS (Sd3.k4.gd y m)) i4,Sd3.k4.gd⟩
   have hu4:=i4.tup _ _ hu3
   have p4:PenAt H4 p:=PenAt.bt p3 fun o e=>BC _ _ e nks.symm
   have BB4:ButL (p::f.mu) H H4:=fun b o e m=>BC b o (BB3 b o e (fun z=>m (z▸List.mem_cons_self))) (fun z=>m (List.mem_cons_of_mem _ (by rw [z]; simp [Fp.mu])))
   clear B3 hs3 tz3 ek BC hzu hb3 tb3 Sd3 Sd2 p2 p3 hu3 BB3 S2
   have ms:s∈D.ss:=List.mem_of_getElem? hss
   have enn:=S.pu.enn
   have mnm:s.2.1∈D.es.map (·.nm):=by rw [enn]; exact List.mem_map_of_mem (f:=fun q:S5=>q.2.1) ms
   try unfold qX
   try dsimp only
   refine ⟨_,rfl,f.x,f.dx,_,rfl,L4.hx,rfl,_,rfl,.inr (.inl ⟨u,_,_,_,rfl,rfl,SqT.of hu4,rfl,f.x,f.dx,f.td,f.ed,f.bl,D.ts,D.es,D.bs,s.2.1,rfl,L4,mnm,S.pu.fb,fun bl' H5 fbl B5 L5=>?_⟩)⟩
   have i5:Imm H4 H5:=ButL.imm B5 fun m mm=>L4.mu m (by
     simp only [List.mem_cons,List.not_mem_nil,or_false] at mm ⊢
     rcases mm with h | h
     · exact .inl h
     · exact .inr (.inr (.inl h)))
   have k5:∀ b∈[f.kd,f.ktd,f.ksl,f.kbl,f.kgl],b∉[f.x,f.ed]:=fun b m mm=>by
     simp only [List.mem_cons,List.not_mem_nil,or_false] at mm
     rcases mm with h | h
     · exact kin S.nd m (c:=f.x) (by simp) h
     · exact kin S.nd m (c:=f.ed) (by simp) h
   have K5:=K4'.im i5 fun b m o e=>B5 b o e (k5 b m)
   have hu5:=i5.tup _ _ hu4
   obtain ⟨zo,hbo,_⟩:=L4.hb
   have hbo5:=B5 _ _ hbo (fun mm=>by
     simp only [List.mem_cons,List.not_mem_nil,or_false] at mm
     rcases mm with h | h
     · exact jq S.nd (i:=3) (j:=0) rfl rfl (by decide) h
     · exact jq S.nd (i:=3) (j:=2) rfl rfl (by decide) h)
   have fk:∀ b∈[f.kd,f.ktd,f.ksl,f.kbl,f.kgl],bl'≠b:=fun b m z=>by
     have:=K4'.mu b m
     rw [z] at fbl
     cases this with
     | d e=>rw [fbl] at e; cases e
     | log e _=>rw [fbl] at e; cases e
     | ls e _=>rw [fbl] at e; cases e
   have fl:∀ b∈[f.x,f.td,f.ed,f.bl],bl'≠b:=fun b m z=>by
     have:=L4.mu b m
     rw [z] at fbl
     cases this with
     | d e=>rw [fbl] at e; cases e
     | log e _=>rw [fbl] at e; cases e
     | ls e _=>rw [fbl] at e; cases e
   have p5:PenAt H5 p:=PenAt.bt p4 fun o e=>B5 _ _ e (fun mm=>by
     simp only [List.mem_cons,List.not_mem_nil,or_false] at mm
     rcases mm with h | h
     · exact np (by rw [h]; simp [Fp.mu])
     · exact np (by rw [h]; simp [Fp.mu]))
   have BB5:ButL (p::f.mu) H H5:=fun b o e m=>B5 b o (BB4 b o e m) (fun mm=>m (List.mem_cons_of_mem _ (by
     simp only [List.mem_cons,List.not_mem_nil,or_false] at mm
     rcases mm with h | h
     · rw [h]; simp [Fp.mu]
     · rw [h]; simp [Fp.mu])))
   have fblH:H bl'=none:=by
     cases hh:H bl' with
     | none=>rfl
     | some o =>
       have h1:bl'∉p::f.mu:=fun mm=>by
         rcases List.mem_cons.mp mm with h | h
         · obtain ⟨c,u,v,_,e⟩:=p4
           rw [h,e] at fbl; cases fbl
         · rcases List.mem_append.mp (show bl'∈[f.x,f.td,f.ed,f.bl]++[f.kd,f.ktd,f.ksl,f.kbl,f.kgl] from h) with h | h
           · exact fl _ h rfl
           · exact fk _ h rfl
       rw [BB4 _ _ hh h1] at fbl
       cases fbl
   clear i5 k5 B5 i4 L4 K4' p4 hu4
   try unfold qX
   try dsimp only
   refine ⟨_,rfl,f.kd,_,rfl,K5.g4,.inl ⟨rfl,_,SqL.of K5.hg⟩,_,rfl,.inr (.inl ⟨u,_,_,_,rfl,rfl,SqT.of hu5,rfl,f.kgl,_,_,rfl,rfl,K5.hg,qx (by rw [List.length_map]; omega),?_⟩)⟩
   have BE:But f.kgl H5 (upd H5 f.kgl (.lst (D.gn.map V.str++[.str s.2.1]))):=fun b o e n=>by rw [qh n]; exact e
   have ek:(upd H5 f.kgl (.lst (D.gn.map V.str++[.str s.2.1]))) f.kgl=some (.lst ((D.gn++[s.2.1]).map V.str)):=by rw [qc,List.map_append]; rfl
   generalize upd H5 f.kgl (.lst (D.gn.map V.str++[.str s.2.1]))=H6 at BE ek ⊢
   have i6:=But.one BE (qhP K5.hg)
   have L6:=L5.im i6 fun b m o e=>BE b o e (fun z=>by
     simp only [List.mem_cons,List.not_mem_nil,or_false] at m
     rcases m with h | h | h | h
     · exact kin S.nd (b:=f.kgl) (c:=f.x) (by simp) (by simp) (by rw [← z,h])
     · exact kin S.nd (b:=f.kgl) (c:=f.td) (by simp) (by simp) (by rw [← z,h])
     · exact kin S.nd (b:=f.kgl) (c:=f.ed) (by simp) (by simp) (by rw [← z,h])
     · exact fk f.kgl (by simp) (by rw [← z,h]))
   obtain ⟨zs5,hs5,ts5⟩:=K5.hs
   obtain ⟨zb5,hb5,tb5⟩:=K5.hb
   have K6:K4 H6 f.kd f.ktd f.ksl f.kbl f.kgl D.ps (D.ss.eraseIdx j) D.bs (D.gn++[s.2.1]):=⟨BE _ _ K5.hd (jq S.nd (i:=4) (j:=8) rfl rfl (by decide)),BE _ _ K5.ht (jq S.nd (i:=5) (j:=8) rfl rfl (by decide)),⟨zs5,BE _ _ hs5 (jq S.nd (i:=6) (j:=8) rfl rfl (by decide)),TupL.im ts5 i6⟩,⟨zb5,BE _ _ hb5 (jq S.nd (i:=7) (j:=8) rfl rfl (by decide)),TupL.im tb5 i6⟩,ek,fun y m=>(K5.rs y m).im (qS (K5.gd y m)) i6,K5.gd⟩
   have hu6:=i6.tup _ _ hu5
   have hbo6:=BE _ _ hbo5 (jq S.nd (i:=3) (j:=8) rfl rfl (by decide))
   have p6:PenAt H6 p:=PenAt.bt p5 fun o e=>BE _ _ e (fun z=>np (by rw [z]; simp [Fp.mu]))
   have BB6:ButL (p::f.mu) H H6:=fun b o e m=>BE b o (BB5 b o e m) (fun z=>m (List.mem_cons_of_mem _ (by rw [z]; simp [Fp.mu])))
   clear BE ek i6 K5 L5 p5 BB5 hs5 ts5 hb5 tb5 hu5 BB4
   obtain ⟨zb,hb,tb⟩:=K6.hb
   have fb:=S.pu.fb
   try unfold qX
   try dsimp only
   refine ⟨_,rfl,f.kd,_,rfl,K6.g3,f.kbl,rfl,⟨_,SqL.of hb⟩,fun E fE=>?_⟩
   refine zM (K:=K) (a:=f.kbl) (xs:=zb) (D:=E) (fun i σ H7=>∃ (c0:Option V) (ws:List V),σ=[c0,some (.ref u)]∧Same H6 H7∧H7 E=some (.lst ws)∧TupL prB H7 ws ((D.bs.take i).filter (kb s.2.1))) ⟨none,[],rfl,Same.new _ fE,qc,.nil⟩ (fun i σ H7 _ ⟨_,_,_,S,_⟩=>SqL.of (S _ _ hb)) ?_ ?_
   · rintro i z σ H7 hz ⟨c0,ws,rfl,S7,hE,tw⟩
     obtain ⟨b,v,hb',rfl,hv⟩:=tb.of hz
     have hv7:=S7 _ _ hv
     have lw:ws.length≤100:=by
       have h1:=tw.1
       have h2:=List.length_filter_le (kb s.2.1) (D.bs.take i)
       rw [List.length_take] at h2
       omega
     have tf:=jO (p:=kb s.2.1) hb'
     refine ⟨_,rfl,.inr (.inl ⟨u,_,_,_,rfl,rfl,SqT.of (S7 _ _ hu6),rfl,_,rfl,.inr (.inl ⟨v,_,_,_,rfl,rfl,SqT.of hv7,rfl,_,rfl,.inr (.inl ⟨v,_,_,_,rfl,rfl,SqT.of hv7,rfl,qo (Nat.le_of_ble_eq_true rfl),fun t ft=>?_⟩)⟩)⟩)⟩
     have S8:=Same.new (.tup [.str b.1,.str b.2.1]) ft
     refine ⟨t,_,rfl,.inr (SqT.of qc),rfl,rfl,_,rfl,?_⟩
     have ei:(if true=true then !inV (.str s.2.1) [.str b.1,.str b.2.1] else inV (.str s.2.1) [.str b.1,.str b.2.1])=kb s.2.1 b:=by
       rw [if_pos rfl,qlc,Bool.not_or]
     refine qhd (fun g=>?_) (fun g=>?_)
     · have g':kb s.2.1 b=true:=by rw [← ei]; exact g
       refine ⟨_,rfl,ws,S8 _ _ hE,qx (by omega),_,_,rfl,(S7.trans S8).put fE _,qc,?_⟩
       rw [tf,if_pos g']
       exact ((tw.same S8).snoc (S8 _ _ hv7)).put (S8 _ _ hE)
     · have g':¬ kb s.2.1 b=true:=by rw [← ei,g]; decide
       refine ⟨_,ws,rfl,S7.trans S8,S8 _ _ hE,?_⟩
       rw [tf,if_neg g',List.append_nil]
       exact tw.same S8
   rintro σ H7 ⟨c0,ws,rfl,S7,hE,tw⟩
   rw [tb.1,List.take_length] at tw
   have K7:=K6.sm S7
   have L7:=L6.sm S7
   refine ⟨_,rfl,f.kd,_,rfl,DPut.k (k:=.inr "bonds") K7.hd (qx (Nat.le_of_ble_eq_true rfl)),?_⟩
   rw [qjk]
   have al:∀ b,(∃ o,H6 b=some o)->E≠b:=fun b ⟨o,e⟩ z=>by rw [z,e] at fE; cases fE
   have mal:∀ b,Mu H6 b->∃ o,H6 b=some o:=fun b m=>by
     cases m with
     | d e=>exact ⟨_,e⟩
     | log e _=>exact ⟨_,e⟩
     | ls e _=>exact ⟨_,e⟩
   have fEk:∀ b∈[f.kd,f.ktd,f.ksl,f.kbl,f.kgl],E≠b:=fun b m=>al b (mal b (K6.mu b m))
   have fEl:∀ b∈[f.x,f.td,f.ed,bl'],E≠b:=fun b m=>al b (mal b (L6.mu b m))
   have fEH:H E=none:=by
     cases hh:H E with
     | none=>rfl
     | some o =>
       have h1:E∉p::f.mu:=fun mm=>by
         rcases List.mem_cons.mp mm with h | h
         · obtain ⟨c,u,v,_,e⟩:=p6
           rw [h,e] at fE; cases fE
         · rcases List.mem_append.mp (show E∈[f.x,f.td,f.ed,f.bl]++[f.kd,f.ktd,f.ksl,f.kbl,f.kgl] from h) with h | h
           · simp only [List.mem_cons,List.not_mem_nil,or_false] at h
             rcases h with h | h | h | h
             · exact fEl f.x (by simp) h
             · exact fEl f.td (by simp) h
             · exact fEl f.ed (by simp) h
             · exact al f.bl ⟨_,hbo6⟩ h
           · exact fEk _ h rfl
       rw [BB6 _ _ hh h1] at fE
       cases fE
   have BG:But f.kd H7 (upd H7 f.kd (.dK (kpd f.ktd f.ksl E f.kgl))):=fun b o e n=>by rw [qh n]; exact e
   have ek:(upd H7 f.kd (.dK (kpd f.ktd f.ksl E f.kgl))) f.kd=some (.dK (kpd f.ktd f.ksl E f.kgl)):=qc
   generalize upd H7 f.kd (.dK (kpd f.ktd f.ksl E f.kgl))=H8 at BG ek ⊢
   have i8:=But.one BG (.d K7.hd)
   obtain ⟨zs7,hs7,ts7⟩:=K7.hs
   have L8:=L7.im i8 fun b m o e=>BG b o e (fun z=>by
     simp only [List.mem_cons,List.not_mem_nil,or_false] at m
     rcases m with h | h | h | h
     · exact kin S.nd (b:=f.kd) (c:=f.x) (by simp) (by simp) (by rw [← z,h])
     · exact kin S.nd (b:=f.kd) (c:=f.td) (by simp) (by simp) (by rw [← z,h])
     · exact kin S.nd (b:=f.kd) (c:=f.ed) (by simp) (by simp) (by rw [← z,h])
     · exact fk f.kd (by simp) (by rw [← z,h]))
   have K8:K4 H8 f.kd f.ktd f.ksl E f.kgl D.ps (D.ss.eraseIdx j) (D.bs.filter (kb s.2.1)) (D.gn++[s.2.1]):=⟨ek,BG _ _ K7.ht (jq S.nd (i:=5) (j:=4) rfl rfl (by decide)),⟨zs7,BG _ _ hs7 (jq S.nd (i:=6) (j:=4) rfl rfl (by decide)),TupL.im ts7 i8⟩,⟨ws,BG _ _ hE (fEk f.kd (by simp)),TupL.im tw i8⟩,BG _ _ K7.hg (jq S.nd (i:=8) (j:=4) rfl rfl (by decide)),fun y m=>(K7.rs y m).im (qS (K7.gd y m)) i8,K7.gd⟩
   have nds:(D.ss.map (·.2.1)).Nodup:=by rw [← enn]; exact S.lg.nde
   have ess:D.ss.eraseIdx j=D.ss.filter fun q=>decide (q.2.1≠s.2.1):=qdd nds hss
   have sub:∀ n∈(D.ss.eraseIdx j).map (·.2.1),n∈D.ss.map (·.2.1):=fun n m=>by
     obtain ⟨q,mq,e⟩:=List.mem_map.mp m
     exact e▸List.mem_map_of_mem (f:=fun q:S5=>q.2.1) (List.mem_of_mem_eraseIdx mq)
   refine kk H8 ⟨{ f with bl:=bl',kbl:=E },{ D with es:=D.es.filter fun e=>decide (e.nm≠s.2.1),ss:=D.ss.eraseIdx j,bs:=D.bs.filter (kb s.2.1),gn:=D.gn++[s.2.1] },rfl,rfl,fun b m=>?_,fun b o e m=>BG b o (S7 b o (BB6 b o e m)) (fun z=>m (List.mem_cons_of_mem _ (by rw [z]; simp [Fp.mu]))),?_,⟨L8,K8,⟨S.pu.et,?_,S.pu.pn,fun n m=>S.pu.sn n (sub n m),fun b mb=>?_,?_,S.pu.ln⟩,?_⟩,?_⟩
   · have m':b∈(f.mu.set 3 bl').set 7 E:=m
     rcases List.mem_or_eq_of_mem_set m' with m | e
     · rcases List.mem_or_eq_of_mem_set m with m | e
       · exact .inl m
       · exact .inr (e▸fblH)
     · exact .inr (e▸fEH)
   · exact PenAt.bt (PenAt.sm p6 S7) fun o e=>BG _ _ e (fun z=>np (by rw [z]; simp [Fp.mu]))
   · show (D.es.filter _).map eS=D.ss.eraseIdx j
     rw [ess,← S.pu.ee,List.filter_map]
     rfl
   · obtain ⟨mb1,kb1⟩:=List.mem_filter.mp mb
     have h1:s.2.1≠b.1∧s.2.1≠b.2.1:=by simpa [kb] using kb1
     obtain ⟨b1,b2⟩:=S.pu.bn b mb1
     have go:∀ n∈D.ss.map (·.2.1),s.2.1≠n->n∈(D.ss.eraseIdx j).map (·.2.1):=fun n m hn=>by
       obtain ⟨q,mq,e⟩:=List.mem_map.mp m
       rw [ess]
       exact e▸List.mem_map_of_mem (f:=fun q:S5=>q.2.1) (List.mem_filter.mpr ⟨mq,by simpa using fun z=>hn (by rw [← e]; exact z.symm)⟩)
     exact ⟨go _ b1 h1.1,go _ b2 h1.2⟩
   · exact Nat.le_trans (List.length_filter_le _ _) S.pu.fb
   · show ((f.mu.set 3 bl').set 7 E).Nodup
     refine qfQ (qfQ S.nd fun m=>?_) fun m=>?_
     · rcases List.mem_append.mp (show bl'∈[f.x,f.td,f.ed,f.bl]++[f.kd,f.ktd,f.ksl,f.kbl,f.kgl] from m) with h | h
       · exact fl _ h rfl
       · exact fk _ h rfl
     · rcases List.mem_append.mp (show E∈[f.x,f.td,f.ed,bl']++[f.kd,f.ktd,f.ksl,f.kbl,f.kgl] from m) with h | h
       · exact fEl _ h rfl
       · exact fEk _ h rfl
   · show (D.gn++[s.2.1]).length≤_
     rw [List.length_append]; exact Nat.le_refl _
end
end K37
namespace K37
open PySem L2 PySem.NumText PyProof.Rows KC M04
section
variable {P:Program} {w:World} {K:PySem.W.Frag} {mg:Str->Option Value} {base:Heap}
end
structure Nq (H:Hp) (f:Fp) (p q:Addr) (ns:List Str):Prop where
 hq:H q=some (.lst (ns.map V.str))
 nms:Nms ns
 n1:q∉f.mu
 n2:q≠p
inductive qcB (a:Ad) (vs:List V) (H:Hp) (Q:VK):Prop
 | mk (p q:Addr) (f:Fp) (D:Dt) (ns:List Str) (h1:vs=[.ref f.x,.ref f.kd,.ref p,.ref q]) (h2:Sd a ns H f D) (h3:PenAt H p) (h4:p∉f.mu) (h5:Nq H f p q ns) (h6:0 < D.ps.length) (h7:∀ H',Nx a ns p H f D H'->Q .non H'):qcB a vs H Q
def qfe (a:Ad):Sp:=fun vs H Q _=>qcB a vs H Q
section
variable {P:Program} {w:World} {K:PySem.W.Frag} {mg:Str->Option Value} {base:Heap}
theorem qiv {a:Ad} (T:Txt K mg a):qA P w K mg base CX0 10 a.f_2 a.fd_2 ["_law_log","_law_kept","_law_state","_law_names_here"] (qfe a):=by
 have G_W:qA P w K mg base CX0 4 a.f_W a.fd_W ["_law_state","_law_name","_law_places","_law_tables"] qd2:=qgZ T
 have G_7:qA P w K mg base CX0 2 a.f_7 a.fd_7 ["self","entry"] (qbl a):=qeJ T
 have G_X:qA P w K mg base CX0 9 a.f_X a.fd_X ["_law_spec_here"] (qd5 a):=qg2 T
 have G_a:qA P w K mg base CX0 2 a.f_a a.fd_a ["_law_state","_law_many"] Qg:=QB T
 refine T.d_2.F.ok sc_Lput (fun vs H Q E h=>?_) (fun cdv A outer s H vs Q E hr h=>?_)
 · obtain ⟨p,q,f,D,ns,rfl,S,hp,np,nq,hps,kk⟩:=h
   rfl
 · obtain ⟨p,q,f,D,ns,rfl,S,hp,np,nq,hps,kk⟩:=h
   have hu:=qJ hr
   have hU:=hr.units
   have h_W:Room (4) _:=hr.mono (by decide)
   have h_7:Room (2) _:=hr.mono (by decide)
   have h_X:Room (9) _:=hr.mono (by decide)
   have h_a:Room (2) _:=hr.mono (by decide)
   refine ⟨_,(qf (qH (i:=4) sc_Lput.nd rfl (Or.inr rfl) (QF rfl (CompOk.def ["_law_spec_here"] [none]) (zJ (qL hu (pv 1) qz (fun _ _=>rfl))) (fun _ _ _ _ _=>(qv (i:=0) (show List.Nodup (["_law_spec_here"]:List Str) by decide +kernel) rfl (Or.inl rfl))) (fun _ _ _ _ _=>QZ) (fun _ _ _ _ _=>(qC (r:=rIx K) qr (pv 0) qe (fun _ _=>rfl)))))
     (qf (qbZ (i:=5) sc_Lput.nd rfl (Or.inl rfl) rfl (CompOk.def ["_law_name","_law_taken"] [none,some 4]) (zJ (Ji uSl (pv 3) (JJ qe) qb1)) (fun _ _ _ _ _=>(qv (i:=0) (show List.Nodup (["_law_name","_law_taken"]:List Str) by decide +kernel) rfl (Or.inl rfl))) (fun _ _ _ _ _=>(qaK (qu (r:=rIn K true) Z8 (pv 0) (pv 1) (by with_unfolding_all rfl)))) (fun _ _ _ _ _=>(pv 0)))
     (qf (qR (qu (qb5 hU) (pv 5) (qQ qb) (qG _))
       (qg qdy)
       qw)
     (qf (qH (i:=6) sc_Lput.nd rfl (Or.inl rfl) (qj G_W h_W rfl T.d_W.m T.d_W.k T.d_W.b .nil qq (qa (pv 2) (qa (qC (r:=rIx K) qr (pv 5) (qj G_a h_a rfl T.d_a.m T.d_a.k T.d_a.b .nil qq (qa (pv 2) (qa (qp qU (by rfl) T.n_len qK (qa (pv 5) qb)) qb))) (fun _ _=>rfl)) (qa (qY (r:=qfr) (qbK rfl) (by rfl) T.n_list zf (qa (qL hu (pv 1) qz (fun _ _=>rfl)) qb)) (qa (qL hu (pv 1) qz (fun _ _=>rfl)) qb))))))
     (qf (qF (q9 (pv 0) T.cl_Log T.d_7.mt G_7 h_7 T.d_7.b .nil qq (qa (qj G_X h_X rfl T.d_X.m T.d_X.k T.d_X.b .nil qq (qa (pv 6) qb)) qb)))
     (qg (qF (Jk PySem.F.plainAttrs_list PySem.F.slot_list_append PySem.F.type_list_append zK (qL hu (pv 1) qz (fun _ _=>rfl)) (qa (pv 6) qb))))))))),?_⟩
   try dsimp only [zv,Cx.nox]
   obtain ⟨zs,hs,tz⟩:=S.k4.hs
   have fews:=S.pu.fews S.lg.nde
   refine ⟨_,rfl,f.kd,_,rfl,S.k4.g2,f.ksl,rfl,⟨_,SqL.of hs⟩,fun D1 fD=>?_⟩
   refine zM (K:=K) (a:=f.ksl) (xs:=zs) (D:=D1) (fun i σ H2=>∃ c0:Option V,σ=[c0]∧Same H H2∧H2 D1=some (.lst (((D.ss.take i).map (·.2.1)).map V.str))) ⟨none,rfl,Same.new _ fD,qc⟩ (fun i σ H2 _ ⟨_,_,S,_⟩=>SqL.of (S _ _ hs)) ?_ ?_
   · rintro i z σ H2 hz ⟨c0,rfl,S,hD⟩
     obtain ⟨s,u,hs',rfl,hu'⟩:=tz.of hz
     refine ⟨_,rfl,.inr (.inl ⟨u,_,_,_,rfl,rfl,SqT.of (S _ _ hu'),rfl,_,hD,qx (by rw [List.length_map,List.length_map,List.length_take]; omega),_,rfl,S.put fD _,?_⟩)⟩
     rw [qc,List.take_add_one,hs',List.map_append,List.map_append]; rfl
   rintro σ H1 ⟨c0,rfl,S1,hD⟩
   rw [tz.1,List.take_length] at hD
   try unfold qX
   try dsimp only
   refine ⟨_,rfl,_,rfl,.inl ⟨q,_,rfl,SqL.of (S1 _ _ nq.hq),fun l fl=>?_⟩⟩
   rw [qhq _ 6 6 rfl,← List.map_drop]
   generalize hG:upd H1 l _=H2
   obtain ⟨S2',e2⟩:=qO hG fl
   clear hG
   have S2:=S1.trans S2'
   have hD2:=S2' _ _ hD
   have nDp:D1≠p:=hp.ne fD
   refine ⟨l,rfl,⟨_,SqL.of e2⟩,fun D2 fD2=>?_⟩
   refine zM (K:=K) (a:=l) (xs:=(ns.drop 6).map V.str) (D:=D2) (fun i σ H3=>∃ c0:Option V,σ=[c0,some (.ref D1)]∧Same H2 H3∧H3 D2=some (.lst ((((ns.drop 6).take i).filter fun n=>decide (n∉D.ss.map (·.2.1))).map V.str))) ⟨none,rfl,Same.new _ fD2,qc⟩ (fun i σ H3 _ ⟨_,_,S3,_⟩=>SqL.of (S3 _ _ e2)) ?_ ?_
   · rintro i z σ H3 hz ⟨c0,rfl,S3,hE⟩
     obtain ⟨y,hy,rfl⟩:∃ y,(ns.drop 6)[i]?=some y∧V.str y=z:=by
       rw [List.getElem?_map] at hz
       exact Option.map_eq_some_iff.mp hz
     have tf:=jO (p:=fun n=>decide (n∉D.ss.map (·.2.1))) hy
     refine ⟨_,rfl,_,rfl,D1,_,rfl,.inl (SqL.of (S3 _ _ hD2)),rfl,qdc _,_,rfl,?_⟩
     rw [qco]
     by_cases c:y∈D.ss.map (·.2.1)
     · refine zj (by simp [c]) ⟨_,rfl,S3,?_⟩
       rw [tf,if_neg (by simpa using c),List.append_nil]; exact hE
     · refine Jr (by simp [c]) ?_
       refine ⟨_,rfl,_,hE,qx ?_,_,rfl,S3.put fD2 _,?_⟩
       · rw [List.length_map]
         have h1:=List.length_filter_le (fun n=>decide (n∉D.ss.map (·.2.1))) ((ns.drop 6).take i)
         rw [List.length_take,List.length_drop,S.pu.ln] at h1
         omega
       · rw [qc,tf,if_pos (by simpa using c),List.map_append]; rfl
   rintro σ H3 ⟨c0',rfl,S3',hE⟩
   rw [List.length_map,List.take_length] at hE
   have S3:=S2.trans S3'
   have fD2H:H D2=none:=S2.none fD2
   have nEp:D2≠p:=hp.ne fD2H
   have mfr:∀ n∈(ns.drop 6).filter fun n=>decide (n∉D.ss.map (·.2.1)),n∈ns.drop 6∧n∉D.ss.map (·.2.1):=fun n m=>by
     obtain ⟨m1,m2⟩:=List.mem_filter.mp m
     exact ⟨m1,by simpa using m2⟩
   have lfr:((ns.drop 6).filter fun n=>decide (n∉D.ss.map (·.2.1))).length≤14:=by
     have h1:=List.length_filter_le (fun n=>decide (n∉D.ss.map (·.2.1))) (ns.drop 6)
     rw [List.length_drop,S.pu.ln] at h1
     omega
   generalize (ns.drop 6).filter (fun n=>decide (n∉D.ss.map (·.2.1)))=fr at hE mfr lfr
   clear S1 S2' hD hD2 e2 S3' S2 fl fD
   try unfold qX
   try dsimp only
   refine ⟨_,rfl,qo (Nat.le_of_ble_eq_true rfl),fun n0 fn0=>?_⟩
   generalize hG:upd H3 n0 _=H4
   obtain ⟨S4',e4⟩:=qO hG fn0
   clear hG
   have S4:=S3.trans S4'
   have hE4:=S4' _ _ hE
   have p4:=PenAt.sm hp S4
   have Sd4:=S.sm S4
   refine ⟨D2,n0,_,rfl,rfl,SqL.of hE4,SqL.of e4,_,rfl,qhd (fun g=>?_) (fun g=>?_)⟩
   · exact kk _ (.skip S hp np (fun b o e _=>S4 b o e) p4)
   have l0:0 < fr.length:=by
     cases hf:fr with
     | nil=>rw [hf] at g; cases g
     | cons _ _=>simp
   have lF:(fr.map V.str).length=fr.length:=List.length_map _
   clear g e4 fn0 S4' S3 hE
   try unfold qX
   try dsimp only
   refine ⟨_,rfl,_,rfl,_,rfl,_,rfl,_,_,rfl,.inl ⟨_,SqL.of hE4,rfl⟩,p,_,rfl,p4,(by omega),(by omega),fun d H5 d0 d1 B5 p5=>?_⟩
   obtain ⟨j,rfl⟩:=Int.eq_ofNat_of_zero_le d0
   have hj:j < fr.length:=by omega
   refine .inl ⟨D2,_,_,_,rfl,rfl,SqL.of (B5 _ _ hE4 nEp),QA (by rw [List.getElem?_map,List.getElem?_eq_getElem hj]; rfl),?_⟩
   obtain ⟨mn,nt⟩:=mfr _ (List.getElem_mem hj)
   generalize fr[j]'hj=nm at mn nt ⊢
   have Sd5:=Sd4.bp p4 np B5
   have BB5:But p H H5:=fun b o e n=>B5 b o (S4 b o e) n
   clear Sd4 S4 hE4 p4 B5
   refine ⟨_,rfl,f.kd,_,rfl,Sd5.k4.g1,f.ktd,_,rfl,.inl Sd5.k4.ht,fun l2 fl2=>?_⟩
   have ekv':((dkv D.ps).map fun p=>kV p.1)=(D.ps.map (·.1)).map V.str:=by
     unfold dkv
     rw [List.map_map,List.map_map]; rfl
   rw [ekv']
   generalize hG:upd H5 l2 _=H6
   obtain ⟨S6,e6⟩:=qO hG fl2
   clear hG
   have Sd6:=Sd5.sm S6
   have p6:=PenAt.sm p5 S6
   have kt:=qa0 S.pu.et
   have td6:Td H6 f.ktd D.ps:=⟨.inl Sd6.k4.ht,⟨Sd6.k4.rs,Sd6.k4.gd,fun y m=>?_,by rw [← kt]; exact S.lg.ndt,hps,S.pu.fewp S.lg.ndt⟩⟩
   case refine_1 =>
     exact nq.nms.nm _ (List.mem_of_mem_take (S.pu.pn _ (List.mem_map_of_mem (f:=fun x:Str×Addr×List (Int×Int)=>x.1) m)))
   refine ⟨_,rfl,f.kd,_,rfl,Sd6.k4.g1,p,l2,f.ktd,nm,D.ps,rfl,p6,nq.nms.nm _ (List.mem_of_mem_drop mn),e6,td6,fun s wd pl lo hi H7 fs B7 p7 hs7 spc hpl=>?_⟩
   have Sd7:=Sd6.bp p6 np B7
   have BB7:But p H H7:=fun b o e n=>B7 b o (S6 b o (BB5 b o e n)) n
   clear Sd5 Sd6 p5 p6 B7 S6 e6 td6 BB5 fl2
   try unfold qX
   try dsimp only
   refine ⟨_,rfl,f.x,f.dx,_,rfl,Sd7.lg.hx,rfl,_,rfl,s,wd,nm,pl,lo,hi,rfl,hs7,spc,fun e H8 S8 en=>?_⟩
   have Sd8:=Sd7.sm S8
   have p8:=PenAt.sm p7 S8
   have hs8:=S8 _ _ hs7
   have lge:D.es.length < 60:=by
     have h1:=congrArg List.length S.pu.ee
     rw [List.length_map] at h1
     omega
   refine ⟨f.x,f.dx,f.td,f.ed,f.bl,D.ts,D.es,D.bs,⟨nm,wd,pl,lo,hi,e⟩,rfl,Sd8.lg,en,spc,(by rw [S.pu.enn]; exact nt),(by rw [kt]; exact hpl),lge,fun H9 B9 L9=>?_⟩
   have i9:=But.one B9 (.d Sd8.lg.he)
   have K9:=Sd8.k4.im i9 fun b m o e=>B9 b o e (kin S.nd m (by simp))
   have p9:PenAt H9 p:=PenAt.bt p8 fun o e=>B9 _ _ e (fun z=>np (by rw [z]; simp [Fp.mu]))
   have hs9:=i9.tup _ _ hs8
   obtain ⟨zs9,hz9,tz9⟩:=K9.hs
   have l9:zs9.length=D.ss.length:=tz9.1
   refine ⟨_,rfl,f.kd,_,rfl,K9.g2,.inl ⟨rfl,_,SqL.of hz9⟩,_,rfl,f.ksl,_,_,rfl,rfl,hz9,qx (by omega),?_⟩
   have BF:But f.ksl H9 (upd H9 f.ksl (.lst (zs9++[.ref s]))):=fun b o e n=>by rw [qh n]; exact e
   have ek:(upd H9 f.ksl (.lst (zs9++[.ref s]))) f.ksl=some (.lst (zs9++[.ref s])):=qc
   generalize upd H9 f.ksl (.lst (zs9++[.ref s]))=Hf at BF ek ⊢
   have iF:=But.one BF (qfS hz9 tz9)
   obtain ⟨zb,hb,tb⟩:=K9.hb
   refine kk Hf ⟨f,{ D with es:=D.es++[⟨nm,wd,pl,lo,hi,e⟩],ss:=D.ss++[(wd,nm,pl,lo,hi)] },rfl,rfl,fun _ m=>.inl m,fun b o e m=>?_,PenAt.bt p9 fun o e=>BF _ _ e (fun z=>np (by rw [z]; simp [Fp.mu])),⟨L9.im iF fun b m o e=>BF b o e (fun z=>kin S.nd (b:=f.ksl) (by simp) m z.symm),⟨BF _ _ K9.hd (jq S.nd (i:=4) (j:=6) rfl rfl (by decide)),BF _ _ K9.ht (jq S.nd (i:=5) (j:=6) rfl rfl (by decide)),⟨_,ek,TupL.im (tz9.snoc (p:=(wd,nm,pl,lo,hi)) hs9) iF⟩,⟨zb,BF _ _ hb (jq S.nd (i:=7) (j:=6) rfl rfl (by decide)),TupL.im tb iF⟩,BF _ _ K9.hg (jq S.nd (i:=8) (j:=6) rfl rfl (by decide)),fun y m=>(K9.rs y m).im (qS (K9.gd y m)) iF,K9.gd⟩,⟨S.pu.et,?_,S.pu.pn,fun n m=>?_,fun b mb=>?_,S.pu.fb,S.pu.ln⟩,S.nd⟩,Nat.le_succ _⟩
   · have mm:=List.not_mem_of_not_mem_cons m
     have h1:b≠p:=fun z=>m (z▸List.mem_cons_self)
     exact BF b o (B9 b o (S8 b o (BB7 b o e h1)) (fun z=>mm (by rw [z]; simp [Fp.mu]))) (fun z=>mm (by rw [z]; simp [Fp.mu]))
   · show (D.es++[_]).map eS=D.ss++[_]
     rw [List.map_append,S.pu.ee]; rfl
   · have m':n∈(D.ss++[(wd,nm,pl,lo,hi)]).map (·.2.1):=m
     rw [List.map_append] at m'
     rcases List.mem_append.mp m' with m' | m'
     · exact S.pu.sn n m'
     · rw [List.mem_singleton.mp m']; exact mn
   · have h1:=S.pu.bn b mb
     have h2:(D.ss++[(wd,nm,pl,lo,hi)]).map (·.2.1)=D.ss.map (·.2.1)++[nm]:=by rw [List.map_append]; rfl
     show b.1∈(D.ss++[(wd,nm,pl,lo,hi)]).map (·.2.1)∧b.2.1∈(D.ss++[(wd,nm,pl,lo,hi)]).map (·.2.1)
     rw [h2]
     exact ⟨List.mem_append_left _ h1.1,List.mem_append_left _ h1.2⟩
end
end K37
namespace K37
open PySem L2 PySem.NumText PyProof.Rows KC M04
section
variable {P:Program} {w:World} {K:PySem.W.Frag} {mg:Str->Option Value} {base:Heap}
end
theorem qiA {H:Hp} {a b:Addr} {zs:List V} {bs:List (Str×Str×Int)} {Q:VK} (ok:∀ b∈bs,PyData.strOk b.1=true∧PyData.strOk b.2.1=true) (h1:H a=some (.lst zs)) (t1:TupL prB H zs bs) (h2:H b=some (.lst [])) (q:Q (.bl (!bs.isEmpty)) H):qjT (.ref a) (.ref b) H Q:=by
 obtain ⟨l1,l2⟩:=qkk bs ok
 have cl:PyData.canLay0 (.list (bs.map dB))=true:=by simp only [PyData.canLay0,l1]
 refine .inr ⟨_,_,.lst (.inl h1) (qjV t1),.lst (.inl h2) .nil,shp cl (by simp only [PyData.depth]; omega),rfl,?_⟩
 cases bs with
 | nil=>exact q
 | cons w ws=>exact q
theorem qft {ts:Pls} {pl:Str} {t:Addr} {rows:List (Int×Int)}:(pl,t,rows)∈jI ts pl t rows:=by
 unfold jI
 split
 · rename_i c
   obtain ⟨y,my,ey⟩:=List.mem_map.mp c
   refine List.mem_map.mpr ⟨y,my,?_⟩
   rw [if_pos ey]
 · exact List.mem_append_right _ (List.mem_singleton.mpr rfl)
theorem Nx.of {a:Ad} {ns:List Str} {p:Addr} {H H1 H':Hp} {f:Fp} {D:Dt} (b:But p H H1) (hp:PenAt H1 p) (n:Nx a ns p H1 f D H'):Nx a ns p H f D H':=by
 obtain ⟨f',D',e1,e2,fr,B,pn,S,g⟩:=n
 refine ⟨f',D',e1,e2,fun c m=>?_,fun c o e m=>B c o (b c o e (fun z=>m (z▸List.mem_cons_self))) m,pn,S,g⟩
 rcases fr c m with h | h
 · exact .inl h
 · refine .inr ?_
   cases hc:H c with
   | none=>rfl
   | some o =>
     by_cases z:c=p
     · obtain ⟨_,_,_,_,e⟩:=hp
       rw [z,e] at h; cases h
     · rw [b c o hc z] at h; cases h
inductive qbp (a:Ad) (vs:List V) (H:Hp) (Q:VK):Prop
 | mk (p q:Addr) (f:Fp) (D:Dt) (ns:List Str) (h1:vs=[.ref f.x,.ref f.kd,.ref p,.ref q]) (h2:Sd a ns H f D) (h3:PenAt H p) (h4:p∉f.mu) (h5:Nq H f p q ns) (h6:D.gn.length≤900) (h7:∀ H',Nx a ns p H f D H'->Q .non H'):qbp a vs H Q
def qd7 (a:Ad):Sp:=fun vs H Q _=>qbp a vs H Q
section
variable {P:Program} {w:World} {K:PySem.W.Frag} {mg:Str->Option Value} {base:Heap}
theorem qg4 {a:Ad} (T:Txt K mg a):qA P w K mg base CX0 11 a.f_3 a.fd_3 ["_law_log","_law_kept","_law_state","_law_names_here"] (qd7 a):=by
 have G_a:qA P w K mg base CX0 2 a.f_a a.fd_a ["_law_state","_law_many"] Qg:=QB T
 have G_T:qA P w K mg base CX0 4 a.f_T a.fd_T ["_law_state"] qd3:=qg0 T
 have G_6:qA P w K mg base CX0 2 a.f_6 a.fd_6 ["self","place","table"] (JX a):=qcY T
 have G_ad:qA P w K mg base CX0 6 a.f_ad a.fd_ad ["self","rows"] (j9 a):=qb9 T
 have G_2:qA P w K mg base CX0 10 a.f_2 a.fd_2 ["_law_log","_law_kept","_law_state","_law_names_here"] (qfe a):=qiv T
 have G_0:qA P w K mg base CX0 7 a.f_0 a.fd_0 ["_law_log","_law_kept","_law_state"] (qcE a):=qfK T
 have G_8:qA P w K mg base CX0 4 a.f_8 a.fd_8 ["self","number"] (Ja a):=qca T
 have G_1:qA P w K mg base CX0 7 a.f_1 a.fd_1 ["_law_log","_law_kept","_law_state"] (qaA a):=qdA T
 refine T.d_3.F.ok sc_Ldone (fun vs H Q E h=>?_) (fun cdv A outer s H vs Q E hr h=>?_)
 · obtain ⟨p,q,f,D,ns,rfl,S,hp,np,nq,gl,kk⟩:=h
   rfl
 · obtain ⟨p,q,f,D,ns,rfl,S,hp,np,nq,gl,kk⟩:=h
   have hu:=qJ hr
   have hU:=hr.units
   have h_a:Room (2) _:=hr.mono (by decide)
   have h_T:Room (4) _:=hr.mono (by decide)
   have h_6:Room (2) _:=hr.mono (by decide)
   have h_ad:Room (6+1) _:=hr.mono (by decide)
   have h_2:Room (10) _:=hr.mono (by decide)
   have h_0:Room (7) _:=hr.mono (by decide)
   have h_8:Room (4) _:=hr.mono (by decide)
   have h_1:Room (7) _:=hr.mono (by decide)
   refine ⟨_,(qf (qH (i:=4) sc_Ldone.nd rfl (Or.inl rfl) (qj G_a h_a rfl T.d_a.m T.d_a.k T.d_a.b .nil qq (qa (pv 2) (qa qe qb))))
     (qg (qR (PW.pt (qaJ (qu (uEq hU) (pv 4) qe (qG _)) (jH (qu (qiu hU) (qL hu (pv 1) qz (fun _ _=>rfl)) qap (qG _)))))
       (qf (qH (i:=5) sc_Ldone.nd rfl (Or.inl rfl) (qC (r:=rIx K) qr (pv 3) (qj G_a h_a rfl T.d_a.m T.d_a.k T.d_a.b .nil qq (qa (pv 2) (qa qe qb))) (fun _ _=>rfl)))
       (qf (qb0 hu (qL hu (pv 1) qz (fun _ _=>rfl)) (pv 5) (qj G_T h_T rfl T.d_T.m T.d_T.k T.d_T.b .nil qq (qa (pv 2) qb)) rfl)
       (qg (qF (q9 (pv 0) T.cl_Log T.d_6.mt G_6 h_6 T.d_6.b .nil qq (qa (pv 5) (qa (JK T.M_Table G_ad h_ad rfl T.g_Table T.d_ad.b .nil qq (qa (qY (r:=qio K) zN (by rfl) T.n_list zf (qa (qL hu (qL hu (pv 1) qz (fun _ _=>rfl)) (pv 5) (fun _ _=>rfl)) qb)) qb)) qb)))))))
       (qg (qR (qu qgV (pv 4) qe (qG _))
         (qg (qF (qj G_2 h_2 rfl T.d_2.m T.d_2.k T.d_2.b .nil qq (qa (pv 0) (qa (pv 1) (qa (pv 2) (qa (pv 3) qb)))))))
         (qg (qR (qu qgV (pv 4) qe (qG _))
           (qg (qF (qj G_0 h_0 rfl T.d_0.m T.d_0.k T.d_0.b .nil qq (qa (pv 0) (qa (pv 1) (qa (pv 2) qb))))))
           (qg (qR (PW.pt (J1 (qu qgV (pv 4) qe (qG _)) (jS (qu (uNe hU) (qL hu (pv 1) qz (fun _ _=>rfl)) (qQ qb) (qG _)))))
             (qf (qH (i:=6) sc_Ldone.nd rfl (Or.inl rfl) (qj G_a h_a rfl T.d_a.m T.d_a.k T.d_a.b .nil qq (qa (pv 2) (qa (qp qU (by rfl) T.n_len qK (qa (qL hu (pv 1) qz (fun _ _=>rfl)) qb)) qb))))
             (qf (qF (q9 (pv 0) T.cl_Log T.d_8.mt G_8 h_8 T.d_8.b .nil qq (qa (pv 6) qb)))
             (qg (qF (Jk PySem.F.plainAttrs_list PySem.F.slot_list_pop PySem.F.type_list_pop qcf (qL hu (pv 1) qz (fun _ _=>rfl)) (qa (pv 6) qb))))))
             (qg (qF (qj G_1 h_1 rfl T.d_1.m T.d_1.k T.d_1.b .nil qq (qa (pv 0) (qa (pv 1) (qa (pv 2) qb))))))))))))))),?_⟩
   try dsimp only [zv,Cx.nox]
   refine ⟨_,rfl,p,_,rfl,hp,by decide,by decide,fun w H1 w0 w1 B1 p1=>?_⟩
   have S1:=S.bp hp np B1
   have hq1:=B1 _ _ nq.hq nq.n2
   try unfold qX
   try dsimp only
   refine ⟨_,rfl,.inl ⟨rfl,_,rfl,qhd (fun g=>Jr rfl ?_) (fun g=>?_)⟩⟩
   · refine ⟨_,rfl,_,rfl,p,_,rfl,p1,by decide,by decide,fun d H3 d0 d1 B3 p3=>?_⟩
     obtain ⟨j,rfl⟩:=Int.eq_ofNat_of_zero_le d0
     have hj:j < ns.length:=by rw [S.pu.ln]; omega
     refine .inl ⟨q,_,_,_,rfl,rfl,SqL.of (B3 _ _ hq1 nq.n2),QA (by rw [List.getElem?_map,List.getElem?_eq_getElem hj]; rfl),?_⟩
     have mpl:ns[j]'hj∈ns.take 6:=List.mem_of_getElem? (i:=j) (by rw [List.getElem?_take_of_lt (by omega)]; exact List.getElem?_eq_getElem hj)
     generalize ns[j]'hj=pl at mpl ⊢
     have okp:=nq.nms.nm pl (List.mem_of_mem_take mpl)
     have S3:=S1.bp p1 np B3
     try unfold qX
     try dsimp only
     refine ⟨_,rfl,p,rfl,p3,fun rq rows H4 frq B4 p4 R4 good=>?_⟩
     have S4:=S3.bp p3 np B4
     have BB4:But p H H4:=fun b o e n=>B4 b o (B3 b o (B1 b o e n) n) n
     have fewp:=S.pu.fewp S.lg.ndt
     refine ⟨_,rfl,f.kd,_,rfl,S4.k4.g1,_,rfl,f.ktd,_,rfl,DPut.k (k:=.inr pl) S4.k4.ht (qx (by unfold dkv; rw [List.length_map]; omega)),?_⟩
     rw [qdO (rows:=rows)]
     have BT:But f.ktd H4 (upd H4 f.ktd (.dK (dkv (jI D.ps pl rq rows)))):=fun b o e n=>by rw [qh n]; exact e
     have ek:(upd H4 f.ktd (.dK (dkv (jI D.ps pl rq rows)))) f.ktd=some (.dK (dkv (jI D.ps pl rq rows))):=qc
     generalize upd H4 f.ktd (.dK (dkv (jI D.ps pl rq rows)))=H5 at BT ek ⊢
     have i5:=But.one BT (.d S4.k4.ht)
     have L5:=S4.lg.im i5 fun b m o e=>BT b o e (fun z=>kin S.nd (b:=f.ktd) (by simp) m z.symm)
     obtain ⟨zs,hs,tz⟩:=S4.k4.hs
     obtain ⟨zb,hb,tb⟩:=S4.k4.hb
     have K5:K4 H5 f.kd f.ktd f.ksl f.kbl f.kgl (jI D.ps pl rq rows) D.ss D.bs D.gn:=⟨BT _ _ S4.k4.hd (jq S.nd (i:=4) (j:=5) rfl rfl (by decide)),ek,⟨zs,BT _ _ hs (jq S.nd (i:=6) (j:=5) rfl rfl (by decide)),TupL.im tz i5⟩,⟨zb,BT _ _ hb (jq S.nd (i:=7) (j:=5) rfl rfl (by decide)),TupL.im tb i5⟩,BT _ _ S4.k4.hg (jq S.nd (i:=8) (j:=5) rfl rfl (by decide)),fun y m=>by
         rcases ZE m with m | e
         · exact (S4.k4.rs y m).im (qS (S4.k4.gd y m)) i5
         · subst e; exact R4.im (qS good) i5,fun y m=>by
         rcases ZE m with m | e
         · exact S4.k4.gd y m
         · subst e; exact good⟩
     have kt:=qa0 S.pu.et
     have ndq:((jI D.ps pl rq rows).map (·.1)).Nodup:=qdx (by rw [← kt]; exact S.lg.ndt)
     have dgp:qbf H5 f.ktd (.str pl) (some (.ref rq)):=.inl ⟨_,.inr pl,.inl K5.ht,rfl,(qbg ndq _ qft).symm⟩
     obtain ⟨zr,hrq,tr⟩:=R4.im (qS good) i5
     have p5:PenAt H5 p:=PenAt.bt p4 fun o e=>BT _ _ e (fun z=>np (by rw [z]; simp [Fp.mu]))
     clear S3 S4 B3 B4 hs tz hb tb R4 p3 p4 ek
     try unfold qX
     try dsimp only
     refine ⟨_,rfl,f.x,f.dx,_,rfl,L5.hx,rfl,_,rfl,_,rfl,f.kd,_,rfl,K5.g1,_,rfl,f.ktd,_,rfl,dgp,rq,zr,rfl,.inl (SqL.of hrq),fun lr fl t dt f1 f2 ne=>?_⟩
     have Sl:=Same.new (.lst zr) fl
     have Sm:=zL (C:=a.c_Table) f1 f2 (But.refl _ _)
     refine ⟨t,dt,lr,rows,rfl,qc,Rs.same ⟨zr,qc,tr.same Sl⟩ Sm,good,fun G B tbl=>⟨rfl,?_⟩⟩
     have SG:=Sl.trans (zL f1 f2 B)
     have fewt:=S.pu.fewt S.lg.ndt
     refine ⟨f.x,f.dx,f.td,f.ed,f.bl,D.ts,D.es,D.bs,pl,t,rows,rfl,L5.sm SG,okp,fun no=>?_,fewt,tbl,good,fun H9 B9 L9=>?_⟩
     · have:=qar (l:=pl::D.ts.map (·.1)) (m:=ns.take 6) (List.nodup_cons.mpr ⟨no,S.lg.ndt⟩) fun n m=>by
         rcases List.mem_cons.mp m with h | h
         · rw [h]; exact mpl
         · exact S.pu.pn n (by rw [← kt]; exact h)
       rw [List.length_cons,List.length_map,List.length_take] at this
       omega
     have LG:=L5.sm SG
     have KG:=K5.sm SG
     have i9:=But.one B9 (.d LG.ht)
     have K9:=KG.im i9 fun b m o e=>B9 b o e (kin S.nd m (by simp))
     refine kk H9 ⟨f,{ D with ts:=jI D.ts pl t rows,ps:=jI D.ps pl rq rows },rfl,rfl,fun _ m=>.inl m,fun b o e m=>?_,PenAt.bt (PenAt.sm p5 SG) fun o e=>B9 _ _ e (fun z=>np (by rw [z]; simp [Fp.mu])),⟨L9,K9,⟨qfs S.pu.et pl t rq rows,S.pu.ee,fun n m=>?_,S.pu.sn,S.pu.bn,S.pu.fb,S.pu.ln⟩,S.nd⟩,Nat.le_succ _⟩
     · have mm:=List.not_mem_of_not_mem_cons m
       have h1:b≠p:=fun z=>m (z▸List.mem_cons_self)
       exact B9 b o (SG b o (BT b o (BB4 b o e h1) (fun z=>mm (by rw [z]; simp [Fp.mu])))) (fun z=>mm (by rw [z]; simp [Fp.mu]))
     · have m':n∈(jI D.ps pl rq rows).map (·.1):=m
       rw [Jh] at m'
       split at m'
       · exact S.pu.pn n m'
       · rcases List.mem_append.mp m' with m' | m'
         · exact S.pu.pn n m'
         · rw [List.mem_singleton.mp m']; exact mpl
   refine ⟨_,rfl,f.kd,_,rfl,S1.k4.g1,fun n0 fn0=>?_⟩
   generalize hG:upd H1 n0 _=H2
   obtain ⟨SS2,e2⟩:=qO hG fn0
   clear hG
   have S2:=S1.sm SS2
   have p2:=PenAt.sm p1 SS2
   have B2:But p H H2:=B1.same SS2
   have hq2:=SS2 _ _ hq1
   have nq2:Nq H2 f p q ns:=⟨hq2,nq.nms,nq.n1,nq.n2⟩
   clear S1 p1 B1 hq1
   refine ⟨f.ktd,n0,_,rfl,rfl,.inl S2.k4.ht,e2,_,rfl,qhd (fun g2=>?_) (fun g2=>?_)⟩
   · refine ⟨_,rfl,_,rfl,p,_,rfl,p2,by decide,by decide,fun d H3 d0 d1 B3 p3=>?_⟩
     obtain ⟨j,rfl⟩:=Int.eq_ofNat_of_zero_le d0
     have hj:j < ns.length:=by rw [S.pu.ln]; omega
     refine .inl ⟨q,_,_,_,rfl,rfl,SqL.of (B3 _ _ hq2 nq.n2),QA (by rw [List.getElem?_map,List.getElem?_eq_getElem hj]; rfl),?_⟩
     have mpl:ns[j]'hj∈ns.take 6:=List.mem_of_getElem? (i:=j) (by rw [List.getElem?_take_of_lt (by omega)]; exact List.getElem?_eq_getElem hj)
     generalize ns[j]'hj=pl at mpl ⊢
     have okp:=nq.nms.nm pl (List.mem_of_mem_take mpl)
     have S3:=S2.bp p2 np B3
     try unfold qX
     try dsimp only
     refine ⟨_,rfl,p,rfl,p3,fun rq rows H4 frq B4 p4 R4 good=>?_⟩
     have S4:=S3.bp p3 np B4
     have BB4:But p H H4:=fun b o e n=>B4 b o (B3 b o (B2 b o e n) n) n
     have fewp:=S.pu.fewp S.lg.ndt
     refine ⟨_,rfl,f.kd,_,rfl,S4.k4.g1,_,rfl,f.ktd,_,rfl,DPut.k (k:=.inr pl) S4.k4.ht (qx (by unfold dkv; rw [List.length_map]; omega)),?_⟩
     rw [qdO (rows:=rows)]
     have BT:But f.ktd H4 (upd H4 f.ktd (.dK (dkv (jI D.ps pl rq rows)))):=fun b o e n=>by rw [qh n]; exact e
     have ek:(upd H4 f.ktd (.dK (dkv (jI D.ps pl rq rows)))) f.ktd=some (.dK (dkv (jI D.ps pl rq rows))):=qc
     generalize upd H4 f.ktd (.dK (dkv (jI D.ps pl rq rows)))=H5 at BT ek ⊢
     have i5:=But.one BT (.d S4.k4.ht)
     have L5:=S4.lg.im i5 fun b m o e=>BT b o e (fun z=>kin S.nd (b:=f.ktd) (by simp) m z.symm)
     obtain ⟨zs,hs,tz⟩:=S4.k4.hs
     obtain ⟨zb,hb,tb⟩:=S4.k4.hb
     have K5:K4 H5 f.kd f.ktd f.ksl f.kbl f.kgl (jI D.ps pl rq rows) D.ss D.bs D.gn:=⟨BT _ _ S4.k4.hd (jq S.nd (i:=4) (j:=5) rfl rfl (by decide)),ek,⟨zs,BT _ _ hs (jq S.nd (i:=6) (j:=5) rfl rfl (by decide)),TupL.im tz i5⟩,⟨zb,BT _ _ hb (jq S.nd (i:=7) (j:=5) rfl rfl (by decide)),TupL.im tb i5⟩,BT _ _ S4.k4.hg (jq S.nd (i:=8) (j:=5) rfl rfl (by decide)),fun y m=>by
         rcases ZE m with m | e
         · exact (S4.k4.rs y m).im (qS (S4.k4.gd y m)) i5
         · subst e; exact R4.im (qS good) i5,fun y m=>by
         rcases ZE m with m | e
         · exact S4.k4.gd y m
         · subst e; exact good⟩
     have kt:=qa0 S.pu.et
     have ndq:((jI D.ps pl rq rows).map (·.1)).Nodup:=qdx (by rw [← kt]; exact S.lg.ndt)
     have dgp:qbf H5 f.ktd (.str pl) (some (.ref rq)):=.inl ⟨_,.inr pl,.inl K5.ht,rfl,(qbg ndq _ qft).symm⟩
     obtain ⟨zr,hrq,tr⟩:=R4.im (qS good) i5
     have p5:PenAt H5 p:=PenAt.bt p4 fun o e=>BT _ _ e (fun z=>np (by rw [z]; simp [Fp.mu]))
     clear S3 S4 B3 B4 hs tz hb tb R4 p3 p4 ek
     try unfold qX
     try dsimp only
     refine ⟨_,rfl,f.x,f.dx,_,rfl,L5.hx,rfl,_,rfl,_,rfl,f.kd,_,rfl,K5.g1,_,rfl,f.ktd,_,rfl,dgp,rq,zr,rfl,.inl (SqL.of hrq),fun lr fl t dt f1 f2 ne=>?_⟩
     have Sl:=Same.new (.lst zr) fl
     have Sm:=zL (C:=a.c_Table) f1 f2 (But.refl _ _)
     refine ⟨t,dt,lr,rows,rfl,qc,Rs.same ⟨zr,qc,tr.same Sl⟩ Sm,good,fun G B tbl=>⟨rfl,?_⟩⟩
     have SG:=Sl.trans (zL f1 f2 B)
     have fewt:=S.pu.fewt S.lg.ndt
     refine ⟨f.x,f.dx,f.td,f.ed,f.bl,D.ts,D.es,D.bs,pl,t,rows,rfl,L5.sm SG,okp,fun no=>?_,fewt,tbl,good,fun H9 B9 L9=>?_⟩
     · have:=qar (l:=pl::D.ts.map (·.1)) (m:=ns.take 6) (List.nodup_cons.mpr ⟨no,S.lg.ndt⟩) fun n m=>by
         rcases List.mem_cons.mp m with h | h
         · rw [h]; exact mpl
         · exact S.pu.pn n (by rw [← kt]; exact h)
       rw [List.length_cons,List.length_map,List.length_take] at this
       omega
     have LG:=L5.sm SG
     have KG:=K5.sm SG
     have i9:=But.one B9 (.d LG.ht)
     have K9:=KG.im i9 fun b m o e=>B9 b o e (kin S.nd m (by simp))
     refine kk H9 ⟨f,{ D with ts:=jI D.ts pl t rows,ps:=jI D.ps pl rq rows },rfl,rfl,fun _ m=>.inl m,fun b o e m=>?_,PenAt.bt (PenAt.sm p5 SG) fun o e=>B9 _ _ e (fun z=>np (by rw [z]; simp [Fp.mu])),⟨L9,K9,⟨qfs S.pu.et pl t rq rows,S.pu.ee,fun n m=>?_,S.pu.sn,S.pu.bn,S.pu.fb,S.pu.ln⟩,S.nd⟩,Nat.le_succ _⟩
     · have mm:=List.not_mem_of_not_mem_cons m
       have h1:b≠p:=fun z=>m (z▸List.mem_cons_self)
       exact B9 b o (SG b o (BT b o (BB4 b o e h1) (fun z=>mm (by rw [z]; simp [Fp.mu])))) (fun z=>mm (by rw [z]; simp [Fp.mu]))
     · have m':n∈(jI D.ps pl rq rows).map (·.1):=m
       rw [Jh] at m'
       split at m'
       · exact S.pu.pn n m'
       · rcases List.mem_append.mp m' with m' | m'
         · exact S.pu.pn n m'
         · rw [List.mem_singleton.mp m']; exact mpl
   have hps:0 < D.ps.length:=by
     cases hd:D.ps with
     | nil=>rw [hd] at g2; cases g2
     | cons _ _=>simp
   refine ⟨_,rfl,_,_,rfl,rfl,_,rfl,Zf (fun g3=>?_) (fun g3=>?_)⟩
   · exact ⟨_,rfl,_,rfl,_,rfl,_,rfl,p,q,f,D,ns,rfl,S2,p2,np,nq2,hps,fun H' n=>kk H' (.of B2 p2 n)⟩
   refine ⟨_,rfl,_,_,rfl,rfl,_,rfl,Zf (fun g4=>?_) (fun g4=>?_)⟩
   · exact ⟨_,rfl,_,rfl,_,rfl,p,f,D,ns,rfl,S2,p2,np,gl,fun H' n=>kk H' (.of B2 p2 n)⟩
   have nok:∀ b∈D.bs,PyData.strOk b.1=true∧PyData.strOk b.2.1=true:=fun b m=>⟨Ze (nq.nms.nm _ (List.mem_of_mem_drop (S.pu.sn _ (S.pu.bn b m).1))),Ze (nq.nms.nm _ (List.mem_of_mem_drop (S.pu.sn _ (S.pu.bn b m).2)))⟩
   refine ⟨_,rfl,_,_,rfl,rfl,_,rfl,Zf (fun g5=>?_) (fun g5=>zj rfl ?_)⟩
   case refine_2=>exact ⟨_,rfl,_,rfl,_,rfl,p,f,D,ns,rfl,S2,p2,np,gl,fun H' n=>kk H' (.of B2 p2 n)⟩
   obtain ⟨zb,hb,tb⟩:=S2.k4.hb
   refine ⟨_,rfl,f.kd,_,rfl,S2.k4.g3,qo (Nat.le_of_ble_eq_true rfl),fun n1 fn1=>?_⟩
   generalize hG:upd H2 n1 _=H3
   obtain ⟨SS3,e3⟩:=qO hG fn1
   clear hG
   have S3:=S2.sm SS3
   have p3:=PenAt.sm p2 SS3
   have B3:But p H H3:=B2.same SS3
   refine qiA nok (SS3 _ _ hb) (tb.same SS3) e3 ⟨_,rfl,qhd (fun g6=>?_) (fun g6=>?_)⟩
   case refine_2=>exact ⟨_,rfl,_,rfl,_,rfl,p,f,D,ns,rfl,S3,p3,np,gl,fun H' n=>kk H' (.of B3 p3 n)⟩
   have lzb:zb.length=D.bs.length:=tb.1
   have l0:0 < D.bs.length:=by
     cases hd:D.bs with
     | nil=>rw [hd] at g6; cases g6
     | cons _ _=>simp
   have fb:=S.pu.fb
   refine ⟨_,rfl,_,rfl,f.kd,_,rfl,S3.k4.g3,_,_,rfl,.inl ⟨_,SqL.of (SS3 _ _ hb),rfl⟩,p,_,rfl,p3,(by omega),(by omega),fun d H4 d0 d1 B4 p4=>?_⟩
   obtain ⟨j,rfl⟩:=Int.eq_ofNat_of_zero_le d0
   have hj:j < D.bs.length:=by omega
   have S4:=S3.bp p3 np B4
   have BB4:But p H H4:=B3.trans B4
   try unfold qX
   try dsimp only
   refine ⟨_,rfl,f.x,f.dx,_,rfl,S4.lg.hx,rfl,_,rfl,f.x,f.dx,f.td,f.ed,f.bl,D.ts,D.es,D.bs,j,rfl,S4.lg,hj,fb,fun H5 B5 L5=>?_⟩
   have i5:=But.one B5 (S4.mu f.bl (by simp [Fp.mu]))
   have K5:=S4.k4.im i5 fun b m o e=>B5 b o e (kin S.nd m (by simp))
   have p5:PenAt H5 p:=PenAt.bt p4 fun o e=>B5 _ _ e (fun z=>np (by rw [z]; simp [Fp.mu]))
   obtain ⟨zc,hc,tc⟩:=K5.hb
   have lzc:zc.length=D.bs.length:=tc.1
   refine ⟨_,rfl,f.kd,_,rfl,K5.g3,.inl ⟨rfl,_,SqL.of hc⟩,_,rfl,f.kbl,zc,_,j,zc[j]'(by omega),rfl,rfl,hc,(by omega),(by omega),(qa1 (qdJ (by omega))).1,List.getElem?_eq_getElem (by omega),?_⟩
   have BF:But f.kbl H5 (upd H5 f.kbl (.lst (zc.eraseIdx j))):=fun b o e n=>by rw [qh n]; exact e
   have ek:(upd H5 f.kbl (.lst (zc.eraseIdx j))) f.kbl=some (.lst (zc.eraseIdx j)):=qc
   generalize upd H5 f.kbl (.lst (zc.eraseIdx j))=Hf at BF ek ⊢
   have iF:=But.one BF (qek hc tc)
   obtain ⟨zs2,hs2,tz2⟩:=K5.hs
   refine kk Hf ⟨f,{ D with bs:=D.bs.eraseIdx j },rfl,rfl,fun _ m=>.inl m,fun b o e m=>?_,PenAt.bt p5 fun o e=>BF _ _ e (fun z=>np (by rw [z]; simp [Fp.mu])),⟨L5.im iF fun b m o e=>BF b o e (fun z=>kin S.nd (b:=f.kbl) (by simp) m z.symm),⟨BF _ _ K5.hd (jq S.nd (i:=4) (j:=7) rfl rfl (by decide)),BF _ _ K5.ht (jq S.nd (i:=5) (j:=7) rfl rfl (by decide)),⟨zs2,BF _ _ hs2 (jq S.nd (i:=6) (j:=7) rfl rfl (by decide)),TupL.im tz2 iF⟩,⟨_,ek,TupL.im (TupL.er tc j) iF⟩,BF _ _ K5.hg (jq S.nd (i:=8) (j:=7) rfl rfl (by decide)),fun y m=>(K5.rs y m).im (qS (K5.gd y m)) iF,K5.gd⟩,⟨S.pu.et,S.pu.ee,S.pu.pn,S.pu.sn,fun b mb=>S.pu.bn b (List.mem_of_mem_eraseIdx mb),?_,S.pu.ln⟩,S.nd⟩,Nat.le_succ _⟩
   · have mm:=List.not_mem_of_not_mem_cons m
     have h1:b≠p:=fun z=>m (z▸List.mem_cons_self)
     exact BF b o (B5 b o (BB4 b o e h1) (fun z=>mm (by rw [z]; simp [Fp.mu]))) (fun z=>mm (by rw [z]; simp [Fp.mu]))
   · show (D.bs.eraseIdx j).length≤100
     rw [List.length_eraseIdx]
     split<;>omega
end
end K37
namespace K37
open PySem L2 PySem.NumText PyProof.Rows KC M04
section
variable {P:Program} {w:World} {K:PySem.W.Frag} {mg:Str->Option Value} {base:Heap}
end
theorem Mu.has {H:Hp} {m:Addr} (h:Mu H m):∃ o,H m=some o:=by
 cases h with
 | d e=>exact ⟨_,e⟩
 | log e _=>exact ⟨_,e⟩
 | ls e _=>exact ⟨_,e⟩
theorem qfR {H:Hp} {m u:Addr} {ws:List V} {o:HO} (e:H m=some (.lst (.ref u::ws))) (h:H u=some o) (n:∀ xs,o≠.tup xs):Mu H m:=.ls e fun t zs r ez et=>by
 cases ez
 rw [h] at et
 cases et
 exact n _ rfl
def upB {α:Type} (g:Bool->α) (c:Bool) (v:α):Bool->α:=fun d=>if d=c then v else g d
theorem qZ {α:Type} {g:Bool->α} {c:Bool} {v:α}:upB g c v c=v:=if_pos rfl
theorem zW {α:Type} {g:Bool->α} {c d:Bool} {v:α} (h:d≠c):upB g c v d=g d:=if_neg h
structure Wd (a:Ad) (ns:List Str) (H H2:Hp) (q ll kl:Addr) (fs:Bool->Fp) (Ds:Bool->Dt) (n:Nat):Prop where
 sm:Same H H2
 nms:Nms ns
 hq:H2 q=some (.lst (ns.map V.str))
 hl:H2 ll=some (.lst [.ref (fs false).x,.ref (fs true).x])
 hk:H2 kl=some (.lst [.ref (fs false).kd,.ref (fs true).kd])
 sd:∀ c,Sd a ns H2 (fs c) (Ds c)
 fr:∀ c,∀ b∈(fs c).mu,H b=none
 dj:∀ c d,c≠d->∀ b∈(fs c).mu,b∉(fs d).mu
 no:∀ c,∀ b∈[q,ll,kl],b∉(fs c).mu
 nd:[q,ll,kl].Nodup
 fq:∀ b∈[q,ll,kl],H b=none
 gl:∀ c,(Ds c).gn.length≤n
structure Pn (H H2:Hp) (q ll kl:Addr) (fs:Bool->Fp) (p:Addr):Prop where
 pn:PenAt H2 p
 fp:H p=none
 np:∀ c,p∉(fs c).mu
 n3:p∉[q,ll,kl]
theorem PenAt.has {H:Hp} {p:Addr} (h:PenAt H p):∃ o,H p=some o:=by
 obtain ⟨c,u,v,_,e⟩:=h
 exact ⟨_,e⟩
theorem qN {H:Hp} {b:Addr} (h:H b=none) (e:∃ o,H b=some o):False:=by
 obtain ⟨o,e⟩:=e
 rw [h] at e; cases e
section
variable {a:Ad} {ns:List Str} {H H2 H3:Hp} {q ll kl p:Addr} {fs:Bool->Fp} {Ds:Bool->Dt} {n:Nat}
theorem Wd.has3 (W:Wd a ns H H2 q ll kl fs Ds n):∀ b∈[q,ll,kl],∃ o,H2 b=some o:=fun b m=>by
 simp only [List.mem_cons,List.not_mem_nil,or_false] at m
 rcases m with h | h | h
 · exact ⟨_,h▸W.hq⟩
 · exact ⟨_,h▸W.hl⟩
 · exact ⟨_,h▸W.hk⟩
theorem Wd.musome (W:Wd a ns H H2 q ll kl fs Ds n) (c:Bool):∀ b∈(fs c).mu,∃ o,H2 b=some o:=fun b m=>((W.sd c).mu b m).has
theorem Wd.same (W:Wd a ns H H2 q ll kl fs Ds n) (s:Same H2 H3):Wd a ns H H3 q ll kl fs Ds n :=
 ⟨W.sm.trans s,W.nms,s _ _ W.hq,s _ _ W.hl,s _ _ W.hk,fun c=>(W.sd c).sm s,W.fr,W.dj,W.no,W.nd,W.fq,W.gl⟩
theorem Pn.same (W:Pn H H2 q ll kl fs p) (s:Same H2 H3):Pn H H3 q ll kl fs p:=⟨PenAt.sm W.pn s,W.fp,W.np,W.n3⟩
theorem Wd.bp (W:Wd a ns H H2 q ll kl fs Ds n) (P:Pn H H2 q ll kl fs p) (b:But p H2 H3):Wd a ns H H3 q ll kl fs Ds n :=
 have n3:∀ c∈[q,ll,kl],c≠p:=fun c m e=>P.n3 (e▸m)
 ⟨fun c o e=>b c o (W.sm c o e) (qi e P.fp),W.nms,b _ _ W.hq (n3 _ (by simp)),b _ _ W.hl (n3 _ (by simp)),b _ _ W.hk (n3 _ (by simp)),fun c=>(W.sd c).bp P.pn (P.np c) b,W.fr,W.dj,W.no,W.nd,W.fq,W.gl⟩
theorem Pn.bp (P:Pn H H2 q ll kl fs p) (h:PenAt H3 p):Pn H H3 q ll kl fs p:=⟨h,P.fp,P.np,P.n3⟩
theorem Wd.pen (W:Wd a ns H H2 q ll kl fs Ds n) (f:H2 p=none) (h:PenAt H3 p):Pn H H3 q ll kl fs p :=
 ⟨h,W.sm.none f,fun c m=>qN f (W.musome c p m),fun m=>qN f (W.has3 p m)⟩
theorem Wd.step (W:Wd a ns H H2 q ll kl fs Ds n) (P:Pn H H2 q ll kl fs p) (c:Bool) (N:Nx a ns p H2 (fs c) (Ds c) H3):∃ fs' Ds',Wd a ns H H3 q ll kl fs' Ds' (n+1)∧Pn H H3 q ll kl fs' p:=by
 obtain ⟨f',D',e1,e2,fr,B,pn,S,g⟩:=N
 have im:Imm H2 H3:=ButL.imm B fun m mm=>by
   rcases List.mem_cons.mp mm with h | h
   · rw [h]; exact PenAt.mu P.pn
   · exact (W.sd c).mu m h
 have k3:∀ b∈[q,ll,kl],∀ o,H2 b=some o->H3 b=some o:=fun b m o e=>B b o e fun mm=>by
   rcases List.mem_cons.mp mm with h | h
   · exact P.n3 (h▸m)
   · exact W.no c b m h
 have hx:∀ d,(upB fs c f' d).x=(fs d).x:=fun d=>by
   by_cases h:d=c
   · rw [h,qZ,e1]
   · rw [zW h]
 have hkd:∀ d,(upB fs c f' d).kd=(fs d).kd:=fun d=>by
   by_cases h:d=c
   · rw [h,qZ,e2]
   · rw [zW h]
 refine ⟨upB fs c f',upB Ds c D',⟨fun b o e=>B b o (W.sm b o e) fun mm=>?_,W.nms,k3 _ (by simp) _ W.hq,?_,?_,fun d=>?_,fun d b m=>?_,fun d d' hd b m m'=>?_,fun d b m m'=>?_,W.nd,W.fq,fun d=>?_⟩,⟨pn,P.fp,fun d m=>?_,P.n3⟩⟩
 · rcases List.mem_cons.mp mm with h | h
   · have:=P.fp
     rw [← h,e] at this; cases this
   · rw [W.fr c b h] at e; cases e
 · rw [hx,hx]; exact k3 _ (by simp) _ W.hl
 · rw [hkd,hkd]; exact k3 _ (by simp) _ W.hk
 · by_cases h:d=c
   · rw [h,qZ,qZ]; exact S
   · rw [zW h,zW h]
     exact (W.sd d).im im fun b m o e=>B b o e fun mm=>by
       rcases List.mem_cons.mp mm with h' | h'
       · exact P.np d (h'▸m)
       · exact W.dj d c h b m h'
 · by_cases h:d=c
   · rw [h,qZ] at m
     rcases fr b m with h' | h'
     · exact W.fr c b h'
     · exact W.sm.none h'
   · rw [zW h] at m; exact W.fr d b m
 · by_cases h:d=c
   · have h2:d'≠c:=fun z=>hd (h.trans z.symm)
     rw [h,qZ] at m
     rw [zW h2] at m'
     rcases fr b m with z | z
     · exact W.dj c d' h2.symm b z m'
     · exact qN z (W.musome d' b m')
   · rw [zW h] at m
     by_cases h2:d'=c
     · rw [h2,qZ] at m'
       rcases fr b m' with z | z
       · exact W.dj d c h b m z
       · exact qN z (W.musome d b m)
     · rw [zW h2] at m'; exact W.dj d d' hd b m m'
 · by_cases h:d=c
   · rw [h,qZ] at m'
     rcases fr b m' with z | z
     · exact W.no c b m z
     · exact qN z (W.has3 b m)
   · rw [zW h] at m'; exact W.no d b m m'
 · by_cases h:d=c
   · rw [h,qZ]; exact Nat.le_trans g (Nat.succ_le_succ (W.gl c))
   · rw [zW h]; exact Nat.le_succ_of_le (W.gl d)
 · by_cases h:d=c
   · rw [h,qZ] at m
     rcases fr p m with z | z
     · exact P.np c z
     · exact qN z (PenAt.has P.pn)
   · rw [zW h] at m; exact P.np d m
end
theorem qiC {a:Ad} {ns:List Str} {H1 H2:Hp} {x dx td ed bl kd ktd ksl kbl kgl:Addr} {ts ps:Pls} {es:List Ent} {ss:List S5} {bs:List (Str×Str×Int)} {gn:List Str} (L1:Lg a H1 x dx td ed bl ts es bs) (fk:∀ b∈[kd,ktd,ksl,kbl,kgl],H1 b=none) (L2:Lg a H2 x dx td ed bl ts es bs) (k:K4 H2 kd ktd ksl kbl kgl ps ss bs gn) (nd:[kd,ktd,ksl,kbl,kgl].Nodup) (pu:Pu ns ts ps es ss bs):Sd a ns H2 ⟨x,dx,td,ed,bl,kd,ktd,ksl,kbl,kgl⟩ ⟨ts,ps,es,ss,bs,gn⟩:=by
 refine ⟨L2,k,pu,?_⟩
 show ([x,td,ed,bl]++[kd,ktd,ksl,kbl,kgl]).Nodup
 refine List.nodup_append.mpr ⟨?_,nd,fun b mb c mc e=>qN (fk c mc) (e▸(L1.mu b mb).has)⟩
 obtain ⟨zs,hb,_⟩:=L1.hb
 simp only [List.nodup_cons,List.mem_cons,List.not_mem_nil,or_false,not_or,List.nodup_nil,not_false_eq_true,and_true]
 exact ⟨⟨zi L1.hx L1.ht (by intro z; cases z),zi L1.hx L1.he (by intro z; cases z),zi L1.hx hb (by intro z; cases z)⟩,⟨L1.ne,zi L1.ht hb (by intro z; cases z)⟩,zi L1.he hb (by intro z; cases z)⟩
inductive qd0 (K:PySem.W.Frag) (vs:List V) (H:Hp) (Q:VK):Prop
 | mk (a:Addr) (ns:List Int) (h1:vs=[.ref a]) (h2:SqL K H a (ns.map V.int)) (h3:ns.length≤63) (h4:∀ H',Q (.bl true) H'):qd0 K vs H Q
def qd1 (K:PySem.W.Frag):Sp:=fun vs H Q _=>qd0 K vs H Q
section
variable {P:Program} {w:World} {K:PySem.W.Frag} {mg:Str->Option Value} {base:Heap}
theorem qg6 {a:Ad} (T:Txt K mg a):qA P w K mg base CX0 1 a.f_D a.fd_D ["_law_script","_law_k"] (qd9 K):=by
 refine T.d_D.F.ok qgJ (fun vs H Q E h=>?_) (fun cdv A outer s H vs Q E hr h=>?_)
 · obtain ⟨b,ns,j,rfl,hS,j0,k⟩:=h
   rfl
 · obtain ⟨b,ns,j,rfl,hS,j0,k⟩:=h
   have hu:=qJ hr
   have hU:=hr.units
   refine ⟨_,(qf (qR (qu qgV (pv 1) (qp qU (by rfl) T.n_len qK (qa (pv 0) qb)) (qG _))
       (qg (qy (qC (r:=rIx K) qr (pv 0) (pv 1) (fun _ _=>rfl))))
       qw)
     (qg (qy (qB jY (qB ZM qe (pv 1)) qe)))),?_⟩
   try dsimp only [zv,Cx.nox]
   refine ⟨_,rfl,_,rfl,_,_,rfl,.inl ⟨_,hS,rfl⟩,_,_,rfl,rfl,_,rfl,?_⟩
   refine Zf (fun hj=>?_) (fun hj=>?_)
   · obtain ⟨n,rfl⟩:=Int.eq_ofNat_of_zero_le j0
     rw [List.length_map] at hj
     have hn:n < ns.length:=by omega
     refine ⟨_,rfl,_,rfl,.inl ⟨b,_,_,.int ns[n],rfl,rfl,hS,QA (by rw [List.getElem?_map,List.getElem?_eq_getElem hn]; rfl),?_⟩⟩
     exact k _
   · exact ⟨_,rfl,_,_,rfl,rfl,.inl ⟨by decide,by decide⟩,.inl ⟨_,_,rfl,rfl,k _⟩⟩
end
end K37
namespace K37
open PySem L2 PySem.NumText PyProof.Rows KC M04
section
variable {P:Program} {w:World} {K:PySem.W.Frag} {mg:Str->Option Value} {base:Heap}
end
def bN:Bool->Nat
 | true=>0
 | false=>1
section
variable {a:Ad} {ns:List Str} {H H2 H3 H4 H5 H6:Hp} {q ll kl p x dx td ed bl kd ktd ksl kbl kgl:Addr} {fs:Bool->Fp} {Ds:Bool->Dt} {n:Nat} {o4 o6:HO}
theorem Wd.im4 (W:Wd a ns H H2 q ll kl fs Ds n) (S3:Same H2 H3) (h4:upd H3 ll o4=H4):Imm H3 H4∧But ll H3 H4∧H4 ll=some o4∧∀ b,H4 b=none->H2 b=none:=by
 subst h4
 have B:But ll H3 (upd H3 ll o4):=fun b o e nb=>by rw [qh nb]; exact e
 exact ⟨But.one B (qfR (S3 _ _ W.hl) (S3 _ _ (W.sd false).lg.hx) (by intro _ z; cases z)),B,qc,fun b h=>S3.none (qab h)⟩
theorem Wd.k4 (W:Wd a ns H H2 q ll kl fs Ds n) (S3:Same H2 H3) (h4:upd H3 ll o4=H4) (c:Bool):Sd a ns H4 (fs c) (Ds c)∧H4 kl=some (.lst [.ref (fs false).kd,.ref (fs true).kd]):=by
 obtain ⟨i4,B4,e4,f4⟩:=W.im4 S3 h4
 refine ⟨((W.sd c).sm S3).im i4 fun b m o e=>B4 b o e fun z=>W.no c ll (by simp) (z▸m),B4 _ _ (S3 _ _ W.hk) fun z=>?_⟩
 have:=W.nd
 simp [z] at this
theorem Wd.copy (W:Wd a ns H H2 q ll kl fs Ds n) (c:Bool) (fL:∀ b∈[x,td,ed,bl],H2 b=none) (S3:Same H2 H3) (L3:Lg a H3 x dx td ed bl (Ds c).ts (Ds c).es (Ds c).bs) (h4:upd H3 ll (.lst ([V.ref (fs false).x,V.ref (fs true).x].set (bN c) (.ref x)))=H4) (fK:∀ b∈[kd,ktd,ksl,kbl,kgl],H4 b=none) (ndK:[kd,ktd,ksl,kbl,kgl].Nodup) (S5:Same H4 H5) (K5:K4 H5 kd ktd ksl kbl kgl (Ds c).ps (Ds c).ss (Ds c).bs (Ds c).gn) (h6:upd H5 kl (.lst ([V.ref (fs false).kd,V.ref (fs true).kd].set (bN c) (.ref kd)))=H6):∃ fs' Ds',Wd a ns H H6 q ll kl fs' Ds' n∧∀ p,Pn H H2 q ll kl fs p->Pn H H6 q ll kl fs' p:=by
 obtain ⟨i4,B4,e4,f4⟩:=W.im4 S3 h4
 obtain ⟨Sc4,hk4⟩:=W.k4 S3 h4 c
 have ndq:=W.nd
 simp only [List.nodup_cons,List.mem_cons,List.not_mem_nil,or_false,not_or,List.nodup_nil,not_false_eq_true,and_true] at ndq
 obtain ⟨⟨nql,nqk⟩,nlk⟩:=ndq
 have hk5:=S5 _ _ hk4
 have kd5:∃ o,H5 (fs false).kd=some o∧∀ xs,o≠.tup xs:=⟨_,S5 _ _ (W.k4 S3 h4 false).1.k4.hd,by intro _ z; cases z⟩
 obtain ⟨o,ho,no⟩:=kd5
 have B6:But kl H5 H6:=fun b o e nb=>by rw [← h6,qh nb]; exact e
 have e6:H6 kl=some (.lst ([V.ref (fs false).kd,V.ref (fs true).kd].set (bN c) (.ref kd))):=by rw [← h6]; exact qc
 have i6:Imm H5 H6:=But.one B6 (qfR hk5 ho no)
 have fLl:∀ b∈[x,td,ed,bl],b≠ll:=fun b m z=>qN (fL b m) (z▸W.has3 ll (by simp))
 have fLk:∀ b∈[x,td,ed,bl],b≠kl:=fun b m z=>qN (fL b m) (z▸W.has3 kl (by simp))
 have L4:=L3.im i4 fun b m o e=>B4 b o e (fLl b m)
 have L6:=(L4.sm S5).im i6 fun b m o e=>B6 b o e (fLk b m)
 have K6:=K5.im i6 fun b m o e=>B6 b o e fun z=>qN (fK b m) ⟨_,z▸hk4⟩
 have nS:=qiC (ns:=ns) L4 fK L6 K6 ndK (W.sd c).pu
 have Sc6:Sd a ns H6 (fs c) (Ds c):=(Sc4.sm S5).im i6 fun b m o e=>B6 b o e fun z=>W.no c kl (by simp) (z▸m)
 have fnew:∀ b∈(Fp.mk x dx td ed bl kd ktd ksl kbl kgl).mu,H2 b=none:=fun b m=>by
   rcases List.mem_append.mp (show b∈[x,td,ed,bl]++[kd,ktd,ksl,kbl,kgl] from m) with h | h
   · exact fL b h
   · exact f4 b (fK b h)
 have ncc:(!c)≠c:=by cases c<;>decide
 have ncc':c≠(!c):=ncc.symm
 have eqc:∀ d,d≠(!c)->d=c:=fun d h=>by cases c<;>cases d<;>simp_all
 generalize hf:Fp.mk x dx td ed bl kd ktd ksl kbl kgl=f' at nS fnew
 have xf:f'.x=x:=by rw [← hf]
 have kf:f'.kd=kd:=by rw [← hf]
 have go:∀ b o,H2 b=some o->b≠ll->b≠kl->H6 b=some o:=fun b o e n1 n2=>B6 b o (S5 b o (B4 b o (S3 b o e) n1)) n2
 refine ⟨upB fs (!c) f',upB Ds (!c) (Ds c),⟨fun b o e=>go b o (W.sm b o e) (qi e (W.fq ll (by simp))) (qi e (W.fq kl (by simp))),W.nms,go _ _ W.hq nql nqk,?_,?_,fun d=>?_,fun d b m=>?_,fun d d' hd b m m'=>?_,fun d b m m'=>?_,W.nd,W.fq,fun d=>?_⟩,fun p P=>⟨?_,P.fp,fun d m=>?_,P.n3⟩⟩
 · have:=B6 _ _ (S5 _ _ e4) nlk
   rw [this]
   cases c<;>simp [upB,bN,xf]
 · rw [e6]
   cases c<;>simp [upB,bN,kf]
 · by_cases h:d=!c
   · rw [h,qZ,qZ]; exact nS
   · rw [zW h,zW h,eqc d h]; exact Sc6
 · by_cases h:d=!c
   · rw [h,qZ] at m; exact W.sm.none (fnew b m)
   · rw [zW h] at m; exact W.fr d b m
 · by_cases h:d=!c
   · have h2:d'≠!c:=fun z=>hd (h.trans z.symm)
     rw [h,qZ] at m
     rw [zW h2] at m'
     exact qN (fnew b m) (W.musome d' b m')
   · rw [zW h] at m
     by_cases h2:d'=!c
     · rw [h2,qZ] at m'
       exact qN (fnew b m') (W.musome d b m)
     · rw [zW h2] at m'; exact W.dj d d' hd b m m'
 · by_cases h:d=!c
   · rw [h,qZ] at m'
     exact qN (fnew b m') (W.has3 b m)
   · rw [zW h] at m'; exact W.no d b m m'
 · by_cases h:d=!c
   · rw [h,qZ]; exact W.gl c
   · rw [zW h]; exact W.gl d
 · have n3:=P.n3
   simp only [List.mem_cons,List.not_mem_nil,or_false,not_or] at n3
   exact PenAt.bt P.pn fun o e=>go p o e n3.2.1 n3.2.2
 · by_cases h:d=!c
   · rw [h,qZ] at m
     exact qN (fnew p m) (PenAt.has P.pn)
   · rw [zW h] at m; exact P.np d m
theorem Wd.nq (W:Wd a ns H H2 q ll kl fs Ds n) (P:Pn H H2 q ll kl fs p) (c:Bool):Nq H2 (fs c) p q ns:=⟨W.hq,W.nms,W.no c q (by simp),fun e=>P.n3 (by simp [e])⟩
end
section
variable {P:Program} {w:World} {K:PySem.W.Frag} {mg:Str->Option Value} {base:Heap}
end
theorem qgU {X:Cx} {pos:Pos} {k1 k2 k3 k4 v1 v2 v3 v4:Expr} {a1 a2 a3 a4 b1 b2 b3 b4:TE} (h1:PE X k1 a1) (g1:PE X v1 b1) (h2:PE X k2 a2) (g2:PE X v2 b2) (h3:PE X k3 a3) (g3:PE X v3 b3) (h4:PE X k4 a4) (g4:PE X v4 b4):PE X (.Dict [some k1,some k2,some k3,some k4] [v1,v2,v3,v4] pos) (qic [(a1,b1),(a2,b2),(a3,b3),(a4,b4)]) :=
 @qfz X pos _ _ _ (@Q9 X pos _ _ _ _ _ _ _ h1 g1 (@Q9 X pos _ _ _ _ _ _ _ h2 g2 (@Q9 X pos _ _ _ _ _ _ _ h3 g3 (@Q9 X pos _ _ _ _ _ _ _ h4 g4 qfu)))) rfl rfl (by simp) (Nat.le_of_ble_eq_true rfl)
theorem qgS {X:Cx} {s1 s2 s3 s4:Str} {j1 j2 j3 j4} {p1 p2 p3 p4 q1 q2 q3 q4 pos:Pos}:PE X (.Dict [some (.Constant (.str s1) j1 p1),some (.Constant (.str s2) j2 p2),some (.Constant (.str s3) j3 p3),some (.Constant (.str s4) j4 p4)] [.Dict [] [] q1,.List [] q2,.List [] q3,.List [] q4] pos) (qic [(tC (.str s1),qhA),(tC (.str s2),qib qdY),(tC (.str s3),qib qdY),(tC (.str s4),qib qdY)]):=by
 have n2:PE X (.List [] q2) (qib qdY):=qQ qb
 have n3:PE X (.List [] q3) (qib qdY):=qQ qb
 have n4:PE X (.List [] q4) (qib qdY):=qQ qb
 exact @qgU X pos _ _ _ _ _ _ _ _ _ _ _ _ _ _ _ _ qz qap qz n2 qz n3 qz n4
theorem Wd.mono {a:Ad} {ns:List Str} {H H2:Hp} {q ll kl:Addr} {fs:Bool->Fp} {Ds:Bool->Dt} {n m:Nat} (W:Wd a ns H H2 q ll kl fs Ds n) (h:n≤m):Wd a ns H H2 q ll kl fs Ds m :=
 ⟨W.sm,W.nms,W.hq,W.hl,W.hk,W.sd,W.fr,W.dj,W.no,W.nd,W.fq,fun c=>Nat.le_trans (W.gl c) h⟩
def D0:Dt:=⟨[],[],[],[],[],[]⟩
abbrev bi (c:Bool):Int:=cond c 1 0
theorem qkw {d:Int} (h0:0≤d) (h1:d < 2):∃ c,d=bi c:=by
 obtain rfl | rfl:d=0∨d=1:=by omega
 · exact ⟨false,rfl⟩
 · exact ⟨true,rfl⟩
theorem qhv {x:Bool->Addr} {c:Bool}:atI [V.ref (x false),V.ref (x true)] (bi c)=some (.ref (x c)):=by cases c<;>rfl
theorem qkR {G G1 G2 G3 G4 G5 G6:Hp} {k t l1 l2 l3:Addr} (fk:G k=none) (h1:upd G k (.dK [])=G1) (ft:G1 t=none) (h2:upd G1 t (.dK [])=G2) (f1:G2 l1=none) (h3:upd G2 l1 (.lst [])=G3) (f2:G3 l2=none) (h4:upd G3 l2 (.lst [])=G4) (f3:G4 l3=none) (h5:upd G4 l3 (.lst [])=G5) (h6:upd G5 k (.dK (kpd t l1 l2 l3))=G6):Same G G6∧K4 G6 k t l1 l2 l3 [] [] [] []∧G5 k=some (.dK []):=by
 obtain ⟨S1,e1⟩:=qO h1 fk
 obtain ⟨S2,e2⟩:=qO h2 ft
 obtain ⟨S3,e3⟩:=qO h3 f1
 obtain ⟨S4,e4⟩:=qO h4 f2
 obtain ⟨S5,e5⟩:=qO h5 f3
 have k5:=S5 _ _ (S4 _ _ (S3 _ _ (S2 _ _ e1)))
 have go:∀ b o,G5 b=some o->b≠k->G6 b=some o:=fun b o e n=>by rw [← h6,qh n]; exact e
 have t5:=S5 _ _ (S4 _ _ (S3 _ _ e2))
 have nt:t≠k:=(qi e1 ft).symm
 have n1:l1≠k:=(qi (S2 _ _ e1) f1).symm
 have n2:l2≠k:=(qi (S3 _ _ (S2 _ _ e1)) f2).symm
 have n3:l3≠k:=(qi (S4 _ _ (S3 _ _ (S2 _ _ e1))) f3).symm
 refine ⟨fun b o e=>go b o (S5 _ _ (S4 _ _ (S3 _ _ (S2 _ _ (S1 _ _ e))))) (qi e fk),⟨by rw [← h6]; exact qc,go _ _ t5 nt,⟨_,go _ _ (S5 _ _ (S4 _ _ e3)) n1,.nil⟩,⟨_,go _ _ (S5 _ _ e4) n2,.nil⟩,go _ _ e5 n3,(fun y m=>nomatch m),(fun y m=>nomatch m)⟩,k5⟩
theorem pu0 {ns:List Str} (h:ns.length=20):Pu ns [] [] [] [] []:=⟨rfl,rfl,(fun n m=>nomatch m),(fun n m=>nomatch m),(fun n m=>nomatch m),Nat.zero_le _,h⟩
theorem wd0 {a:Ad} {ns:List Str} {H G2 L1 G3 L4 G5 N1 N2 N3 N4:Hp} {q ll kl x1 dx1 td1 ed1 bl1 x2 dx2 td2 ed2 bl2 k1 t1 s1 b1 g1 k2 t2 s2 b2 g2:Addr} (nms:Nms ns) (ln:ns.length=20) (SH2:Same H G2) (hq:G2 q=some (.lst (ns.map V.str))) (fq:H q=none) (fA:∀ b∈[x1,td1,ed1,bl1],G2 b=none) (SL1:Same G2 L1) (hL1:Lg a L1 x1 dx1 td1 ed1 bl1 [] [] []) (fll:L1 ll=none) (h3:upd L1 ll (.lst [.ref x1])=G3) (fC:∀ b∈[x2,td2,ed2,bl2],G3 b=none) (S4:Same G3 L4) (hL4:Lg a L4 x2 dx2 td2 ed2 bl2 [] [] []) (h5:upd L4 ll (.lst [.ref x1,.ref x2])=G5) (SN1:Same G5 N1) (fE:∀ b∈[k1,t1,s1,b1,g1],N1 b=none) (ndE:[k1,t1,s1,b1,g1].Nodup) (SN2:Same N1 N2) (K1:K4 N2 k1 t1 s1 b1 g1 [] [] [] []) (fF:∀ b∈[k2,t2,s2,b2,g2],N2 b=none) (ndF:[k2,t2,s2,b2,g2].Nodup) (SN3:Same N2 N3) (K2:K4 N3 k2 t2 s2 b2 g2 [] [] [] []) (fkl:N3 kl=none) (h6:upd N3 kl (.lst [.ref k1,.ref k2])=N4):∃ fs,Wd a ns H N4 q ll kl fs (fun _=>D0) 0:=by
 obtain ⟨S3,e3⟩:=qO h3 fll
 obtain ⟨S6,e6⟩:=qO h6 fkl
 have B5:But ll L4 G5:=fun b o e nb=>by rw [← h5,qh nb]; exact e
 have e5:G5 ll=some (.lst [.ref x1,.ref x2]):=by rw [← h5]; exact qc
 have hA4:=(hL1.sm S3).sm S4
 have i5:Imm L4 G5:=But.one B5 (qfR (S4 _ _ e3) hA4.hx (by intro _ z; cases z))
 have A5:=hA4.im i5 fun b m o e=>B5 b o e fun z=>qN fll (z▸(hL1.mu b m).has)
 have C5:=hL4.im i5 fun b m o e=>B5 b o e fun z=>qN (fC b m) ⟨_,z▸e3⟩
 have fllH:H ll=none:=(SH2.trans SL1).none fll
 have SG3:=(SH2.trans SL1).trans S3
 have SG5:Same H G5:=fun b o e=>B5 b o (S4 b o (SG3 b o e)) (qi e fllH)
 have SHN1:=SG5.trans SN1
 have SHN2:=SHN1.trans SN2
 have SHN3:=SHN2.trans SN3
 have q3:=S3 _ _ (SL1 _ _ hq)
 have nql:q≠ll:=qi (SL1 _ _ hq) fll
 have q5:G5 q=some (.lst (ns.map V.str)):=B5 _ _ (S4 _ _ q3) nql
 have S53:=(SN1.trans SN2).trans SN3
 have q4:q≠kl:=qi (S53 _ _ q5) fkl
 have l4:ll≠kl:=qi (S53 _ _ e5) fkl
 have A1:∀ b∈[x1,td1,ed1,bl1],∃ o,N1 b=some o:=fun b m=>((A5.sm SN1).mu b m).has
 have C1:∀ b∈[x2,td2,ed2,bl2],∃ o,N1 b=some o:=fun b m=>((C5.sm SN1).mu b m).has
 have A2:∀ b∈[x1,td1,ed1,bl1],∃ o,N2 b=some o:=fun b m=>(((A5.sm SN1).sm SN2).mu b m).has
 have C2:∀ b∈[x2,td2,ed2,bl2],∃ o,N2 b=some o:=fun b m=>(((C5.sm SN1).sm SN2).mu b m).has
 have E2:∀ b∈[k1,t1,s1,b1,g1],∃ o,N2 b=some o:=fun b m=>(K1.mu b m).has
 have sA:=qiC (ns:=ns) (A5.sm SN1) fE ((A5.sm S53).sm S6) ((K1.sm SN3).sm S6) ndE (pu0 ln)
 have sC:=qiC (ns:=ns) ((C5.sm SN1).sm SN2) fF ((C5.sm S53).sm S6) (K2.sm S6) ndF (pu0 ln)
 generalize hf1:Fp.mk x1 dx1 td1 ed1 bl1 k1 t1 s1 b1 g1=f1 at sA
 generalize hf2:Fp.mk x2 dx2 td2 ed2 bl2 k2 t2 s2 b2 g2=f2 at sC
 have m1:∀ b∈f1.mu,b∈[x1,td1,ed1,bl1]∨b∈[k1,t1,s1,b1,g1]:=fun b m=>by
   rw [← hf1] at m
   exact List.mem_append.mp (show b∈[x1,td1,ed1,bl1]++[k1,t1,s1,b1,g1] from m)
 have m2:∀ b∈f2.mu,b∈[x2,td2,ed2,bl2]∨b∈[k2,t2,s2,b2,g2]:=fun b m=>by
   rw [← hf2] at m
   exact List.mem_append.mp (show b∈[x2,td2,ed2,bl2]++[k2,t2,s2,b2,g2] from m)
 have dj:∀ b∈f1.mu,b∉f2.mu:=fun b m m'=>by
   rcases m1 b m with h | h<;>rcases m2 b m' with h' | h'
   · exact qN (fC b h') (((hL1.sm S3).mu b h).has)
   · exact qN (fF b h') (A2 b h)
   · exact qN (fE b h) (C1 b h')
   · exact qN (fF b h') (E2 b h)
 have n3:∀ b∈[q,ll,kl],b∉f1.mu∧b∉f2.mu:=fun b m=>by
   have nkl:kl∉f1.mu∧kl∉f2.mu:=by
     refine ⟨fun h=>?_,fun h=>?_⟩
     · rcases m1 _ h with h | h
       · exact qN fkl (((A5.sm S53).mu _ h).has)
       · exact qN fkl (((K1.sm SN3).mu _ h).has)
     · rcases m2 _ h with h | h
       · exact qN fkl (((C5.sm S53).mu _ h).has)
       · exact qN fkl ((K2.mu _ h).has)
   simp only [List.mem_cons,List.not_mem_nil,or_false] at m
   rcases m with e | e | e
   · rw [e]
     refine ⟨fun h=>?_,fun h=>?_⟩
     · rcases m1 _ h with h | h
       · exact qN (fA _ h) ⟨_,hq⟩
       · exact qN (fE _ h) ⟨_,SN1 _ _ q5⟩
     · rcases m2 _ h with h | h
       · exact qN (fC _ h) ⟨_,q3⟩
       · exact qN (fF _ h) ⟨_,SN2 _ _ (SN1 _ _ q5)⟩
   · rw [e]
     refine ⟨fun h=>?_,fun h=>?_⟩
     · rcases m1 _ h with h | h
       · exact qN fll ((hL1.mu _ h).has)
       · exact qN (fE _ h) ⟨_,SN1 _ _ e5⟩
     · rcases m2 _ h with h | h
       · exact qN (fC _ h) ⟨_,e3⟩
       · exact qN (fF _ h) ⟨_,SN2 _ _ (SN1 _ _ e5)⟩
   · rw [e]; exact nkl
 have fr1:∀ b∈f1.mu,H b=none:=fun b m=>by
   rcases m1 b m with h | h
   · exact SH2.none (fA b h)
   · exact SHN1.none (fE b h)
 have fr2:∀ b∈f2.mu,H b=none:=fun b m=>by
   rcases m2 b m with h | h
   · exact SG3.none (fC b h)
   · exact SHN2.none (fF b h)
 refine ⟨fun c=>cond c f2 f1,⟨SHN3.trans S6,nms,S6 _ _ (S53 _ _ q5),?_,?_,fun c=>?_,fun c b m=>?_,fun c d hd b m m'=>?_,fun c b m m'=>?_,?_,fun b m=>?_,fun c=>Nat.le_refl _⟩⟩
 · rw [← hf1,← hf2]; exact S6 _ _ (S53 _ _ e5)
 · rw [← hf1,← hf2]; exact e6
 · cases c
   · exact sA
   · exact sC
 · cases c
   · exact fr1 b m
   · exact fr2 b m
 · cases c<;>cases d
   · exact hd rfl
   · exact dj b m m'
   · exact dj b m' m
   · exact hd rfl
 · cases c
   · exact (n3 b m).1 m'
   · exact (n3 b m).2 m'
 · simp only [List.nodup_cons,List.mem_cons,List.not_mem_nil,or_false,not_or,List.nodup_nil,not_false_eq_true,and_true]
   exact ⟨⟨nql,q4⟩,l4⟩
 · simp only [List.mem_cons,List.not_mem_nil,or_false] at m
   rcases m with e | e | e
   · rw [e]; exact fq
   · rw [e]; exact fllH
   · rw [e]; exact SHN3.none fkl
section
variable {P:Program} {w:World} {K:PySem.W.Frag} {mg:Str->Option Value} {base:Heap}
end
end K37
namespace K37
open PySem L2 PySem.NumText PyProof.Rows KC M04
section
variable {P:Program} {w:World} {K:PySem.W.Frag} {mg:Str->Option Value} {base:Heap}
theorem qjs {a:Ad} (T:Txt K mg a):qA P w K mg base CX0 12 a.f_ai a.fd_ai ["_law_script"] (qd1 K):=by
 have G_F:qA P w K mg base CX0 1 a.f_F a.fd_F ["_law_cell_here"] qcF:=qfL T
 have G_S:qA P w K mg base CX0 3 a.f_S a.fd_S ["_law_state","_law_many"] qcC:=qfJ T
 have G_D:qA P w K mg base CX0 1 a.f_D a.fd_D ["_law_script","_law_k"] (qd9 K):=qg6 T
 have G_A:qA P w K mg base CX0 1 a.f_A a.fd_A ["self"] (jQ a):=qaT T
 have G_K:qA P w K mg base CX0 3 a.f_K a.fd_K ["self"] (Jd a):=qcb T
 have G_k:qA P w K mg base CX0 1 a.f_k a.fd_k ["_law_kept"] qd8:=qg5 T
 have G_a:qA P w K mg base CX0 2 a.f_a a.fd_a ["_law_state","_law_many"] Qg:=QB T
 have G_3:qA P w K mg base CX0 11 a.f_3 a.fd_3 ["_law_log","_law_kept","_law_state","_law_names_here"] (qd7 a):=qg4 T
 have G_I:qA P w K mg base CX0 9 a.f_I a.fd_I ["_law_log","_law_kept"] (qcA a):=qfI T
 refine T.d_ai.F.ok sc_law (fun vs H Q E h=>?_) (fun cdv A outer s H vs Q E hr h=>?_)
 · obtain ⟨sa,nsc,rfl,hS,hlen,kk⟩:=h
   rfl
 · obtain ⟨sa,nsc,rfl,hS,hlen,kk⟩:=h
   have hu:=qJ hr
   have hU:=hr.units
   have h_F:Room (1) _:=hr.mono (by decide)
   have h_S:Room (3) _:=hr.mono (by decide)
   have h_D:Room (1) _:=hr.mono (by decide)
   have h_A:Room (1+1) _:=hr.mono (by decide)
   have h_K:Room (3) _:=hr.mono (by decide)
   have h_k:Room (1) _:=hr.mono (by decide)
   have h_a:Room (2) _:=hr.mono (by decide)
   have h_3:Room (11) _:=hr.mono (by decide)
   have h_I:Room (9) _:=hr.mono (by decide)
   refine ⟨_,(@qf _ _ _ _ _ (by exact (qH (i:=1) sc_law.nd rfl (Or.inl rfl) (qj G_F h_F rfl T.d_F.m T.d_F.k T.d_F.b .nil qq (qa (qj G_D h_D rfl T.d_D.m T.d_D.k T.d_D.b .nil qq (qa (pv 0) (qa qe qb))) qb))))
     (by exact (@qf _ _ _ _ _ (by exact (qH (i:=2) sc_law.nd rfl (Or.inl rfl) (qj G_S h_S rfl T.d_S.m T.d_S.k T.d_S.b .nil qq (qa (pv 1) (qa qe qb)))))
     (by exact (@qf _ _ _ _ _ (by exact (qH (i:=3) sc_law.nd rfl (Or.inl rfl) (qQ (qa (qeh T.M_Log G_A h_A rfl T.g_Log T.d_A.b .nil qq) qb))))
     (by exact (@qf _ _ _ _ _ (by exact (qF (Jk PySem.F.plainAttrs_list PySem.F.slot_list_append PySem.F.type_list_append zK (pv 3) (qa (Qh (qC (r:=rIx K) qr (pv 3) qe (fun _ _=>rfl)) T.cl_Log T.d_K.mt G_K h_K T.d_K.b .nil qq) qb))))
     (by exact (@qf _ _ _ _ _ (by exact (@qH _ _ 4 _ _ _ _ (by exact sc_law.nd) (by rfl) (by exact (Or.inl rfl)) (by exact qgS) (by rfl) (by exact .inl rfl)))
     (by exact (qf (qH (i:=5) sc_law.nd rfl (Or.inl rfl) (qQ (qa (qj G_k h_k rfl T.d_k.m T.d_k.k T.d_k.b .nil qq (qa (pv 4) qb)) (qa (qj G_k h_k rfl T.d_k.m T.d_k.k T.d_k.b .nil qq (qa (pv 4) qb)) qb))))
     (qf (Zu PassesOwn.never rfl (qfx rfl T.n_range (qa qe (qa (qp (Ql rfl) (by rfl) T.n_max Qn (qa qe (qa (qp (Zx rfl) (by rfl) T.n_min Zy (qa qe (qa (qp qU (by rfl) T.n_len qK (qa (pv 0) qb)) qb))) qb))) qb))) (qv (i:=6) (sc_law.nd) rfl (Or.inl rfl))
       (qf (qH (i:=1) sc_law.nd rfl (Or.inl rfl) (qj G_F h_F rfl T.d_F.m T.d_F.k T.d_F.b .nil qq (qa (qj G_D h_D rfl T.d_D.m T.d_D.k T.d_D.b .nil qq (qa (pv 0) (qa (pv 6) qb))) qb)))
       (qf (qH (i:=7) sc_law.nd rfl (Or.inl rfl) (qj G_a h_a rfl T.d_a.m T.d_a.k T.d_a.b .nil qq (qa (pv 1) (qa qe qb))))
       (qf (qR (qu (uEq hU) (qj G_a h_a rfl T.d_a.m T.d_a.k T.d_a.b .nil qq (qa (pv 1) (qa qe qb))) qe (qG _))
         (qf (jJ (Qh (qC (r:=rIx K) qr (pv 3) (pv 7) (fun _ _=>rfl)) T.cl_Log T.d_K.mt G_K h_K T.d_K.b .nil qq) (qaL (pv 3) (qB zH qe (pv 7)) ZD))
         (qg (jJ (qj G_k h_k rfl T.d_k.m T.d_k.k T.d_k.b .nil qq (qa (qC (r:=rIx K) qr (pv 5) (pv 7) (fun _ _=>rfl)) qb)) (qaL (pv 5) (qB zH qe (pv 7)) ZD))))
         qw)
       (qg (Zu PassesOwn.never rfl (Z5 rfl T.n_range (qa (qB jY qe (qj G_a h_a rfl T.d_a.m T.d_a.k T.d_a.b .nil qq (qa (pv 1) (qa qe qb)))) qb)) (qv (i:=8) (sc_law.nd) rfl (Or.inl rfl))
         (qf (qF (qj G_3 h_3 rfl T.d_3.m T.d_3.k T.d_3.b .nil qq (qa (qC (r:=rIx K) qr (pv 3) (pv 7) (fun _ _=>rfl)) (qa (qC (r:=rIx K) qr (pv 5) (pv 7) (fun _ _=>rfl)) (qa (pv 1) (qa (pv 2) qb))))))
         (qg (qR (PW.pt (qaJ (zy (zx (qj G_I h_I rfl T.d_I.m T.d_I.k T.d_I.b .nil qq (qa (qC (r:=rIx K) qr (pv 3) qe (fun _ _=>rfl)) (qa (qC (r:=rIx K) qr (pv 5) qe (fun _ _=>rfl)) qb))))) (jH (zy (zx (qj G_I h_I rfl T.d_I.m T.d_I.k T.d_I.b .nil qq (qa (qC (r:=rIx K) qr (pv 3) qe (fun _ _=>rfl)) (qa (qC (r:=rIx K) qr (pv 5) qe (fun _ _=>rfl)) qb))))))))
           (qg (qy qaM))
           qw)))))))))
     (qg (qy qaM)))))))))))))),?_⟩
   try dsimp only [zv,Cx.nox]
   refine ⟨_,rfl,sa,nsc,_,rfl,hS,(by decide),fun c=>⟨c,rfl,fun p A B fp A0=>?_⟩⟩
   generalize hG:upd H p _=G1
   obtain ⟨S1,e1⟩:=qO hG fp
   clear hG
   have p1:PenAt G1 p:=⟨A,B,0,A0,e1⟩
   clear e1
   try unfold qX
   try dsimp only
   refine ⟨_,rfl,p,20,rfl,p1,by decide,by decide,fun q ns G2 fq B2 p2 hq lq nms=>?_⟩
   have SH2:Same H G2:=fun b o e=>B2 b o (S1 b o e) (qi e fp)
   have fqH:H q=none:=S1.none fq
   have ln:ns.length=20:=by omega
   try unfold qX
   try dsimp only
   refine fun x1 dx1 f1 f2 ne1=>⟨x1,dx1,rfl,qc,fun td1 ed1 bl1 L1 BL1 g1 g2 g3 hL1=>⟨rfl,qo (Nat.le_of_ble_eq_true rfl),fun ll fll=>?_⟩⟩
   have SL1:Same G2 L1:=zL f1 f2 BL1
   have fA:∀ b∈[x1,td1,ed1,bl1],G2 b=none:=fun b m=>by
     simp only [List.mem_cons,List.not_mem_nil,or_false] at m
     rcases m with h | h | h | h
     · rw [h]; exact f1
     · rw [h]; exact qab (qab g1)
     · rw [h]; exact qab (qab g2)
     · rw [h]; exact qab (qab g3)
   generalize h3:upd L1 ll _=G3
   obtain ⟨S3,e3⟩:=qO h3 fll
   have hL3:=hL1.sm S3
   try unfold qX
   try dsimp only
   refine ⟨_,rfl,.inl ⟨rfl,_,SqL.of e3⟩,_,rfl,.inl ⟨ll,_,_,_,rfl,rfl,SqL.of e3,rfl,x1,dx1,_,rfl,hL3.hx,rfl,x1,dx1,td1,ed1,bl1,[],[],[],rfl,hL3,fun x2 dx2 td2 ed2 bl2 L4 c1 c2 c3 c4 S4 hL4=>?_⟩⟩
   have fC:∀ b∈[x2,td2,ed2,bl2],G3 b=none:=fun b m=>by
     simp only [List.mem_cons,List.not_mem_nil,or_false] at m
     rcases m with h | h | h | h
     · rw [h]; exact c1
     · rw [h]; exact c2
     · rw [h]; exact c3
     · rw [h]; exact c4
   refine ⟨ll,_,_,rfl,rfl,S4 _ _ e3,qx (Nat.le_of_ble_eq_true rfl),?_⟩
   generalize h5:upd L4 ll _=G5
   try unfold qX
   try dsimp only
   intro k fk
   generalize d1:upd G5 k _=M1
   intro t ft
   generalize d2:upd M1 t _=M2
   refine ⟨qo (Nat.le_of_ble_eq_true rfl),fun l1 fl1=>?_⟩
   generalize d3:upd M2 l1 _=M3
   refine ⟨qo (Nat.le_of_ble_eq_true rfl),fun l2 fl2=>?_⟩
   generalize d4:upd M3 l2 _=M4
   refine ⟨qo (Nat.le_of_ble_eq_true rfl),fun l3 fl3=>?_⟩
   generalize d5:upd M4 l3 _=M5
   have k5:=(qkR fk d1 ft d2 fl1 d3 fl2 d4 fl3 d5 rfl).2.2
   refine ⟨k5,[(Sum.inr "tables",_),(Sum.inr "specs",_),(Sum.inr "bonds",_),(Sum.inr "gone",_)],rfl,(Nat.le_of_ble_eq_true rfl),?_⟩
   generalize d6:upd M5 k _=N1
   obtain ⟨SN1,hK,_⟩:=qkR fk d1 ft d2 fl1 d3 fl2 d4 fl3 d5 d6
   try unfold qX
   try dsimp only
   refine ⟨_,rfl,k,t,l1,l2,l3,[],[],[],[],rfl,hK,fun k1 t1 s1 b1 g1' N2 fE ndE SN2 K1=>?_⟩
   refine ⟨_,rfl,k,t,l1,l2,l3,[],[],[],[],rfl,hK.sm SN2,fun k2 t2 s2 b2 g2' N3 fF ndF SN3 K2=>⟨qo (Nat.le_of_ble_eq_true rfl),fun kl fkl=>?_⟩⟩
   generalize h6:upd N3 kl _=N4
   obtain ⟨fs0,W0⟩:=wd0 (a:=a) nms ln SH2 hq fqH fA SL1 hL1 fll h3 fC S4 hL4 h5 SN1 fE ndE SN2 K1 fF ndF SN3 K2 fkl h6
   clear h3 h5 h6 d1 d2 d3 d4 d5 d6 hK K1 K2 SN1 SN2 SN3 S4 hL4 hL3 hL1 S3 e3 SL1 fA fC fE fF SH2 hq p1 p2 B2 S1 BL1 g1 g2 g3 c1 c2 c3 c4 k5
   try unfold qX
   try dsimp only
   refine ⟨_,rfl,_,_,rfl,.inl ⟨_,W0.sm.seq hS,rfl⟩,_,_,rfl,_,_,rfl,_,_,rfl,⟨by decide,by decide,?_,?_⟩,jd (lo:=1) (D:={ nx:=qh9 (tC (.bl true)) { nx:=fun _ H'=>Q .non H',rt:=Q },rt:=Q }) (fun i σ H2=>∃ (s1 s4 s6 s7 s8:Option V) (fs:Bool->Fp) (Ds:Bool->Dt),σ=[some (.ref sa),s1,some (.ref q),some (.ref ll),s4,some (.ref kl),s6,s7,s8]∧Wd a ns H H2 q ll kl fs Ds (2 * i)) ⟨_,_,_,_,_,fs0,_,rfl,W0⟩ ?_ ?_⟩
   · rw [List.length_map]
     split<;>split<;>omega
   · rw [List.length_map]
     split<;>split<;>omega
   · rintro i σ H2 hi ⟨s1,s4,s6,s7,s8,fs,Ds,rfl,W⟩
     have hi':i≤60:=by
       rw [List.length_map] at hi
       split at hi<;>(try split at hi)<;>omega
     refine ⟨_,rfl,_,rfl,sa,nsc,_,rfl,W.sm.seq hS,(by omega),fun c=>⟨c,rfl,fun p A B fp A0=>?_⟩⟩
     generalize hG:upd H2 p _=G1
     obtain ⟨S1,e1⟩:=qO hG fp
     clear hG
     have p1:PenAt G1 p:=⟨A,B,0,A0,e1⟩
     have P1:=W.pen fp p1
     have W1:=W.same S1
     clear e1 S1 W p1
     try unfold qX
     try dsimp only
     refine ⟨_,rfl,p,2,rfl,P1.pn,by decide,by decide,fun d G2 d0 d1 B2 p2=>?_⟩
     obtain ⟨cc,rfl⟩:=qkw d0 d1
     have W2:=W1.bp P1 B2
     have P2:=P1.bp p2
     clear d0 d1 B2 p2 W1 P1
     try unfold qX
     try dsimp only
     refine QC (t:=qi6 _ _ _) (fun σ' H'=>∃ (fs:Bool->Fp) (Ds:Bool->Dt),σ'=[some (.ref sa),some (.ref p),some (.ref q),some (.ref ll),s4,some (.ref kl),some (.int (1+(i:Int))),some (.int (bi cc)),s8]∧Wd a ns H H' q ll kl fs Ds (2 * i)∧Pn H H' q ll kl fs p) (fun N hN=>?_) ?_
     · refine ⟨_,rfl,p,9,rfl,P2.pn,by decide,by decide,fun e G3 e0 e1 B3 p3=>.inl ⟨rfl,_,rfl,?_⟩⟩
       have W3:=W2.bp P2 B3
       have P3:=P2.bp p3
       refine qhd (fun g=>?_) (fun g=>hN _ _ ⟨fs,Ds,rfl,W3,P3⟩)
       have Sc:=W3.sd cc
       refine ⟨_,rfl,_,rfl,.inl ⟨ll,_,_,_,rfl,rfl,SqL.of W3.hl,qhv (x:=fun c=>(fs c).x),(fs cc).x,(fs cc).dx,_,rfl,Sc.lg.hx,rfl,(fs cc).x,(fs cc).dx,(fs cc).td,(fs cc).ed,(fs cc).bl,(Ds cc).ts,(Ds cc).es,(Ds cc).bs,rfl,Sc.lg,fun x dx td ed bl H4 a1 a2 a3 a4 S4 L4=>?_⟩⟩
       refine ⟨_,rfl,_,rfl,_,_,rfl,rfl,ll,_,_,bN cc,rfl,rfl,S4 _ _ W3.hl,(by cases cc<;>rfl),?_⟩
       generalize h5:upd H4 ll _=H5
       obtain ⟨Sc5,hk5⟩:=W3.k4 S4 h5 cc
       try unfold qX
       try dsimp only
       refine ⟨_,rfl,_,rfl,.inl ⟨kl,_,_,_,rfl,rfl,SqL.of hk5,qhv (x:=fun c=>(fs c).kd),(fs cc).kd,(fs cc).ktd,(fs cc).ksl,(fs cc).kbl,(fs cc).kgl,(Ds cc).ps,(Ds cc).ss,(Ds cc).bs,(Ds cc).gn,rfl,Sc5.k4,fun kd ktd ksl kbl kgl H6 fK ndK S6 K6=>?_⟩⟩
       refine ⟨_,rfl,_,rfl,_,_,rfl,rfl,kl,_,_,bN cc,rfl,rfl,S6 _ _ hk5,(by cases cc<;>rfl),?_⟩
       generalize h7:upd H6 kl _=H7
       obtain ⟨fs',Ds',W7,P7⟩:=W3.copy cc (x:=x) (dx:=dx) (td:=td) (ed:=ed) (bl:=bl) (fun b m=>by
         simp only [List.mem_cons,List.not_mem_nil,or_false] at m
         rcases m with h | h | h | h
         · rw [h]; exact a1
         · rw [h]; exact a2
         · rw [h]; exact a3
         · rw [h]; exact a4) S4 L4 h5 fK ndK S6 K6 h7
       exact hN _ _ ⟨fs',Ds',rfl,W7,P7 p P3⟩
     clear W2 P2 Ds fs
     rintro _ H3 ⟨fs,Ds,rfl,W3,P3⟩
     refine ⟨_,rfl,p,2,rfl,P3.pn,by decide,by decide,fun m H4 m0 m1 B4 p4=>.inl ⟨_,_,rfl,rfl,?_⟩⟩
     have W4:=W3.bp P3 B4
     have P4:=P3.bp p4
     clear W3 P3 B4 p4
     refine ⟨_,rfl,by omega,by omega,jd (lo:=0) (fun j σ H'=>∃ (s8:Option V) (fs:Bool->Fp) (Ds:Bool->Dt),σ=[some (.ref sa),some (.ref p),some (.ref q),some (.ref ll),s4,some (.ref kl),some (.int (1+(i:Int))),some (.int (bi cc)),s8]∧Wd a ns H H' q ll kl fs Ds (2 * i+j)∧Pn H H' q ll kl fs p) ⟨_,fs,Ds,rfl,W4,P4⟩ ?_ ?_⟩
     · rintro j σ H5 hj ⟨s8,fs,Ds,rfl,W5,P5⟩
       have hj':j < 2:=by omega
       refine ⟨_,rfl,_,rfl,.inl ⟨ll,_,_,_,rfl,rfl,SqL.of W5.hl,qhv (x:=fun c=>(fs c).x),_,rfl,_,rfl,.inl ⟨kl,_,_,_,rfl,rfl,SqL.of W5.hk,qhv (x:=fun c=>(fs c).kd),_,rfl,_,rfl,p,q,fs cc,Ds cc,ns,rfl,W5.sd cc,P5.pn,P5.np cc,W5.nq P5 cc,(by have:=W5.gl cc; omega),fun H6 N=>?_⟩⟩⟩
       obtain ⟨fs',Ds',W6,P6⟩:=W5.step P5 cc N
       clear W5 P5 N fs Ds
       have RR:∀ {H7:Hp} (c:Bool),Same H6 H7->Sd a ns H7 (fs' c) (Ds' c):=fun c s=>(W6.sd c).sm s
       try unfold qX
       try dsimp only
       refine ⟨_,rfl,.inl ⟨ll,_,_,_,rfl,rfl,SqL.of W6.hl,rfl,_,rfl,.inl ⟨kl,_,_,_,rfl,rfl,SqL.of W6.hk,rfl,(fs' false).x,(fs' false).dx,(fs' false).td,(fs' false).ed,(fs' false).bl,(fs' false).kd,(fs' false).ktd,(fs' false).ksl,(fs' false).kbl,(fs' false).kgl,(Ds' false).ts,(Ds' false).es,(Ds' false).bs,(Ds' false).ps,(Ds' false).ss,(Ds' false).gn,ns,rfl,(W6.sd false).lg,(W6.sd false).k4,(W6.sd false).pu,fun H7 S7=>⟨true,rfl,zj rfl ?_⟩⟩⟩⟩
       have W7:=W6.same S7
       have P7:=P6.same S7
       refine ⟨_,rfl,.inl ⟨ll,_,_,_,rfl,rfl,SqL.of W7.hl,rfl,_,rfl,.inl ⟨kl,_,_,_,rfl,rfl,SqL.of W7.hk,rfl,(fs' true).x,(fs' true).dx,(fs' true).td,(fs' true).ed,(fs' true).bl,(fs' true).kd,(fs' true).ktd,(fs' true).ksl,(fs' true).kbl,(fs' true).kgl,(Ds' true).ts,(Ds' true).es,(Ds' true).bs,(Ds' true).ps,(Ds' true).ss,(Ds' true).gn,ns,rfl,(W7.sd true).lg,(W7.sd true).k4,(W7.sd true).pu,fun H8 S8=>⟨true,rfl,zj rfl ?_⟩⟩⟩⟩
       exact ⟨_,fs',Ds',rfl,(W7.same S8).mono (by omega),P7.same S8⟩
     · rintro σ H5 ⟨s8,fs,Ds,rfl,W5,P5⟩
       exact ⟨_,_,_,_,_,fs,Ds,rfl,W5.mono (by omega)⟩
   · rintro σ H2 ⟨s1,s4,s6,s7,s8,fs,Ds,rfl,W⟩
     exact kk H2
end
end K37
namespace K37
open PySem L2 PySem.NumText PyProof.Rows KC M04
section
variable {P:Program} {w:World} {K:PySem.W.Frag} {mg:Str->Option Value} {base:Heap}
end
theorem walkX {q:Program} {loose:List Str} {XP:(Str->Option Value)->Heap->Prop} {as:List Addr} {K:Params->PySem.W.Frag} {n m:Nat} {r:PySem.W.RowW} {d:DefRec} {kwd:List (Str×Expr)} {run:Value->List Value->Sem Value}
   (e:∀ P,as=(K P).map (·.1)) (W:PySem.W.WalkO q loose XP (fun w h=>(K w.params).In h) r d kwd run):PySem.W.WalkX q loose XP (PySem.W.X.obsZ as) (PySem.W.X.valZ K n m) r d kwd run :=
 fun w s₀ s₁ mg mb G y a o pm cd doc dV kV h1 h2 h3 h4 h5 h6 args vals as' L hp hl hr hw hlo=>W w s₀ s₁ mg mb G (PySem.W.InK.keeps w _ _ (PySem.W.X.z_facts e y).2.1 L.keeps) a o pm cd doc dV kV h1 h2 h3 h4 h5 h6 args vals as' hp hl hr hw hlo
theorem qkj {p:List Value->Prop} (h:p []):∀ us:List Value,us.length=0->p us:=fun us hl=>by
 cases us with
 | nil=>exact h
 | cons a t=>cases hl
theorem Qk {p:List Value->Prop} (h:∀ a,p [a]):∀ us:List Value,us.length=1->p us:=fun us hl=>by
 cases us with
 | nil=>cases hl
 | cons a t=>exact qkj (p:=fun t=>p (a::t)) (h a) t (Nat.succ.inj hl)
theorem zU {p:List Value->Prop} (h:∀ a b,p [a,b]):∀ us:List Value,us.length=2->p us:=fun us hl=>by
 cases us with
 | nil=>cases hl
 | cons a t=>exact Qk (p:=fun t=>p (a::t)) (h a) t (Nat.succ.inj hl)
theorem qcj {p:List Value->Prop} (h:∀ a b c,p [a,b,c]):∀ us:List Value,us.length=3->p us:=fun us hl=>by
 cases us with
 | nil=>cases hl
 | cons a t=>exact zU (p:=fun t=>p (a::t)) (h a) t (Nat.succ.inj hl)
theorem qdG {p:List Value->Prop} (h:∀ a b c d,p [a,b,c,d]):∀ us:List Value,us.length=4->p us:=fun us hl=>by
 cases us with
 | nil=>cases hl
 | cons a t=>exact qcj (p:=fun t=>p (a::t)) (h a) t (Nat.succ.inj hl)
theorem qki {p:List Value->Prop} (h:∀ a b c d e,p [a,b,c,d,e]):∀ us:List Value,us.length=5->p us:=fun us hl=>by
 cases us with
 | nil=>cases hl
 | cons a t=>exact qdG (p:=fun t=>p (a::t)) (h a) t (Nat.succ.inj hl)
theorem all_mk {l:PySem.W.OpenLaw} {w:World} {K:PySem.W.Frag} {h:Heap} {mg:Str->Option Value} {fa:Addr} (X:K.In h) (G:h.Ns mainGlobals mg) (hfa:mg "law"=some (.ref fa))
   {C_LogError:Addr} (aC_LogError:PySem.W.nsIn K mainGlobals "LogError"=some (some (.ref C_LogError)))
   {C_NoSpans:Addr} (aC_NoSpans:PySem.W.nsIn K mainGlobals "NoSpans"=some (some (.ref C_NoSpans)))
   {C_NoTable:Addr} (aC_NoTable:PySem.W.nsIn K mainGlobals "NoTable"=some (some (.ref C_NoTable)))
   {C_TooMany:Addr} (aC_TooMany:PySem.W.nsIn K mainGlobals "TooMany"=some (some (.ref C_TooMany)))
   {C_NoMoment:Addr} (aC_NoMoment:PySem.W.nsIn K mainGlobals "NoMoment"=some (some (.ref C_NoMoment)))
   {C_NoReading:Addr} (aC_NoReading:PySem.W.nsIn K mainGlobals "NoReading"=some (some (.ref C_NoReading)))
   {C_NoName:Addr} (aC_NoName:PySem.W.nsIn K mainGlobals "NoName"=some (some (.ref C_NoName)))
   {C_NoPlace:Addr} (aC_NoPlace:PySem.W.nsIn K mainGlobals "NoPlace"=some (some (.ref C_NoPlace)))
   {C_NoEntry:Addr} (aC_NoEntry:PySem.W.nsIn K mainGlobals "NoEntry"=some (some (.ref C_NoEntry)))
   {C_Taken:Addr} (aC_Taken:PySem.W.nsIn K mainGlobals "Taken"=some (some (.ref C_Taken)))
   {C_NoMinutes:Addr} (aC_NoMinutes:PySem.W.nsIn K mainGlobals "NoMinutes"=some (some (.ref C_NoMinutes)))
   {C_NoBond:Addr} (aC_NoBond:PySem.W.nsIn K mainGlobals "NoBond"=some (some (.ref C_NoBond)))
   {C_Entry:Addr} (aC_Entry:PySem.W.nsIn K mainGlobals "Entry"=some (some (.ref C_Entry)))
   {C_Within:Addr} (aC_Within:PySem.W.nsIn K mainGlobals "Within"=some (some (.ref C_Within)))
   {C_At:Addr} (aC_At:PySem.W.nsIn K mainGlobals "At"=some (some (.ref C_At)))
   {C_Between:Addr} (aC_Between:PySem.W.nsIn K mainGlobals "Between"=some (some (.ref C_Between)))
   {C_Read:Addr} (aC_Read:PySem.W.nsIn K mainGlobals "Read"=some (some (.ref C_Read)))
   {C_Log:Addr} (aC_Log:PySem.W.nsIn K mainGlobals "Log"=some (some (.ref C_Log)))
   {C_Table:Addr} (aC_Table:PySem.W.nsIn K mainGlobals "Table"=some (some (.ref C_Table)))
   {f0:Addr} {od0 an0:Option Addr} {sl0:Array (Option Value)} {oc0 kV0 dc0 pm0 cd0 ct0:Value}
   (a0:PySem.W.nsIn K mainGlobals "is_number"=some (some (.ref f0))) (l0:K.lookup f0=some ⟨oc0,od0,.func (PySem.W.fnOf "is_number" "is_number" (ql Qr) (qk Qr) (qd Qr) .none kV0 dc0 pm0 an0 cd0 ct0),sl0⟩) (c0:PySem.W.codeIn K cd0 "is_number"=true) (k0:PySem.W.keepIn K (.ref f0)=true)
   {f1:Addr} {od1 an1:Option Addr} {sl1:Array (Option Value)} {oc1 kV1 dc1 pm1 cd1 ct1:Value}
   (a1:PySem.W.nsIn K mainGlobals "is_whole"=some (some (.ref f1))) (l1:K.lookup f1=some ⟨oc1,od1,.func (PySem.W.fnOf "is_whole" "is_whole" (ql QO) (qk QO) (qd QO) .none kV1 dc1 pm1 an1 cd1 ct1),sl1⟩) (c1:PySem.W.codeIn K cd1 "is_whole"=true) (k1:PySem.W.keepIn K (.ref f1)=true)
   {f2:Addr} {od2 an2:Option Addr} {sl2:Array (Option Value)} {oc2 kV2 dc2 pm2 cd2 ct2:Value}
   (a2:PySem.W.nsIn K mainGlobals "is_moment"=some (some (.ref f2))) (l2:K.lookup f2=some ⟨oc2,od2,.func (PySem.W.fnOf "is_moment" "is_moment" (ql Qs) (qk Qs) (qd Qs) .none kV2 dc2 pm2 an2 cd2 ct2),sl2⟩) (c2:PySem.W.codeIn K cd2 "is_moment"=true) (k2:PySem.W.keepIn K (.ref f2)=true)
   {f3:Addr} {od3 an3:Option Addr} {sl3:Array (Option Value)} {oc3 kV3 dc3 pm3 cd3 ct3:Value}
   (a3:PySem.W.nsIn K mainGlobals "is_reading"=some (some (.ref f3))) (l3:K.lookup f3=some ⟨oc3,od3,.func (PySem.W.fnOf "is_reading" "is_reading" (ql zZ) (qk zZ) (qd zZ) .none kV3 dc3 pm3 an3 cd3 ct3),sl3⟩) (c3:PySem.W.codeIn K cd3 "is_reading"=true) (k3:PySem.W.keepIn K (.ref f3)=true)
   {f4:Addr} {od4 an4:Option Addr} {sl4:Array (Option Value)} {oc4 kV4 dc4 pm4 cd4 ct4:Value}
   (a4:PySem.W.nsIn K mainGlobals "is_minutes"=some (some (.ref f4))) (l4:K.lookup f4=some ⟨oc4,od4,.func (PySem.W.fnOf "is_minutes" "is_minutes" (ql z3) (qk z3) (qd z3) .none kV4 dc4 pm4 an4 cd4 ct4),sl4⟩) (c4:PySem.W.codeIn K cd4 "is_minutes"=true) (k4:PySem.W.keepIn K (.ref f4)=true)
   {f5:Addr} {od5 an5:Option Addr} {sl5:Array (Option Value)} {oc5 kV5 dc5 pm5 cd5 ct5:Value}
   (a5:PySem.W.nsIn K mainGlobals "is_name"=some (some (.ref f5))) (l5:K.lookup f5=some ⟨oc5,od5,.func (PySem.W.fnOf "is_name" "is_name" (ql Zp) (qk Zp) (qd Zp) .none kV5 dc5 pm5 an5 cd5 ct5),sl5⟩) (c5:PySem.W.codeIn K cd5 "is_name"=true) (k5:PySem.W.keepIn K (.ref f5)=true)
   {f6:Addr} {od6 an6:Option Addr} {sl6:Array (Option Value)} {oc6 kV6 dc6 pm6 cd6 ct6:Value}
   (a6:PySem.W.nsIn K mainGlobals "is_stretch"=some (some (.ref f6))) (l6:K.lookup f6=some ⟨oc6,od6,.func (PySem.W.fnOf "is_stretch" "is_stretch" (ql zY) (qk zY) (qd zY) .none kV6 dc6 pm6 an6 cd6 ct6),sl6⟩) (c6:PySem.W.codeIn K cd6 "is_stretch"=true) (k6:PySem.W.keepIn K (.ref f6)=true)
   {f7:Addr} {od7 an7:Option Addr} {sl7:Array (Option Value)} {oc7 kV7 dc7 pm7 cd7 ct7:Value}
   (a7:PySem.W.nsIn K mainGlobals "check_stretches"=some (some (.ref f7))) (l7:K.lookup f7=some ⟨oc7,od7,.func (PySem.W.fnOf "check_stretches" "check_stretches" (ql qV) (qk qV) (qd qV) .none kV7 dc7 pm7 an7 cd7 ct7),sl7⟩) (c7:PySem.W.codeIn K cd7 "check_stretches"=true) (k7:PySem.W.keepIn K (.ref f7)=true)
   {f8:Addr} {od8 an8:Option Addr} {sl8:Array (Option Value)} {oc8 kV8 dc8 pm8 cd8 ct8:Value}
   (a8:PySem.W.nsIn K mainGlobals "spans_of"=some (some (.ref f8))) (l8:K.lookup f8=some ⟨oc8,od8,.func (PySem.W.fnOf "spans_of" "spans_of" (ql QN) (qk QN) (qd QN) .none kV8 dc8 pm8 an8 cd8 ct8),sl8⟩) (c8:PySem.W.codeIn K cd8 "spans_of"=true) (k8:PySem.W.keepIn K (.ref f8)=true)
   {f9:Addr} {od9 an9:Option Addr} {sl9:Array (Option Value)} {oc9 kV9 dc9 pm9 cd9 ct9:Value}
   (a9:PySem.W.nsIn K mainGlobals "check_name"=some (some (.ref f9))) (l9:K.lookup f9=some ⟨oc9,od9,.func (PySem.W.fnOf "check_name" "check_name" (ql Qa) (qk Qa) (qd Qa) .none kV9 dc9 pm9 an9 cd9 ct9),sl9⟩) (c9:PySem.W.codeIn K cd9 "check_name"=true) (k9:PySem.W.keepIn K (.ref f9)=true)
   {f10:Addr} {od10 an10:Option Addr} {sl10:Array (Option Value)} {oc10 kV10 dc10 pm10 cd10 ct10:Value}
   (a10:PySem.W.nsIn K mainGlobals "check_moment"=some (some (.ref f10))) (l10:K.lookup f10=some ⟨oc10,od10,.func (PySem.W.fnOf "check_moment" "check_moment" (ql zA) (qk zA) (qd zA) .none kV10 dc10 pm10 an10 cd10 ct10),sl10⟩) (c10:PySem.W.codeIn K cd10 "check_moment"=true) (k10:PySem.W.keepIn K (.ref f10)=true)
   {f11:Addr} {od11 an11:Option Addr} {sl11:Array (Option Value)} {oc11 kV11 dc11 pm11 cd11 ct11:Value}
   (a11:PySem.W.nsIn K mainGlobals "check_reading"=some (some (.ref f11))) (l11:K.lookup f11=some ⟨oc11,od11,.func (PySem.W.fnOf "check_reading" "check_reading" (ql zp) (qk zp) (qd zp) .none kV11 dc11 pm11 an11 cd11 ct11),sl11⟩) (c11:PySem.W.codeIn K cd11 "check_reading"=true) (k11:PySem.W.keepIn K (.ref f11)=true)
   {f12:Addr} {od12 an12:Option Addr} {sl12:Array (Option Value)} {oc12 kV12 dc12 pm12 cd12 ct12:Value}
   (a12:PySem.W.nsIn K mainGlobals "is_key"=some (some (.ref f12))) (l12:K.lookup f12=some ⟨oc12,od12,.func (PySem.W.fnOf "is_key" "is_key" (ql jg) (qk jg) (qd jg) .none kV12 dc12 pm12 an12 cd12 ct12),sl12⟩) (c12:PySem.W.codeIn K cd12 "is_key"=true) (k12:PySem.W.keepIn K (.ref f12)=true)
   {f13:Addr} {od13 an13:Option Addr} {sl13:Array (Option Value)} {oc13 kV13 dc13 pm13 cd13 ct13:Value}
   (a13:PySem.W.nsIn K mainGlobals "is_row"=some (some (.ref f13))) (l13:K.lookup f13=some ⟨oc13,od13,.func (PySem.W.fnOf "is_row" "is_row" (ql je) (qk je) (qd je) .none kV13 dc13 pm13 an13 cd13 ct13),sl13⟩) (c13:PySem.W.codeIn K cd13 "is_row"=true) (k13:PySem.W.keepIn K (.ref f13)=true)
   {f14:Addr} {od14 an14:Option Addr} {sl14:Array (Option Value)} {oc14 kV14 dc14 pm14 cd14 ct14:Value}
   (a14:PySem.W.nsIn K mainGlobals "may_stand"=some (some (.ref f14))) (l14:K.lookup f14=some ⟨oc14,od14,.func (PySem.W.fnOf "may_stand" "may_stand" (ql Qq) (qk Qq) (qd Qq) .none kV14 dc14 pm14 an14 cd14 ct14),sl14⟩) (c14:PySem.W.codeIn K cd14 "may_stand"=true) (k14:PySem.W.keepIn K (.ref f14)=true)
   {f15:Addr} {od15 an15:Option Addr} {sl15:Array (Option Value)} {oc15 kV15 dc15 pm15 cd15 ct15:Value}
   (a15:PySem.W.nsIn K mainGlobals "check_rows"=some (some (.ref f15))) (l15:K.lookup f15=some ⟨oc15,od15,.func (PySem.W.fnOf "check_rows" "check_rows" (ql z9) (qk z9) (qd z9) .none kV15 dc15 pm15 an15 cd15 ct15),sl15⟩) (c15:PySem.W.codeIn K cd15 "check_rows"=true) (k15:PySem.W.keepIn K (.ref f15)=true)
   {f16:Addr} {od16 an16:Option Addr} {sl16:Array (Option Value)} {oc16 kV16 dc16 pm16 cd16 ct16:Value}
   (a16:PySem.W.nsIn K mainGlobals "number_at"=some (some (.ref f16))) (l16:K.lookup f16=some ⟨oc16,od16,.func (PySem.W.fnOf "number_at" "number_at" (ql QX) (qk QX) (qd QX) .none kV16 dc16 pm16 an16 cd16 ct16),sl16⟩) (c16:PySem.W.codeIn K cd16 "number_at"=true) (k16:PySem.W.keepIn K (.ref f16)=true)
   {f17:Addr} {od17 an17:Option Addr} {sl17:Array (Option Value)} {oc17 kV17 dc17 pm17 cd17 ct17:Value}
   (a17:PySem.W.nsIn K mainGlobals "_law_cell"=some (some (.ref f17))) (l17:K.lookup f17=some ⟨oc17,od17,.func (PySem.W.fnOf "_law_cell" "_law_cell" (ql JI) (qk JI) (qd JI) .none kV17 dc17 pm17 an17 cd17 ct17),sl17⟩) (c17:PySem.W.codeIn K cd17 "_law_cell"=true) (k17:PySem.W.keepIn K (.ref f17)=true)
   {f18:Addr} {od18 an18:Option Addr} {sl18:Array (Option Value)} {oc18 kV18 dc18 pm18 cd18 ct18:Value}
   (a18:PySem.W.nsIn K mainGlobals "_law_mix"=some (some (.ref f18))) (l18:K.lookup f18=some ⟨oc18,od18,.func (PySem.W.fnOf "_law_mix" "_law_mix" (ql qbw) (qk qbw) (qd qbw) .none kV18 dc18 pm18 an18 cd18 ct18),sl18⟩) (c18:PySem.W.codeIn K cd18 "_law_mix"=true) (k18:PySem.W.keepIn K (.ref f18)=true)
   {f19:Addr} {od19 an19:Option Addr} {sl19:Array (Option Value)} {oc19 kV19 dc19 pm19 cd19 ct19:Value}
   (a19:PySem.W.nsIn K mainGlobals "_law_begun"=some (some (.ref f19))) (l19:K.lookup f19=some ⟨oc19,od19,.func (PySem.W.fnOf "_law_begun" "_law_begun" (ql jo) (qk jo) (qd jo) .none kV19 dc19 pm19 an19 cd19 ct19),sl19⟩) (c19:PySem.W.codeIn K cd19 "_law_begun"=true) (k19:PySem.W.keepIn K (.ref f19)=true)
   {f20:Addr} {od20 an20:Option Addr} {sl20:Array (Option Value)} {oc20 kV20 dc20 pm20 cd20 ct20:Value}
   (a20:PySem.W.nsIn K mainGlobals "_law_pull"=some (some (.ref f20))) (l20:K.lookup f20=some ⟨oc20,od20,.func (PySem.W.fnOf "_law_pull" "_law_pull" (ql JC) (qk JC) (qd JC) .none kV20 dc20 pm20 an20 cd20 ct20),sl20⟩) (c20:PySem.W.codeIn K cd20 "_law_pull"=true) (k20:PySem.W.keepIn K (.ref f20)=true)
   {f21:Addr} {od21 an21:Option Addr} {sl21:Array (Option Value)} {oc21 kV21 dc21 pm21 cd21 ct21:Value}
   (a21:PySem.W.nsIn K mainGlobals "_law_names"=some (some (.ref f21))) (l21:K.lookup f21=some ⟨oc21,od21,.func (PySem.W.fnOf "_law_names" "_law_names" (ql jm) (qk jm) (qd jm) .none kV21 dc21 pm21 an21 cd21 ct21),sl21⟩) (c21:PySem.W.codeIn K cd21 "_law_names"=true) (k21:PySem.W.keepIn K (.ref f21)=true)
   {f22:Addr} {od22 an22:Option Addr} {sl22:Array (Option Value)} {oc22 kV22 dc22 pm22 cd22 ct22:Value}
   (a22:PySem.W.nsIn K mainGlobals "_law_shift"=some (some (.ref f22))) (l22:K.lookup f22=some ⟨oc22,od22,.func (PySem.W.fnOf "_law_shift" "_law_shift" (ql jj) (qk jj) (qd jj) .none kV22 dc22 pm22 an22 cd22 ct22),sl22⟩) (c22:PySem.W.codeIn K cd22 "_law_shift"=true) (k22:PySem.W.keepIn K (.ref f22)=true)
   {f23:Addr} {od23 an23:Option Addr} {sl23:Array (Option Value)} {oc23 kV23 dc23 pm23 cd23 ct23:Value}
   (a23:PySem.W.nsIn K mainGlobals "_law_rows"=some (some (.ref f23))) (l23:K.lookup f23=some ⟨oc23,od23,.func (PySem.W.fnOf "_law_rows" "_law_rows" (ql JB) (qk JB) (qd JB) .none kV23 dc23 pm23 an23 cd23 ct23),sl23⟩) (c23:PySem.W.codeIn K cd23 "_law_rows"=true) (k23:PySem.W.keepIn K (.ref f23)=true)
   {f24:Addr} {od24 an24:Option Addr} {sl24:Array (Option Value)} {oc24 kV24 dc24 pm24 cd24 ct24:Value}
   (a24:PySem.W.nsIn K mainGlobals "_law_pieces"=some (some (.ref f24))) (l24:K.lookup f24=some ⟨oc24,od24,.func (PySem.W.fnOf "_law_pieces" "_law_pieces" (ql Zq) (qk Zq) (qd Zq) .none kV24 dc24 pm24 an24 cd24 ct24),sl24⟩) (c24:PySem.W.codeIn K cd24 "_law_pieces"=true) (k24:PySem.W.keepIn K (.ref f24)=true)
   {f25:Addr} {od25 an25:Option Addr} {sl25:Array (Option Value)} {oc25 kV25 dc25 pm25 cd25 ct25:Value}
   (a25:PySem.W.nsIn K mainGlobals "_law_joined"=some (some (.ref f25))) (l25:K.lookup f25=some ⟨oc25,od25,.func (PySem.W.fnOf "_law_joined" "_law_joined" (ql Zs) (qk Zs) (qd Zs) .none kV25 dc25 pm25 an25 cd25 ct25),sl25⟩) (c25:PySem.W.codeIn K cd25 "_law_joined"=true) (k25:PySem.W.keepIn K (.ref f25)=true)
   {f26:Addr} {od26 an26:Option Addr} {sl26:Array (Option Value)} {oc26 kV26 dc26 pm26 cd26 ct26:Value}
   (a26:PySem.W.nsIn K mainGlobals "_law_shown"=some (some (.ref f26))) (l26:K.lookup f26=some ⟨oc26,od26,.func (PySem.W.fnOf "_law_shown" "_law_shown" (ql ji) (qk ji) (qd ji) .none kV26 dc26 pm26 an26 cd26 ct26),sl26⟩) (c26:PySem.W.codeIn K cd26 "_law_shown"=true) (k26:PySem.W.keepIn K (.ref f26)=true)
   {f27:Addr} {od27 an27:Option Addr} {sl27:Array (Option Value)} {oc27 kV27 dc27 pm27 cd27 ct27:Value}
   (a27:PySem.W.nsIn K mainGlobals "_law_same"=some (some (.ref f27))) (l27:K.lookup f27=some ⟨oc27,od27,.func (PySem.W.fnOf "_law_same" "_law_same" (ql JA) (qk JA) (qd JA) .none kV27 dc27 pm27 an27 cd27 ct27),sl27⟩) (c27:PySem.W.codeIn K cd27 "_law_same"=true) (k27:PySem.W.keepIn K (.ref f27)=true)
   {f28:Addr} {od28 an28:Option Addr} {sl28:Array (Option Value)} {oc28 kV28 dc28 pm28 cd28 ct28:Value}
   (a28:PySem.W.nsIn K mainGlobals "_law_near"=some (some (.ref f28))) (l28:K.lookup f28=some ⟨oc28,od28,.func (PySem.W.fnOf "_law_near" "_law_near" (ql JD) (qk JD) (qd JD) .none kV28 dc28 pm28 an28 cd28 ct28),sl28⟩) (c28:PySem.W.codeIn K cd28 "_law_near"=true) (k28:PySem.W.keepIn K (.ref f28)=true)
   {f29:Addr} {od29 an29:Option Addr} {sl29:Array (Option Value)} {oc29 kV29 dc29 pm29 cd29 ct29:Value}
   (a29:PySem.W.nsIn K mainGlobals "_law_spec"=some (some (.ref f29))) (l29:K.lookup f29=some ⟨oc29,od29,.func (PySem.W.fnOf "_law_spec" "_law_spec" (ql Jz) (qk Jz) (qd Jz) .none kV29 dc29 pm29 an29 cd29 ct29),sl29⟩) (c29:PySem.W.codeIn K cd29 "_law_spec"=true) (k29:PySem.W.keepIn K (.ref f29)=true)
   {f30:Addr} {od30 an30:Option Addr} {sl30:Array (Option Value)} {oc30 kV30 dc30 pm30 cd30 ct30:Value}
   (a30:PySem.W.nsIn K mainGlobals "_law_made"=some (some (.ref f30))) (l30:K.lookup f30=some ⟨oc30,od30,.func (PySem.W.fnOf "_law_made" "_law_made" (ql JE) (qk JE) (qd JE) .none kV30 dc30 pm30 an30 cd30 ct30),sl30⟩) (c30:PySem.W.codeIn K cd30 "_law_made"=true) (k30:PySem.W.keepIn K (.ref f30)=true)
   {f31:Addr} {od31 an31:Option Addr} {sl31:Array (Option Value)} {oc31 kV31 dc31 pm31 cd31 ct31:Value}
   (a31:PySem.W.nsIn K mainGlobals "_law_spans"=some (some (.ref f31))) (l31:K.lookup f31=some ⟨oc31,od31,.func (PySem.W.fnOf "_law_spans" "_law_spans" (ql jh) (qk jh) (qd jh) .none kV31 dc31 pm31 an31 cd31 ct31),sl31⟩) (c31:PySem.W.codeIn K cd31 "_law_spans"=true) (k31:PySem.W.keepIn K (.ref f31)=true)
   {f32:Addr} {od32 an32:Option Addr} {sl32:Array (Option Value)} {oc32 kV32 dc32 pm32 cd32 ct32:Value}
   (a32:PySem.W.nsIn K mainGlobals "_law_right"=some (some (.ref f32))) (l32:K.lookup f32=some ⟨oc32,od32,.func (PySem.W.fnOf "_law_right" "_law_right" (ql jk) (qk jk) (qd jk) .none kV32 dc32 pm32 an32 cd32 ct32),sl32⟩) (c32:PySem.W.codeIn K cd32 "_law_right"=true) (k32:PySem.W.keepIn K (.ref f32)=true)
   {f33:Addr} {od33 an33:Option Addr} {sl33:Array (Option Value)} {oc33 kV33 dc33 pm33 cd33 ct33:Value}
   (a33:PySem.W.nsIn K mainGlobals "_law_gone"=some (some (.ref f33))) (l33:K.lookup f33=some ⟨oc33,od33,.func (PySem.W.fnOf "_law_gone" "_law_gone" (ql JF) (qk JF) (qd JF) .none kV33 dc33 pm33 an33 cd33 ct33),sl33⟩) (c33:PySem.W.codeIn K cd33 "_law_gone"=true) (k33:PySem.W.keepIn K (.ref f33)=true)
   {f34:Addr} {od34 an34:Option Addr} {sl34:Array (Option Value)} {oc34 kV34 dc34 pm34 cd34 ct34:Value}
   (a34:PySem.W.nsIn K mainGlobals "_law_copy"=some (some (.ref f34))) (l34:K.lookup f34=some ⟨oc34,od34,.func (PySem.W.fnOf "_law_copy" "_law_copy" (ql JH) (qk JH) (qd JH) .none kV34 dc34 pm34 an34 cd34 ct34),sl34⟩) (c34:PySem.W.codeIn K cd34 "_law_copy"=true) (k34:PySem.W.keepIn K (.ref f34)=true)
   {f35:Addr} {od35 an35:Option Addr} {sl35:Array (Option Value)} {oc35 kV35 dc35 pm35 cd35 ct35:Value}
   (a35:PySem.W.nsIn K mainGlobals "_law_bound"=some (some (.ref f35))) (l35:K.lookup f35=some ⟨oc35,od35,.func (PySem.W.fnOf "_law_bound" "_law_bound" (ql jn) (qk jn) (qd jn) .none kV35 dc35 pm35 an35 cd35 ct35),sl35⟩) (c35:PySem.W.codeIn K cd35 "_law_bound"=true) (k35:PySem.W.keepIn K (.ref f35)=true)
   {f36:Addr} {od36 an36:Option Addr} {sl36:Array (Option Value)} {oc36 kV36 dc36 pm36 cd36 ct36:Value}
   (a36:PySem.W.nsIn K mainGlobals "_law_dropped"=some (some (.ref f36))) (l36:K.lookup f36=some ⟨oc36,od36,.func (PySem.W.fnOf "_law_dropped" "_law_dropped" (ql QS) (qk QS) (qd QS) .none kV36 dc36 pm36 an36 cd36 ct36),sl36⟩) (c36:PySem.W.codeIn K cd36 "_law_dropped"=true) (k36:PySem.W.keepIn K (.ref f36)=true)
   {f37:Addr} {od37 an37:Option Addr} {sl37:Array (Option Value)} {oc37 kV37 dc37 pm37 cd37 ct37:Value}
   (a37:PySem.W.nsIn K mainGlobals "_law_put"=some (some (.ref f37))) (l37:K.lookup f37=some ⟨oc37,od37,.func (PySem.W.fnOf "_law_put" "_law_put" (ql qbv) (qk qbv) (qd qbv) .none kV37 dc37 pm37 an37 cd37 ct37),sl37⟩) (c37:PySem.W.codeIn K cd37 "_law_put"=true) (k37:PySem.W.keepIn K (.ref f37)=true)
   {f38:Addr} {od38 an38:Option Addr} {sl38:Array (Option Value)} {oc38 kV38 dc38 pm38 cd38 ct38:Value}
   (a38:PySem.W.nsIn K mainGlobals "_law_done"=some (some (.ref f38))) (l38:K.lookup f38=some ⟨oc38,od38,.func (PySem.W.fnOf "_law_done" "_law_done" (ql JG) (qk JG) (qd JG) .none kV38 dc38 pm38 an38 cd38 ct38),sl38⟩) (c38:PySem.W.codeIn K cd38 "_law_done"=true) (k38:PySem.W.keepIn K (.ref f38)=true)
   {f39:Addr} {od39 an39:Option Addr} {sl39:Array (Option Value)} {oc39 kV39 dc39 pm39 cd39 ct39:Value}
   (a39:PySem.W.nsIn K mainGlobals "law"=some (some (.ref f39))) (l39:K.lookup f39=some ⟨oc39,od39,.func (PySem.W.fnOf "law" "law" (ql qeG) (qk qeG) (qd qeG) .none kV39 dc39 pm39 an39 cd39 ct39),sl39⟩) (c39:PySem.W.codeIn K cd39 "law"=true) (k39:PySem.W.keepIn K (.ref f39)=true)
   {f40:Addr} {od40 an40:Option Addr} {sl40:Array (Option Value)} {oc40 kV40 dc40 pm40 cd40 ct40:Value}
   (a40:PySem.W.findIn K (.ref C_Entry) "__init__"=some (some (.ref f40))) (i40:PySem.W.isFn K (.ref f40)=true) (l40:K.lookup f40=some ⟨oc40,od40,.func (PySem.W.fnOf "__init__" "Entry.__init__" (ql Qf) (qk Qf) (qd Qf) .none kV40 dc40 pm40 an40 cd40 ct40),sl40⟩) (c40:PySem.W.codeIn K cd40 "Entry.__init__"=true) (k40:PySem.W.keepIn K (.ref f40)=true)
   {f41:Addr} {od41 an41:Option Addr} {sl41:Array (Option Value)} {oc41 kV41 dc41 pm41 cd41 ct41:Value}
   (a41:PySem.W.findIn K (.ref C_Entry) "places"=some (some (.ref f41))) (i41:PySem.W.isFn K (.ref f41)=true) (l41:K.lookup f41=some ⟨oc41,od41,.func (PySem.W.fnOf "places" "Entry.places" (ql zE) (qk zE) (qd zE) .none kV41 dc41 pm41 an41 cd41 ct41),sl41⟩) (c41:PySem.W.codeIn K cd41 "Entry.places"=true) (k41:PySem.W.keepIn K (.ref f41)=true)
   {f42:Addr} {od42 an42:Option Addr} {sl42:Array (Option Value)} {oc42 kV42 dc42 pm42 cd42 ct42:Value}
   (a42:PySem.W.findIn K (.ref C_Entry) "spans"=some (some (.ref f42))) (i42:PySem.W.isFn K (.ref f42)=true) (l42:K.lookup f42=some ⟨oc42,od42,.func (PySem.W.fnOf "spans" "Entry.spans" (ql zP) (qk zP) (qd zP) .none kV42 dc42 pm42 an42 cd42 ct42),sl42⟩) (c42:PySem.W.codeIn K cd42 "Entry.spans"=true) (k42:PySem.W.keepIn K (.ref f42)=true)
   {f43:Addr} {od43 an43:Option Addr} {sl43:Array (Option Value)} {oc43 kV43 dc43 pm43 cd43 ct43:Value}
   (a43:PySem.W.findIn K (.ref C_Within) "__init__"=some (some (.ref f43))) (i43:PySem.W.isFn K (.ref f43)=true) (l43:K.lookup f43=some ⟨oc43,od43,.func (PySem.W.fnOf "__init__" "Within.__init__" (ql zO) (qk zO) (qd zO) .none kV43 dc43 pm43 an43 cd43 ct43),sl43⟩) (c43:PySem.W.codeIn K cd43 "Within.__init__"=true) (k43:PySem.W.keepIn K (.ref f43)=true)
   {f44:Addr} {od44 an44:Option Addr} {sl44:Array (Option Value)} {oc44 kV44 dc44 pm44 cd44 ct44:Value}
   (a44:PySem.W.findIn K (.ref C_Within) "spans"=some (some (.ref f44))) (i44:PySem.W.isFn K (.ref f44)=true) (l44:K.lookup f44=some ⟨oc44,od44,.func (PySem.W.fnOf "spans" "Within.spans" (ql zB) (qk zB) (qd zB) .none kV44 dc44 pm44 an44 cd44 ct44),sl44⟩) (c44:PySem.W.codeIn K cd44 "Within.spans"=true) (k44:PySem.W.keepIn K (.ref f44)=true)
   {f45:Addr} {od45 an45:Option Addr} {sl45:Array (Option Value)} {oc45 kV45 dc45 pm45 cd45 ct45:Value}
   (a45:PySem.W.findIn K (.ref C_At) "__init__"=some (some (.ref f45))) (i45:PySem.W.isFn K (.ref f45)=true) (l45:K.lookup f45=some ⟨oc45,od45,.func (PySem.W.fnOf "__init__" "At.__init__" (ql Zt) (qk Zt) (qd Zt) .none kV45 dc45 pm45 an45 cd45 ct45),sl45⟩) (c45:PySem.W.codeIn K cd45 "At.__init__"=true) (k45:PySem.W.keepIn K (.ref f45)=true)
   {f46:Addr} {od46 an46:Option Addr} {sl46:Array (Option Value)} {oc46 kV46 dc46 pm46 cd46 ct46:Value}
   (a46:PySem.W.findIn K (.ref C_Between) "__init__"=some (some (.ref f46))) (i46:PySem.W.isFn K (.ref f46)=true) (l46:K.lookup f46=some ⟨oc46,od46,.func (PySem.W.fnOf "__init__" "Between.__init__" (ql zF) (qk zF) (qd zF) .none kV46 dc46 pm46 an46 cd46 ct46),sl46⟩) (c46:PySem.W.codeIn K cd46 "Between.__init__"=true) (k46:PySem.W.keepIn K (.ref f46)=true)
   {f47:Addr} {od47 an47:Option Addr} {sl47:Array (Option Value)} {oc47 kV47 dc47 pm47 cd47 ct47:Value}
   (a47:PySem.W.findIn K (.ref C_Between) "places"=some (some (.ref f47))) (i47:PySem.W.isFn K (.ref f47)=true) (l47:K.lookup f47=some ⟨oc47,od47,.func (PySem.W.fnOf "places" "Between.places" (ql ze) (qk ze) (qd ze) .none kV47 dc47 pm47 an47 cd47 ct47),sl47⟩) (c47:PySem.W.codeIn K cd47 "Between.places"=true) (k47:PySem.W.keepIn K (.ref f47)=true)
   {f48:Addr} {od48 an48:Option Addr} {sl48:Array (Option Value)} {oc48 kV48 dc48 pm48 cd48 ct48:Value}
   (a48:PySem.W.findIn K (.ref C_Between) "spans"=some (some (.ref f48))) (i48:PySem.W.isFn K (.ref f48)=true) (l48:K.lookup f48=some ⟨oc48,od48,.func (PySem.W.fnOf "spans" "Between.spans" (ql zt) (qk zt) (qd zt) .none kV48 dc48 pm48 an48 cd48 ct48),sl48⟩) (c48:PySem.W.codeIn K cd48 "Between.spans"=true) (k48:PySem.W.keepIn K (.ref f48)=true)
   {f49:Addr} {od49 an49:Option Addr} {sl49:Array (Option Value)} {oc49 kV49 dc49 pm49 cd49 ct49:Value}
   (a49:PySem.W.findIn K (.ref C_Read) "__init__"=some (some (.ref f49))) (i49:PySem.W.isFn K (.ref f49)=true) (l49:K.lookup f49=some ⟨oc49,od49,.func (PySem.W.fnOf "__init__" "Read.__init__" (ql Qt) (qk Qt) (qd Qt) .none kV49 dc49 pm49 an49 cd49 ct49),sl49⟩) (c49:PySem.W.codeIn K cd49 "Read.__init__"=true) (k49:PySem.W.keepIn K (.ref f49)=true)
   {f50:Addr} {od50 an50:Option Addr} {sl50:Array (Option Value)} {oc50 kV50 dc50 pm50 cd50 ct50:Value}
   (a50:PySem.W.findIn K (.ref C_Log) "__init__"=some (some (.ref f50))) (i50:PySem.W.isFn K (.ref f50)=true) (l50:K.lookup f50=some ⟨oc50,od50,.func (PySem.W.fnOf "__init__" "Log.__init__" (ql QP) (qk QP) (qd QP) .none kV50 dc50 pm50 an50 cd50 ct50),sl50⟩) (c50:PySem.W.codeIn K cd50 "Log.__init__"=true) (k50:PySem.W.keepIn K (.ref f50)=true)
   {f51:Addr} {od51 an51:Option Addr} {sl51:Array (Option Value)} {oc51 kV51 dc51 pm51 cd51 ct51:Value}
   (a51:PySem.W.findIn K (.ref C_Log) "clock"=some (some (.ref f51))) (i51:PySem.W.isFn K (.ref f51)=true) (l51:K.lookup f51=some ⟨oc51,od51,.func (PySem.W.fnOf "clock" "Log.clock" (ql Qx) (qk Qx) (qd Qx) .none kV51 dc51 pm51 an51 cd51 ct51),sl51⟩) (c51:PySem.W.codeIn K cd51 "Log.clock"=true) (k51:PySem.W.keepIn K (.ref f51)=true)
   {f52:Addr} {od52 an52:Option Addr} {sl52:Array (Option Value)} {oc52 kV52 dc52 pm52 cd52 ct52:Value}
   (a52:PySem.W.findIn K (.ref C_Log) "put"=some (some (.ref f52))) (i52:PySem.W.isFn K (.ref f52)=true) (l52:K.lookup f52=some ⟨oc52,od52,.func (PySem.W.fnOf "put" "Log.put" (ql Zr) (qk Zr) (qd Zr) .none kV52 dc52 pm52 an52 cd52 ct52),sl52⟩) (c52:PySem.W.codeIn K cd52 "Log.put"=true) (k52:PySem.W.keepIn K (.ref f52)=true)
   {f53:Addr} {od53 an53:Option Addr} {sl53:Array (Option Value)} {oc53 kV53 dc53 pm53 cd53 ct53:Value}
   (a53:PySem.W.findIn K (.ref C_Log) "bind"=some (some (.ref f53))) (i53:PySem.W.isFn K (.ref f53)=true) (l53:K.lookup f53=some ⟨oc53,od53,.func (PySem.W.fnOf "bind" "Log.bind" (ql QR) (qk QR) (qd QR) .none kV53 dc53 pm53 an53 cd53 ct53),sl53⟩) (c53:PySem.W.codeIn K cd53 "Log.bind"=true) (k53:PySem.W.keepIn K (.ref f53)=true)
   {f54:Addr} {od54 an54:Option Addr} {sl54:Array (Option Value)} {oc54 kV54 dc54 pm54 cd54 ct54:Value}
   (a54:PySem.W.findIn K (.ref C_Log) "unbind"=some (some (.ref f54))) (i54:PySem.W.isFn K (.ref f54)=true) (l54:K.lookup f54=some ⟨oc54,od54,.func (PySem.W.fnOf "unbind" "Log.unbind" (ql Qc) (qk Qc) (qd Qc) .none kV54 dc54 pm54 an54 cd54 ct54),sl54⟩) (c54:PySem.W.codeIn K cd54 "Log.unbind"=true) (k54:PySem.W.keepIn K (.ref f54)=true)
   {f55:Addr} {od55 an55:Option Addr} {sl55:Array (Option Value)} {oc55 kV55 dc55 pm55 cd55 ct55:Value}
   (a55:PySem.W.findIn K (.ref C_Log) "drop"=some (some (.ref f55))) (i55:PySem.W.isFn K (.ref f55)=true) (l55:K.lookup f55=some ⟨oc55,od55,.func (PySem.W.fnOf "drop" "Log.drop" (ql QQ) (qk QQ) (qd QQ) .none kV55 dc55 pm55 an55 cd55 ct55),sl55⟩) (c55:PySem.W.codeIn K cd55 "Log.drop"=true) (k55:PySem.W.keepIn K (.ref f55)=true)
   {f56:Addr} {od56 an56:Option Addr} {sl56:Array (Option Value)} {oc56 kV56 dc56 pm56 cd56 ct56:Value}
   (a56:PySem.W.findIn K (.ref C_Log) "check_entry"=some (some (.ref f56))) (i56:PySem.W.isFn K (.ref f56)=true) (l56:K.lookup f56=some ⟨oc56,od56,.func (PySem.W.fnOf "check_entry" "Log.check_entry" (ql qW) (qk qW) (qd qW) .none kV56 dc56 pm56 an56 cd56 ct56),sl56⟩) (c56:PySem.W.codeIn K cd56 "Log.check_entry"=true) (k56:PySem.W.keepIn K (.ref f56)=true)
   {f57:Addr} {od57 an57:Option Addr} {sl57:Array (Option Value)} {oc57 kV57 dc57 pm57 cd57 ct57:Value}
   (a57:PySem.W.findIn K (.ref C_Log) "check_bond"=some (some (.ref f57))) (i57:PySem.W.isFn K (.ref f57)=true) (l57:K.lookup f57=some ⟨oc57,od57,.func (PySem.W.fnOf "check_bond" "Log.check_bond" (ql zd) (qk zd) (qd zd) .none kV57 dc57 pm57 an57 cd57 ct57),sl57⟩) (c57:PySem.W.codeIn K cd57 "Log.check_bond"=true) (k57:PySem.W.keepIn K (.ref f57)=true)
   {f58:Addr} {od58 an58:Option Addr} {sl58:Array (Option Value)} {oc58 kV58 dc58 pm58 cd58 ct58:Value}
   (a58:PySem.W.findIn K (.ref C_Log) "names"=some (some (.ref f58))) (i58:PySem.W.isFn K (.ref f58)=true) (l58:K.lookup f58=some ⟨oc58,od58,.func (PySem.W.fnOf "names" "Log.names" (ql Qv) (qk Qv) (qd Qv) .none kV58 dc58 pm58 an58 cd58 ct58),sl58⟩) (c58:PySem.W.codeIn K cd58 "Log.names"=true) (k58:PySem.W.keepIn K (.ref f58)=true)
   {f59:Addr} {od59 an59:Option Addr} {sl59:Array (Option Value)} {oc59 kV59 dc59 pm59 cd59 ct59:Value}
   (a59:PySem.W.findIn K (.ref C_Log) "entry"=some (some (.ref f59))) (i59:PySem.W.isFn K (.ref f59)=true) (l59:K.lookup f59=some ⟨oc59,od59,.func (PySem.W.fnOf "entry" "Log.entry" (ql Qw) (qk Qw) (qd Qw) .none kV59 dc59 pm59 an59 cd59 ct59),sl59⟩) (c59:PySem.W.codeIn K cd59 "Log.entry"=true) (k59:PySem.W.keepIn K (.ref f59)=true)
   {f60:Addr} {od60 an60:Option Addr} {sl60:Array (Option Value)} {oc60 kV60 dc60 pm60 cd60 ct60:Value}
   (a60:PySem.W.findIn K (.ref C_Log) "spans"=some (some (.ref f60))) (i60:PySem.W.isFn K (.ref f60)=true) (l60:K.lookup f60=some ⟨oc60,od60,.func (PySem.W.fnOf "spans" "Log.spans" (ql Qu) (qk Qu) (qd Qu) .none kV60 dc60 pm60 an60 cd60 ct60),sl60⟩) (c60:PySem.W.codeIn K cd60 "Log.spans"=true) (k60:PySem.W.keepIn K (.ref f60)=true)
   {f61:Addr} {od61 an61:Option Addr} {sl61:Array (Option Value)} {oc61 kV61 dc61 pm61 cd61 ct61:Value}
   (a61:PySem.W.findIn K (.ref C_Log) "bonds"=some (some (.ref f61))) (i61:PySem.W.isFn K (.ref f61)=true) (l61:K.lookup f61=some ⟨oc61,od61,.func (PySem.W.fnOf "bonds" "Log.bonds" (ql Qy) (qk Qy) (qd Qy) .none kV61 dc61 pm61 an61 cd61 ct61),sl61⟩) (c61:PySem.W.codeIn K cd61 "Log.bonds"=true) (k61:PySem.W.keepIn K (.ref f61)=true)
   {f62:Addr} {od62 an62:Option Addr} {sl62:Array (Option Value)} {oc62 kV62 dc62 pm62 cd62 ct62:Value}
   (a62:PySem.W.findIn K (.ref C_Log) "places"=some (some (.ref f62))) (i62:PySem.W.isFn K (.ref f62)=true) (l62:K.lookup f62=some ⟨oc62,od62,.func (PySem.W.fnOf "places" "Log.places" (ql Qd) (qk Qd) (qd Qd) .none kV62 dc62 pm62 an62 cd62 ct62),sl62⟩) (c62:PySem.W.codeIn K cd62 "Log.places"=true) (k62:PySem.W.keepIn K (.ref f62)=true)
   {f63:Addr} {od63 an63:Option Addr} {sl63:Array (Option Value)} {oc63 kV63 dc63 pm63 cd63 ct63:Value}
   (a63:PySem.W.findIn K (.ref C_Log) "table"=some (some (.ref f63))) (i63:PySem.W.isFn K (.ref f63)=true) (l63:K.lookup f63=some ⟨oc63,od63,.func (PySem.W.fnOf "table" "Log.table" (ql QY) (qk QY) (qd QY) .none kV63 dc63 pm63 an63 cd63 ct63),sl63⟩) (c63:PySem.W.codeIn K cd63 "Log.table"=true) (k63:PySem.W.keepIn K (.ref f63)=true)
   {f64:Addr} {od64 an64:Option Addr} {sl64:Array (Option Value)} {oc64 kV64 dc64 pm64 cd64 ct64:Value}
   (a64:PySem.W.findIn K (.ref C_Log) "copied"=some (some (.ref f64))) (i64:PySem.W.isFn K (.ref f64)=true) (l64:K.lookup f64=some ⟨oc64,od64,.func (PySem.W.fnOf "copied" "Log.copied" (ql Qe) (qk Qe) (qd Qe) .none kV64 dc64 pm64 an64 cd64 ct64),sl64⟩) (c64:PySem.W.codeIn K cd64 "Log.copied"=true) (k64:PySem.W.keepIn K (.ref f64)=true)
   {f65:Addr} {od65 an65:Option Addr} {sl65:Array (Option Value)} {oc65 kV65 dc65 pm65 cd65 ct65:Value}
   (a65:PySem.W.findIn K (.ref C_Table) "__init__"=some (some (.ref f65))) (i65:PySem.W.isFn K (.ref f65)=true) (l65:K.lookup f65=some ⟨oc65,od65,.func (PySem.W.fnOf "__init__" "Table.__init__" (ql Qb) (qk Qb) (qd Qb) .none kV65 dc65 pm65 an65 cd65 ct65),sl65⟩) (c65:PySem.W.codeIn K cd65 "Table.__init__"=true) (k65:PySem.W.keepIn K (.ref f65)=true)
   {f66:Addr} {od66 an66:Option Addr} {sl66:Array (Option Value)} {oc66 kV66 dc66 pm66 cd66 ct66:Value}
   (a66:PySem.W.findIn K (.ref C_Table) "rows"=some (some (.ref f66))) (i66:PySem.W.isFn K (.ref f66)=true) (l66:K.lookup f66=some ⟨oc66,od66,.func (PySem.W.fnOf "rows" "Table.rows" (ql QD) (qk QD) (qd QD) .none kV66 dc66 pm66 an66 cd66 ct66),sl66⟩) (c66:PySem.W.codeIn K cd66 "Table.rows"=true) (k66:PySem.W.keepIn K (.ref f66)=true)
   {f67:Addr} {od67 an67:Option Addr} {sl67:Array (Option Value)} {oc67 kV67 dc67 pm67 cd67 ct67:Value}
   (a67:PySem.W.findIn K (.ref C_Table) "pieces"=some (some (.ref f67))) (i67:PySem.W.isFn K (.ref f67)=true) (l67:K.lookup f67=some ⟨oc67,od67,.func (PySem.W.fnOf "pieces" "Table.pieces" (ql zC) (qk zC) (qd zC) .none kV67 dc67 pm67 an67 cd67 ct67),sl67⟩) (c67:PySem.W.codeIn K cd67 "Table.pieces"=true) (k67:PySem.W.keepIn K (.ref f67)=true)
   {f68:Addr} {od68 an68:Option Addr} {sl68:Array (Option Value)} {oc68 kV68 dc68 pm68 cd68 ct68:Value}
   (a68:PySem.W.findIn K (.ref C_Table) "shift_at"=some (some (.ref f68))) (i68:PySem.W.isFn K (.ref f68)=true) (l68:K.lookup f68=some ⟨oc68,od68,.func (PySem.W.fnOf "shift_at" "Table.shift_at" (ql zw) (qk zw) (qd zw) .none kV68 dc68 pm68 an68 cd68 ct68),sl68⟩) (c68:PySem.W.codeIn K cd68 "Table.shift_at"=true) (k68:PySem.W.keepIn K (.ref f68)=true)
   {f69:Addr} {od69 an69:Option Addr} {sl69:Array (Option Value)} {oc69 kV69 dc69 pm69 cd69 ct69:Value}
   (a69:PySem.W.findIn K (.ref C_Table) "reading"=some (some (.ref f69))) (i69:PySem.W.isFn K (.ref f69)=true) (l69:K.lookup f69=some ⟨oc69,od69,.func (PySem.W.fnOf "reading" "Table.reading" (ql zI) (qk zI) (qd zI) .none kV69 dc69 pm69 an69 cd69 ct69),sl69⟩) (c69:PySem.W.codeIn K cd69 "Table.reading"=true) (k69:PySem.W.keepIn K (.ref f69)=true)
   {f70:Addr} {od70 an70:Option Addr} {sl70:Array (Option Value)} {oc70 kV70 dc70 pm70 cd70 ct70:Value}
   (a70:PySem.W.findIn K (.ref C_Table) "moments_between"=some (some (.ref f70))) (i70:PySem.W.isFn K (.ref f70)=true) (l70:K.lookup f70=some ⟨oc70,od70,.func (PySem.W.fnOf "moments_between" "Table.moments_between" (ql qI) (qk qI) (qd qI) .none kV70 dc70 pm70 an70 cd70 ct70),sl70⟩) (c70:PySem.W.codeIn K cd70 "Table.moments_between"=true) (k70:PySem.W.keepIn K (.ref f70)=true)
   {f71:Addr} {od71 an71:Option Addr} {sl71:Array (Option Value)} {oc71 kV71 dc71 pm71 cd71 ct71:Value}
   (a71:PySem.W.findIn K (.ref C_NoEntry) "__init__"=some (some (.ref f71))) (i71:PySem.W.isFn K (.ref f71)=true) (l71:K.lookup f71=some ⟨oc71,od71,.func (PySem.W.fnOf "__init__" "NoEntry.__init__" (ql zD) (qk zD) (qd zD) .none kV71 dc71 pm71 an71 cd71 ct71),sl71⟩) (c71:PySem.W.codeIn K cd71 "NoEntry.__init__"=true) (k71:PySem.W.keepIn K (.ref f71)=true)
   {f72:Addr} {od72 an72:Option Addr} {sl72:Array (Option Value)} {oc72 kV72 dc72 pm72 cd72 ct72:Value}
   (a72:PySem.W.findIn K (.ref C_LogError) "__init__"=some (some (.ref f72))) (i72:PySem.W.isFn K (.ref f72)=true) (l72:K.lookup f72=some ⟨oc72,od72,.func (PySem.W.fnOf "__init__" "LogError.__init__" (ql zq) (qk zq) (qd zq) .none kV72 dc72 pm72 an72 cd72 ct72),sl72⟩) (c72:PySem.W.codeIn K cd72 "LogError.__init__"=true) (k72:PySem.W.keepIn K (.ref f72)=true)
   (pg_Entry:PySem.W.plainGet K C_Entry Str.empty=true) (hd_Entry:PySem.W.hasDictIn K C_Entry=true) (po_Entry:PySem.W.plainOver K C_Entry=true) (sa_Entry:PySem.W.findIn K (.ref C_Entry) "__setattr__"=some (some (.builtin "object.__setattr__"))) (mk_Entry:PySem.W.makesIn K C_Entry=true) (kc_Entry:PySem.W.keepIn K (.ref C_Entry)=true)
   (nf_Entry_name:PySem.W.findIn K (.ref C_Entry) "name"=some none)
   (pg_Within:PySem.W.plainGet K C_Within Str.empty=true) (hd_Within:PySem.W.hasDictIn K C_Within=true) (po_Within:PySem.W.plainOver K C_Within=true) (sa_Within:PySem.W.findIn K (.ref C_Within) "__setattr__"=some (some (.builtin "object.__setattr__"))) (mk_Within:PySem.W.makesIn K C_Within=true) (kc_Within:PySem.W.keepIn K (.ref C_Within)=true)
   (nf_Within_low:PySem.W.findIn K (.ref C_Within) "low"=some none)
   (nf_Within_high:PySem.W.findIn K (.ref C_Within) "high"=some none)
   (nf_Within_name:PySem.W.findIn K (.ref C_Within) "name"=some none)
   (pg_At:PySem.W.plainGet K C_At Str.empty=true) (hd_At:PySem.W.hasDictIn K C_At=true) (po_At:PySem.W.plainOver K C_At=true) (sa_At:PySem.W.findIn K (.ref C_At) "__setattr__"=some (some (.builtin "object.__setattr__"))) (mk_At:PySem.W.makesIn K C_At=true) (kc_At:PySem.W.keepIn K (.ref C_At)=true)
   (nf_At_low:PySem.W.findIn K (.ref C_At) "low"=some none)
   (nf_At_high:PySem.W.findIn K (.ref C_At) "high"=some none)
   (nf_At_name:PySem.W.findIn K (.ref C_At) "name"=some none)
   (pg_Between:PySem.W.plainGet K C_Between Str.empty=true) (hd_Between:PySem.W.hasDictIn K C_Between=true) (po_Between:PySem.W.plainOver K C_Between=true) (sa_Between:PySem.W.findIn K (.ref C_Between) "__setattr__"=some (some (.builtin "object.__setattr__"))) (mk_Between:PySem.W.makesIn K C_Between=true) (kc_Between:PySem.W.keepIn K (.ref C_Between)=true)
   (nf_Between_place:PySem.W.findIn K (.ref C_Between) "place"=some none)
   (nf_Between_low:PySem.W.findIn K (.ref C_Between) "low"=some none)
   (nf_Between_high:PySem.W.findIn K (.ref C_Between) "high"=some none)
   (nf_Between_name:PySem.W.findIn K (.ref C_Between) "name"=some none)
   (pg_Read:PySem.W.plainGet K C_Read Str.empty=true) (hd_Read:PySem.W.hasDictIn K C_Read=true) (po_Read:PySem.W.plainOver K C_Read=true) (sa_Read:PySem.W.findIn K (.ref C_Read) "__setattr__"=some (some (.builtin "object.__setattr__"))) (mk_Read:PySem.W.makesIn K C_Read=true) (kc_Read:PySem.W.keepIn K (.ref C_Read)=true)
   (nf_Read_place:PySem.W.findIn K (.ref C_Read) "place"=some none)
   (nf_Read_low:PySem.W.findIn K (.ref C_Read) "low"=some none)
   (nf_Read_high:PySem.W.findIn K (.ref C_Read) "high"=some none)
   (nf_Read_name:PySem.W.findIn K (.ref C_Read) "name"=some none)
   (pg_Log:PySem.W.plainGet K C_Log Str.empty=true) (hd_Log:PySem.W.hasDictIn K C_Log=true) (po_Log:PySem.W.plainOver K C_Log=true) (sa_Log:PySem.W.findIn K (.ref C_Log) "__setattr__"=some (some (.builtin "object.__setattr__"))) (mk_Log:PySem.W.makesIn K C_Log=true) (kc_Log:PySem.W.keepIn K (.ref C_Log)=true)
   (nf_Log_tables:PySem.W.findIn K (.ref C_Log) "tables"=some none)
   (nf_Log_entries:PySem.W.findIn K (.ref C_Log) "entries"=some none)
   (nf_Log_bound:PySem.W.findIn K (.ref C_Log) "bound"=some none)
   (pg_Table:PySem.W.plainGet K C_Table Str.empty=true) (hd_Table:PySem.W.hasDictIn K C_Table=true) (po_Table:PySem.W.plainOver K C_Table=true) (sa_Table:PySem.W.findIn K (.ref C_Table) "__setattr__"=some (some (.builtin "object.__setattr__"))) (mk_Table:PySem.W.makesIn K C_Table=true) (kc_Table:PySem.W.keepIn K (.ref C_Table)=true)
   (nf_Table_kept:PySem.W.findIn K (.ref C_Table) "kept"=some none)
   (z_len:PySem.W.nsIn K mainGlobals "len"=some none)
   (z_max:PySem.W.nsIn K mainGlobals "max"=some none)
   (z_min:PySem.W.nsIn K mainGlobals "min"=some none)
   (z_isinstance:PySem.W.nsIn K mainGlobals "isinstance"=some none)
   (z_range:PySem.W.nsIn K mainGlobals "range"=some none)
   (z_enumerate:PySem.W.nsIn K mainGlobals "enumerate"=some none)
   (z_int:PySem.W.nsIn K mainGlobals "int"=some none)
   (z_bool:PySem.W.nsIn K mainGlobals "bool"=some none)
   (z_str:PySem.W.nsIn K mainGlobals "str"=some none)
   (z_list:PySem.W.nsIn K mainGlobals "list"=some none)
   (z_tuple:PySem.W.nsIn K mainGlobals "tuple"=some none)
   (z_dict:PySem.W.nsIn K mainGlobals "dict"=some none)
   (z_sorted:PySem.W.nsIn K mainGlobals "sorted"=some none)
   (z_zip:PySem.W.nsIn K mainGlobals "zip"=some none)
   (z_all:PySem.W.nsIn K mainGlobals "all"=some none)
   {t_LAST:Tok} (g_LAST:PySem.W.nsIn K mainGlobals "LAST"=some (some (.int 1000000000 t_LAST)))
   {t_WIDEST_READING:Tok} (g_WIDEST_READING:PySem.W.nsIn K mainGlobals "WIDEST_READING"=some (some (.int 10000000000 t_WIDEST_READING)))
   {t_MOST_MINUTES:Tok} (g_MOST_MINUTES:PySem.W.nsIn K mainGlobals "MOST_MINUTES"=some (some (.int 2000000001 t_MOST_MINUTES)))
   {t_LONGEST_NAME:Tok} (g_LONGEST_NAME:PySem.W.nsIn K mainGlobals "LONGEST_NAME"=some (some (.int 8 t_LONGEST_NAME)))
   {t_LATER:Tok} (g_LATER:PySem.W.nsIn K mainGlobals "LATER"=some (some (.int 0 t_LATER)))
   {t_EARLIER:Tok} (g_EARLIER:PySem.W.nsIn K mainGlobals "EARLIER"=some (some (.int 1 t_EARLIER)))
   {t_MOST_PLACES:Tok} (g_MOST_PLACES:PySem.W.nsIn K mainGlobals "MOST_PLACES"=some (some (.int 6 t_MOST_PLACES)))
   {t_MOST_ENTRIES:Tok} (g_MOST_ENTRIES:PySem.W.nsIn K mainGlobals "MOST_ENTRIES"=some (some (.int 60 t_MOST_ENTRIES)))
   {t_MOST_BONDS:Tok} (g_MOST_BONDS:PySem.W.nsIn K mainGlobals "MOST_BONDS"=some (some (.int 100 t_MOST_BONDS)))
   {t_MOST_ROWS:Tok} (g_MOST_ROWS:PySem.W.nsIn K mainGlobals "MOST_ROWS"=some (some (.int 21 t_MOST_ROWS)))
   {t_WIDEST_SHIFT:Tok} (g_WIDEST_SHIFT:PySem.W.nsIn K mainGlobals "WIDEST_SHIFT"=some (some (.int 2880 t_WIDEST_SHIFT)))
   (zV:PySem.W.nsIn K mainGlobals "ValueError"=some none)
   {ob_LogError:Obj}
   (lk_LogError:K.lookup C_LogError=some ob_LogError)
   (xo_LogError:xOb C_LogError ob_LogError=true)
   (cg:PySem.W.specialIn K (.builtin "object.__class__") "__get__"=some (some (.builtin "getset_descriptor.__get__")))
   (ct:PySem.W.takesIn K (.builtin "object.__class__")=some true)
   (sg_LogError:PySem.W.specialIn K (.ref C_LogError) "__getattribute__"=some (some (.builtin "type.__getattribute__")))
   (rd_LogError:PySem.W.readsIn K C_LogError (.type "type")=true)
   (fc_LogError:PySem.W.findCls K (.ref C_LogError) (.type "type") "__init__"=some (.val (.ref f72)))
   {ob_NoEntry:Obj}
   (lk_NoEntry:K.lookup C_NoEntry=some ob_NoEntry)
   (xo_NoEntry:xOb C_NoEntry ob_NoEntry=true)
   (ga_NoEntry:PySem.W.findIn K (.ref C_NoEntry) "__getattribute__"=some (some (.builtin "BaseException.__getattribute__")))
   (na_NoEntry:PySem.W.findIn K (.ref C_NoEntry) "__getattr__"=some none)
   (xs_NoEntry:PySem.W.findIn K (.ref C_NoEntry) "__setattr__"=some (some (.builtin "object.__setattr__")))
   (xc_NoEntry:PySem.W.findIn K (.ref C_NoEntry) "__class__"=some (some (.builtin "object.__class__")))
   (kx_NoEntry:PySem.W.keepIn K (.ref C_NoEntry)=true)
   (up_NoEntry:PySem.W.mroIn K C_NoEntry (.ref C_LogError)=some true)
   (nx_NoEntry_found:PySem.W.findIn K (.ref C_NoEntry) "found"=some none)
   (ih_Within_places:PySem.W.findIn K (.ref C_Within) "places"=some (some (.ref f41)))
   (ih_At_places:PySem.W.findIn K (.ref C_At) "places"=some (some (.ref f41)))
   (ih_At_spans:PySem.W.findIn K (.ref C_At) "spans"=some (some (.ref f44)))
   (ih_Read_places:PySem.W.findIn K (.ref C_Read) "places"=some (some (.ref f47)))
   (ih_Read_spans:PySem.W.findIn K (.ref C_Read) "spans"=some (some (.ref f48)))
   (sg_Entry:PySem.W.specialIn K (.ref C_Entry) "__getattribute__"=some (some (.builtin "type.__getattribute__")))
   (rd_Entry:PySem.W.readsIn K C_Entry (.type "type")=true)
   (fc_Entry:PySem.W.findCls K (.ref C_Entry) (.type "type") "__init__"=some (.val (.ref f40)))
   (sg_Within:PySem.W.specialIn K (.ref C_Within) "__getattribute__"=some (some (.builtin "type.__getattribute__")))
   (rd_Within:PySem.W.readsIn K C_Within (.type "type")=true)
   (fc_Within:PySem.W.findCls K (.ref C_Within) (.type "type") "__init__"=some (.val (.ref f43)))
   (sg_Between:PySem.W.specialIn K (.ref C_Between) "__getattribute__"=some (some (.builtin "type.__getattribute__")))
   (rd_Between:PySem.W.readsIn K C_Between (.type "type")=true)
   (fc_Between:PySem.W.findCls K (.ref C_Between) (.type "type") "__init__"=some (.val (.ref f46)))
   {ob_Entry:Obj}
   (lk_Entry:K.lookup C_Entry=some ob_Entry)
   (xm_Entry:qch [some C_Entry,none] ob_Entry=true)
   (oa_Entry:PySem.W.findIn K (.ref C_Entry) "__class__"=some (some (.builtin "object.__class__")))
   (om_Entry:PySem.W.mroIn K C_Entry (.type "object")=some true)
   {ob_Within:Obj}
   (lk_Within:K.lookup C_Within=some ob_Within)
   (xm_Within:qch [some C_Within,some C_Entry,none] ob_Within=true)
   (oa_Within:PySem.W.findIn K (.ref C_Within) "__class__"=some (some (.builtin "object.__class__")))
   (om_Within:PySem.W.mroIn K C_Within (.type "object")=some true)
   {ob_At:Obj}
   (lk_At:K.lookup C_At=some ob_At)
   (xm_At:qch [some C_At,some C_Within,some C_Entry,none] ob_At=true)
   (oa_At:PySem.W.findIn K (.ref C_At) "__class__"=some (some (.builtin "object.__class__")))
   (om_At:PySem.W.mroIn K C_At (.type "object")=some true)
   {ob_Between:Obj}
   (lk_Between:K.lookup C_Between=some ob_Between)
   (xm_Between:qch [some C_Between,some C_Entry,none] ob_Between=true)
   (oa_Between:PySem.W.findIn K (.ref C_Between) "__class__"=some (some (.builtin "object.__class__")))
   (om_Between:PySem.W.mroIn K C_Between (.type "object")=some true)
   {ob_Read:Obj}
   (lk_Read:K.lookup C_Read=some ob_Read)
   (xm_Read:qch [some C_Read,some C_Between,some C_Entry,none] ob_Read=true)
   (oa_Read:PySem.W.findIn K (.ref C_Read) "__class__"=some (some (.builtin "object.__class__")))
   (om_Read:PySem.W.mroIn K C_Read (.type "object")=some true)
   {ob_Log:Obj}
   (lk_Log:K.lookup C_Log=some ob_Log)
   (xm_Log:qch [some C_Log,none] ob_Log=true)
   (oa_Log:PySem.W.findIn K (.ref C_Log) "__class__"=some (some (.builtin "object.__class__")))
   (om_Log:PySem.W.mroIn K C_Log (.type "object")=some true)
   {ob_Table:Obj}
   (lk_Table:K.lookup C_Table=some ob_Table)
   (xm_Table:qch [some C_Table,none] ob_Table=true)
   (oa_Table:PySem.W.findIn K (.ref C_Table) "__class__"=some (some (.builtin "object.__class__")))
   (om_Table:PySem.W.mroIn K C_Table (.type "object")=some true)
   (icc_Entry:PySem.W.isClsIn K C_Entry=true)
   (itc_Entry:PySem.W.typeIn K (.ref C_Entry)=some (.type "type"))
   (icc_Within:PySem.W.isClsIn K C_Within=true)
   (itc_Within:PySem.W.typeIn K (.ref C_Within)=some (.type "type"))
   (icc_At:PySem.W.isClsIn K C_At=true)
   (itc_At:PySem.W.typeIn K (.ref C_At)=some (.type "type"))
   (icc_Between:PySem.W.isClsIn K C_Between=true)
   (itc_Between:PySem.W.typeIn K (.ref C_Between)=some (.type "type"))
   (icc_Read:PySem.W.isClsIn K C_Read=true)
   (itc_Read:PySem.W.typeIn K (.ref C_Read)=some (.type "type"))
   (icc_Log:PySem.W.isClsIn K C_Log=true)
   (itc_Log:PySem.W.typeIn K (.ref C_Log)=some (.type "type"))
   (icc_Table:PySem.W.isClsIn K C_Table=true)
   (itc_Table:PySem.W.typeIn K (.ref C_Table)=some (.type "type"))
   (ndc_:([C_Entry,C_Within,C_At,C_Between,C_Read,C_Log,C_Table]:List Addr).Nodup)
   : ∃ fd:FuncData,(∀ (s:Shared) (v:Value),BindsTo s fd ⟨[v],[]⟩ [("_law_script",v)])∧∀ base:Heap,K.In base->base.Ns mainGlobals mg->qA l.prog w K mg base CX0 12 fa fd ["_law_script"] (qd1 K):=by
 have e:=hfa.symm.trans (PySem.W.mg_of X G a39)
 cases e
 have F0:=qt (st:=Qr) l0 c0 k0
 have b0:=F0.binds (ps:=["thing"]) fun _ _ _ _ _ _=>Qk fun _=>rfl
 have F1:=qt (st:=QO) l1 c1 k1
 have b1:=F1.binds (ps:=["thing","low","high"]) fun _ _ _ _ _ _=>qcj fun _ _ _=>rfl
 have F2:=qt (st:=Qs) l2 c2 k2
 have b2:=F2.binds (ps:=["thing"]) fun _ _ _ _ _ _=>Qk fun _=>rfl
 have F3:=qt (st:=zZ) l3 c3 k3
 have b3:=F3.binds (ps:=["thing"]) fun _ _ _ _ _ _=>Qk fun _=>rfl
 have F4:=qt (st:=z3) l4 c4 k4
 have b4:=F4.binds (ps:=["thing"]) fun _ _ _ _ _ _=>Qk fun _=>rfl
 have F5:=qt (st:=Zp) l5 c5 k5
 have b5:=F5.binds (ps:=["thing"]) fun _ _ _ _ _ _=>Qk fun _=>rfl
 have F6:=qt (st:=zY) l6 c6 k6
 have b6:=F6.binds (ps:=["thing"]) fun _ _ _ _ _ _=>Qk fun _=>rfl
 have F7:=qt (st:=qV) l7 c7 k7
 have b7:=F7.binds (ps:=["stretches"]) fun _ _ _ _ _ _=>Qk fun _=>rfl
 have F8:=qt (st:=QN) l8 c8 k8
 have b8:=F8.binds (ps:=["stretches"]) fun _ _ _ _ _ _=>Qk fun _=>rfl
 have F9:=qt (st:=Qa) l9 c9 k9
 have b9:=F9.binds (ps:=["thing"]) fun _ _ _ _ _ _=>Qk fun _=>rfl
 have F10:=qt (st:=zA) l10 c10 k10
 have b10:=F10.binds (ps:=["thing"]) fun _ _ _ _ _ _=>Qk fun _=>rfl
 have F11:=qt (st:=zp) l11 c11 k11
 have b11:=F11.binds (ps:=["thing"]) fun _ _ _ _ _ _=>Qk fun _=>rfl
 have F12:=qt (st:=jg) l12 c12 k12
 have b12:=F12.binds (ps:=["thing","keyed"]) fun _ _ _ _ _ _=>zU fun _ _=>rfl
 have F13:=qt (st:=je) l13 c13 k13
 have b13:=F13.binds (ps:=["thing","widest"]) fun _ _ _ _ _ _=>zU fun _ _=>rfl
 have F14:=qt (st:=Qq) l14 c14 k14
 have b14:=F14.binds (ps:=["rows","place"]) fun _ _ _ _ _ _=>zU fun _ _=>rfl
 have F15:=qt (st:=z9) l15 c15 k15
 have b15:=F15.binds (ps:=["rows","most","widest"]) fun _ _ _ _ _ _=>qcj fun _ _ _=>rfl
 have F16:=qt (st:=QX) l16 c16 k16
 have b16:=F16.binds (ps:=["rows","moment"]) fun _ _ _ _ _ _=>zU fun _ _=>rfl
 have F17:=qt (st:=JI) l17 c17 k17
 have b17:=F17.binds (ps:=["_law_script","_law_k"]) fun _ _ _ _ _ _=>zU fun _ _=>rfl
 have F18:=qt (st:=qbw) l18 c18 k18
 have b18:=F18.binds (ps:=["_law_cell_here","_law_k"]) fun _ _ _ _ _ _=>zU fun _ _=>rfl
 have F19:=qt (st:=jo) l19 c19 k19
 have b19:=F19.binds (ps:=["_law_cell_here"]) fun _ _ _ _ _ _=>Qk fun _=>rfl
 have F20:=qt (st:=JC) l20 c20 k20
 have b20:=F20.binds (ps:=["_law_state","_law_many"]) fun _ _ _ _ _ _=>zU fun _ _=>rfl
 have F21:=qt (st:=jm) l21 c21 k21
 have b21:=F21.binds (ps:=["_law_state","_law_many"]) fun _ _ _ _ _ _=>zU fun _ _=>rfl
 have F22:=qt (st:=jj) l22 c22 k22
 have b22:=F22.binds (ps:=["_law_state"]) fun _ _ _ _ _ _=>Qk fun _=>rfl
 have F23:=qt (st:=JB) l23 c23 k23
 have b23:=F23.binds (ps:=["_law_state"]) fun _ _ _ _ _ _=>Qk fun _=>rfl
 have F24:=qt (st:=Zq) l24 c24 k24
 have b24:=F24.binds (ps:=["_law_rows_here"]) fun _ _ _ _ _ _=>Qk fun _=>rfl
 have F25:=qt (st:=Zs) l25 c25 k25
 have b25:=F25.binds (ps:=["_law_stretches"]) fun _ _ _ _ _ _=>Qk fun _=>rfl
 have F26:=qt (st:=ji) l26 c26 k26
 have b26:=F26.binds (ps:=["_law_rows_here","_law_low","_law_high"]) fun _ _ _ _ _ _=>qcj fun _ _ _=>rfl
 have F27:=qt (st:=JA) l27 c27 k27
 have b27:=F27.binds (ps:=["_law_found","_law_due"]) fun _ _ _ _ _ _=>zU fun _ _=>rfl
 have F28:=qt (st:=JD) l28 c28 k28
 have b28:=F28.binds (ps:=["_law_state","_law_rows_here"]) fun _ _ _ _ _ _=>zU fun _ _=>rfl
 have F29:=qt (st:=Jz) l29 c29 k29
 have b29:=F29.binds (ps:=["_law_state","_law_name","_law_places","_law_tables"]) fun _ _ _ _ _ _=>qdG fun _ _ _ _=>rfl
 have F30:=qt (st:=JE) l30 c30 k30
 have b30:=F30.binds (ps:=["_law_spec_here"]) fun _ _ _ _ _ _=>Qk fun _=>rfl
 have F31:=qt (st:=jh) l31 c31 k31
 have b31:=F31.binds (ps:=["_law_spec_here","_law_tables"]) fun _ _ _ _ _ _=>zU fun _ _=>rfl
 have F32:=qt (st:=jk) l32 c32 k32
 have b32:=F32.binds (ps:=["_law_log","_law_kept"]) fun _ _ _ _ _ _=>zU fun _ _=>rfl
 have F33:=qt (st:=JF) l33 c33 k33
 have b33:=F33.binds (ps:=["_law_log","_law_name"]) fun _ _ _ _ _ _=>zU fun _ _=>rfl
 have F34:=qt (st:=JH) l34 c34 k34
 have b34:=F34.binds (ps:=["_law_kept"]) fun _ _ _ _ _ _=>Qk fun _=>rfl
 have F35:=qt (st:=jn) l35 c35 k35
 have b35:=F35.binds (ps:=["_law_log","_law_kept","_law_state"]) fun _ _ _ _ _ _=>qcj fun _ _ _=>rfl
 have F36:=qt (st:=QS) l36 c36 k36
 have b36:=F36.binds (ps:=["_law_log","_law_kept","_law_state"]) fun _ _ _ _ _ _=>qcj fun _ _ _=>rfl
 have F37:=qt (st:=qbv) l37 c37 k37
 have b37:=F37.binds (ps:=["_law_log","_law_kept","_law_state","_law_names_here"]) fun _ _ _ _ _ _=>qdG fun _ _ _ _=>rfl
 have F38:=qt (st:=JG) l38 c38 k38
 have b38:=F38.binds (ps:=["_law_log","_law_kept","_law_state","_law_names_here"]) fun _ _ _ _ _ _=>qdG fun _ _ _ _=>rfl
 have F39:=qt (st:=qeG) l39 c39 k39
 have b39:=F39.binds (ps:=["_law_script"]) fun _ _ _ _ _ _=>Qk fun _=>rfl
 have F40:=qt (st:=Qf) l40 c40 k40
 have b40:=F40.binds (ps:=["self","name"]) fun _ _ _ _ _ _=>zU fun _ _=>rfl
 have F41:=qt (st:=zE) l41 c41 k41
 have b41:=F41.binds (ps:=["self"]) fun _ _ _ _ _ _=>Qk fun _=>rfl
 have F42:=qt (st:=zP) l42 c42 k42
 have b42:=F42.binds (ps:=["self","tables"]) fun _ _ _ _ _ _=>zU fun _ _=>rfl
 have F43:=qt (st:=zO) l43 c43 k43
 have b43:=F43.binds (ps:=["self","name","low","high"]) fun _ _ _ _ _ _=>qdG fun _ _ _ _=>rfl
 have F44:=qt (st:=zB) l44 c44 k44
 have b44:=F44.binds (ps:=["self","tables"]) fun _ _ _ _ _ _=>zU fun _ _=>rfl
 have F45:=qt (st:=Zt) l45 c45 k45
 have b45:=F45.binds (ps:=["self","name","moment"]) fun _ _ _ _ _ _=>qcj fun _ _ _=>rfl
 have F46:=qt (st:=zF) l46 c46 k46
 have b46:=F46.binds (ps:=["self","name","place","low","high"]) fun _ _ _ _ _ _=>qki fun _ _ _ _ _=>rfl
 have F47:=qt (st:=ze) l47 c47 k47
 have b47:=F47.binds (ps:=["self"]) fun _ _ _ _ _ _=>Qk fun _=>rfl
 have F48:=qt (st:=zt) l48 c48 k48
 have b48:=F48.binds (ps:=["self","tables"]) fun _ _ _ _ _ _=>zU fun _ _=>rfl
 have F49:=qt (st:=Qt) l49 c49 k49
 have b49:=F49.binds (ps:=["self","name","place","reading"]) fun _ _ _ _ _ _=>qdG fun _ _ _ _=>rfl
 have F50:=qt (st:=QP) l50 c50 k50
 have b50:=F50.binds (ps:=["self"]) fun _ _ _ _ _ _=>Qk fun _=>rfl
 have F51:=qt (st:=Qx) l51 c51 k51
 have b51:=F51.binds (ps:=["self","place","table"]) fun _ _ _ _ _ _=>qcj fun _ _ _=>rfl
 have F52:=qt (st:=Zr) l52 c52 k52
 have b52:=F52.binds (ps:=["self","entry"]) fun _ _ _ _ _ _=>zU fun _ _=>rfl
 have F53:=qt (st:=QR) l53 c53 k53
 have b53:=F53.binds (ps:=["self","later","earlier","minutes"]) fun _ _ _ _ _ _=>qdG fun _ _ _ _=>rfl
 have F54:=qt (st:=Qc) l54 c54 k54
 have b54:=F54.binds (ps:=["self","number"]) fun _ _ _ _ _ _=>zU fun _ _=>rfl
 have F55:=qt (st:=QQ) l55 c55 k55
 have b55:=F55.binds (ps:=["self","name"]) fun _ _ _ _ _ _=>zU fun _ _=>rfl
 have F56:=qt (st:=qW) l56 c56 k56
 have b56:=F56.binds (ps:=["self","name"]) fun _ _ _ _ _ _=>zU fun _ _=>rfl
 have F57:=qt (st:=zd) l57 c57 k57
 have b57:=F57.binds (ps:=["self","number"]) fun _ _ _ _ _ _=>zU fun _ _=>rfl
 have F58:=qt (st:=Qv) l58 c58 k58
 have b58:=F58.binds (ps:=["self"]) fun _ _ _ _ _ _=>Qk fun _=>rfl
 have F59:=qt (st:=Qw) l59 c59 k59
 have b59:=F59.binds (ps:=["self","name"]) fun _ _ _ _ _ _=>zU fun _ _=>rfl
 have F60:=qt (st:=Qu) l60 c60 k60
 have b60:=F60.binds (ps:=["self","name"]) fun _ _ _ _ _ _=>zU fun _ _=>rfl
 have F61:=qt (st:=Qy) l61 c61 k61
 have b61:=F61.binds (ps:=["self"]) fun _ _ _ _ _ _=>Qk fun _=>rfl
 have F62:=qt (st:=Qd) l62 c62 k62
 have b62:=F62.binds (ps:=["self"]) fun _ _ _ _ _ _=>Qk fun _=>rfl
 have F63:=qt (st:=QY) l63 c63 k63
 have b63:=F63.binds (ps:=["self","place"]) fun _ _ _ _ _ _=>zU fun _ _=>rfl
 have F64:=qt (st:=Qe) l64 c64 k64
 have b64:=F64.binds (ps:=["self"]) fun _ _ _ _ _ _=>Qk fun _=>rfl
 have F65:=qt (st:=Qb) l65 c65 k65
 have b65:=F65.binds (ps:=["self","rows"]) fun _ _ _ _ _ _=>zU fun _ _=>rfl
 have F66:=qt (st:=QD) l66 c66 k66
 have b66:=F66.binds (ps:=["self"]) fun _ _ _ _ _ _=>Qk fun _=>rfl
 have F67:=qt (st:=zC) l67 c67 k67
 have b67:=F67.binds (ps:=["self"]) fun _ _ _ _ _ _=>Qk fun _=>rfl
 have F68:=qt (st:=zw) l68 c68 k68
 have b68:=F68.binds (ps:=["self","moment"]) fun _ _ _ _ _ _=>zU fun _ _=>rfl
 have F69:=qt (st:=zI) l69 c69 k69
 have b69:=F69.binds (ps:=["self","moment"]) fun _ _ _ _ _ _=>zU fun _ _=>rfl
 have F70:=qt (st:=qI) l70 c70 k70
 have b70:=F70.binds (ps:=["self","low","high"]) fun _ _ _ _ _ _=>qcj fun _ _ _=>rfl
 have F71:=qt (st:=zD) l71 c71 k71
 have b71:=F71.binds (ps:=["self","found"]) fun _ _ _ _ _ _=>zU fun _ _=>rfl
 have F72:=qt (st:=zq) l72 c72 k72
 have b72:=F72.binds (ps:=["self","text"]) fun _ _ _ _ _ _=>zU fun _ _=>rfl
 refine ⟨_,fun s v=>.of_eq rfl,fun base _ _=>qjs (a:=⟨C_LogError,C_NoSpans,C_NoTable,C_TooMany,C_NoMoment,C_NoReading,C_NoName,C_NoPlace,C_NoEntry,C_Taken,C_NoMinutes,C_NoBond,C_Entry,C_Within,C_At,C_Between,C_Read,C_Log,C_Table,f0,_,f1,_,f2,_,f3,_,f4,_,f5,_,f6,_,f7,_,f8,_,f9,_,f10,_,f11,_,f12,_,f13,_,f14,_,f15,_,f16,_,f17,_,f18,_,f19,_,f20,_,f21,_,f22,_,f23,_,f24,_,f25,_,f26,_,f27,_,f28,_,f29,_,f30,_,f31,_,f32,_,f33,_,f34,_,f35,_,f36,_,f37,_,f38,_,fa,_,f40,_,f41,_,f42,_,f43,_,f44,_,f45,_,f46,_,f47,_,f48,_,f49,_,f50,_,f51,_,f52,_,f53,_,f54,_,f55,_,f56,_,f57,_,f58,_,f59,_,f60,_,f61,_,f62,_,f63,_,f64,_,f65,_,f66,_,f67,_,f68,_,f69,_,f70,_,f71,_,f72,_⟩) ⟨⟨F0,b0,PySem.W.mg_of X G a0,k0⟩,⟨F1,b1,PySem.W.mg_of X G a1,k1⟩,⟨F2,b2,PySem.W.mg_of X G a2,k2⟩,⟨F3,b3,PySem.W.mg_of X G a3,k3⟩,⟨F4,b4,PySem.W.mg_of X G a4,k4⟩,⟨F5,b5,PySem.W.mg_of X G a5,k5⟩,⟨F6,b6,PySem.W.mg_of X G a6,k6⟩,⟨F7,b7,PySem.W.mg_of X G a7,k7⟩,⟨F8,b8,PySem.W.mg_of X G a8,k8⟩,⟨F9,b9,PySem.W.mg_of X G a9,k9⟩,⟨F10,b10,PySem.W.mg_of X G a10,k10⟩,⟨F11,b11,PySem.W.mg_of X G a11,k11⟩,⟨F12,b12,PySem.W.mg_of X G a12,k12⟩,⟨F13,b13,PySem.W.mg_of X G a13,k13⟩,⟨F14,b14,PySem.W.mg_of X G a14,k14⟩,⟨F15,b15,PySem.W.mg_of X G a15,k15⟩,⟨F16,b16,PySem.W.mg_of X G a16,k16⟩,⟨F17,b17,PySem.W.mg_of X G a17,k17⟩,⟨F18,b18,PySem.W.mg_of X G a18,k18⟩,⟨F19,b19,PySem.W.mg_of X G a19,k19⟩,⟨F20,b20,PySem.W.mg_of X G a20,k20⟩,⟨F21,b21,PySem.W.mg_of X G a21,k21⟩,⟨F22,b22,PySem.W.mg_of X G a22,k22⟩,⟨F23,b23,PySem.W.mg_of X G a23,k23⟩,⟨F24,b24,PySem.W.mg_of X G a24,k24⟩,⟨F25,b25,PySem.W.mg_of X G a25,k25⟩,⟨F26,b26,PySem.W.mg_of X G a26,k26⟩,⟨F27,b27,PySem.W.mg_of X G a27,k27⟩,⟨F28,b28,PySem.W.mg_of X G a28,k28⟩,⟨F29,b29,PySem.W.mg_of X G a29,k29⟩,⟨F30,b30,PySem.W.mg_of X G a30,k30⟩,⟨F31,b31,PySem.W.mg_of X G a31,k31⟩,⟨F32,b32,PySem.W.mg_of X G a32,k32⟩,⟨F33,b33,PySem.W.mg_of X G a33,k33⟩,⟨F34,b34,PySem.W.mg_of X G a34,k34⟩,⟨F35,b35,PySem.W.mg_of X G a35,k35⟩,⟨F36,b36,PySem.W.mg_of X G a36,k36⟩,⟨F37,b37,PySem.W.mg_of X G a37,k37⟩,⟨F38,b38,PySem.W.mg_of X G a38,k38⟩,⟨F39,b39,PySem.W.mg_of X G a39,k39⟩,⟨F40,b40,⟨a40,i40,k40⟩⟩,⟨F41,b41,⟨a41,i41,k41⟩⟩,⟨F42,b42,⟨a42,i42,k42⟩⟩,⟨F43,b43,⟨a43,i43,k43⟩⟩,⟨F44,b44,⟨a44,i44,k44⟩⟩,⟨F45,b45,⟨a45,i45,k45⟩⟩,⟨F46,b46,⟨a46,i46,k46⟩⟩,⟨F47,b47,⟨a47,i47,k47⟩⟩,⟨F48,b48,⟨a48,i48,k48⟩⟩,⟨F49,b49,⟨a49,i49,k49⟩⟩,⟨F50,b50,⟨a50,i50,k50⟩⟩,⟨F51,b51,⟨a51,i51,k51⟩⟩,⟨F52,b52,⟨a52,i52,k52⟩⟩,⟨F53,b53,⟨a53,i53,k53⟩⟩,⟨F54,b54,⟨a54,i54,k54⟩⟩,⟨F55,b55,⟨a55,i55,k55⟩⟩,⟨F56,b56,⟨a56,i56,k56⟩⟩,⟨F57,b57,⟨a57,i57,k57⟩⟩,⟨F58,b58,⟨a58,i58,k58⟩⟩,⟨F59,b59,⟨a59,i59,k59⟩⟩,⟨F60,b60,⟨a60,i60,k60⟩⟩,⟨F61,b61,⟨a61,i61,k61⟩⟩,⟨F62,b62,⟨a62,i62,k62⟩⟩,⟨F63,b63,⟨a63,i63,k63⟩⟩,⟨F64,b64,⟨a64,i64,k64⟩⟩,⟨F65,b65,⟨a65,i65,k65⟩⟩,⟨F66,b66,⟨a66,i66,k66⟩⟩,⟨F67,b67,⟨a67,i67,k67⟩⟩,⟨F68,b68,⟨a68,i68,k68⟩⟩,⟨F69,b69,⟨a69,i69,k69⟩⟩,⟨F70,b70,⟨a70,i70,k70⟩⟩,⟨F71,b71,⟨a71,i71,k71⟩⟩,⟨F72,b72,⟨a72,i72,k72⟩⟩,PySem.W.mg_of X G aC_Entry,⟨pg_Entry,hd_Entry,po_Entry,sa_Entry⟩,⟨mk_Entry,a40,i40,kc_Entry⟩,nf_Entry_name,PySem.W.mg_of X G aC_Within,⟨pg_Within,hd_Within,po_Within,sa_Within⟩,⟨mk_Within,a43,i43,kc_Within⟩,nf_Within_low,nf_Within_high,nf_Within_name,PySem.W.mg_of X G aC_At,⟨pg_At,hd_At,po_At,sa_At⟩,⟨mk_At,a45,i45,kc_At⟩,nf_At_low,nf_At_high,nf_At_name,PySem.W.mg_of X G aC_Between,⟨pg_Between,hd_Between,po_Between,sa_Between⟩,⟨mk_Between,a46,i46,kc_Between⟩,nf_Between_place,nf_Between_low,nf_Between_high,nf_Between_name,PySem.W.mg_of X G aC_Read,⟨pg_Read,hd_Read,po_Read,sa_Read⟩,⟨mk_Read,a49,i49,kc_Read⟩,nf_Read_place,nf_Read_low,nf_Read_high,nf_Read_name,PySem.W.mg_of X G aC_Log,⟨pg_Log,hd_Log,po_Log,sa_Log⟩,⟨mk_Log,a50,i50,kc_Log⟩,nf_Log_tables,nf_Log_entries,nf_Log_bound,PySem.W.mg_of X G aC_Table,⟨pg_Table,hd_Table,po_Table,sa_Table⟩,⟨mk_Table,a65,i65,kc_Table⟩,nf_Table_kept,PySem.W.mg_none_of X G z_len,PySem.W.mg_none_of X G z_max,PySem.W.mg_none_of X G z_min,PySem.W.mg_none_of X G z_isinstance,PySem.W.mg_none_of X G z_range,PySem.W.mg_none_of X G z_enumerate,PySem.W.mg_none_of X G z_int,PySem.W.mg_none_of X G z_bool,PySem.W.mg_none_of X G z_str,PySem.W.mg_none_of X G z_list,PySem.W.mg_none_of X G z_tuple,PySem.W.mg_none_of X G z_dict,PySem.W.mg_none_of X G z_sorted,PySem.W.mg_none_of X G z_zip,PySem.W.mg_none_of X G z_all,⟨t_LAST,PySem.W.mg_of X G g_LAST⟩,⟨t_WIDEST_READING,PySem.W.mg_of X G g_WIDEST_READING⟩,⟨t_MOST_MINUTES,PySem.W.mg_of X G g_MOST_MINUTES⟩,⟨t_LONGEST_NAME,PySem.W.mg_of X G g_LONGEST_NAME⟩,⟨t_LATER,PySem.W.mg_of X G g_LATER⟩,⟨t_EARLIER,PySem.W.mg_of X G g_EARLIER⟩,⟨t_MOST_PLACES,PySem.W.mg_of X G g_MOST_PLACES⟩,⟨t_MOST_ENTRIES,PySem.W.mg_of X G g_MOST_ENTRIES⟩,⟨t_MOST_BONDS,PySem.W.mg_of X G g_MOST_BONDS⟩,⟨t_MOST_ROWS,PySem.W.mg_of X G g_MOST_ROWS⟩,⟨t_WIDEST_SHIFT,PySem.W.mg_of X G g_WIDEST_SHIFT⟩,PySem.W.mg_none_of X G zV,PySem.W.mg_of X G aC_LogError,PySem.W.mg_of X G aC_NoSpans,PySem.W.mg_of X G aC_NoTable,PySem.W.mg_of X G aC_TooMany,PySem.W.mg_of X G aC_NoMoment,PySem.W.mg_of X G aC_NoReading,PySem.W.mg_of X G aC_NoName,PySem.W.mg_of X G aC_NoPlace,PySem.W.mg_of X G aC_NoEntry,PySem.W.mg_of X G aC_Taken,PySem.W.mg_of X G aC_NoMinutes,PySem.W.mg_of X G aC_NoBond,qhx lk_LogError xo_LogError,⟨sg_LogError,rd_LogError,fc_LogError,k72⟩,⟨⟨qhx lk_NoEntry xo_NoEntry,ga_NoEntry,na_NoEntry,xs_NoEntry,xc_NoEntry,cg,ct⟩,a71,i71,kx_NoEntry⟩,up_NoEntry,nx_NoEntry_found,⟨ih_Within_places,i41,k41⟩,⟨ih_At_places,i41,k41⟩,⟨ih_At_spans,i44,k44⟩,⟨ih_Read_places,i47,k47⟩,⟨ih_Read_spans,i48,k48⟩,⟨sg_Entry,rd_Entry,fc_Entry,k40⟩,⟨sg_Within,rd_Within,fc_Within,k43⟩,⟨sg_Between,rd_Between,fc_Between,k46⟩,XMro.of lk_Entry xm_Entry,⟨⟨pg_Entry,hd_Entry,po_Entry,sa_Entry⟩,oa_Entry,cg,ct,om_Entry⟩,XMro.of lk_Within xm_Within,⟨⟨pg_Within,hd_Within,po_Within,sa_Within⟩,oa_Within,cg,ct,om_Within⟩,XMro.of lk_At xm_At,⟨⟨pg_At,hd_At,po_At,sa_At⟩,oa_At,cg,ct,om_At⟩,XMro.of lk_Between xm_Between,⟨⟨pg_Between,hd_Between,po_Between,sa_Between⟩,oa_Between,cg,ct,om_Between⟩,XMro.of lk_Read xm_Read,⟨⟨pg_Read,hd_Read,po_Read,sa_Read⟩,oa_Read,cg,ct,om_Read⟩,XMro.of lk_Log xm_Log,⟨⟨pg_Log,hd_Log,po_Log,sa_Log⟩,oa_Log,cg,ct,om_Log⟩,XMro.of lk_Table xm_Table,⟨⟨pg_Table,hd_Table,po_Table,sa_Table⟩,oa_Table,cg,ct,om_Table⟩,⟨icc_Entry,itc_Entry⟩,⟨icc_Within,itc_Within⟩,⟨icc_At,itc_At⟩,⟨icc_Between,itc_Between⟩,⟨icc_Read,itc_Read⟩,⟨icc_Log,itc_Log⟩,⟨icc_Table,itc_Table⟩,ndc_⟩⟩
theorem walk {l:PySem.W.OpenLaw} {q:Program} {loose:List Str} {XP:(Str->Option Value)->Heap->Prop} {YP:World->Heap->Prop} {d:DefRec} {K:Params->PySem.W.Frag} (hn:l.most=some 63) (hdf:d.params.defaults=[])
   (hY:∀ (w:World) (h:Heap),YP w h->(K w.params).In h)
   (F:∀ (w:World) (mg:Str->Option Value) (fa:Addr) (h:Heap),(K w.params).In h->h.Ns mainGlobals mg->mg d.name=some (.ref fa) ->
     ∃ fd:FuncData,(∀ (s:Shared) (u:Value),BindsTo s fd ⟨[u],[]⟩ [("_law_script",u)])∧∀ base:Heap,(K w.params).In base->base.Ns mainGlobals mg->qA l.prog w (K w.params) mg base CX0 12 fa fd ["_law_script"] (qd1 (K w.params))) :
   PySem.W.WalkO q loose XP YP l.row.toRowW d [] (fun f vs=>PySem.call f vs) :=
 L2.walk_of (n:=63) (k:=12) (x:="_law_script") (CX:=fun _=>CX0) (sp:=fun w=>qd1 (K w.params)) hn (by decide) hdf ⟨rfl,by decide,by decide,rfl⟩ hY F (fun _ _ a ns hl _ hS=>⟨a,ns,rfl,hS,hl,fun _=>rfl⟩) fun _ _ _ _ _ z=>z
end K37
open PySem PySem.W PyProof.Rows
namespace PySem.W.Fast
def tw8828946857048942385:=0
def tw16535017823526949037:=0
def tw7685874259791512586:=0
def tw12531057538270266887:=0
def tw3220448575321863887:=0
def tw12766680411668400470:=0
def tw2939230277043704503:=0
def tw16512622537622521096:=0
def tw16696442896090074695:=0
def tw8384913711042770343:=0
def tw403802834101311543:=0
def tw6069336720529766047:=0
def tw15435821668380192197:=0
def tw5715288082778933203:=0
def tw18188716098866838083:=0
def tw12198159748470129989:=0
def tw18431843543444529396:=0
def tw4936890446656848200:=0
def tw12197145839211601304:=0
def tw10912812530196309905:=0
def tw6410299682330475519:=0
def tw15812897887159014987:=0
def tw8818424252417687232:=0
def tw8251665289293793878:=0
def tw2088419670283774178:=0
def tw3409673402999121905:=0
def tw10469637646920169977:=0
def tw6117210884528804401:=0
def tw2022409210321368094:=0
def tw4584947050416977583:=0
def tw11955534095271524521:=0
def tw11949134026765202674:=0
def tw15775254205966064329:=0
def tw10810151688948718557:=0
def tw8851208041034287828:=0
def tw12202340207903142088:=0
def tw7827463487234944928:=0
def tw3362658150484518742:=0
def tw5900050512223663437:=0
def tw5660296736978335706:=0
def tw16807834725686017439:=0
def tw1688901092410509783:=0
def tw12135471808842613269:=0
def tw17970834188180439410:=0
def tw9029630845914714749:=0
def tw11627552471085105214:=0
def tw11201651629390865332:=0
def tw6582337511491653456:=0
def tw2778065688445907541:=0
def tw4954671229585227556:=0
def tw7073622698959096281:=0
def tw17680780214414354598:=0
end PySem.W.Fast
set_option maxHeartbeats 0 in
theorem PySem.Challenge.cw_foldlog_k37_deeds_one_behind_another_holds : PySem.Challenge.rw_foldlog_k37_deeds_one_behind_another.Holds := by
 w_on; o_law; z_head; (case hw=>w_witness2)
 k_fill
 refine K37.walkX (fun _=>by kernel_rfl) (K37.walk (l:=PySem.Challenge.rw_foldlog_k37_deeds_one_behind_another) rfl rfl (fun w h Y=>Y) ?F)
 case F =>
   intro w mg fa h KX G hmg
   refine' K37.all_mk KX G hmg ?aC_LogError ?aC_NoSpans ?aC_NoTable ?aC_TooMany ?aC_NoMoment ?aC_NoReading ?aC_NoName ?aC_NoPlace ?aC_NoEntry ?aC_Taken ?aC_NoMinutes ?aC_NoBond ?aC_Entry ?aC_Within ?aC_At ?aC_Between ?aC_Read ?aC_Log ?aC_Table ?a0 ?l0 ?c0 ?k0 ?a1 ?l1 ?c1 ?k1 ?a2 ?l2 ?c2 ?k2 ?a3 ?l3 ?c3 ?k3 ?a4 ?l4 ?c4 ?k4 ?a5 ?l5 ?c5 ?k5 ?a6 ?l6 ?c6 ?k6 ?a7 ?l7 ?c7 ?k7 ?a8 ?l8 ?c8 ?k8 ?a9 ?l9 ?c9 ?k9 ?a10 ?l10 ?c10 ?k10 ?a11 ?l11 ?c11 ?k11 ?a12 ?l12 ?c12 ?k12 ?a13 ?l13 ?c13 ?k13 ?a14 ?l14 ?c14 ?k14 ?a15 ?l15 ?c15 ?k15 ?a16 ?l16 ?c16 ?k16 ?a17 ?l17 ?c17 ?k17 ?a18 ?l18 ?c18 ?k18 ?a19 ?l19 ?c19 ?k19 ?a20 ?l20 ?c20 ?k20 ?a21 ?l21 ?c21 ?k21 ?a22 ?l22 ?c22 ?k22 ?a23 ?l23 ?c23 ?k23 ?a24 ?l24 ?c24 ?k24 ?a25 ?l25 ?c25 ?k25 ?a26 ?l26 ?c26 ?k26 ?a27 ?l27 ?c27 ?k27 ?a28 ?l28 ?c28 ?k28 ?a29 ?l29 ?c29 ?k29 ?a30 ?l30 ?c30 ?k30 ?a31 ?l31 ?c31 ?k31 ?a32 ?l32 ?c32 ?k32 ?a33 ?l33 ?c33 ?k33 ?a34 ?l34 ?c34 ?k34 ?a35 ?l35 ?c35 ?k35 ?a36 ?l36 ?c36 ?k36 ?a37 ?l37 ?c37 ?k37 ?a38 ?l38 ?c38 ?k38 ?a39 ?l39 ?c39 ?k39 ?a40 ?i40 ?l40 ?c40 ?k40 ?a41 ?i41 ?l41 ?c41 ?k41 ?a42 ?i42 ?l42 ?c42 ?k42 ?a43 ?i43 ?l43 ?c43 ?k43 ?a44 ?i44 ?l44 ?c44 ?k44 ?a45 ?i45 ?l45 ?c45 ?k45 ?a46 ?i46 ?l46 ?c46 ?k46 ?a47 ?i47 ?l47 ?c47 ?k47 ?a48 ?i48 ?l48 ?c48 ?k48 ?a49 ?i49 ?l49 ?c49 ?k49 ?a50 ?i50 ?l50 ?c50 ?k50 ?a51 ?i51 ?l51 ?c51 ?k51 ?a52 ?i52 ?l52 ?c52 ?k52 ?a53 ?i53 ?l53 ?c53 ?k53 ?a54 ?i54 ?l54 ?c54 ?k54 ?a55 ?i55 ?l55 ?c55 ?k55 ?a56 ?i56 ?l56 ?c56 ?k56 ?a57 ?i57 ?l57 ?c57 ?k57 ?a58 ?i58 ?l58 ?c58 ?k58 ?a59 ?i59 ?l59 ?c59 ?k59 ?a60 ?i60 ?l60 ?c60 ?k60 ?a61 ?i61 ?l61 ?c61 ?k61 ?a62 ?i62 ?l62 ?c62 ?k62 ?a63 ?i63 ?l63 ?c63 ?k63 ?a64 ?i64 ?l64 ?c64 ?k64 ?a65 ?i65 ?l65 ?c65 ?k65 ?a66 ?i66 ?l66 ?c66 ?k66 ?a67 ?i67 ?l67 ?c67 ?k67 ?a68 ?i68 ?l68 ?c68 ?k68 ?a69 ?i69 ?l69 ?c69 ?k69 ?a70 ?i70 ?l70 ?c70 ?k70 ?a71 ?i71 ?l71 ?c71 ?k71 ?a72 ?i72 ?l72 ?c72 ?k72 ?pg_Entry ?hd_Entry ?po_Entry ?sa_Entry ?mk_Entry ?kc_Entry ?nf_Entry_name ?pg_Within ?hd_Within ?po_Within ?sa_Within ?mk_Within ?kc_Within ?nf_Within_low ?nf_Within_high ?nf_Within_name ?pg_At ?hd_At ?po_At ?sa_At ?mk_At ?kc_At ?nf_At_low ?nf_At_high ?nf_At_name ?pg_Between ?hd_Between ?po_Between ?sa_Between ?mk_Between ?kc_Between ?nf_Between_place ?nf_Between_low ?nf_Between_high ?nf_Between_name ?pg_Read ?hd_Read ?po_Read ?sa_Read ?mk_Read ?kc_Read ?nf_Read_place ?nf_Read_low ?nf_Read_high ?nf_Read_name ?pg_Log ?hd_Log ?po_Log ?sa_Log ?mk_Log ?kc_Log ?nf_Log_tables ?nf_Log_entries ?nf_Log_bound ?pg_Table ?hd_Table ?po_Table ?sa_Table ?mk_Table ?kc_Table ?nf_Table_kept ?z_len ?z_max ?z_min ?z_isinstance ?z_range ?z_enumerate ?z_int ?z_bool ?z_str ?z_list ?z_tuple ?z_dict ?z_sorted ?z_zip ?z_all ?g_LAST ?g_WIDEST_READING ?g_MOST_MINUTES ?g_LONGEST_NAME ?g_LATER ?g_EARLIER ?g_MOST_PLACES ?g_MOST_ENTRIES ?g_MOST_BONDS ?g_MOST_ROWS ?g_WIDEST_SHIFT ?zV ?lk_LogError ?xo_LogError ?cg ?ct ?sg_LogError ?rd_LogError ?fc_LogError ?lk_NoEntry ?xo_NoEntry ?ga_NoEntry ?na_NoEntry ?xs_NoEntry ?xc_NoEntry ?kx_NoEntry ?up_NoEntry ?nx_NoEntry_found ?ih_Within_places ?ih_At_places ?ih_At_spans ?ih_Read_places ?ih_Read_spans ?sg_Entry ?rd_Entry ?fc_Entry ?sg_Within ?rd_Within ?fc_Within ?sg_Between ?rd_Between ?fc_Between ?lk_Entry ?xm_Entry ?oa_Entry ?om_Entry ?lk_Within ?xm_Within ?oa_Within ?om_Within ?lk_At ?xm_At ?oa_At ?om_At ?lk_Between ?xm_Between ?oa_Between ?om_Between ?lk_Read ?xm_Read ?oa_Read ?om_Read ?lk_Log ?xm_Log ?oa_Log ?om_Log ?lk_Table ?xm_Table ?oa_Table ?om_Table ?icc_Entry ?itc_Entry ?icc_Within ?itc_Within ?icc_At ?itc_At ?icc_Between ?itc_Between ?icc_Read ?itc_Read ?icc_Log ?itc_Log ?icc_Table ?itc_Table ?ndc_
   (case aC_LogError=>k_is)
   (case aC_NoSpans=>k_is)
   (case aC_NoTable=>k_is)
   (case aC_TooMany=>k_is)
   (case aC_NoMoment=>k_is)
   (case aC_NoReading=>k_is)
   (case aC_NoName=>k_is)
   (case aC_NoPlace=>k_is)
   (case aC_NoEntry=>k_is)
   (case aC_Taken=>k_is)
   (case aC_NoMinutes=>k_is)
   (case aC_NoBond=>k_is)
   (case aC_Entry=>k_is)
   (case aC_Within=>k_is)
   (case aC_At=>k_is)
   (case aC_Between=>k_is)
   (case aC_Read=>k_is)
   (case aC_Log=>k_is)
   (case aC_Table=>k_is)
   (case a0=>k_is)
   (case l0=>k_is)
   (case c0=>k_is)
   (case k0=>k_is)
   (case a1=>k_is)
   (case l1=>k_is)
   (case c1=>k_is)
   (case k1=>k_is)
   (case a2=>k_is)
   (case l2=>k_is)
   (case c2=>k_is)
   (case k2=>k_is)
   (case a3=>k_is)
   (case l3=>k_is)
   (case c3=>k_is)
   (case k3=>k_is)
   (case a4=>k_is)
   (case l4=>k_is)
   (case c4=>k_is)
   (case k4=>k_is)
   (case a5=>k_is)
   (case l5=>k_is)
   (case c5=>k_is)
   (case k5=>k_is)
   (case a6=>k_is)
   (case l6=>k_is)
   (case c6=>k_is)
   (case k6=>k_is)
   (case a7=>k_is)
   (case l7=>k_is)
   (case c7=>k_is)
   (case k7=>k_is)
   (case a8=>k_is)
   (case l8=>k_is)
   (case c8=>k_is)
   (case k8=>k_is)
   (case a9=>k_is)
   (case l9=>k_is)
   (case c9=>k_is)
   (case k9=>k_is)
   (case a10=>k_is)
   (case l10=>k_is)
   (case c10=>k_is)
   (case k10=>k_is)
   (case a11=>k_is)
   (case l11=>k_is)
   (case c11=>k_is)
   (case k11=>k_is)
   (case a12=>k_is)
   (case l12=>k_is)
   (case c12=>k_is)
   (case k12=>k_is)
   (case a13=>k_is)
   (case l13=>k_is)
   (case c13=>k_is)
   (case k13=>k_is)
   (case a14=>k_is)
   (case l14=>k_is)
   (case c14=>k_is)
   (case k14=>k_is)
   (case a15=>k_is)
   (case l15=>k_is)
   (case c15=>k_is)
   (case k15=>k_is)
   (case a16=>k_is)
   (case l16=>k_is)
   (case c16=>k_is)
   (case k16=>k_is)
   (case a17=>k_is)
   (case l17=>k_is)
   (case c17=>k_is)
   (case k17=>k_is)
   (case a18=>k_is)
   (case l18=>k_is)
   (case c18=>k_is)
   (case k18=>k_is)
   (case a19=>k_is)
   (case l19=>k_is)
   (case c19=>k_is)
   (case k19=>k_is)
   (case a20=>k_is)
   (case l20=>k_is)
   (case c20=>k_is)
   (case k20=>k_is)
   (case a21=>k_is)
   (case l21=>k_is)
   (case c21=>k_is)
   (case k21=>k_is)
   (case a22=>k_is)
   (case l22=>k_is)
   (case c22=>k_is)
   (case k22=>k_is)
   (case a23=>k_is)
   (case l23=>k_is)
   (case c23=>k_is)
   (case k23=>k_is)
   (case a24=>k_is)
   (case l24=>k_is)
   (case c24=>k_is)
   (case k24=>k_is)
   (case a25=>k_is)
   (case l25=>k_is)
   (case c25=>k_is)
   (case k25=>k_is)
   (case a26=>k_is)
   (case l26=>k_is)
   (case c26=>k_is)
   (case k26=>k_is)
   (case a27=>k_is)
   (case l27=>k_is)
   (case c27=>k_is)
   (case k27=>k_is)
   (case a28=>k_is)
   (case l28=>k_is)
   (case c28=>k_is)
   (case k28=>k_is)
   (case a29=>k_is)
   (case l29=>k_is)
   (case c29=>k_is)
   (case k29=>k_is)
   (case a30=>k_is)
   (case l30=>k_is)
   (case c30=>k_is)
   (case k30=>k_is)
   (case a31=>k_is)
   (case l31=>k_is)
   (case c31=>k_is)
   (case k31=>k_is)
   (case a32=>k_is)
   (case l32=>k_is)
   (case c32=>k_is)
   (case k32=>k_is)
   (case a33=>k_is)
   (case l33=>k_is)
   (case c33=>k_is)
   (case k33=>k_is)
   (case a34=>k_is)
   (case l34=>k_is)
   (case c34=>k_is)
   (case k34=>k_is)
   (case a35=>k_is)
   (case l35=>k_is)
   (case c35=>k_is)
   (case k35=>k_is)
   (case a36=>k_is)
   (case l36=>k_is)
   (case c36=>k_is)
   (case k36=>k_is)
   (case a37=>k_is)
   (case l37=>k_is)
   (case c37=>k_is)
   (case k37=>k_is)
   (case a38=>k_is)
   (case l38=>k_is)
   (case c38=>k_is)
   (case k38=>k_is)
   (case a39=>k_is)
   (case l39=>k_is)
   (case c39=>k_is)
   (case k39=>k_is)
   (case a40=>k_is)
   (case i40=>k_is)
   (case l40=>k_is)
   (case c40=>k_is)
   (case k40=>k_is)
   (case a41=>k_is)
   (case i41=>k_is)
   (case l41=>k_is)
   (case c41=>k_is)
   (case k41=>k_is)
   (case a42=>k_is)
   (case i42=>k_is)
   (case l42=>k_is)
   (case c42=>k_is)
   (case k42=>k_is)
   (case a43=>k_is)
   (case i43=>k_is)
   (case l43=>k_is)
   (case c43=>k_is)
   (case k43=>k_is)
   (case a44=>k_is)
   (case i44=>k_is)
   (case l44=>k_is)
   (case c44=>k_is)
   (case k44=>k_is)
   (case a45=>k_is)
   (case i45=>k_is)
   (case l45=>k_is)
   (case c45=>k_is)
   (case k45=>k_is)
   (case a46=>k_is)
   (case i46=>k_is)
   (case l46=>k_is)
   (case c46=>k_is)
   (case k46=>k_is)
   (case a47=>k_is)
   (case i47=>k_is)
   (case l47=>k_is)
   (case c47=>k_is)
   (case k47=>k_is)
   (case a48=>k_is)
   (case i48=>k_is)
   (case l48=>k_is)
   (case c48=>k_is)
   (case k48=>k_is)
   (case a49=>k_is)
   (case i49=>k_is)
   (case l49=>k_is)
   (case c49=>k_is)
   (case k49=>k_is)
   (case a50=>k_is)
   (case i50=>k_is)
   (case l50=>k_is)
   (case c50=>k_is)
   (case k50=>k_is)
   (case a51=>k_is)
   (case i51=>k_is)
   (case l51=>k_is)
   (case c51=>k_is)
   (case k51=>k_is)
   (case a52=>k_is)
   (case i52=>k_is)
   (case l52=>k_is)
   (case c52=>k_is)
   (case k52=>k_is)
   (case a53=>k_is)
   (case i53=>k_is)
   (case l53=>k_is)
   (case c53=>k_is)
   (case k53=>k_is)
   (case a54=>k_is)
   (case i54=>k_is)
   (case l54=>k_is)
   (case c54=>k_is)
   (case k54=>k_is)
   (case a55=>k_is)
   (case i55=>k_is)
   (case l55=>k_is)
   (case c55=>k_is)
   (case k55=>k_is)
   (case a56=>k_is)
   (case i56=>k_is)
   (case l56=>k_is)
   (case c56=>k_is)
   (case k56=>k_is)
   (case a57=>k_is)
   (case i57=>k_is)
   (case l57=>k_is)
   (case c57=>k_is)
   (case k57=>k_is)
   (case a58=>k_is)
   (case i58=>k_is)
   (case l58=>k_is)
   (case c58=>k_is)
   (case k58=>k_is)
   (case a59=>k_is)
   (case i59=>k_is)
   (case l59=>k_is)
   (case c59=>k_is)
   (case k59=>k_is)
   (case a60=>k_is)
   (case i60=>k_is)
   (case l60=>k_is)
   (case c60=>k_is)
   (case k60=>k_is)
   (case a61=>k_is)
   (case i61=>k_is)
   (case l61=>k_is)
   (case c61=>k_is)
   (case k61=>k_is)
   (case a62=>k_is)
   (case i62=>k_is)
   (case l62=>k_is)
   (case c62=>k_is)
   (case k62=>k_is)
   (case a63=>k_is)
   (case i63=>k_is)
   (case l63=>k_is)
   (case c63=>k_is)
   (case k63=>k_is)
   (case a64=>k_is)
   (case i64=>k_is)
   (case l64=>k_is)
   (case c64=>k_is)
   (case k64=>k_is)
   (case a65=>k_is)
   (case i65=>k_is)
   (case l65=>k_is)
   (case c65=>k_is)
   (case k65=>k_is)
   (case a66=>k_is)
   (case i66=>k_is)
   (case l66=>k_is)
   (case c66=>k_is)
   (case k66=>k_is)
   (case a67=>k_is)
   (case i67=>k_is)
   (case l67=>k_is)
   (case c67=>k_is)
   (case k67=>k_is)
   (case a68=>k_is)
   (case i68=>k_is)
   (case l68=>k_is)
   (case c68=>k_is)
   (case k68=>k_is)
   (case a69=>k_is)
   (case i69=>k_is)
   (case l69=>k_is)
   (case c69=>k_is)
   (case k69=>k_is)
   (case a70=>k_is)
   (case i70=>k_is)
   (case l70=>k_is)
   (case c70=>k_is)
   (case k70=>k_is)
   (case a71=>k_is)
   (case i71=>k_is)
   (case l71=>k_is)
   (case c71=>k_is)
   (case k71=>k_is)
   (case a72=>k_is)
   (case i72=>k_is)
   (case l72=>k_is)
   (case c72=>k_is)
   (case k72=>k_is)
   (case pg_Entry=>k_is)
   (case hd_Entry=>k_is)
   (case po_Entry=>k_is)
   (case sa_Entry=>k_is)
   (case mk_Entry=>k_is)
   (case kc_Entry=>k_is)
   (case nf_Entry_name=>k_is)
   (case pg_Within=>k_is)
   (case hd_Within=>k_is)
   (case po_Within=>k_is)
   (case sa_Within=>k_is)
   (case mk_Within=>k_is)
   (case kc_Within=>k_is)
   (case nf_Within_low=>k_is)
   (case nf_Within_high=>k_is)
   (case nf_Within_name=>k_is)
   (case pg_At=>k_is)
   (case hd_At=>k_is)
   (case po_At=>k_is)
   (case sa_At=>k_is)
   (case mk_At=>k_is)
   (case kc_At=>k_is)
   (case nf_At_low=>k_is)
   (case nf_At_high=>k_is)
   (case nf_At_name=>k_is)
   (case pg_Between=>k_is)
   (case hd_Between=>k_is)
   (case po_Between=>k_is)
   (case sa_Between=>k_is)
   (case mk_Between=>k_is)
   (case kc_Between=>k_is)
   (case nf_Between_place=>k_is)
   (case nf_Between_low=>k_is)
   (case nf_Between_high=>k_is)
   (case nf_Between_name=>k_is)
   (case pg_Read=>k_is)
   (case hd_Read=>k_is)
   (case po_Read=>k_is)
   (case sa_Read=>k_is)
   (case mk_Read=>k_is)
   (case kc_Read=>k_is)
   (case nf_Read_place=>k_is)
   (case nf_Read_low=>k_is)
   (case nf_Read_high=>k_is)
   (case nf_Read_name=>k_is)
   (case pg_Log=>k_is)
   (case hd_Log=>k_is)
   (case po_Log=>k_is)
   (case sa_Log=>k_is)
   (case mk_Log=>k_is)
   (case kc_Log=>k_is)
   (case nf_Log_tables=>k_is)
   (case nf_Log_entries=>k_is)
   (case nf_Log_bound=>k_is)
   (case pg_Table=>k_is)
   (case hd_Table=>k_is)
   (case po_Table=>k_is)
   (case sa_Table=>k_is)
   (case mk_Table=>k_is)
   (case kc_Table=>k_is)
   (case nf_Table_kept=>k_is)
   (case z_len=>k_is)
   (case z_max=>k_is)
   (case z_min=>k_is)
   (case z_isinstance=>k_is)
   (case z_range=>k_is)
   (case z_enumerate=>k_is)
   (case z_int=>k_is)
   (case z_bool=>k_is)
   (case z_str=>k_is)
   (case z_list=>k_is)
   (case z_tuple=>k_is)
   (case z_dict=>k_is)
   (case z_sorted=>k_is)
   (case z_zip=>k_is)
   (case z_all=>k_is)
   (case g_LAST=>k_is)
   (case g_WIDEST_READING=>k_is)
   (case g_MOST_MINUTES=>k_is)
   (case g_LONGEST_NAME=>k_is)
   (case g_LATER=>k_is)
   (case g_EARLIER=>k_is)
   (case g_MOST_PLACES=>k_is)
   (case g_MOST_ENTRIES=>k_is)
   (case g_MOST_BONDS=>k_is)
   (case g_MOST_ROWS=>k_is)
   (case g_WIDEST_SHIFT=>k_is)
   (case zV=>k_is)
   (case lk_LogError=>k_is)
   (case xo_LogError=>rfl)
   (case cg=>k_is)
   (case ct=>k_is)
   (case sg_LogError=>k_is)
   (case rd_LogError=>k_is)
   (case fc_LogError=>k_is)
   (case lk_NoEntry=>k_is)
   (case xo_NoEntry=>rfl)
   (case ga_NoEntry=>k_is)
   (case na_NoEntry=>k_is)
   (case xs_NoEntry=>k_is)
   (case xc_NoEntry=>k_is)
   (case kx_NoEntry=>k_is)
   (case up_NoEntry=>k_is)
   (case nx_NoEntry_found=>k_is)
   (case ih_Within_places=>k_is)
   (case ih_At_places=>k_is)
   (case ih_At_spans=>k_is)
   (case ih_Read_places=>k_is)
   (case ih_Read_spans=>k_is)
   (case sg_Entry=>k_is)
   (case rd_Entry=>k_is)
   (case fc_Entry=>k_is)
   (case sg_Within=>k_is)
   (case rd_Within=>k_is)
   (case fc_Within=>k_is)
   (case sg_Between=>k_is)
   (case rd_Between=>k_is)
   (case fc_Between=>k_is)
   (case lk_Entry=>k_is)
   (case xm_Entry=>rfl)
   (case oa_Entry=>k_is)
   (case om_Entry=>k_is)
   (case lk_Within=>k_is)
   (case xm_Within=>rfl)
   (case oa_Within=>k_is)
   (case om_Within=>k_is)
   (case lk_At=>k_is)
   (case xm_At=>rfl)
   (case oa_At=>k_is)
   (case om_At=>k_is)
   (case lk_Between=>k_is)
   (case xm_Between=>rfl)
   (case oa_Between=>k_is)
   (case om_Between=>k_is)
   (case lk_Read=>k_is)
   (case xm_Read=>rfl)
   (case oa_Read=>k_is)
   (case om_Read=>k_is)
   (case lk_Log=>k_is)
   (case xm_Log=>rfl)
   (case oa_Log=>k_is)
   (case om_Log=>k_is)
   (case lk_Table=>k_is)
   (case xm_Table=>rfl)
   (case oa_Table=>k_is)
   (case om_Table=>k_is)
   (case icc_Entry=>k_is)
   (case itc_Entry=>k_is)
   (case icc_Within=>k_is)
   (case itc_Within=>k_is)
   (case icc_At=>k_is)
   (case itc_At=>k_is)
   (case icc_Between=>k_is)
   (case itc_Between=>k_is)
   (case icc_Read=>k_is)
   (case itc_Read=>k_is)
   (case icc_Log=>k_is)
   (case itc_Log=>k_is)
   (case icc_Table=>k_is)
   (case itc_Table=>k_is)
   (case ndc_=>decide)
