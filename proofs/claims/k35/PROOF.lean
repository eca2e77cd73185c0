import PyProof.Rows.All
import Wide.All
import OpenK.AllK
import Wide.FinOn
import Lean
import PyProof.EqAt
import PyProof.EqKinds
import PyProof.TupleCall
import PyProof.ZipIter
import PyProof.TupleIter
import PyProof.CompUse
import KE.KRevIter
import KE.KIntText
import PyProof.FString
import PyProof.Rows.StrNews2
import PyProof.Rows.StrSplitCount
import PyProof.Rows.StrClose3
import KE.IntTextText
import PyProof.StrLawsTight
import PyProof.StationsW
import PyProof.PassesOwn
import PyProof.ExcInit
import PyProof.ExcBaseAll.ValueError
import PyProof.InstStoreFacts
import KE.KIsNot
import PyProof.ExcArgs
import PyProof.RulesAs
import KE.KEqDict
import KE.KSortTup
import KE.KSorted
import KE.LcSums
import KE.KListMore
import PyProof.NsDelKeeps
import PyProof.ReprRoads
import PyProof.ReprLen
import PyProof.MeetsStr3
import PyProof.StrOps2
import PyProof.Rows.InDataRows
import KE.KDictList
import KE.KDictSum
import PyProof.Rows.SortStr
import PyProof.Rows.SortWalk
import KE.KDictOf
import PyProof.DictUpdate
import PyProof.AttrMissSeq
import PyProof.Rows.SetFrom
import PyProof.IsInstanceT
import KE.KItemsList
import PyProof.DictItems
import PyProof.DictValues
import PySem.Challenge.RW_foldlog_k35_deeds_told_back
set_option maxHeartbeats 4000000
set_option Elab.async false
set_option linter.all false
set_option maxRecDepth 100000
namespace L2
open PySem PySem.Spec PyProof.Rows
abbrev Key:=Sum Int Str
def qdB:Key->Value->Bool
 | .inl k,v=>Value.isInt k v
 | .inr x,v=>Value.isStrOf x v
def qj8 (w:World):Key->Int
 | .inl k=>hashInt k
 | .inr x=>hashStr w x
theorem zo:∀ {k:Key} {v:Value},qdB k v=true->(∃ i t,k=Sum.inl i∧v=Value.int i t)∨(∃ x t,k=Sum.inr x∧v=Value.str x t)
 | .inl i,v,h=>by
   obtain ⟨t,e⟩:=Value.isInt_shape (k:=i) (v:=v) h
   exact .inl ⟨i,t,rfl,e⟩
 | .inr x,v,h=>by
   obtain ⟨t,e⟩:=Value.isStrOf_shape (x:=x) (v:=v) h
   exact .inr ⟨x,t,rfl,e⟩
theorem qfF (i:Int) (t:Tok):qdB (.inl i) (.int i t)=true:=by simp [qdB,Value.isInt]
theorem qfE (x:Str) (t:Tok):qdB (.inr x) (.str x t)=true:=by simp [qdB,Value.isStrOf]
theorem qiC (a b:Int):decide ((Sum.inl a:Key)=Sum.inl b)=(a == b):=by
 by_cases e:a=b
 · subst e; simp
 · have h:¬ (Sum.inl a:Key)=Sum.inl b:=fun q=>e (Sum.inl.inj q)
   rw [decide_eq_false h]
   exact (beq_eq_false_iff_ne.mpr e).symm
theorem qiz (a b:Str):decide ((Sum.inr a:Key)=Sum.inr b)=decide (a=b):=by
 by_cases e:a=b
 · subst e; simp
 · have h:¬ (Sum.inr a:Key)=Sum.inr b:=fun q=>e (Sum.inr.inj q)
   rw [decide_eq_false h,decide_eq_false e]
theorem qiB (a:Int) (b:Str):decide ((Sum.inl a:Key)=Sum.inr b)=false:=decide_eq_false (fun q=>nomatch q)
theorem qiA (a:Str) (b:Int):decide ((Sum.inr a:Key)=Sum.inl b)=false:=decide_eq_false (fun q=>nomatch q)
def qQ (prog:Program) (w:World):PySem.KeyKind prog w Key where
 is:=qdB
 hash:=qj8 w
 inj:=fun v a b ha hb=>by
   rcases zo ha with ⟨i,t,rfl,rfl⟩ | ⟨x,t,rfl,rfl⟩
   · rcases zo hb with ⟨j,u,rfl,e⟩ | ⟨y,u,rfl,e⟩
     · injection e with e1 _; rw [e1]
     · exact nomatch e
   · rcases zo hb with ⟨j,u,rfl,e⟩ | ⟨y,u,rfl,e⟩
     · exact nomatch e
     · injection e with e1 _; rw [e1]
 byValue:=fun k v h=>by
   rcases zo h with ⟨i,t,rfl,rfl⟩ | ⟨x,t,rfl,rfl⟩<;>rfl
 pyHash:=fun hv h=>by
   rcases zo hv with ⟨i,t,rfl,rfl⟩ | ⟨x,t,rfl,rfl⟩
   · exact wpAny_pyHash_int h
   · exact wpAny_pyHash_str h
 eqBool:=fun hu hv h=>by
   rcases zo hu with ⟨i,t,rfl,rfl⟩ | ⟨x,t,rfl,rfl⟩
   · rcases zo hv with ⟨j,u,rfl,rfl⟩ | ⟨y,u,rfl,rfl⟩
     · rw [qiC] at h; exact wpAny_eqBool_int h
     · rw [qiB] at h; exact SeqAt.EqAt.int_str i t y u _ _ _ _ h
   · rcases zo hv with ⟨j,u,rfl,rfl⟩ | ⟨y,u,rfl,rfl⟩
     · rw [qiA] at h; exact SeqAt.EqAt.str_int x t j u _ _ _ _ h
     · rw [qiz] at h; exact wpAny_eqBool_str h
 «strs»:=fun k x t v h=>by
   rcases zo h with ⟨i,u,rfl,e⟩ | ⟨y,u,rfl,e⟩
   · exact nomatch e
   · injection e with e1 _
     subst e1
     cases v<;>rfl
theorem qdz (prog:Program) (w:World) (i:Int) (t:Tok):(qQ prog w).is (.inl i) (.int i t)=true:=qfF i t
theorem qdy (prog:Program) (w:World) (x:Str) (t:Tok):(qQ prog w).is (.inr x) (.str x t)=true:=qfE x t
end L2
namespace L2
open PySem PySem.Spec PyProof.Rows
inductive V where
 | non | bl (b:Bool) | int (i:Int) | str (x:Str) | byt (b:Array UInt8) | flt (b:UInt64) | ref (a:Addr) | ty (n:String)
 deriving DecidableEq
def RelV:V->Value->Prop
 | .non,u=>u=Value.none
 | .bl b,u=>u=Value.bool b
 | .int i,u=>∃ t,u=Value.int i t
 | .str x,u=>∃ t,u=Value.str x t
 | .byt b,u=>∃ t,u=Value.bytes b t
 | .flt b,u=>∃ t,u=Value.float b t
 | .ref a,u=>u=Value.ref a
 | .ty n,u=>u=Value.type n
abbrev Vals:List V->List Value->Prop:=Paired RelV
theorem Vals.length {xs:List V} {us:List Value} (r:Vals xs us):xs.length=us.length:=Paired.length r
theorem Vals.get:∀ {xs:List V} {us:List Value} {i:Nat} {x:V},Vals xs us->xs[i]?=some x->∃ u,us[i]?=some u∧RelV x u
 | _,_,_,_,.nil,e=>by simp at e
 | _,_,0,_,.cons r _,e=>by simp at e; subst e; exact ⟨_,rfl,r⟩
 | _,_,i+1,x,.cons _ t,e=>by
   obtain ⟨u,h1,h2⟩:=Vals.get (i:=i) (x:=x) t (by simpa using e)
   exact ⟨u,by simpa using h1,h2⟩
theorem Vals.set {x:V} {u:Value} (r:RelV x u):∀ {xs:List V} {us:List Value} (i:Nat),Vals xs us->Vals (xs.set i x) (us.set i u)
 | _,_,_,.nil=>.nil
 | _,_,0,.cons _ t=>.cons r t
 | _,_,i+1,.cons q t=>.cons q (Vals.set r i t)
theorem Vals.append:∀ {xs ys:List V} {us ws:List Value},Vals xs us->Vals ys ws->Vals (xs++ys) (us++ws)
 | _,_,_,_,.nil,s=>s
 | _,_,_,_,.cons r t,s=>.cons r (Vals.append t s)
theorem Vals.take:∀ {xs:List V} {us:List Value} (n:Nat),Vals xs us->Vals (xs.take n) (us.take n)
 | _,_,0,_=>.nil
 | _,_,_+1,.nil=>.nil
 | _,_,n+1,.cons r t=>.cons r (Vals.take n t)
theorem Vals.drop:∀ {xs:List V} {us:List Value} (n:Nat),Vals xs us->Vals (xs.drop n) (us.drop n)
 | _,_,0,r=>r
 | _,_,_+1,.nil=>.nil
 | _,_,n+1,.cons _ t=>Vals.drop n t
def RelO:Option V->Option Value->Prop
 | some v,some u=>RelV v u
 | none,none=>True
 | _,_=>False
def KV {κ:Type}:List (κ×V)->List (κ×Value)->Prop:=Paired fun (p:κ×V) (q:κ×Value)=>p.1=q.1∧RelV p.2 q.2
def kV:Key->V
 | .inl i=>.int i
 | .inr x=>.str x
inductive HO where
   | lst (xs:List V)
   | tup (xs:List V)
   | dK (kvs:List (Key×V)) | dT (kvs:List (List Key×V))
   | set (S:Int->Bool) (n:Nat)
   | ins (C dx:Addr) (fs:List (Str×V))
   | own (x:Addr)
   | xd (fs:List (Str×V))
   | met (f x:Addr)
   | rng (lo hi:Int)
   | frz (o:Obj) (u:HO)
   | tbl (ps:Array Value)
   | ext (φ:Heap->Prop)
abbrev Hp:=Addr->Option HO
def upd (H:Hp) (a:Addr) (o:HO):Hp:=fun b=>if b=a then some o else H b
theorem qd {H:Hp} {a:Addr} {o:HO}:upd H a o a=some o:=by unfold upd; rw [if_pos rfl]
theorem qh {H:Hp} {a b:Addr} {o:HO} (h:b≠a):upd H a o b=H b:=by unfold upd; rw [if_neg h]
theorem qJ {H:Hp} {a b:Addr} {o u:HO} (h:H a=some o) (h':H b=some u) (d:o≠u):a≠b:=by
 intro e; subst e; rw [h] at h'; exact d (Option.some.inj h')
theorem qi {H:Hp} {a b:Addr} {o:HO} (h:H a=some o) (h':H b=none):a≠b:=by
 intro e; subst e; rw [h] at h'; cases h'
section
variable (P:Program) (w:World)
def ObjOk (H:Hp) (h:Heap) (a:Addr):HO->Prop
 | .lst xs=>xs.length≤sizeLine∧∃ (its:List Value) (n:Nat),Vals xs its∧h.get? a=some { cls:=.type "list",data:=.seq its.toArray n }
 | .tup xs=>xs.length≤sizeLine∧∃ its:List Value,Vals xs its∧IsTup h a its.toArray
 | .dK kvs=>kvs.length≤sizeLine∧(a == sysModules)=false∧∃ vs,KV kvs vs∧h.DictOf (qQ P w) a vs
 | .dT kvs=>kvs.length≤sizeLine∧(a == sysModules)=false∧∃ xs:List (List Key×Addr×Value),
     Paired (fun (p:List Key×V) (q:List Key×Addr×Value)=>p.1=q.1∧H q.2.1=some (.tup (p.1.map kV))∧RelV p.2 q.2.2) kvs xs ∧
     ∃ o es ep,h.get? a=some o∧o.ExactDict∧o.data=.dict es ep∧es.toList=xs.map (entryOfKey (tupleKind (qQ P w)))∧(xs.map (·.1)).Nodup
 | .set S n=>h.SetOf (intKind P w) a S n
 | .ins C dx fs=>H dx=some (.own a)∧fs.length≤1000∧dx≠a∧h.get? a=some (PySem.W.instObj C dx) ∧
     ∃ mA,h.Ns1 dx mA∧(∀ f,RelO (fs.lookup f) (mA f))∧PySem.Within mA (fs.map (·.1))
 | .own _=>∃ o,h.get? a=some o
 | .xd fs=>∃ mA,h.Ns1 a mA∧∀ f,RelO (fs.lookup f) (mA f)
 | .rng lo hi=>∃ t u v,h.get? a=some { cls:=.type "range",data:=.fields #[.int lo t,.int hi u,.int 1 v] }
 | .frz o u=>h.get? a=some o∧ObjOk H h a u
 | .tbl ps=>h.get? a=some { cls:=.none,data:=.fields ps }
 | .met f x=>h.get? a=some (PySem.W.methodObj (.ref f) (.ref x))
 | .ext φ=>φ h∧(∃ o,h.get? a=some o)∧∀ h1 h2:Heap,φ h1->(∀ o,h1.get? a=some o->h2.get? a=some o)->φ h2
def HOk (H:Hp) (h:Heap):Prop:=∀ a o,H a=some o->ObjOk P w H h a o
end
section
variable {P:Program} {w:World} {H H':Hp} {h h':Heap} {a:Addr} {o:HO}
theorem ObjOk.lt (x:ObjOk P w H h a o):a < h.objs.size:=by
 cases o with
 | lst xs=>obtain ⟨_,_,_,_,e⟩:=x; exact Heap.lt_size e
 | tup xs=>obtain ⟨_,_,_,p⟩:=x; exact p.lt
 | dK kvs=>obtain ⟨_,_,_,_,o,_,_,e,_⟩:=x; exact Heap.lt_size e
 | dT kvs=>obtain ⟨_,_,_,_,o,_,_,e,_⟩:=x; exact Heap.lt_size e
 | set S n=>obtain ⟨o,_,_,_,e,_⟩:=x; exact Heap.lt_size e
 | ins C dx fs=>obtain ⟨_,_,_,e,_⟩:=x; exact Heap.lt_size e
 | own y=>obtain ⟨_,e⟩:=x; exact Heap.lt_size e
 | xd fs=>obtain ⟨_,⟨_,_,_,e,_⟩,_⟩:=x; exact Heap.lt_size e
 | rng lo hi=>obtain ⟨_,_,_,e⟩:=x; exact Heap.lt_size e
 | frz ob u=>obtain ⟨e,_⟩:=x; exact Heap.lt_size e
 | tbl ps=>exact Heap.lt_size (show h.get? a=some _ from x)
 | met f y=>exact Heap.lt_size (show h.get? a=some _ from x)
 | ext φ=>obtain ⟨_,⟨_,e⟩,_⟩:=x; exact Heap.lt_size e
theorem Paired.mapP {α β:Type} {F G:α->β->Prop}:∀ {l₁:List α} {l₂:List β},Paired F l₁ l₂->(∀ a b,F a b->G a b)->Paired G l₁ l₂
 | _,_,.nil,_=>.nil
 | _,_,.cons r t,f=>.cons (f _ _ r) (Paired.mapP t f)
theorem ObjOk.stay (x:ObjOk P w H h a o) (k:∀ b u,(b=a∨H b=some (.own a))->h.get? b=some u->h'.get? b=some u)
   (ho:∀ b,H b=some (.own a)->H' b=some (.own a)) (ht:∀ b xs,H b=some (.tup xs)->H' b=some (.tup xs)):ObjOk P w H' h' a o:=by
 induction o with
 | lst xs=>obtain ⟨z,its,n,r,e⟩:=x; exact ⟨z,its,n,r,k _ _ (.inl rfl) e⟩
 | tup xs=>obtain ⟨z,its,r,ob,e,c⟩:=x; exact ⟨z,its,r,ob,k _ _ (.inl rfl) e,c⟩
 | dK kvs=>obtain ⟨z,y,vs,r,ob,es,ep,e,c⟩:=x; exact ⟨z,y,vs,r,ob,es,ep,k _ _ (.inl rfl) e,c⟩
 | dT kvs =>
   obtain ⟨z,y,xs,r,ob,es,ep,e,c⟩:=x
   exact ⟨z,y,xs,Paired.mapP r fun p q z=>⟨z.1,ht _ _ z.2.1,z.2.2⟩,ob,es,ep,k _ _ (.inl rfl) e,c⟩
 | set S n=>obtain ⟨ob,es,ep,t,e,c⟩:=x; exact ⟨ob,es,ep,t,k _ _ (.inl rfl) e,c⟩
 | ins C dx fs =>
   obtain ⟨d,z,ne,e,mA,⟨od,es,ep,e2,c⟩,r⟩:=x
   exact ⟨ho _ d,z,ne,k _ _ (.inl rfl) e,mA,⟨od,es,ep,k _ _ (.inr d) e2,c⟩,r⟩
 | own y=>obtain ⟨ob,e⟩:=x; exact ⟨ob,k _ _ (.inl rfl) e⟩
 | xd fs=>obtain ⟨mA,⟨od,es,ep,e,c⟩,r⟩:=x; exact ⟨mA,⟨od,es,ep,k _ _ (.inl rfl) e,c⟩,r⟩
 | rng lo hi=>obtain ⟨t,u,v,e⟩:=x; exact ⟨t,u,v,k _ _ (.inl rfl) e⟩
 | frz ob u ih=>obtain ⟨e,q⟩:=x; exact ⟨k _ _ (.inl rfl) e,ih q⟩
 | tbl ps =>
   have e:h.get? a=some { cls:=.none,data:=.fields ps }:=x
   show h'.get? a=some { cls:=.none,data:=.fields ps }
   exact k a _ (.inl rfl) e
 | met f y =>
   have e:h.get? a=some (PySem.W.methodObj (.ref f) (.ref y)):=x
   show h'.get? a=some (PySem.W.methodObj (.ref f) (.ref y))
   exact k a _ (.inl rfl) e
 | ext φ=>obtain ⟨p,⟨o,e⟩,st⟩:=x; exact ⟨st _ _ p fun o q=>k _ _ (.inl rfl) q,⟨o,k _ _ (.inl rfl) e⟩,st⟩
theorem HOk.lt (x:HOk P w H h) (e:H a=some o):a < h.objs.size:=(x a o e).lt
theorem HOk.fresh (x:HOk P w H h) (e:h.objs.size≤a):H a=none:=by
 cases q:H a with
 | none=>rfl
 | some u=>exact absurd (Nat.lt_of_lt_of_le (x.lt q) e) (Nat.lt_irrefl _)
theorem HOk.kept (x:HOk P w H h) (k:∀ b u,h.get? b=some u->h'.get? b=some u):HOk P w H h':=fun a o e =>
 (x a o e).stay (fun b u _ q=>k b u q) (fun _ q=>q) fun _ _ q=>q
theorem HOk.laid (x:HOk P w H h) (k:∀ b u,h.get? b=some u->h'.get? b=some u) (hp:h.objs.size≤a) (new:ObjOk P w (upd H a o) h' a o):HOk P w (upd H a o) h':=fun b u e=>by
 have hn:=x.fresh hp
 by_cases hb:b=a
 · subst hb; rw [qd] at e; cases e; exact new
 · rw [qh hb] at e
   exact (x b u e).stay (fun c v _ q=>k c v q) (fun c q=>by rw [qh (qi q hn)]; exact q) fun c xs q=>by rw [qh (qi q hn)]; exact q
end
def Rd (H:Hp) (a:Addr) (u:HO):Prop:=H a=some u∨∃ o,H a=some (.frz o u)
theorem Rd.ok {P:Program} {w:World} {H:Hp} {h:Heap} {a:Addr} {u:HO} (r:Rd H a u) (x:HOk P w H h):ObjOk P w H h a u:=by
 rcases r with r | ⟨o,r⟩
 · exact x a u r
 · obtain ⟨_,q⟩:=x a _ r
   exact q
def Mut:Option HO->Prop
 | some (.lst _)=>True
 | some (.dK _)=>True
 | some (.dT _)=>True
 | some (.set _ _)=>True
 | some (.ins _ _ _)=>True
 | some (.ext _)=>True
 | _=>False
section
variable {P:Program} {w:World} {H:Hp} {h h':Heap} {x e:Addr} {o':HO}
theorem HOk.write (ok:HOk P w H h) (mu:Mut (H x)) (he:e=x∨H e=some (.own x)) (k:∀ b u,b≠e->h.get? b=some u->h'.get? b=some u) (heo:∃ u,h'.get? e=some u)
   (new:ObjOk P w (upd H x o') h' x o'):HOk P w (upd H x o') h':=fun b u q=>by
 have nown:∀ c y,H c=some (.own y)->c≠x:=fun c y r z=>by subst z; rw [r] at mu; exact mu
 have ntup:∀ c xs,H c=some (.tup xs)->c≠x:=fun c xs r z=>by subst z; rw [r] at mu; exact mu
 by_cases hb:b=x
 · subst hb; rw [qd] at q; cases q; exact new
 · rw [qh hb] at q
   by_cases hbe:b=e
   · have q':H b=some (.own x):=by
       rcases he with z | z
       · exact absurd (hbe.trans z) hb
       · rw [hbe]; exact z
     rw [q] at q'; cases q'
     obtain ⟨v,hv⟩:=heo
     exact ⟨v,by rw [hbe]; exact hv⟩
   · refine (ok b u q).stay (fun c v hc r=>k c v ?_ r) (fun c r=>by rw [qh (nown c b r)]; exact r) fun c xs r=>by rw [qh (ntup c xs r)]; exact r
     rcases hc with rfl | hc
     · exact hbe
     · rintro rfl
       rcases he with z | z
       · exact nown c b hc z
       · rw [hc] at z; cases z; exact hb rfl
end
structure Un (fs ex:List Addr) (H H':Hp) (h h':Heap):Prop where
 keep:∀ b o,h.get? b=some o->H b=none->b∉fs->b∉ex->h'.get? b=some o
 slot:∀ b o,h.get? b=some o->H b=none->b∈fs->b∉ex->∃ sl,h'.get? b=some { o with slots:=sl }
 free:∀ b o,h.get? b=some o->H b=none->b∉ex->H' b=none
 there:∀ b o,h.get? b=some o->b∉ex->∃ o',h'.get? b=some o'
 tups:∀ b xs,H b=some (.tup xs)->H' b=some (.tup xs)
 frzs:∀ b o u,H b=some (.frz o u)->H' b=some (.frz o u)
 tbls:∀ b ps,H b=some (.tbl ps)->∃ more,H' b=some (.tbl (ps++more))
section
variable {fs fs' ex ex':List Addr} {H H1 H2:Hp} {h h1 h2 h':Heap} {a x e:Addr} {o:HO}
theorem Un.any (u:Un fs ex H H1 h h1) {b:Addr} {ob:Obj} (q:h.get? b=some ob) (n:H b=none) (hx:b∉ex):∃ sl,h1.get? b=some { ob with slots:=sl }:=by
 by_cases hb:b∈fs
 · exact u.slot b ob q n hb hx
 · exact ⟨ob.slots,u.keep b ob q n hb hx⟩
theorem Un.kept (k:∀ b u,h.get? b=some u->h'.get? b=some u):Un fs ex H H h h' :=
 ⟨fun b ob q _ _ _=>k b ob q,fun b ob q _ _ _=>⟨ob.slots,k b ob q⟩,fun _ _ _ n _=>n,fun b ob q _=>⟨ob,k b ob q⟩,fun _ _ q=>q,fun _ _ _ q=>q,fun _ ps q=>⟨#[],by rw [q]; simp⟩⟩
theorem Un.refl:Un fs ex H H h h:=Un.kept fun _ _ q=>q
theorem Un.laid (k:∀ b u,h.get? b=some u->h'.get? b=some u) (hp:h.objs.size≤a) (hn:H a=none):Un fs ex H (upd H a o) h h' where
 keep:=fun b u q _ _ _=>k b u q
 slot:=fun b u q _ _ _=>⟨u.slots,k b u q⟩
 free:=fun b u q n _=>by rw [qh (Nat.ne_of_lt (Nat.lt_of_lt_of_le (Heap.lt_size q) hp))]; exact n
 there:=fun b u q _=>⟨u,k b u q⟩
 tups:=fun b xs q=>by rw [qh (qi q hn)]; exact q
 frzs:=fun b u xs q=>by rw [qh (qi q hn)]; exact q
 tbls:=fun b ps q=>⟨#[],by rw [qh (qi q hn),q]; simp⟩
theorem Un.write (mu:Mut (H x)) (he:e=x∨H e=some (.own x)) (k:∀ b u,b≠e->h.get? b=some u->h'.get? b=some u) (heo:∃ u,h'.get? e=some u):Un fs ex H (upd H x o) h h':=by
 have hx:∀ b,H b=none->b≠x:=fun b n z=>by subst z; rw [n] at mu; exact mu
 have hb:∀ b,H b=none->b≠e:=fun b n z=>by
   subst z
   rcases he with r | r
   · exact hx b n r
   · rw [n] at r; cases r
 have hm:∀ b u,H b=some u->¬ Mut (some u)->b≠x:=fun b u q nm z=>by subst z; rw [q] at mu; exact nm mu
 refine ⟨fun b u q n _ _=>k b u (hb b n) q,fun b u q n _ _=>⟨u.slots,k b u (hb b n) q⟩,fun b u q n _=>by rw [qh (hx b n)]; exact n,fun b u q _=>?_,
   fun b xs q=>by rw [qh (hm b _ q fun z=>z)]; exact q,fun b u xs q=>by rw [qh (hm b _ q fun z=>z)]; exact q,fun b ps q=>⟨#[],by rw [qh (hm b _ q fun z=>z),q]; simp⟩⟩
 by_cases hbe:b=e
 · subst hbe; exact heo
 · exact ⟨u,k b u hbe q⟩
end
def trk (h:Heap) (H:Hp):List Addr:=(List.range h.objs.size).filter fun a=>(H a).isSome
def qgI (h:Heap) (H:Hp):Heap:=PySem.W.hideAll h (trk h H)
theorem qfM (h:Heap) (H:Hp):(qgI h H).objs.size=h.objs.size:=PySem.W.hideAll_size _ _
theorem qgH {h:Heap} {H:Hp} {b:Addr} {o:Obj} (e:h.get? b=some o) (n:H b=none):(qgI h H).get? b=some o :=
 PySem.W.hideAll_get _ e fun hm=>by
   have q:(H b).isSome=true:=(List.mem_filter.mp hm).2
   rw [n] at q; simp at q
theorem qhR {h:Heap} {H:Hp} {b:Addr} {o:Obj} (e:(qgI h H).get? b=some o):h.get? b=some o∧H b=none:=by
 have e':h.get? b=some o:=PySem.W.of_hideAll (trk h H) e
 refine ⟨e',?_⟩
 cases q:H b with
 | none=>rfl
 | some x =>
   have hm:b∈trk h H:=List.mem_filter.mpr ⟨List.mem_range.mpr (Heap.lt_size e'),by simp [q]⟩
   have z:(qgI h H).get? b=none:=PySem.W.hideAll_none (trk h H) hm
   rw [z] at e; cases e
end L2
namespace L2
open PySem PySem.Spec PyProof.Rows
structure Mod (K:PySem.W.Frag) (mg:Str->Option Value) (base:Heap):Prop where
 kin:K.In base
 glob:base.Ns mainGlobals mg
 blt:∃ mb,base.Ns builtinsNs mb∧∀ x:Str,x≠"__name__"->mb x=bootBuiltins x
 nolimit:base.NoLimit
structure Cx where
 prog:Program
 w:World
 K:PySem.W.Frag
 mg:Str->Option Value
 base:Heap
 A:Around
 N:List Str
 s₀:Shared
 H₀:Hp
 env:Env
 outer:List Env
 stack:List Env
 ex:List Addr
 fn:Str->Bool
 calm:Bool
 pn:List (Addr×Obj)
 xe:Value->Shared->Prop
def frs (l:List Env):List Addr:=l.filterMap (·.frame)
abbrev Cx.fs (X:Cx):List Addr:=frs X.outer
def Vis (sc:Scope) (x:Str):Prop:=sc.names.lookup x=some .local∨sc.names.lookup x=some .cell∨sc.names.lookup x=some .free
def Loc (sc:Scope) (x:Str):Prop:=sc.names.lookup x=some .local∨sc.names.lookup x=some .cell
def qkh (env:Env) (h:Heap) (m:Str->Option Value) (x:Str) (u:Value):Prop :=
 (env.kindOf x=some .local∧m x=some u)∨((env.kindOf x=some .cell∨env.kindOf x=some .free)∧∃ c,env.cells.lookup x=some c∧h.IsCell c (some u))
structure Cx.Ok (X:Cx):Prop where
 mod:Mod X.K X.mg X.base
 kind:X.env.scope.kind=.function
 glob:X.env.globals=mainGlobals
 blt:X.env.builtins=builtinsNs
 above:X.s₀.heap.objs.size≤X.env.locals
 inj:∀ x y c,X.env.cells.lookup x=some c->X.env.cells.lookup y=some c->x=y
 has:∀ x,(X.env.kindOf x=some .cell∨X.env.kindOf x=some .free)->∃ c,X.env.cells.lookup x=some c
 cab:∀ x c,X.fn x=true->X.env.cells.lookup x=some c->X.s₀.heap.objs.size≤c
 hd:X.calm=true->X.A.handled=none
 frames:X.A.frames=some X.stack
 stk:X.stack=X.outer∨(X.stack=X.env::X.outer∧X.env.frame=some X.env.locals)
 exf:∀ b∈X.ex,b≠X.env.locals∧∀ x c,X.env.cells.lookup x=some c->c≠b
 bs:∀ b o,X.base.get? b=some o->X.s₀.heap.get? b=some o∧X.H₀ b=none
 bsz:X.base.objs.size≤X.s₀.heap.objs.size
 noex:∀ b o,X.base.get? b=some o->b∉X.ex
 exfs:∀ b∈X.ex,b∉X.fs
 funs:X.s₀.heap.FunFrames X.base X.outer
 frf:∀ b∈X.fs,X.H₀ b=none
structure Inv (X:Cx) (pins:List (Addr×Obj)) (σ:List (Option V)) (H:Hp) (s:Shared):Prop where
 ok:X.Ok
 os:s.os=X.s₀.os
 bare:AllBare s.gens
 base:Un X.fs X.ex X.H₀ H X.s₀.heap s.heap
 loc:∃ m,s.heap.Ns X.env.locals m∧∀ (i:Nat) (x:Str) (v:V),X.N[i]?=some x->σ[i]?=some (some v)->Vis X.env.scope x->∃ u,RelV v u∧qkh X.env s.heap m x u
 cell:∀ x c,X.env.cells.lookup x=some c->∃ v,s.heap.IsCell c v
 free:H X.env.locals=none
 freeC:∀ x c,X.env.cells.lookup x=some c->H c=none
 pin:∀ p∈X.pn++pins,s.heap.get? p.1=some p.2∧H p.1=none∧p.1≠X.env.locals∧p.1∉X.fs∧∀ v,p.2.data≠.cell v
 hok:HOk X.prog X.w H s.heap
 len:σ.length=X.N.length
section
variable {X:Cx} {pins:List (Addr×Obj)} {σ:List (Option V)} {H H':Hp} {s:Shared} {h':Heap}
theorem Cx.Ok.nofr (ok:X.Ok) {b:Addr} {o:Obj} (e:X.base.get? b=some o):b∉X.fs:=fun hb=>by
 have:=(ok.funs.mem hb).1
 rw [e] at this; cases this
theorem Inv.bs (I:Inv X pins σ H s):∀ b o,X.base.get? b=some o->s.heap.get? b=some o∧H b=none:=fun b o e =>
 ⟨I.base.keep b o (I.ok.bs b o e).1 (I.ok.bs b o e).2 (I.ok.nofr e) (I.ok.noex b o e),I.base.free b o (I.ok.bs b o e).1 (I.ok.bs b o e).2 (I.ok.noex b o e)⟩
theorem Inv.bk (I:Inv X pins σ H s):∀ b o,X.base.get? b=some o->s.heap.get? b=some o:=fun b o e=>(I.bs b o e).1
theorem Inv.mod (I:Inv X pins σ H s):Mod X.K X.mg X.base:=I.ok.mod
theorem Inv.kIn (I:Inv X pins σ H s):X.K.In s.heap:=I.ok.mod.kin.keeps I.bk
theorem Inv.fr (I:Inv X pins σ H s):∃ m,Fr X.base X.env.locals s.heap m :=
 let ⟨m,hn,_⟩:=I.loc
 ⟨m,hn,I.bk,Nat.le_trans I.ok.bsz I.ok.above⟩
theorem Inv.lt (I:Inv X pins σ H s):X.env.locals < s.heap.objs.size:=let ⟨_,hn,_⟩:=I.loc; hn.lt
theorem Inv.sz (I:Inv X pins σ H s):X.s₀.heap.objs.size≤s.heap.objs.size:=Nat.le_trans I.ok.above (Nat.le_of_lt I.lt)
theorem Inv.nofs (I:Inv X pins σ H s) {a:Addr} (h:s.heap.objs.size≤a):a∉X.fs:=fun hb=>by
 obtain ⟨_,o,ho,_⟩:=I.ok.funs.mem hb
 exact absurd (Nat.lt_of_lt_of_le (Heap.lt_size ho) (Nat.le_trans I.sz h)) (Nat.lt_irrefl _)
theorem Inv.cne (I:Inv X pins σ H s):∀ x c,X.env.cells.lookup x=some c->c≠X.env.locals:=fun x c e z=>by
 obtain ⟨v,o,ho,hd⟩:=I.cell x c e
 obtain ⟨m,⟨o',es,ep,ho',hd',_⟩,_⟩:=I.loc
 rw [z,ho'] at ho; cases ho; rw [hd'] at hd; cases hd
theorem Inv.funs (I:Inv X pins σ H s):s.heap.FunFrames X.base X.outer:=by
 have all:∀ (l:List Env),(∀ b∈frs l,b∈X.fs)->X.s₀.heap.FunFrames X.base l->s.heap.FunFrames X.base l:=by
   intro l
   induction l with
   | nil=>intro _ _; trivial
   | cons env r ih =>
     intro hs hl
     obtain ⟨hk,⟨L,o,hf,hn,ho,hd⟩,hr⟩:=hl
     have hL:L∈X.fs:=hs L (by unfold frs; rw [List.filterMap_cons,hf]; exact List.mem_cons_self)
     obtain ⟨sl,e⟩:=I.base.slot L o ho (I.ok.frf L hL) hL fun z=>I.ok.exfs L z hL
     exact ⟨hk,⟨L,_,hf,hn,e,hd⟩,ih (fun b hb=>hs b (by unfold frs; rw [List.filterMap_cons,hf]; exact List.mem_cons_of_mem _ hb)) hr⟩
 exact all X.outer (fun _ hb=>hb) I.ok.funs
theorem Inv.stack (I:Inv X pins σ H s):s.heap.FunFrames X.base X.stack:=by
 rcases I.ok.stk with e | ⟨e,hf⟩
 · rw [e]; exact I.funs
 · rw [e]
   obtain ⟨m,hn,_⟩:=I.loc
   refine .cons (by rw [I.ok.kind]; decide) hf hn ?_ I.funs
   exact Heap.get?_none_of_le (Nat.le_trans I.ok.bsz I.ok.above)
theorem Inv.stkSub (I:Inv X pins σ H s):∀ b∈frs X.stack,b∈X.env.locals::X.fs:=fun b hb=>by
 rcases I.ok.stk with e | ⟨e,hf⟩
 · rw [e] at hb; exact List.mem_cons_of_mem _ hb
 · rw [e] at hb
   unfold frs at hb
   rw [List.filterMap_cons,hf] at hb
   exact hb
theorem Inv.stkFree (I:Inv X pins σ H s):∀ b∈frs X.stack,H b=none:=fun b hb=>by
 rcases List.mem_cons.mp (I.stkSub b hb) with e | hb
 · rw [e]; exact I.free
 · obtain ⟨_,o,ho,_⟩:=I.ok.funs.mem hb
   exact I.base.free b o ho (I.ok.frf b hb) fun z=>I.ok.exfs b z hb
theorem Inv.step {g':Array GenState} {t':Nat} {d':Drawn} {ch:List Addr} (I:Inv X pins σ H s)
   (hch:∀ b∈ch,(b∈X.ex∨X.s₀.heap.objs.size≤b)∧b≠X.env.locals∧(∀ x c,X.env.cells.lookup x=some c->c≠b)∧∀ p∈X.pn++pins,p.1≠b)
   (keep:∀ b o,b≠X.env.locals->b∉X.fs->b∉ch->s.heap.get? b=some o->H b=none->h'.get? b=some o)
   (slot:∀ b o,b≠X.env.locals->b∈X.fs->b∉ch->s.heap.get? b=some o->H b=none->∃ sl,h'.get? b=some { o with slots:=sl }) (free:∀ b o,b∉ch->s.heap.get? b=some o->H b=none->H' b=none)
   (there:∀ b o,b∉ch->s.heap.get? b=some o->∃ o',h'.get? b=some o')
   (tups:∀ b xs,H b=some (.tup xs)->H' b=some (.tup xs)) (frzs:∀ b o u,H b=some (.frz o u)->H' b=some (.frz o u)) (tbls:∀ b ps,H b=some (.tbl ps)->∃ more,H' b=some (.tbl (ps++more)))
   (ns:∀ m,s.heap.Ns X.env.locals m->h'.Ns X.env.locals m) (hok:HOk X.prog X.w H' h') (hg:AllBare g') :
   Inv X pins σ H' { s with heap:=h',gens:=g',drawn:=d',toks:=t' }:=by
 have neL:∀ b o,X.s₀.heap.get? b=some o->b≠X.env.locals:=fun b o e=>Nat.ne_of_lt (Nat.lt_of_lt_of_le (Heap.lt_size e) I.ok.above)
 have neC:∀ b o,X.s₀.heap.get? b=some o->b∉X.ex->b∉ch:=fun b o e hx hb=>by
   rcases (hch b hb).1 with z | z
   · exact hx z
   · exact absurd (Nat.lt_of_lt_of_le (Heap.lt_size e) z) (Nat.lt_irrefl _)
 have cellK:∀ x c,X.env.cells.lookup x=some c->∀ v,s.heap.IsCell c v->h'.IsCell c v:=fun x c e v ⟨o,ho,hd⟩=>by
   have nch:c∉ch:=fun z=>(hch c z).2.2.1 x c e rfl
   by_cases hc:c∈X.fs
   · obtain ⟨sl,q⟩:=slot c o (I.cne x c e) hc nch ho (I.freeC x c e)
     exact ⟨_,q,hd⟩
   · exact ⟨o,keep c o (I.cne x c e) hc nch ho (I.freeC x c e),hd⟩
 refine ⟨I.ok,I.os,hg,⟨fun b o e n hb hx=>?_,fun b o e n hb hx=>?_,fun b o e n hx=>?_,fun b o e hx=>?_,fun b xs e=>tups b xs (I.base.tups b xs e),fun b o xs e=>frzs b o xs (I.base.frzs b o xs e),fun b ps e=>?_⟩,?_,fun x c e=>?_,?_,fun x c e=>?_,fun p hp=>?_,hok,I.len⟩
 · exact keep b o (neL b o e) hb (neC b o e hx) (I.base.keep b o e n hb hx) (I.base.free b o e n hx)
 · obtain ⟨sl,e1⟩:=I.base.slot b o e n hb hx
   obtain ⟨sl',e2⟩:=slot b _ (neL b o e) hb (neC b o e hx) e1 (I.base.free b o e n hx)
   exact ⟨sl',e2⟩
 · obtain ⟨o',e1⟩:=I.base.there b o e hx
   exact free b o' (neC b o e hx) e1 (I.base.free b o e n hx)
 · obtain ⟨o',e1⟩:=I.base.there b o e hx
   exact there b o' (neC b o e hx) e1
 · obtain ⟨m1,e1⟩:=I.base.tbls b ps e
   obtain ⟨m2,e2⟩:=tbls b _ e1
   exact ⟨m1++m2,by rw [e2,Array.append_assoc]⟩
 · obtain ⟨m,hn,hl⟩:=I.loc
   refine ⟨m,ns m hn,fun i x v e1 e2 e3=>?_⟩
   obtain ⟨u,r,l⟩:=hl i x v e1 e2 e3
   refine ⟨u,r,?_⟩
   rcases l with l | ⟨k,c,e,z⟩
   · exact .inl l
   · exact .inr ⟨k,c,e,cellK x c e _ z⟩
 · obtain ⟨v,z⟩:=I.cell x c e
   exact ⟨v,cellK x c e v z⟩
 · obtain ⟨m,⟨o,_,_,ho,_⟩,_⟩:=I.loc
   exact free _ o (fun z=>(hch _ z).2.1 rfl) ho I.free
 · obtain ⟨v,o,ho,hd⟩:=I.cell x c e
   exact free c o (fun z=>(hch c z).2.2.1 x c e rfl) ho (I.freeC x c e)
 · obtain ⟨e,n,ne,nf,d⟩:=I.pin p hp
   have nch:p.1∉ch:=fun z=>(hch p.1 z).2.2.2 p hp rfl
   exact ⟨keep p.1 p.2 ne nf nch e n,free p.1 p.2 nch e n,ne,nf,d⟩
theorem Inv.un {t':Nat} (I:Inv X pins σ H s) (u:Un X.fs [] H H' s.heap h') (hok:HOk X.prog X.w H' h'):Inv X pins σ H' { s with heap:=h',toks:=t' }:=by
 obtain ⟨m,⟨o,es,ep,ho,r⟩,_⟩:=id I.loc
 obtain ⟨sl,hL⟩:=u.any ho I.free (by simp)
 exact I.step (g':=s.gens) (d':=s.drawn) (ch:=[]) (fun _ z=>nomatch z) (fun b o _ hb _ e n=>u.keep b o e n hb (by simp)) (fun b o _ hb _ e n=>u.slot b o e n hb (by simp)) (fun b o _ e n=>u.free b o e n (by simp)) (fun b o _ e=>u.there b o e (by simp)) u.tups u.frzs u.tbls (fun m' hm=>by
   obtain ⟨o',es',ep',ho',r'⟩:=hm
   rw [ho] at ho'; cases ho'
   exact ⟨_,es',ep',hL,r'⟩) hok I.bare
theorem Inv.call {g':Array GenState} {t':Nat} {d':Drawn} {ch:List Addr} (I:Inv X pins σ H s) (u:Un (frs X.stack) ch H H' s.heap h') (hok:HOk X.prog X.w H' h') (hg:AllBare g')
   (hch:∀ b∈ch,(b∈X.ex∨X.s₀.heap.objs.size≤b)∧b≠X.env.locals∧(∀ x c,X.env.cells.lookup x=some c->c≠b)∧∀ p∈X.pn++pins,p.1≠b) :
   Inv X pins σ H' { s with heap:=h',gens:=g',drawn:=d',toks:=t' }:=by
 obtain ⟨m,⟨o,es,ep,ho,r⟩,_⟩:=id I.loc
 obtain ⟨sl,hL⟩:=u.any ho I.free fun z=>(hch _ z).2.1 rfl
 exact I.step (ch:=ch) hch (fun b o hL hb hc e n=>u.keep b o e n (fun z=>(List.mem_cons.mp (I.stkSub b z)).elim hL hb) hc) (fun b o _ _ hc e n=>u.any e n hc) (fun b o hc e n=>u.free b o e n hc) (fun b o hc e=>u.there b o e hc) u.tups u.frzs u.tbls (fun m' hm=>by
   obtain ⟨o',es',ep',ho',r'⟩:=hm
   rw [ho] at ho'; cases ho'
   exact ⟨_,es',ep',hL,r'⟩) hok hg
theorem Inv.turned {t':Nat} {it:Addr} (I:Inv X pins σ H s) (k:∀ b o,b≠it->s.heap.get? b=some o->h'.get? b=some o) (hn:H it=none) (hL:it≠X.env.locals)
   (h1:it∈X.ex∨X.s₀.heap.objs.size≤it) (h2:∀ x c,X.env.cells.lookup x=some c->c≠it) (h3:∀ p∈X.pn++pins,p.1≠it):Inv X pins σ H { s with heap:=h',toks:=t' }:=by
 have nit:∀ b u,H b=some u->b≠it:=fun b u e z=>by rw [z,hn] at e; cases e
 refine I.step (g':=s.gens) (d':=s.drawn) (ch:=[it]) (fun b hb=>?_) (fun b o _ _ hc e _=>k b o (fun z=>hc (by simp [z])) e) (fun b o _ _ hc e _=>⟨o.slots,k b o (fun z=>hc (by simp [z])) e⟩) (fun _ _ _ _ n=>n)
   (fun b o hc e=>⟨o,k b o (fun z=>hc (by simp [z])) e⟩) (fun _ _ e=>e) (fun _ _ _ e=>e) (fun b ps e=>⟨#[],by rw [e]; simp⟩) (fun m hm=>?_) (fun b u e=>?_) I.bare
 · have e:b=it:=by simpa using hb
   subst e
   exact ⟨h1,hL,h2,h3⟩
 · obtain ⟨o,es,ep,ho,r⟩:=hm
   exact ⟨o,es,ep,k _ o (Ne.symm hL) ho,r⟩
 · refine (I.hok b u e).stay (fun c v hc q=>k c v ?_ q) (fun _ q=>q) fun _ _ q=>q
   rcases hc with z | z
   · rw [z]; exact nit b u e
   · exact nit c _ z
theorem Inv.tok (I:Inv X pins σ H s) (t:Nat):Inv X pins σ H { s with toks:=t }:=I.un (h':=s.heap) (t':=t) Un.refl I.hok
theorem Inv.kept {t':Nat} (I:Inv X pins σ H s) (k:∀ b u,s.heap.get? b=some u->h'.get? b=some u):Inv X pins σ H { s with heap:=h',toks:=t' }:=I.un (Un.kept k) (I.hok.kept k)
theorem Inv.laid {a:Addr} {o:HO} {t':Nat} (I:Inv X pins σ H s) (k:∀ b u,s.heap.get? b=some u->h'.get? b=some u) (hp:s.heap.objs.size≤a) (new:ObjOk X.prog X.w (upd H a o) h' a o) :
   Inv X pins σ (upd H a o) { s with heap:=h',toks:=t' }:=I.un (Un.laid k hp (I.hok.fresh hp)) (I.hok.laid k hp new)
theorem Inv.write {x e:Addr} {o:HO} {t':Nat} (I:Inv X pins σ H s) (mu:Mut (H x)) (he:e=x∨H e=some (.own x)) (k:∀ b u,b≠e->s.heap.get? b=some u->h'.get? b=some u) (heo:∃ u,h'.get? e=some u)
   (new:ObjOk X.prog X.w (upd H x o) h' x o):Inv X pins σ (upd H x o) { s with heap:=h',toks:=t' }:=I.un (Un.write mu he k heo) (I.hok.write mu he k heo new)
theorem Inv.pins_of {pins':List (Addr×Obj)} (I:Inv X pins σ H s) (h:∀ p∈pins',s.heap.get? p.1=some p.2∧H p.1=none∧p.1≠X.env.locals∧p.1∉X.fs∧∀ v,p.2.data≠.cell v):Inv X pins' σ H s :=
 ⟨I.ok,I.os,I.bare,I.base,I.loc,I.cell,I.free,I.freeC,fun p hp=>(List.mem_append.mp hp).elim (fun z=>I.pin p (List.mem_append_left _ z)) (h p),I.hok,I.len⟩
theorem qd5 {N:List Str} (hN:N.Nodup) {i j:Nat} {x:Str} (a:N[i]?=some x) (b:N[j]?=some x):i=j:=by
 obtain ⟨h1,e1⟩:=List.getElem?_eq_some_iff.mp a
 obtain ⟨h2,e2⟩:=List.getElem?_eq_some_iff.mp b
 exact (List.getElem_inj hN).mp (e1.trans e2.symm)
theorem qe9 {M:Model} {A:Around} {E:Value->Shared->Prop} {i:Nat} {x:Str} {v:V} {u:Value} {Q:Unit->Shared->Prop} (I:Inv X pins σ H s) (hN:X.N.Nodup) (hi:X.N[i]?=some x) (hx:Loc X.env.scope x) (r:RelV v u)
   (h:∀ s',Inv X pins (σ.set i (some v)) H s'->(∃ a,Heap.SameBut a s.heap s'.heap∧(a=X.env.locals∨X.env.cells.lookup x=some a))->Q () s') (hf:X.fn x=true∨X.env.scope.names.lookup x=some .local:=by first | exact .inl rfl | exact .inr rfl | assumption):wpAny M A (storeName X.env x u) Q E s:=by
 obtain ⟨m,hn,hl⟩:=id I.loc
 have hcls:(X.env.scope.kind == .class || (X.env.scope.kind == .module && X.env.locals != X.env.globals))=false:=by rw [I.ok.kind]; rfl
 have hiσ:i < σ.length:=by rw [I.len]; exact (List.getElem?_eq_some_iff.mp hi).1
 have cne:=I.cne
 have tracked:∀ {a:Addr} {h':Heap},(∃ o,s.heap.get? a=some o∧H a=none)->Heap.SameBut a s.heap h'->HOk X.prog X.w H h':=fun {a h'} ha hs b ob e=>by
   obtain ⟨_,_,hfree⟩:=ha
   refine (I.hok b ob e).stay (fun c w' hc q=>(hs.2 c ?_).trans q) (fun _ q=>q) fun _ _ q=>q
   rintro rfl
   rcases hc with rfl | hc
   · rw [hfree] at e; cases e
   · rw [hfree] at hc; cases hc
 rcases hx with hk | hk
 · refine wpAny_storeName_local hk hn (fun h' hn' hs=>?_) hcls
   obtain ⟨oL,_,_,hoL,_⟩:=id hn
   refine h _ ⟨I.ok,I.os,I.bare,⟨fun b o e n hb hx=>?_,fun b o e n hb hx=>?_,I.base.free,fun b o e hx=>?_,I.base.tups,I.base.frzs,I.base.tbls⟩,⟨_,hn',fun j y v' e1 e2 e3=>?_⟩,fun y c e=>?_,I.free,I.freeC,fun p hp=>?_,tracked ⟨oL,hoL,I.free⟩ hs,by simpa using I.len⟩ ⟨_,hs,.inl rfl⟩
   · exact (hs.2 b (Nat.ne_of_lt (Nat.lt_of_lt_of_le (Heap.lt_size e) I.ok.above))).trans (I.base.keep b o e n hb hx)
   · obtain ⟨sl,e1⟩:=I.base.slot b o e n hb hx
     exact ⟨sl,(hs.2 b (Nat.ne_of_lt (Nat.lt_of_lt_of_le (Heap.lt_size e) I.ok.above))).trans e1⟩
   · obtain ⟨o',e1⟩:=I.base.there b o e hx
     exact ⟨o',(hs.2 b (Nat.ne_of_lt (Nat.lt_of_lt_of_le (Heap.lt_size e) I.ok.above))).trans e1⟩
   · by_cases hj:j=i
     · subst hj
       rw [hi] at e1; cases e1
       rw [List.getElem?_set_self hiσ] at e2
       cases e2
       exact ⟨u,r,.inl ⟨hk,by simp⟩⟩
     · rw [List.getElem?_set_ne (Ne.symm hj)] at e2
       obtain ⟨u',r',q⟩:=hl j y v' e1 e2 e3
       refine ⟨u',r',?_⟩
       rcases q with ⟨k,e⟩ | ⟨k,c,e,z⟩
       · refine .inl ⟨k,?_⟩
         have:y≠x:=fun e=>hj (qd5 hN e1 (e▸hi))
         simp [this,e]
       · exact .inr ⟨k,c,e,z.sameBut hs (cne y c e)⟩
   · obtain ⟨w',z⟩:=I.cell y c e
     exact ⟨w',z.sameBut hs (cne y c e)⟩
   · obtain ⟨e,n,ne,nf,d⟩:=I.pin p hp
     exact ⟨(hs.2 p.1 ne).trans e,n,ne,nf,d⟩
 · have hfn:X.fn x=true:=by
     rcases hf with z | z
     · exact z
     · rw [z] at hk; cases hk
   obtain ⟨c,hc⟩:=I.ok.has x (.inl hk)
   obtain ⟨w',z⟩:=I.cell x c hc
   refine wpAny_storeName_cell I.ok.kind hk hc z (fun h' hc' hs=>?_)
   obtain ⟨oc,hoc,hocd⟩:=id z
   refine h { s with heap:=h' } ⟨I.ok,I.os,I.bare,⟨fun b o e n hb hx=>?_,fun b o e n hb hx=>?_,I.base.free,fun b o e hx=>?_,I.base.tups,I.base.frzs,I.base.tbls⟩,⟨m,hn.sameBut hs (Ne.symm (cne x c hc)),fun j y v' e1 e2 e3=>?_⟩,fun y c' e=>?_,I.free,I.freeC,fun p hp=>?_,tracked ⟨oc,hoc,I.freeC x c hc⟩ hs,by simpa using I.len⟩ ⟨c,hs,.inr hc⟩
   · exact (hs.2 b (Nat.ne_of_lt (Nat.lt_of_lt_of_le (Heap.lt_size e) (I.ok.cab x c hfn hc)))).trans (I.base.keep b o e n hb hx)
   · obtain ⟨sl,e1⟩:=I.base.slot b o e n hb hx
     exact ⟨sl,(hs.2 b (Nat.ne_of_lt (Nat.lt_of_lt_of_le (Heap.lt_size e) (I.ok.cab x c hfn hc)))).trans e1⟩
   · obtain ⟨o',e1⟩:=I.base.there b o e hx
     exact ⟨o',(hs.2 b (Nat.ne_of_lt (Nat.lt_of_lt_of_le (Heap.lt_size e) (I.ok.cab x c hfn hc)))).trans e1⟩
   · by_cases hj:j=i
     · subst hj
       rw [hi] at e1; cases e1
       rw [List.getElem?_set_self hiσ] at e2
       cases e2
       exact ⟨u,r,.inr ⟨.inl hk,c,hc,hc'⟩⟩
     · rw [List.getElem?_set_ne (Ne.symm hj)] at e2
       obtain ⟨u',r',q⟩:=hl j y v' e1 e2 e3
       refine ⟨u',r',?_⟩
       rcases q with q | ⟨k,c',e,z'⟩
       · exact .inl q
       · refine .inr ⟨k,c',e,z'.sameBut hs ?_⟩
         rintro rfl
         exact hj (qd5 hN e1 (I.ok.inj _ _ _ e hc▸hi))
   · by_cases hcc:c'=c
     · subst hcc; exact ⟨_,hc'⟩
     · obtain ⟨w2,z2⟩:=I.cell y c' e
       exact ⟨w2,z2.sameBut hs hcc⟩
   · obtain ⟨e,n,ne,nf,d⟩:=I.pin p hp
     refine ⟨(hs.2 p.1 ?_).trans e,n,ne,nf,d⟩
     intro q
     rw [q,hoc] at e
     have q':oc=p.2:=Option.some.inj e
     exact d w' (by rw [← q']; exact hocd)
theorem qbP {M:Model} {A:Around} {E:Value->Shared->Prop} {i:Nat} {x:Str} {v:V} {u:Value} {Q:Unit->Shared->Prop} (I:Inv X pins σ H s) (hN:X.N.Nodup) (hi:X.N[i]?=some x) (hx:Loc X.env.scope x) (r:RelV v u)
   (h:∀ s',Inv X pins (σ.set i (some v)) H s'->Q () s') (hf:X.fn x=true∨X.env.scope.names.lookup x=some .local:=by first | exact .inl rfl | exact .inr rfl | assumption):wpAny M A (storeName X.env x u) Q E s :=
 qe9 I hN hi hx r (fun s' I' _=>h s' I') hf
theorem Inv.call' {s':Shared} {ch:List Addr} (I:Inv X pins σ H s) (ho:s'.os=s.os) (u:Un (frs X.stack) ch H H' s.heap s'.heap) (hok:HOk X.prog X.w H' s'.heap) (hg:AllBare s'.gens)
   (hch:∀ b∈ch,(b∈X.ex∨X.s₀.heap.objs.size≤b)∧b≠X.env.locals∧(∀ x c,X.env.cells.lookup x=some c->c≠b)∧∀ p∈X.pn++pins,p.1≠b):Inv X pins σ H' s':=by
 obtain ⟨h',g',d',t',o'⟩:=s'
 have e:o'=s.os:=ho
 subst e
 exact I.call (g':=g') (t':=t') (d':=d') u hok hg hch
end
abbrev XK:=Value->Option Addr->Hp->Prop
abbrev St:=List (Option V)
abbrev VK:=V->Hp->Prop
abbrev TE:=St->Hp->VK->Prop
abbrev TT:=St->Hp->(Bool->Hp->Prop)->Prop
abbrev TA:=St->Hp->(List V->Hp->Prop)->Prop
structure qgd where
 nx:St->Hp->Prop
 rt:VK
 bk:St->Hp->Prop:=fun _ _=>False
 ct:St->Hp->Prop:=fun _ _=>False
abbrev TS:=qgd->St->Hp->Prop
inductive qjU (X:Cx) (pins:List (Addr×Obj)) (σ:St) (Q:VK) (u:Value) (s':Shared):Prop
 | mk (v H':_) (h1:Inv X pins σ H' s') (h2:RelV v u) (h3:Q v H'):qjU X pins σ Q u s'
def EP (X:Cx) (pins:List (Addr×Obj)) (σ:St) (Q:VK) (u:Value) (s':Shared):Prop:=qjU X pins σ Q u s'
def TP (X:Cx) (pins:List (Addr×Obj)) (σ:St) (Q:Bool->Hp->Prop) (b:Bool) (s':Shared):Prop:=∃ H',Inv X pins σ H' s'∧Q b H'
inductive qjV (X:Cx) (pins:List (Addr×Obj)) (σ:St) (Q:List V->Hp->Prop) (us:List Value) (s':Shared):Prop
 | mk (vs H':_) (h1:Inv X pins σ H' s') (h2:Vals vs us) (h3:Q vs H'):qjV X pins σ Q us s'
def AP (X:Cx) (pins:List (Addr×Obj)) (σ:St) (Q:List V->Hp->Prop) (us:List Value) (s':Shared):Prop:=qjV X pins σ Q us s'
def SP (X:Cx) (pins:List (Addr×Obj)) (D:qgd) (f:Flow) (s':Shared):Prop :=
 match f with
 | .next=>∃ σ' H',Inv X pins σ' H' s'∧D.nx σ' H'
 | .brk=>∃ σ' H',Inv X pins σ' H' s'∧D.bk σ' H'
 | .cont=>∃ σ' H',Inv X pins σ' H' s'∧D.ct σ' H'
 | .ret u=>∃ v σ' H',Inv X pins σ' H' s'∧RelV v u∧D.rt v H'
def PE (X:Cx) (e:Expr) (t:TE):Prop :=
 ∀ (pins:List (Addr×Obj)) (s:Shared) (σ:St) (H:Hp) (Q:VK),Inv X pins σ H s->t σ H Q->wpAny (model X.prog X.w) X.A (eval e X.env) (EP X pins σ Q) X.xe s
def PT (X:Cx) (e:Expr) (t:TT):Prop :=
 ∀ (pins:List (Addr×Obj)) (s:Shared) (σ:St) (H:Hp) (Q:Bool->Hp->Prop),Inv X pins σ H s->t σ H Q->wpAny (model X.prog X.w) X.A (isTrue e X.env (eval e X.env)) (TP X pins σ Q) X.xe s
def PW (X:Cx) (e:Expr) (t:TT):Prop :=
 ∀ (whole:Sem Value) (pins:List (Addr×Obj)) (s:Shared) (σ:St) (H:Hp) (Q:Bool->Hp->Prop),Inv X pins σ H s->t σ H Q->wpAny (model X.prog X.w) X.A (isTrue e X.env whole) (TP X pins σ Q) X.xe s
theorem PW.pt {X:Cx} {e:Expr} {t:TT} (h:PW X e t):PT X e t:=h _
def PA (X:Cx) (es:List Expr) (t:TA):Prop :=
 ∀ (pos:Pos) (pins:List (Addr×Obj)) (s:Shared) (σ:St) (H:Hp) (Q:List V->Hp->Prop),Inv X pins σ H s->t σ H Q->wpAny (model X.prog X.w) X.A (spliced (backTo pos (starEach es X.env))) (AP X pins σ Q) X.xe s
def PS (X:Cx) (st:Stmt) (t:TS):Prop :=
 ∀ (pins:List (Addr×Obj)) (s:Shared) (σ:St) (H:Hp) (D:qgd),Inv X pins σ H s->t D σ H->wpAny (model X.prog X.w) X.A (exec st X.env) (SP X pins D) X.xe s
def PSs (X:Cx) (st:List Stmt) (t:TS):Prop :=
 ∀ (pins:List (Addr×Obj)) (s:Shared) (σ:St) (H:Hp) (D:qgd),Inv X pins σ H s->t D σ H->wpAny (model X.prog X.w) X.A (execs st X.env) (SP X pins D) X.xe s
theorem thn {α:Type} {t:Sem α} {Q Q':α->Shared->Prop} {M:Model} {A:Around} {E:Value->Shared->Prop} {s:Shared} (h:wpAny M A t Q E s) (hQ:∀ a s,Q a s->Q' a s):wpAny M A t Q' E s:=wpAny_mono h hQ fun _ _ x=>x
end L2
namespace L2
open PySem PySem.Spec PyProof.Rows
section
variable {X:Cx}
inductive qgT (i:Nat) (σ:St) (H:Hp) (Q:VK):Prop
 | mk (v:_) (h1:σ[i]?=some (some v)) (h2:Q v H):qgT i σ H Q
def qhy (i:Nat):TE:=fun σ H Q=>qgT i σ H Q
def tC (v:V):TE:=fun _ H Q=>Q v H
theorem qir {i:Nat} {x:Str} {pos:Pos} (hN:X.N[i]?=some x) (hv:Vis X.env.scope x) (hd:(x == ("__debug__":Str))=false:=by decide) (hcd:(x == ("__classdict__":Str))=false:=by decide):PE X (.Name x pos) (qhy i):=by
 intro pins s σ H Q I h
 obtain ⟨v,e,h⟩:=h
 obtain ⟨m,hn,hl⟩:=I.loc
 obtain ⟨u,r,l⟩:=hl i x v hN e hv
 have fin:EP X pins σ Q u s:=⟨v,H,I,r,h⟩
 rcases l with ⟨hk,hm⟩ | ⟨hk,c,hc,hcell⟩
 · exact wpAny_Name (wpAny_loadName_local I.ok.kind hk hn hm fin) hd
 · rcases hk with hk | hk
   · exact wpAny_Name (wpAny_loadName_cell I.ok.kind hk hc hcell fin) hd
   · exact wpAny_Name (wpAny_loadName_free I.ok.kind hk hc hcell fin hcd) hd
theorem qc {i j pos}:PE X (.Constant (.int i) j pos) (tC (.int i)):=fun _ _ _ H _ I h=>wpAny_Constant_int ⟨.int i,H,I.tok _,⟨_,rfl⟩,h⟩
theorem Zg {b j pos}:PE X (.Constant (.bool b) j pos) (tC (.bl b)):=fun _ _ _ H _ I h=>Constant_bool ⟨.bl b,H,I,rfl,h⟩
theorem qg9 {j pos}:PE X (.Constant .none j pos) (tC .non):=fun _ _ _ H _ I h=>Constant_none ⟨.non,H,I,rfl,h⟩
theorem qB {x j pos}:PE X (.Constant (.str x) j pos) (tC (.str x)):=fun _ _ _ H _ I h=>Calls.Constant_str ⟨.str x,H,I.tok _,⟨_,rfl⟩,h⟩
def Gl (X:Cx) (x:Str):Prop:=X.env.kindOf x=some .globalImplicit
theorem qaW {E:Value->Shared->Prop} {pins:List (Addr×Obj)} {s:Shared} {σ:St} {H:Hp} {x:Str} {u:Value} {pos:Pos} {Q:Value->Shared->Prop} (I:Inv X pins σ H s) (hg:Gl X x) (hm:X.mg x=some u) (h:Q u s)
   (hd:(x == ("__debug__":Str))=false:=by decide):wpAny (model X.prog X.w) X.A (eval (.Name x pos) X.env) Q E s :=
 Calls.Name_function_global I.ok.kind hg (Calls.loadGlobal_global (by rw [I.ok.glob]; exact I.mod.glob.keeps I.bk) hm h) hd
theorem qae {E:Value->Shared->Prop} {pins:List (Addr×Obj)} {s:Shared} {σ:St} {H:Hp} {x:Str} {u:Value} {pos:Pos} {Q:Value->Shared->Prop} (I:Inv X pins σ H s) (hg:Gl X x) (hm:X.mg x=none) (hv:bootBuiltins x=some u) (h:Q u s)
   (hn:x≠"__name__":=by decide) (hd:(x == ("__debug__":Str))=false:=by decide):wpAny (model X.prog X.w) X.A (eval (.Name x pos) X.env) Q E s:=by
 obtain ⟨mb,h1,h2⟩:=I.mod.blt
 exact Calls.Name_function_global I.ok.kind hg (Calls.loadGlobal_builtin (by rw [I.ok.glob]; exact I.mod.glob.keeps I.bk) hm (by rw [I.ok.blt]; exact h1.keeps I.bk) ((h2 x hn).trans hv) h) hd
theorem Qb {x:Str} {v:V} {u:Value} {pos:Pos} (hg:Gl X x) (hm:X.mg x=some u) (r:RelV v u) (hd:(x == ("__debug__":Str))=false:=by decide):PE X (.Name x pos) (tC v) :=
 fun _ _ _ H _ I h=>qaW I hg hm ⟨v,H,I,r,h⟩ hd
theorem Qc {x:Str} {v:V} {u:Value} {pos:Pos} (hg:Gl X x) (hm:X.mg x=none) (hv:bootBuiltins x=some u) (r:RelV v u) (hn:x≠"__name__":=by decide) (hd:(x == ("__debug__":Str))=false:=by decide):PE X (.Name x pos) (tC v) :=
 fun _ _ _ H _ I h=>qae I hg hm hv ⟨v,H,I,r,h⟩ hn hd
variable {a b:Expr} {ta tb:TE} {pos:Pos}
inductive qjv (Q:(Bool->Hp->Prop)) (x:V) (H1:Hp):Prop
 | mk (c:_) (h1:x=.bl c) (h2:Q c H1):qjv Q x H1
def tB (t:TE):TT:=fun σ H Q=>t σ H fun x H1=>qjv Q x H1
theorem qY {e:Expr} {t:TE} (h:PE X e t) (he:∀ whole,isTrue e X.env whole=(do let v ← whole; standAt e.pos; holding [v] (truthy v)):=by intro _; rfl):PT X e (tB t):=by
 intro pins s σ H Q I hw
 refine isTrue_plain (thn (h pins s σ H _ I hw) fun v s1 zz_=>?_) (he _)
 obtain ⟨x,H1,I1,r1,q1⟩:=zz_
 obtain ⟨d,rfl,q⟩:=q1
 cases r1
 exact wpAny_truthy_bool ⟨H1,I1,q⟩
variable {tA tB':TT} {rest:List Expr}
def qj1 (t u:TT):TT:=fun σ H Q=>t σ H fun c H1=>if c=true then u σ H1 Q else Q false H1
def tOr (t u:TT):TT:=fun σ H Q=>t σ H fun c H1=>if c=true then Q true H1 else u σ H1 Q
def qjY (t:TT):TT:=fun σ H Q=>t σ H fun c H1=>Q (!c) H1
theorem qb2 (ha:PT X a tA):PW X (.BoolOp .And [a] pos) tA:=by
 intro wh pins s σ H Q I h
 refine isTrue_and (thn (ha pins s σ H Q I h) fun c s1 e=>?_)
 cases c with
 | true=>exact isTrue_and_nil e
 | false=>exact e
theorem jZ (ha:PT X a tA):PW X (.BoolOp .Or [a] pos) tA:=by
 intro wh pins s σ H Q I h
 refine isTrue_or (thn (ha pins s σ H Q I h) fun c s1 e=>?_)
 cases c with
 | false=>exact isTrue_or_nil e
 | true=>exact e
theorem qcS (ha:PT X a tA) (hb:PW X (.BoolOp .And (b::rest) pos) tB'):PW X (.BoolOp .And (a::b::rest) pos) (qj1 tA tB'):=by
 intro wh pins s σ H Q I h
 refine isTrue_and (thn (ha pins s σ H _ I h) fun c s1 zz_=>?_)
 obtain ⟨H1,I1,q1⟩:=zz_
 cases c with
 | true=>exact hb wh pins s1 σ H1 Q I1 q1
 | false=>exact ⟨H1,I1,q1⟩
theorem qaJ (ha:PT X a tA) (hb:PW X (.BoolOp .Or (b::rest) pos) tB'):PW X (.BoolOp .Or (a::b::rest) pos) (tOr tA tB'):=by
 intro wh pins s σ H Q I h
 refine isTrue_or (thn (ha pins s σ H _ I h) fun c s1 zz_=>?_)
 obtain ⟨H1,I1,q1⟩:=zz_
 cases c with
 | true=>exact ⟨H1,I1,q1⟩
 | false=>exact hb wh pins s1 σ H1 Q I1 q1
theorem qZ (ha:PT X a tA):PT X (.UnaryOp .Not a pos) (qjY tA):=by
 intro pins s σ H Q I h
 exact isTrue_not (ha pins s σ H (fun c H1=>Q (!c) H1) I h)
def qi4 (ta tb:TE):TE:=fun σ H Q=>ta σ H fun x H1=>∃ c,x=.bl c∧if c=true then tb σ H1 Q else Q (.bl false) H1
inductive qe5 (Q:VK) (x:V) (H1:Hp):Prop
 | mk (c:_) (h1:x=.bl c) (h2:Q (.bl (!c)) H1):qe5 Q x H1
def qiY (ta:TE):TE:=fun σ H Q=>ta σ H fun x H1=>qe5 Q x H1
theorem qby {op} {t:TE} (h:PE X a t):PE X (.BoolOp op [a] pos) t:=fun pins s σ H Q I hw=>BoolOp_one (h pins s σ H Q I hw)
theorem Js (ha:PE X a ta) (hb:PE X (.BoolOp .And (b::rest) pos) tb):PE X (.BoolOp .And (a::b::rest) pos) (qi4 ta tb):=by
 intro pins s σ H Q I h
 refine BoolOp_and (thn (ha pins s σ H _ I h) fun v s1 zz_=>?_)
 obtain ⟨x,H1,I1,r1,q1⟩:=zz_
 obtain ⟨c,rfl,q1⟩:=q1
 cases r1
 refine wpAny_truthy_bool ?_
 cases c with
 | true=>exact hb pins s1 σ H1 Q I1 q1
 | false=>exact ⟨.bl false,H1,I1,rfl,q1⟩
theorem qg8 (ha:PE X a ta):PE X (.UnaryOp .Not a pos) (qiY ta):=by
 intro pins s σ H Q I h
 refine UnaryOp_ (thn (ha pins s σ H _ I h) fun v s1 zz_=>?_)
 obtain ⟨x,H1,I1,r1,q1⟩:=zz_
 obtain ⟨c,rfl,q1⟩:=q1
 cases r1
 exact not_of (wpAny_truthy_bool ⟨.bl (!c),H1,I1,rfl,q1⟩)
end
end L2
namespace L2
open PySem PySem.Spec PyProof.Rows
def SqL (K:PySem.W.Frag) (H:Hp) (a:Addr) (xs:List V):Prop :=
 Rd H a (.lst xs) ∨
   ∃ (o:Obj) (its:Array Value) (n:Nat),K.lookup a=some o∧o.cls=.type "list"∧o.dict=none∧o.data=.seq its n∧its.size≤sizeLine∧Vals xs its.toList
def SqT (K:PySem.W.Frag) (H:Hp) (a:Addr) (xs:List V):Prop :=
 Rd H a (.tup xs) ∨
   ∃ (o:Obj) (its:Array Value) (n:Nat),K.lookup a=some o∧o.cls=.type "tuple"∧o.data=.seq its n∧its.size≤sizeLine∧Vals xs its.toList
def qkf:Value->Option V
 | .none=>some .non
 | .bool b=>some (.bl b)
 | .int i _=>some (.int i)
 | .str x _=>some (.str x)
 | .bytes b _=>some (.byt b)
 | .float b _=>some (.flt b)
 | .ref a=>some (.ref a)
 | .type n=>some (.ty n)
 | _=>none
theorem RelV.abs {x:V} {u:Value} (r:RelV x u):qkf u=some x:=by
 cases x with
 | non=>cases r; rfl
 | bl _=>cases r; rfl
 | int _=>obtain ⟨t,rfl⟩:=r; rfl
 | str _=>obtain ⟨t,rfl⟩:=r; rfl
 | byt _=>obtain ⟨t,rfl⟩:=r; rfl
 | flt _=>obtain ⟨t,rfl⟩:=r; rfl
 | ref _=>cases r; rfl
 | ty _=>cases r; rfl
theorem RelV.inj {x y:V} {u:Value} (r:RelV x u) (q:RelV y u):x=y:=Option.some.inj (r.abs.symm.trans q.abs)
theorem Vals.inj:∀ {xs ys:List V} {us:List Value},Vals xs us->Vals ys us->xs=ys
 | _,_,_,.nil,.nil=>rfl
 | _,_,_,.cons r t,.cons r' t'=>by rw [r.inj r',Vals.inj t t']
section
variable {X:Cx} {pins:List (Addr×Obj)} {σ:St} {H:Hp} {s:Shared} {a:Addr} {xs ys:List V}
theorem SqL.of {K:PySem.W.Frag} (h:H a=some (.lst xs)):SqL K H a xs:=.inl (.inl h)
theorem SqT.of {K:PySem.W.Frag} (h:H a=some (.tup xs)):SqT K H a xs:=.inl (.inl h)
theorem Inv.list (I:Inv X pins σ H s) (h:SqL X.K H a xs):∃ its:List Value,Vals xs its∧PlainL s.heap a its.toArray∧xs.length≤sizeLine:=by
 rcases h with h | ⟨o,its,n,hk,hc,hd,hs,hz,r⟩
 · obtain ⟨z,its,n,r,e⟩:=h.ok I.hok
   exact ⟨its,r,⟨_,n,e,rfl,rfl,rfl⟩,z⟩
 · refine ⟨its.toList,r,⟨o,n,I.kIn a o hk,hc,hd,by simpa using hs⟩,?_⟩
   have e:=r.length
   simp only [Array.length_toList] at e
   omega
theorem Inv.tuple (I:Inv X pins σ H s) (h:SqT X.K H a xs):∃ its:List Value,Vals xs its∧IsTup s.heap a its.toArray∧xs.length≤sizeLine:=by
 rcases h with h | ⟨o,its,n,hk,hc,hs,hz,r⟩
 · obtain ⟨z,its,r,p⟩:=h.ok I.hok
   exact ⟨its,r,p,z⟩
 · refine ⟨its.toList,r,⟨o,I.kIn a o hk,hc,n,by simpa using hs⟩,?_⟩
   have e:=r.length
   simp only [Array.length_toList] at e
   omega
theorem Inv.list_inj (I:Inv X pins σ H s) (h:SqL X.K H a xs) (h':SqL X.K H a ys):xs=ys:=by
 obtain ⟨its,r,⟨o,n,e,_,_,d⟩,_⟩:=I.list h
 obtain ⟨its',r',⟨o',n',e',_,_,d'⟩,_⟩:=I.list h'
 rw [e] at e'; cases e'
 rw [d] at d'
 injection d' with d1 _
 have:its=its':=by simpa using congrArg Array.toList d1
 subst this
 exact r.inj r'
theorem Inv.tuple_inj (I:Inv X pins σ H s) (h:SqT X.K H a xs) (h':SqT X.K H a ys):xs=ys:=by
 obtain ⟨its,r,⟨o,e,_,n,d⟩,_⟩:=I.tuple h
 obtain ⟨its',r',⟨o',e',_,n',d'⟩,_⟩:=I.tuple h'
 rw [e] at e'; cases e'
 rw [d] at d'
 injection d' with d1 _
 have:its=its':=by simpa using congrArg Array.toList d1
 subst this
 exact r.inj r'
end
abbrev Cx.wish (X:Cx) (E:Value->Shared->Prop):Cx:={ X with xe:=E }
abbrev Cx.nox (X:Cx):Cx:=X.wish fun _ _=>False
theorem Cx.Ok.wish {X:Cx} (ok:X.Ok) (E:Value->Shared->Prop):(X.wish E).Ok :=
 ⟨ok.mod,ok.kind,ok.glob,ok.blt,ok.above,ok.inj,ok.has,ok.cab,ok.hd,ok.frames,ok.stk,ok.exf,ok.bs,ok.bsz,ok.noex,ok.exfs,ok.funs,ok.frf⟩
theorem Cx.Ok.unwish {X:Cx} {E:Value->Shared->Prop} (ok:(X.wish E).Ok):X.Ok :=
 ⟨ok.mod,ok.kind,ok.glob,ok.blt,ok.above,ok.inj,ok.has,ok.cab,ok.hd,ok.frames,ok.stk,ok.exf,ok.bs,ok.bsz,ok.noex,ok.exfs,ok.funs,ok.frf⟩
section
variable {X:Cx} {pins:List (Addr×Obj)} {σ:St} {H:Hp} {s:Shared} {E:Value->Shared->Prop}
theorem Inv.wish (I:Inv X pins σ H s) (E:Value->Shared->Prop):Inv (X.wish E) pins σ H s:=⟨I.ok.wish E,I.os,I.bare,I.base,I.loc,I.cell,I.free,I.freeC,I.pin,I.hok,I.len⟩
theorem Inv.unwish (I:Inv (X.wish E) pins σ H s):Inv X pins σ H s:=⟨I.ok.unwish,I.os,I.bare,I.base,I.loc,I.cell,I.free,I.freeC,I.pin,I.hok,I.len⟩
theorem SP.unwish {D:qgd} {f:Flow} {s':Shared} (h:SP (X.wish E) pins D f s'):SP X pins D f s':=by
 cases f with
 | next=>obtain ⟨σ',H',I,q⟩:=h; exact ⟨σ',H',I.unwish,q⟩
 | brk=>obtain ⟨σ',H',I,q⟩:=h; exact ⟨σ',H',I.unwish,q⟩
 | cont=>obtain ⟨σ',H',I,q⟩:=h; exact ⟨σ',H',I.unwish,q⟩
 | ret u=>obtain ⟨v,σ',H',I,r,q⟩:=h; exact ⟨v,σ',H',I.unwish,r,q⟩
theorem PSs.nox {st:List Stmt} {t:TS} (h:PSs X.nox st t):PSs X st t:=fun pins s σ H D I hw =>
 wpAny_mono (h pins s σ H D (I.wish _) hw) (fun _ _ q=>q.unwish) fun _ _ z=>False.elim z
end
section
variable {X:Cx} {st:Stmt} {rest:List Stmt} {t u:TS} {e:Expr} {te:TE} {pos:Pos}
def zm:TS:=fun D σ H=>D.nx σ H
def qju (t u:TS):TS:=fun D σ H=>t { D with nx:=u D } σ H
theorem qv:PSs X [] zm:=fun _ _ σ H _ I h=>wpAny_execs_nil ⟨σ,H,I,h⟩
theorem qf (h1:PS X st t) (h2:PSs X rest u):PSs X (st::rest) (qju t u):=by
 intro pins s σ H D I h
 refine wpAny_execs_cons (thn (h1 pins s σ H { D with nx:=u D } I h) fun f s1 q=>?_)
 cases f with
 | next =>
   obtain ⟨σ',H',I',q⟩:=q
   exact h2 pins s1 σ' H' D I' q
 | ret v=>exact q
 | brk=>exact q
 | cont=>exact q
theorem qg (h1:PS X st t):PSs X [st] t:=by
 intro pins s σ H D I h
 refine wpAny_execs_cons (thn (h1 pins s σ H D I h) fun f s1 q=>?_)
 cases f with
 | next=>exact wpAny_execs_nil q
 | ret v=>exact q
 | brk=>exact q
 | cont=>exact q
theorem Inv.quiet {pins:List (Addr×Obj)} {σ:St} {H:Hp} {s:Shared} (I:Inv X pins σ H s):interactive X.env=false:=by simp [interactive,I.ok.kind]
def qiZ (te:TE):TS:=fun D σ H=>te σ H fun _ H1=>D.nx σ H1
theorem qU (he:PE X e te) (hs:swapsWith e none pos.line X.env=pure false:=by rfl):PS X (.Expr e pos) (qiZ te):=by
 intro pins s σ H D I h
 exact wpAny_Expr_any (thn (he pins s σ H _ I h) fun v s1 ⟨x,H1,I1,r1,q1⟩=>⟨σ,H1,I1,q1⟩) I.quiet hs
def qgb (te:TE):TS:=fun D σ H=>te σ H D.rt
theorem qu (he:PE X e te):PS X (.Return (some e) pos) (qgb te):=by
 intro pins s σ H D I h
 exact wpAny_Return_some (thn (he pins s σ H _ I h) fun v s1 ⟨x,H1,I1,r1,q1⟩=>⟨x,σ,H1,I1,r1,q1⟩)
def qh5 (c:TT) (t u:TS):TS:=fun D σ H=>c σ H fun b H1=>if b=true then t D σ H1 else u D σ H1
theorem qO {c:Expr} {a b:List Stmt} {tc:TT} (hc:PT X c tc) (ha:PSs X a t) (hb:PSs X b u):PS X (.If c a b pos) (qh5 tc t u):=by
 intro pins s σ H D I h
 refine wpAny_If (thn (hc pins s σ H _ I h) fun d s1 zz_=>?_)
 obtain ⟨H1,I1,q1⟩:=zz_
 cases d with
 | true=>exact ha pins s1 σ H1 D I1 q1
 | false=>exact hb pins s1 σ H1 D I1 q1
def qid:TS:=fun _ _ _=>False
theorem qP:PS X st qid:=fun _ _ _ _ _ _ h=>h.elim
end
abbrev TG:=V->St->Hp->(St->Hp->Prop)->Prop
abbrev TGs:=List V->St->Hp->(St->Hp->Prop)->Prop
def PG (X:Cx) (target:Expr) (t:TG):Prop :=
 ∀ (pins:List (Addr×Obj)) (s:Shared) (σ:St) (H:Hp) (v:V) (u:Value) (Q:St->Hp->Prop),Inv X pins σ H s->RelV v u->t v σ H Q ->
   wpAny (model X.prog X.w) X.A (assign target X.env u) (fun _ s'=>∃ σ' H',Inv X pins σ' H' s'∧Q σ' H') X.xe s
def PGs (X:Cx) (ts:List Expr) (t:TGs):Prop :=
 ∀ (pins:List (Addr×Obj)) (s:Shared) (σ:St) (H:Hp) (vs:List V) (us:List Value) (Q:St->Hp->Prop),Inv X pins σ H s->Vals vs us->t vs σ H Q ->
   wpAny (model X.prog X.w) X.A (assignInOrder ((assignEach ts X.env).map (·.2)) us) (fun _ s'=>∃ σ' H',Inv X pins σ' H' s'∧Q σ' H') X.xe s
abbrev qjr:=V->V->V->Hp->(Hp->Prop)->Prop
def qjS (X:Cx) (t:qjr):Prop :=
 ∀ (pins:List (Addr×Obj)) (s:Shared) (σ:St) (H:Hp) (o i v:V) (ov iv u:Value) (Q:Hp->Prop),Inv X pins σ H s->RelV o ov->RelV i iv->RelV v u->t o i v H Q ->
   wpAny (model X.prog X.w) X.A (setItem ov iv u) (fun _ s'=>∃ H',Inv X pins σ H' s'∧Q H') X.xe s
section
variable {X:Cx} {pos:Pos}
def qhY (i:Nat):TG:=fun v σ H Q=>Q (σ.set i (some v)) H
theorem qt {i:Nat} {x:Str} (hN:X.N.Nodup) (hi:X.N[i]?=some x) (hx:Loc X.env.scope x) (hf:X.fn x=true∨X.env.scope.names.lookup x=some .local:=by first | exact .inl rfl | exact .inr rfl | assumption):PG X (.Name x pos) (qhY i):=by
 intro pins s σ H v u Q I r h
 exact wpAny_assign_Name (qbP I hN hi hx r (fun s' I'=>⟨_,H,I',h⟩) hf)
def qkd:TGs:=fun vs σ H Q=>vs=[]∧Q σ H
inductive qfO (t:TG) (u:TGs) (vs:List V) (σ:St) (H:Hp) (Q:(St->Hp->Prop)):Prop
 | mk (v r:_) (h1:vs=v::r) (h2:t v σ H fun σ' H'=>u r σ' H' Q):qfO t u vs σ H Q
def qjk (t:TG) (u:TGs):TGs:=fun vs σ H Q=>qfO t u vs σ H Q
theorem zZ:PGs X [] qkd:=by
 intro pins s σ H vs us Q I r h
 obtain ⟨e,h⟩:=h
 subst e
 cases r
 exact assignInOrder_nil ⟨σ,H,I,h⟩
theorem qz {e:Expr} {es:List Expr} {t:TG} {u:TGs} (h1:PG X e t) (h2:PGs X es u)
   (hs:(assignEach (e::es) X.env).map (·.2)=assign e X.env::(assignEach es X.env).map (·.2):=by rfl):PGs X (e::es) (qjk t u):=by
 intro pins s σ H vs us Q I r h
 obtain ⟨v,vr,e1,h⟩:=h
 subst e1
 cases r with
 | cons r rr =>
   rw [hs]
   refine assignInOrder_cons (thn (h1 pins s σ H _ _ _ I r h) fun _ s1 zz_=>?_)
   obtain ⟨σ1,H1,I1,q1⟩:=zz_
   exact h2 pins s1 σ1 H1 _ _ Q I1 rr q1
inductive qhj (K:PySem.W.Frag) (n:Nat) (t:TGs) (v:V) (σ:St) (H:Hp) (Q:(St->Hp->Prop)):Prop
 | mk (a xs:_) (h1:v=.ref a) (h2:SqT K H a xs) (h3:xs.length=n) (h4:t xs σ H Q):qhj K n t v σ H Q
def qhk (K:PySem.W.Frag) (n:Nat) (t:TGs):TG:=fun v σ H Q=>qhj K n t v σ H Q
theorem QU {es:List Expr} {k:Nat} {t:TGs} {n:Nat} (hc:X.calm=true) (h:PGs X es t)
   (hn:(assignEach es X.env).length=n:=by rfl) (hst:(assignEach es X.env).findIdx? (·.1)=none:=by rfl):PG X (.Tuple es k pos) (qhk X.K n t):=by
 intro pins s σ H v u Q I r hw
 obtain ⟨a,xs,e1,hq,hl,hw⟩:=hw
 subst e1
 cases r
 obtain ⟨its,rv,ht,hz⟩:=I.tuple hq
 refine assign_Tuple_tuple (I.ok.hd hc) ht (by simp [hn,← hl,rv.length]) hst fun h' hx=>?_
 have I1:Inv X pins σ H { s with heap:=h' }:=I.kept (t':=s.toks) fun b o e=>hx b o (Nat.ne_of_lt (Heap.lt_size e)) e
 exact h pins _ σ H xs _ Q I1 (by simpa using rv) hw
def qkc (to ti:TE) (t:qjr):TG:=fun v σ H Q=>to σ H fun o H1=>ti σ H1 fun i H2=>t o i v H2 fun H3=>Q σ H3
theorem qbx {o i:Expr} {to ti:TE} {t:qjr} (ho:PE X o to) (hi:PE X i ti) (hs:qjS X t)
   (ha:∀ v,assign (.Subscript o i pos) X.env v=(do
     let ov ← holding [v] (eval o X.env)
     let iv ← holding [v,ov] (eval i X.env)
     standAt pos
     holding [v,ov,iv] (setItem ov iv v)
     release [v,ov,iv] []):=by intro _; rfl):PG X (.Subscript o i pos) (qkc to ti t):=by
 intro pins s σ H v u Q I r h
 rw [ha]
 refine wpAny_bind (wpAny_holding (thn (ho pins s σ H _ I h) fun ov s1 zz_=>?_))
 obtain ⟨x,H1,I1,r1,q1⟩:=zz_
 refine wpAny_bind (wpAny_holding (thn (hi pins s1 σ H1 _ I1 q1) fun iv s2 zz_=>?_))
 obtain ⟨y,H2,I2,r2,q2⟩:=zz_
 refine wpAny_bind (wpAny_standAt (wpAny_bind (wpAny_holding (thn (hs pins s2 σ H2 x y v ov iv u _ I2 r1 r2 r q2) fun _ s3 zz_=>?_))))
 obtain ⟨H3,I3,q3⟩:=zz_
 exact wpAny_release ⟨σ,H3,I3,q3⟩
def qi3 (te:TE) (g:TG):TS:=fun D σ H=>te σ H fun x H1=>g x σ H1 D.nx
theorem Jq {tg e:Expr} {te:TE} {g:TG} (he:PE X e te) (hg:PG X tg g) (hs:swapsWithSole [tg] e pos.line X.env=pure false:=by rfl) (hw:swappedStores [tg] e X.env=pure none:=by rfl)
   (h1:(assignEach [tg] X.env).map (·.2)=[assign tg X.env]:=by rfl):PS X (.Assign [tg] e pos) (qi3 te g):=by
 intro pins s σ H D I h
 refine wpAny_Assign_stores (thn (he pins s σ H _ I h) fun v s1 zz_=>?_) hs hw
 obtain ⟨x,H1,I1,r1,q1⟩:=zz_
 rw [h1]
 exact thn (hg pins s1 σ H1 x v _ I1 r1 q1) fun _ s2 q=>q
theorem qF {i:Nat} {x:Str} {e:Expr} {te:TE} {pos':Pos} (hN:X.N.Nodup) (hi:X.N[i]?=some x) (hx:Loc X.env.scope x) (he:PE X e te) (hs:swapsWith e (some (.Name x pos')) pos.line X.env=pure false:=by rfl) (hf:X.fn x=true∨X.env.scope.names.lookup x=some .local:=by first | exact .inl rfl | exact .inr rfl | assumption) :
   PS X (.Assign [.Name x pos'] e pos) (qi3 te (qhY i)):=by
 intro pins s σ H D I h
 refine wpAny_Assign_Name (thn (he pins s σ H _ I h) fun v s1 zz_=>?_) hs
 obtain ⟨y,H1,I1,r1,q1⟩:=zz_
 exact qbP I1 hN hi hx r1 (fun s2 I2=>⟨_,H1,I2,q1⟩) hf
end
section
variable {X:Cx} {pos:Pos}
end
structure It where
 go:Nat->Hp->Prop
 yld:Nat->Hp->V->Hp->Prop
 stop:Nat->Hp->Prop
def qeT (X:Cx) (pins:List (Addr×Obj)) (H:Hp) (b:Addr):Prop :=
 H b=none∧b≠X.env.locals∧b∉X.fs∧(b∈X.ex∨X.s₀.heap.objs.size≤b)∧(∀ x c,X.env.cells.lookup x=some c->c≠b)∧∀ p∈X.pn++pins,p.1≠b
theorem Inv.fpOk {X:Cx} {pins:List (Addr×Obj)} {σ:St} {H H':Hp} {s:Shared} {b:Addr} (I:Inv X pins σ H s) (hb:s.heap.objs.size≤b) (hn:H' b=none):qeT X pins H' b:=by
 refine ⟨hn,Nat.ne_of_gt (Nat.lt_of_lt_of_le I.lt hb),I.nofs hb,.inr (Nat.le_trans I.sz hb),fun x c e z=>?_,fun p hp z=>?_⟩
 · obtain ⟨v,q⟩:=I.cell x c e
   exact absurd (Nat.lt_of_lt_of_le q.lt (by rw [z]; exact hb)) (Nat.lt_irrefl _)
 · exact absurd (Nat.lt_of_lt_of_le (Heap.lt_size (I.pin p hp).1) (by rw [z]; exact hb)) (Nat.lt_irrefl _)
structure qht (P:Program) (w:World) (K:PySem.W.Frag) (tg:Expr) (J:It) (fp:List Addr) (it:Addr) (tn:Nat->Heap->Prop):Prop where
 mem:it∈fp
 obj:∀ i h,tn i h->∀ b∈fp,∃ o,h.get? b=some o∧∀ v,o.data≠.cell v
 keep:∀ i h h',tn i h->(∀ b∈fp,∀ o,h.get? b=some o->h'.get? b=some o)->tn i h'
 item:∀ (X:Cx),X.prog=P->X.w=w->X.K=K->X.calm=true->∀ (i:Nat) (pins:List (Addr×Obj)) (s:Shared) (σ:St) (H:Hp) (E:Value->Shared->Prop),Inv X pins σ H s->(∀ b∈fp,qeT X pins H b)->tn i s.heap->J.go i H ->
   wpAny (model P w) X.A (pyNext (.ref it)) (fun r s1=>∃ u,r=some u ∧
     wpAny (model P w) X.A (letOwnedTupleGo tg (.ref it) u) (fun _ s2=>∃ x H',Inv X pins σ H' s2∧RelV x u∧J.yld i H x H'∧tn (i+1) s2.heap∧∀ b∈fp,H' b=none) E s1) E s
 done:∀ (X:Cx),X.prog=P->X.w=w->X.K=K->X.calm=true->∀ (i:Nat) (pins:List (Addr×Obj)) (s:Shared) (σ:St) (H:Hp) (E:Value->Shared->Prop),Inv X pins σ H s->(∀ b∈fp,qeT X pins H b)->tn i s.heap->J.stop i H ->
   wpAny (model P w) X.A (pyNext (.ref it)) (fun r s1=>r=none∧Inv X pins σ H s1) E s
 self:∀ (A:Around) (i:Nat) (s:Shared) (Q:Value->Shared->Prop) (E:Value->Shared->Prop),tn i s.heap->Q (.ref it) s->wpAny (model P w) A (pyIter (.ref it)) Q E s
abbrev TI:=St->Hp->(It->Hp->Prop)->Prop
def PIE (X:Cx) (pins:List (Addr×Obj)) (σ:St) (tg:Expr) (R:It->Hp->Prop) (itv:Value) (s2:Shared):Prop :=
 ∃ (it:Addr) (fp:List Addr) (tn:Nat->Heap->Prop) (J:It) (H':Hp),itv=.ref it∧Inv X pins σ H' s2∧qht X.prog X.w X.K tg J fp it tn∧tn 0 s2.heap∧(∀ b∈fp,qeT X pins H' b)∧R J H'
def PI (X:Cx) (tg iter:Expr) (wi:TI):Prop :=
 ∀ (pins:List (Addr×Obj)) (s:Shared) (σ:St) (H:Hp) (R:It->Hp->Prop),Inv X pins σ H s->wi σ H R ->
   wpAny (model X.prog X.w) X.A (eval iter X.env) (fun v s1=>wpAny (model X.prog X.w) X.A (pyIter v) (PIE X pins σ tg R) X.xe s1) X.xe s
theorem qgK {M:Model} {A:Around} {E:Value->Shared->Prop} {s:Shared} {tg:Expr} {it:Addr} {u:Value} {o:Obj} {n:String} {vs:Array Value} {Q:Unit->Shared->Prop} (ho:s.heap.get? it=some o) (hc:o.cls=.type n) (hd:o.data=.fields vs)
   (hn:["enumerate","zip","dict_itemiterator","dict_reverseitemiterator","odict_iterator","itertools.zip_longest","itertools.pairwise"].contains n=false) (hQ:Q () s):wpAny M A (letOwnedTupleGo tg (.ref it) u) Q E s:=by
 unfold letOwnedTupleGo
 cases tg<;>first
   | exact wpAny_pure hQ
   | (cases u<;>first
       | exact wpAny_pure hQ
       | (refine wpAny_bind (wpAny_load ho ?_)
          rw [hc,hd]
          show wpAny M A (if (["enumerate","zip","dict_itemiterator","dict_reverseitemiterator","odict_iterator","itertools.zip_longest","itertools.pairwise"].contains n && vs[0]? == some (rawInt _))=true then _ else _) Q E s
          rw [if_neg (by intro h; rw [hn,Bool.false_and] at h; cases h)]
          exact wpAny_pure hQ))
def Itl (K:PySem.W.Frag) (a:Addr):It :=
 ⟨fun i H=>∃ xs x,SqL K H a xs∧xs[i]?=some x,fun i H x H'=>H'=H∧∀ xs,SqL K H a xs->xs[i]?=some x,fun i H=>∃ xs,SqL K H a xs∧xs.length≤i⟩
def Itt (K:PySem.W.Frag) (a:Addr):It :=
 ⟨fun i H=>∃ xs x,SqT K H a xs∧xs[i]?=some x,fun i H x H'=>H'=H∧∀ xs,SqT K H a xs->xs[i]?=some x,fun i H=>∃ xs,SqT K H a xs∧xs.length≤i⟩
def Itr (lo:Int) (n:Nat):It:=⟨fun i _=>i < n,fun i H x H'=>H'=H∧x=.int (lo+i),fun i _=>n≤i⟩
theorem qeW {P:Program} {w:World} {K:PySem.W.Frag} {tg:Expr} (a it:Addr):qht P w K tg (Itl K a) [it] it (fun i h=>h.IsListIter it a i) where
 mem:=by simp
 obj:=fun i h st b hb=>by
   have e:b=it:=by simpa using hb
   subst e
   obtain ⟨o,e,c,d⟩:=st
   exact ⟨o,e,fun v z=>by rw [d] at z; cases z⟩
 keep:=fun i h h' st k=>st.at fun o e=>k it (by simp) o e
 item:=by
   intro X hP hw hK hc i pins s σ H E I hf st hg
   subst hP hw hK
   obtain ⟨xs,x,hq,hx⟩:=hg
   obtain ⟨its,rv,p,hz⟩:=I.list hq
   obtain ⟨u,hu,ru⟩:=rv.get hx
   obtain ⟨f0,f1,f2,f3,f4,f5⟩:=hf it (by simp)
   refine wpAny_pyNext_list_item st p.isList (x:=u) (by simpa using hu) fun h' st' sb=>?_
   have I1:Inv X pins σ H { s with heap:=h' }:=I.turned (t':=s.toks) (fun b o hb e=>(sb.2 b hb).trans e) f0 f1 f3 f4 f5
   obtain ⟨o,e,c,d⟩:=id st'
   exact ⟨u,rfl,qgK (s:={ s with heap:=h' }) e c d (by decide) ⟨x,H,I1,ru,⟨rfl,fun ys hy=>by rw [I.list_inj hy hq]; exact hx⟩,st',fun b hb=>(hf b hb).1⟩⟩
 done:=by
   intro X hP hw hK hc i pins s σ H E I hf st hg
   subst hP hw hK
   obtain ⟨xs,hq,hx⟩:=hg
   obtain ⟨its,rv,p,hz⟩:=I.list hq
   obtain ⟨f0,f1,f2,f3,f4,f5⟩:=hf it (by simp)
   have hl:=rv.length
   exact wpAny_pyNext_list_end (I.ok.hd hc) st p.isList (by simp; omega) fun h' eb=>⟨rfl,I.turned (t':=s.toks) (fun b o hb e=>eb b o hb e) f0 f1 f3 f4 f5⟩
 self:=fun _ _ _ _ _ st h=>wpAny_pyIter_listiter st h
theorem qel {P:Program} {w:World} {K:PySem.W.Frag} {tg:Expr} (a it:Addr):qht P w K tg (Itt K a) [it] it (fun i h=>h.IsTupleIter it a i) where
 mem:=by simp
 obj:=fun i h st b hb=>by
   have e:b=it:=by simpa using hb
   subst e
   obtain ⟨o,e,c,d⟩:=st
   exact ⟨o,e,fun v z=>by rw [d] at z; cases z⟩
 keep:=fun i h h' st k=>st.at fun o e=>k it (by simp) o e
 item:=by
   intro X hP hw hK hc i pins s σ H E I hf st hg
   subst hP hw hK
   obtain ⟨xs,x,hq,hx⟩:=hg
   obtain ⟨its,rv,p,hz⟩:=I.tuple hq
   obtain ⟨u,hu,ru⟩:=rv.get hx
   obtain ⟨f0,f1,f2,f3,f4,f5⟩:=hf it (by simp)
   refine wpAny_pyNext_tuple_item st (show s.heap.IsTuple a its.toArray from p) (x:=u) (by simpa using hu) fun h' st' sb=>?_
   have I1:Inv X pins σ H { s with heap:=h' }:=I.turned (t':=s.toks) (fun b o hb e=>(sb.2 b hb).trans e) f0 f1 f3 f4 f5
   obtain ⟨o,e,c,d⟩:=id st'
   exact ⟨u,rfl,qgK (s:={ s with heap:=h' }) e c d (by decide) ⟨x,H,I1,ru,⟨rfl,fun ys hy=>by rw [I.tuple_inj hy hq]; exact hx⟩,st',fun b hb=>(hf b hb).1⟩⟩
 done:=by
   intro X hP hw hK hc i pins s σ H E I hf st hg
   subst hP hw hK
   obtain ⟨xs,hq,hx⟩:=hg
   obtain ⟨its,rv,p,hz⟩:=I.tuple hq
   obtain ⟨f0,f1,f2,f3,f4,f5⟩:=hf it (by simp)
   have hl:=rv.length
   exact wpAny_pyNext_tuple_end (I.ok.hd hc) st (show s.heap.IsTuple a its.toArray from p) (by simp; omega) fun h' eb=>⟨rfl,I.turned (t':=s.toks) (fun b o hb e=>eb b o hb e) f0 f1 f3 f4 f5⟩
 self:=fun _ _ _ _ _ st h=>wpAny_pyIter_tupleiter st h
theorem qem {P:Program} {w:World} {K:PySem.W.Frag} {tg:Expr} (it:Addr) (lo:Int) (n:Nat):qht P w K tg (Itr lo n) [it] it (fun i h=>IsRangeIter h it (lo+(i:Nat) * 1) ((n:Int) - (i:Nat)) 1) where
 mem:=by simp
 obj:=fun i h st b hb=>by
   have e:b=it:=by simpa using hb
   subst e
   exact ⟨_,st,fun v z=>by
     have z':Data.fields _=Data.cell v:=z
     cases z'⟩
 keep:=fun i h h' st k=>k it (by simp) _ st
 item:=by
   intro X hP hw hK hc i pins s σ H E I hf st hg
   subst hP hw hK
   obtain ⟨f0,f1,f2,f3,f4,f5⟩:=hf it (by simp)
   have W:=Walks.range (prog:=X.prog) (w:=X.w) (I.ok.hd hc) it lo 1 n
   refine W.item i s _ _ hg st fun v h' tk hv st' kk=>?_
   obtain ⟨t,rfl⟩:=hv
   have I1:Inv X pins σ H { s with heap:=h',toks:=tk }:=I.turned (fun b o hb e=>kk b o (by simpa using hb) e) f0 f1 f3 f4 f5
   refine ⟨_,rfl,qgK (s:={ s with heap:=h',toks:=tk }) (n:="range_iterator") st' rfl rfl (by decide) ⟨.int (lo+i),H,I1,⟨t,?_⟩,⟨rfl,rfl⟩,st',fun b hb=>(hf b hb).1⟩⟩
   rw [Int.mul_one]
 done:=by
   intro X hP hw hK hc i pins s σ H E I hf st hg
   subst hP hw hK
   obtain ⟨f0,f1,f2,f3,f4,f5⟩:=hf it (by simp)
   exact wpAny_pyNext_range_end (I.ok.hd hc) st (by have:n≤i:=hg; omega) fun h' eb=>⟨rfl,I.turned (t':=s.toks) (fun b o hb e=>eb b o hb e) f0 f1 f3 f4 f5⟩
 self:=fun _ _ _ _ _ st h=>wpAny_pyIter_rangeiter st h
end L2
namespace L2
open PySem PySem.Spec PyProof.Rows
section
variable {X:Cx} {tg:Expr}
inductive qfK (K:PySem.W.Frag) (R:(It->Hp->Prop)) (x:V) (H1:Hp):Prop
 | mk (a:_) (h1:x=.ref a) (h2:(∃ xs,SqL K H1 a xs)) (h3:R (Itl K a) H1):qfK K R x H1
def qjh (K:PySem.W.Frag) (tl:TE):TI:=fun σ H R=>tl σ H fun x H1=>qfK K R x H1
def qka (K:PySem.W.Frag) (tl:TE):TI:=fun σ H R=>tl σ H fun x H1=>∃ a,x=.ref a∧(∃ xs,SqT K H1 a xs)∧R (Itt K a) H1
theorem ze {l:Expr} {tl:TE} (hl:PE X l tl):PI X tg l (qjh X.K tl):=by
 intro pins s σ H R I h
 refine thn (hl pins s σ H _ I h) fun v s1 zz_=>?_
 obtain ⟨x,H1,I1,r1,q1⟩:=zz_
 obtain ⟨a,e,⟨xs,hq⟩,q⟩:=q1
 subst e
 cases r1
 obtain ⟨its,rv,p,hz⟩:=I1.list hq
 refine wpAny_pyIter_list p.isList ?_
 refine ⟨s1.heap.objs.size,[s1.heap.objs.size],_,_,H1,rfl,I1.kept (t':=s1.toks) fun b o e=>Heap.get?_push_of_some _ e,qeW a _,⟨_,Heap.get?_push_size _ rfl,rfl,rfl⟩,fun b hb=>?_,q⟩
 have e:b=s1.heap.objs.size:=by simpa using hb
 subst e
 exact I1.fpOk (Nat.le_refl _) (I1.hok.fresh (Nat.le_refl _))
theorem qip {l:Expr} {tl:TE} (hl:PE X l tl):PI X tg l (qka X.K tl):=by
 intro pins s σ H R I h
 refine thn (hl pins s σ H _ I h) fun v s1 zz_=>?_
 obtain ⟨x,H1,I1,r1,q1⟩:=zz_
 obtain ⟨a,e,⟨xs,hq⟩,q⟩:=q1
 subst e
 cases r1
 obtain ⟨its,rv,p,hz⟩:=I1.tuple hq
 refine wpAny_pyIter_tuple (show s1.heap.IsTuple a its.toArray from p) ?_
 refine ⟨s1.heap.objs.size,[s1.heap.objs.size],_,_,H1,rfl,I1.kept (t':=s1.toks) fun b o e=>Heap.get?_push_of_some _ e,qel a _,⟨_,Heap.get?_push_size _ rfl,rfl,rfl⟩,fun b hb=>?_,q⟩
 have e:b=s1.heap.objs.size:=by simpa using hb
 subst e
 exact I1.fpOk (Nat.le_refl _) (I1.hok.fresh (Nat.le_refl _))
theorem qgo {pins:List (Addr×Obj)} {σ:St} {H:Hp} {s:Shared} {R:It->Hp->Prop} {E:Value->Shared->Prop} {lo hi:Int} {t u v:Tok} {tk:Nat} (I:Inv X pins σ H s) (h1:-(2 ^ 62)≤lo) (h2:lo < 2 ^ 62) (h3:-(2 ^ 62)≤hi) (h4:hi < 2 ^ 62)
   (q:R (Itr lo (hi - lo).toNat) H):wpAny (model X.prog X.w) X.A (pyIter (.ref s.heap.objs.size)) (PIE X pins σ tg R) E { s with heap:=s.heap.push { cls:=.type "range",data:=.fields #[.int lo t,.int hi u,.int 1 v] },toks:=tk }:=by
 refine wpAny_pyIter_range (IsRange.new ..) (small_one h1 h2 h3 h4) ?_
 have I1:Inv X pins σ H { s with heap:=s.heap.push { cls:=.type "range",data:=.fields #[.int lo t,.int hi u,.int 1 v] },toks:=tk }:=I.kept fun b o e=>Heap.get?_push_of_some _ e
 refine ⟨(s.heap.push { cls:=.type "range",data:=.fields #[.int lo t,.int hi u,.int 1 v] }).objs.size,[(s.heap.push { cls:=.type "range",data:=.fields #[.int lo t,.int hi u,.int 1 v] }).objs.size],_,_,H,rfl,
   I1.kept (t':=tk) fun b o e=>Heap.get?_push_of_some _ e,qem _ lo (hi - lo).toNat,?_,fun b hb=>?_,q⟩
 · have e1:lo+((0:Nat):Int) * 1=lo:=by simp
   have e2:(((hi - lo).toNat:Nat):Int) - ((0:Nat):Int)=Builtin.Range.rangeSize lo hi 1:=by rw [rangeSize_one]; split<;>omega
   show IsRangeIter _ _ (lo+((0:Nat):Int) * 1) ((((hi - lo).toNat:Nat):Int) - ((0:Nat):Int)) 1
   rw [e1,e2]
   exact Heap.get?_push_size _ rfl
 · have e:b=(s.heap.push { cls:=.type "range",data:=.fields #[.int lo t,.int hi u,.int 1 v] }).objs.size:=by simpa using hb
   subst e
   exact I1.fpOk (Nat.le_refl _) (I1.hok.fresh (Nat.le_refl _))
inductive qfJ (R:(It->Hp->Prop)) (vs:List V) (H1:Hp):Prop
 | mk (j:Int) (h1:vs=[.int j]) (h2:-(2 ^ 62)≤j) (h3:j < 2 ^ 62) (h4:R (Itr 0 j.toNat) H1):qfJ R vs H1
def qjg (ta:TA):TI:=fun σ H R=>ta σ H fun vs H1=>qfJ R vs H1
theorem z3 {a:Expr} {ta:TA} {p pos:Pos} (hg:Gl X "range") (hm:X.mg "range"=none) (ha:PA X [a] ta) (hs:starEach [a] X.env=[(false,eval a X.env)]:=by rfl):PI X tg (.Call (.Name "range" p) [a] [] pos) (qjg ta):=by
 intro pins s σ H R I h
 refine Call_ (qae I hg hm boot_range (PyProof.Rows.callWith_type1 (thn (ha pos pins s σ H _ I h) fun us s1 zz_=>?_) hs rfl))
 obtain ⟨vs,H1,I1,r1,q1⟩:=zz_
 obtain ⟨j,e,q1,q2,q⟩:=q1
 subst e
 cases r1 with
 | cons r rr =>
   cases rr
   obtain ⟨t,rfl⟩:=r
   exact call_range_1 (qgo I1 (by omega) (by omega) q1 q2 (by simpa using q))
def qe7 (wi:TI) (g:TG) (tb:TS):TS:=fun D σ H=>wi σ H fun J H1=>∃ W:Nat->Nat->St->Hp->Prop,(∃ m,W 0 m σ H1)∧∀ i m σ H,W i m σ H ->
 (J.stop i H∧D.nx σ H)∨(J.go i H∧∃ N:St->Hp->Prop,(∀ σ' H',N σ' H'->∃ m',m' < m∧W (i+1) m' σ' H')∧∀ x H',J.yld i H x H'->g x σ H' fun σ2 H2=>tb { D with nx:=N,ct:=N,bk:=D.nx } σ2 H2)
def qbw (fp:List Addr) (h:Heap):List (Addr×Obj):=fp.filterMap fun b=>(h.get? b).map fun o=>(b,o)
theorem QK {fp:List Addr} {h:Heap} {b:Addr} {o:Obj} (hb:b∈fp) (e:h.get? b=some o):(b,o)∈qbw fp h:=List.mem_filterMap.mpr ⟨b,hb,by rw [e]; rfl⟩
theorem qfy {fp:List Addr} {h:Heap} {p:Addr×Obj} (hp:p∈qbw fp h):p.1∈fp∧h.get? p.1=some p.2:=by
 obtain ⟨b,hb,e⟩:=List.mem_filterMap.mp hp
 cases q:h.get? b with
 | none=>rw [q] at e; cases e
 | some o =>
   rw [q] at e
   have e':(b,o)=p:=Option.some.inj e
   subst e'
   exact ⟨hb,q⟩
theorem Inv.pinned {pins:List (Addr×Obj)} {σ:St} {H:Hp} {s:Shared} {fp:List Addr} (I:Inv X pins σ H s) (hf:∀ b∈fp,qeT X pins H b) (ho:∀ b∈fp,∃ o,s.heap.get? b=some o∧∀ v,o.data≠.cell v):Inv X (pins++qbw fp s.heap) σ H s :=
 I.pins_of fun p hp=>(List.mem_append.mp hp).elim (fun z=>I.pin p (List.mem_append_right _ z)) fun z=>by
   obtain ⟨hb,e⟩:=qfy z
   obtain ⟨f0,f1,f2,_⟩:=hf p.1 hb
   obtain ⟨o,e',d⟩:=ho p.1 hb
   rw [e] at e'; cases e'
   exact ⟨e,f0,f1,f2,d⟩
theorem Inv.unpinned {pins pl:List (Addr×Obj)} {σ:St} {H:Hp} {s:Shared} (I:Inv X (pins++pl) σ H s):Inv X pins σ H s:=I.pins_of fun p hp=>I.pin p (List.mem_append_right _ (List.mem_append_left _ hp))
theorem zK {iter:Expr} {body:List Stmt} {wi:TI} {g:TG} {tb:TS} {pos:Pos} (hp:PassesOwn (model X.prog X.w) X.A X.env X.xe) (hc:X.calm=true) (hi:PI X tg iter wi) (hg:PG X tg g) (hb:PSs X body tb)
   (hs:∀ x,foldedSetIterable iter X.env x=pure x:=by intro _; rfl):PS X (.For tg iter body [] pos) (qe7 wi g tb):=by
 intro pins s σ H D I h
 refine wpAny_For (thn (hi pins s σ H _ I h) fun v s1 h1=>thn h1 fun itv s2 h2=>?_) hs
 obtain ⟨it,fp,tn,J,H2,e,I2,T,st2,f2,W,⟨m0,w0⟩,turn⟩:=h2
 subst e
 -- what stays true of the iterator's objects through the loop
 have stat:∀ {H':Hp},(∀ b∈fp,H' b=none)->∀ b∈fp,qeT X pins H' b:=fun hn b hb=>⟨hn b hb,(f2 b hb).2⟩
 refine codeAny_forLoop_any (fun n s'=>∃ i σ' H',Inv X pins σ' H' s'∧tn i s'.heap∧(∀ b∈fp,H' b=none)∧W i n σ' H') ?_ m0 ⟨0,σ,H2,I2,st2,fun b hb=>(f2 b hb).1,w0⟩
 rintro n s3 ⟨i,σ3,H3,I3,st3,fr3,w3⟩
 rcases turn i n σ3 H3 w3 with ⟨stop,qn⟩ | ⟨go,N,hN,step⟩
 · refine wpAny_passesOwn hp (thn (T.done X rfl rfl rfl hc i pins s3 σ3 H3 X.xe I3 (stat fr3) st3 stop) fun r s4 ⟨hr,I4⟩=>?_)
   subst hr
   exact wpAny_execs_nil ⟨σ3,H3,I4,qn⟩
 · refine wpAny_passesOwn hp (thn (T.item X rfl rfl rfl hc i pins s3 σ3 H3 X.xe I3 (stat fr3) st3 go) fun r s4 ⟨u,hr,h4⟩=>?_)
   subst hr
   refine wpAny_passesOwn hp (thn h4 fun _ s5 zz_=>?_)
   obtain ⟨x,H5,I5,r5,y5,st5,fr5⟩:=zz_
   have I5':=I5.pinned (stat fr5) (T.obj _ _ st5)
   refine wpAny_passesOwn hp (thn (hg _ s5 σ3 H5 x u _ I5' r5 (step x H5 y5)) fun _ s6 zz_=>?_)
   obtain ⟨σ6,H6,I6,q6⟩:=zz_
   refine wpAny_passesOwn hp (thn (hb _ s6 σ6 H6 _ I6 q6) fun f s7 q7=>?_)
   have again:∀ {σ7:St} {H7:Hp},Inv X (pins++qbw fp s5.heap) σ7 H7 s7->N σ7 H7->∃ m,m < n∧∃ i σ' H',Inv X pins σ' H' s7∧tn i s7.heap∧(∀ b∈fp,H' b=none)∧W i m σ' H':=fun {σ7 H7} I7 n7=>by
     obtain ⟨m',hm,w7⟩:=hN σ7 H7 n7
     refine ⟨m',hm,i+1,σ7,H7,I7.unpinned,T.keep _ _ _ st5 fun b hb o e=>(I7.pin (b,o) (List.mem_append_right _ (List.mem_append_right _ (QK hb e)))).1,fun b hb=>?_,w7⟩
     obtain ⟨o,e,d⟩:=T.obj _ _ st5 b hb
     exact (I7.pin (b,o) (List.mem_append_right _ (List.mem_append_right _ (QK hb e)))).2.1
   cases f with
   | next=>obtain ⟨σ7,H7,I7,n7⟩:=q7; exact again I7 n7
   | cont=>obtain ⟨σ7,H7,I7,n7⟩:=q7; exact again I7 n7
   | brk=>obtain ⟨σ7,H7,I7,q7⟩:=q7; exact ⟨σ7,H7,I7.unpinned,q7⟩
   | ret v=>obtain ⟨x7,σ7,H7,I7,r7,q7⟩:=q7; exact ⟨x7,σ7,H7,I7.unpinned,r7,q7⟩
end
theorem Qa {K:PySem.W.Frag} {a:Addr} {xs:List V} {g:TG} {tb:TS} {D:qgd} {σ:St} {H:Hp} (Pv:Nat->St->Hp->Prop) (h0:Pv 0 σ H) (hl:∀ i σ H,i≤xs.length->Pv i σ H->SqL K H a xs)
   (hs:∀ i x σ H,xs[i]?=some x->Pv i σ H->g x σ H fun σ2 H2=>tb { D with nx:=Pv (i+1),ct:=Pv (i+1),bk:=D.nx } σ2 H2) (hd:∀ σ H,Pv xs.length σ H->D.nx σ H) :
   ∃ W:Nat->Nat->St->Hp->Prop,(∃ m,W 0 m σ H)∧∀ i m σ H,W i m σ H ->
     ((Itl K a).stop i H∧D.nx σ H)∨((Itl K a).go i H∧∃ N:St->Hp->Prop,(∀ σ' H',N σ' H'->∃ m',m' < m∧W (i+1) m' σ' H')∧∀ x H',(Itl K a).yld i H x H'->g x σ H' fun σ2 H2=>tb { D with nx:=N,ct:=N,bk:=D.nx } σ2 H2):=by
 refine ⟨fun i m σ H=>m=xs.length - i∧i≤xs.length∧Pv i σ H,⟨xs.length,by simp,Nat.zero_le _,h0⟩,?_⟩
 rintro i m σ H ⟨rfl,hi,p⟩
 have q:=hl i σ H hi p
 by_cases hlt:i < xs.length
 · refine .inr ⟨⟨xs,xs[i],q,by simp [hlt]⟩,Pv (i+1),fun σ' H' p'=>⟨xs.length - (i+1),by omega,rfl,hlt,p'⟩,fun x H' y=>?_⟩
   obtain ⟨e,y⟩:=y
   subst e
   exact hs i x σ _ (y xs q) p
 · have e:i=xs.length:=by omega
   subst e
   exact .inl ⟨⟨xs,q,Nat.le_refl _⟩,hd σ H p⟩
theorem QQ {lo:Int} {n:Nat} {g:TG} {tb:TS} {D:qgd} {σ:St} {H:Hp} (Pv:Nat->St->Hp->Prop) (h0:Pv 0 σ H)
   (hs:∀ i σ H,i < n->Pv i σ H->g (.int (lo+i)) σ H fun σ2 H2=>tb { D with nx:=Pv (i+1),ct:=Pv (i+1),bk:=D.nx } σ2 H2) (hd:∀ σ H,Pv n σ H->D.nx σ H) :
   ∃ W:Nat->Nat->St->Hp->Prop,(∃ m,W 0 m σ H)∧∀ i m σ H,W i m σ H ->
     ((Itr lo n).stop i H∧D.nx σ H)∨((Itr lo n).go i H∧∃ N:St->Hp->Prop,(∀ σ' H',N σ' H'->∃ m',m' < m∧W (i+1) m' σ' H')∧∀ x H',(Itr lo n).yld i H x H'->g x σ H' fun σ2 H2=>tb { D with nx:=N,ct:=N,bk:=D.nx } σ2 H2):=by
 refine ⟨fun i m σ H=>m=n - i∧i≤n∧Pv i σ H,⟨n,by simp,Nat.zero_le _,h0⟩,?_⟩
 rintro i m σ H ⟨rfl,hi,p⟩
 by_cases hlt:i < n
 · refine .inr ⟨hlt,Pv (i+1),fun σ' H' p'=>⟨n - (i+1),by omega,rfl,hlt,p'⟩,fun x H' y=>?_⟩
   obtain ⟨e,y⟩:=y
   subst e y
   exact hs i σ _ hlt p
 · have e:i=n:=by omega
   subst e
   exact .inl ⟨Nat.le_refl _,hd σ H p⟩
end L2
namespace L2
open PySem PySem.Spec PyProof.Rows
abbrev R2:=V->V->Hp->VK->Prop
def OpR (X:Cx) (f:Value->Value->Sem Value) (r:R2):Prop :=
 ∀ (pins:List (Addr×Obj)) (s:Shared) (σ:St) (H:Hp) (x y:V) (v u:Value) (Q:VK),Inv X pins σ H s->RelV x v->RelV y u->r x y H Q ->
   wpAny (model X.prog X.w) X.A (f v u) (EP X pins σ Q) X.xe s
def UnR (X:Cx) (f:Value->Sem Value) (r:V->Hp->VK->Prop):Prop :=
 ∀ (pins:List (Addr×Obj)) (s:Shared) (σ:St) (H:Hp) (x:V) (v:Value) (Q:VK),Inv X pins σ H s->RelV x v->r x H Q ->
   wpAny (model X.prog X.w) X.A (f v) (EP X pins σ Q) X.xe s
def JB (X:Cx) (f:Value) (r:List V->Hp->VK->Prop):Prop :=
 ∀ (pins:List (Addr×Obj)) (s:Shared) (σ:St) (H:Hp) (xs:List V) (us:List Value) (Q:VK),Inv X pins σ H s->Vals xs us->r xs H Q ->
   wpAny (model X.prog X.w) X.A (call f us) (EP X pins σ Q) X.xe s
def qkg (X:Cx) (r:V->Hp->(Bool->Hp->Prop)->Prop):Prop :=
 ∀ (pins:List (Addr×Obj)) (s:Shared) (σ:St) (H:Hp) (x:V) (v:Value) (Q:Bool->Hp->Prop),Inv X pins σ H s->RelV x v->r x H Q ->
   wpAny (model X.prog X.w) X.A (truthy v) (TP X pins σ Q) X.xe s
def tOp (r:R2) (ta tb:TE):TE:=fun σ H Q=>ta σ H fun x H1=>tb σ H1 fun y H2=>r x y H2 Q
def tUn (r:V->Hp->VK->Prop) (ta:TE):TE:=fun σ H Q=>ta σ H fun x H1=>r x H1 Q
inductive qjE (C:Int->Int->Prop) (g:Int->Int->V) (x:V) (y:V) (H:Hp) (Q:VK):Prop
 | mk (i j:_) (h1:x=.int i) (h2:y=.int j) (h3:C i j) (h4:Q (g i j) H):qjE C g x y H Q
def rI (C:Int->Int->Prop) (g:Int->Int->V):R2:=fun x y H Q=>qjE C g x y H Q
inductive qim (g:Int->Int->V) (x:V) (y:V) (H:Hp) (Q:VK):Prop
 | mk (i j:_) (h1:x=.int i) (h2:y=.int j) (h3:Q (g i j) H):qim g x y H Q
def rI0 (g:Int->Int->V):R2:=fun x y H Q=>qim g x y H Q
inductive qjx (g:Int->V) (x:V) (H:Hp) (Q:VK):Prop
 | mk (i:_) (h1:x=.int i) (h2:Q (g i) H):qjx g x H Q
def rU (g:Int->V):V->Hp->VK->Prop:=fun x H Q=>qjx g x H Q
section
variable {X:Cx} {a b c:Expr} {ta tb tc:TE} {pos:Pos}
theorem qjp (ha:PE X a ta) (hb:PE X b tb) {pins:List (Addr×Obj)} {s:Shared} {σ:St} {H:Hp} {R:V->V->Hp->Prop} (I:Inv X pins σ H s)
   (h:ta σ H fun x H1=>tb σ H1 fun y H2=>R x y H2) {Q:Value->Shared->Prop} {f:Value->Value->Sem Value}
   (hf:∀ v u s2 x y H2,Inv X pins σ H2 s2->RelV x v->RelV y u->R x y H2->wpAny (model X.prog X.w) X.A (f v u) Q X.xe s2) :
   wpAny (model X.prog X.w) X.A (eval a X.env) (fun v s₁=>wpAny (model X.prog X.w) X.A (eval b X.env) (fun u s₂=>wpAny (model X.prog X.w) X.A (f v u) Q X.xe s₂) X.xe s₁) X.xe s:=by
 refine thn (ha pins s σ H _ I h) fun v s1 zz_=>?_
 obtain ⟨x,H1,I1,r1,q1⟩:=zz_
 refine thn (hb pins s1 σ H1 _ I1 q1) fun u s2 zz_=>?_
 obtain ⟨y,H2,I2,r2,q2⟩:=zz_
 exact hf v u s2 x y H2 I2 r1 r2 q2
theorem qw {op:Operator} {r:R2} (ho:OpR X (binaryOp op) r) (ha:PE X a ta) (hb:PE X b tb):PE X (.BinOp a op b pos) (tOp r ta tb):=by
 intro pins s σ H Q I h
 exact wpAny_BinOp (qjp ha hb I h fun v u s2 x y H2 I2 rx ry q=>ho pins s2 σ H2 x y v u Q I2 rx ry q)
theorem ZQ {op:UnaryOp} {r:V->Hp->VK->Prop} (ho:UnR X (unaryOp op) r) (ha:PE X a ta):PE X (.UnaryOp op a pos) (tUn r ta):=by
 intro pins s σ H Q I h
 exact UnaryOp_ (thn (ha pins s σ H _ I h) fun v s1 ⟨x,H1,I1,r1,q1⟩=>ho pins s1 σ H1 x v Q I1 r1 q1)
theorem opI {f:Value->Value->Sem Value} {C:Int->Int->Prop} {g:Int->Int->Int}
   (rule:∀ (i j:Int) (t u:Tok) (s:Shared) (Q:Value->Shared->Prop) (E:Value->Shared->Prop),C i j->Q (.int (g i j) s.toks) { s with toks:=s.toks+1 }->wpAny (model X.prog X.w) X.A (f (.int i t) (.int j u)) Q E s) :
   OpR X f (rI C fun i j=>.int (g i j)):=by
 intro pins s σ H x y v u Q I rx ry h
 obtain ⟨i,j,rfl,rfl,hc,q⟩:=h
 obtain ⟨t,rfl⟩:=rx
 obtain ⟨t',rfl⟩:=ry
 exact rule i j t t' s _ _ hc ⟨.int (g i j),H,I.tok _,⟨_,rfl⟩,q⟩
theorem qjI {f:Value->Value->Sem Value} {g:Int->Int->Int}
   (rule:∀ (i j:Int) (t u:Tok) (s:Shared) (Q:Value->Shared->Prop) (E:Value->Shared->Prop),Q (.int (g i j) s.toks) { s with toks:=s.toks+1 }->wpAny (model X.prog X.w) X.A (f (.int i t) (.int j u)) Q E s) :
   OpR X f (rI0 fun i j=>.int (g i j)):=by
 intro pins s σ H x y v u Q I rx ry h
 obtain ⟨i,j,rfl,rfl,q⟩:=h
 obtain ⟨t,rfl⟩:=rx
 obtain ⟨t',rfl⟩:=ry
 exact rule i j t t' s _ _ ⟨.int (g i j),H,I.tok _,⟨_,rfl⟩,q⟩
theorem qiW {f:Value->Value->Sem Value} {g:Int->Int->Bool}
   (rule:∀ (i j:Int) (t u:Tok) (s:Shared) (Q:Value->Shared->Prop) (E:Value->Shared->Prop),Q (.bool (g i j)) s->wpAny (model X.prog X.w) X.A (f (.int i t) (.int j u)) Q E s) :
   OpR X f (rI0 fun i j=>.bl (g i j)):=by
 intro pins s σ H x y v u Q I rx ry h
 obtain ⟨i,j,rfl,rfl,q⟩:=h
 obtain ⟨t,rfl⟩:=rx
 obtain ⟨t',rfl⟩:=ry
 exact rule i j t t' s _ _ ⟨.bl (g i j),H,I,rfl,q⟩
def qkk (i j:Int):Prop:=0 < j∧j < 1073741824
def qkj (i j:Int):Prop:=0≤j∧j≤1000000∧i.natAbs < 2 ^ 64
def CMul (i j:Int):Prop:=(-(2 ^ 64) < i∧i < 2 ^ 64)∨(-(2 ^ 64) < j∧j < 2 ^ 64)
theorem CMul.ok {i j:Int} (h:CMul i j):IntMulOk i j:=by
 rcases h with ⟨h1,h2⟩ | ⟨h1,h2⟩
 · exact .of_left (intBits_le_64 h1 h2)
 · exact .of_right (intBits_le_64 h1 h2)
theorem op_add:OpR X (binaryOp .Add) (rI0 fun i j=>.int (i+j)):=qjI fun _ _ _ _ _ _ _ q=>add_int q
theorem zY:OpR X (binaryOp .Sub) (rI0 fun i j=>.int (i - j)):=qjI fun _ _ _ _ _ _ _ q=>sub_int q
theorem QP:OpR X (binaryOp .Mult) (rI CMul fun i j=>.int (i * j)):=opI fun _ _ _ _ _ _ _ hc q=>mul_int q hc.ok
theorem qdt:OpR X (binaryOp .FloorDiv) (rI qkk fun i j=>.int (i / j)):=opI fun i j _ _ _ _ _ hc q=>by
 have h1:(0:Int) < j:=hc.1
 have h2:j < 1073741824:=hc.2
 exact floordiv_int (by omega) (by rw [Int.fdiv_eq_ediv_of_nonneg i (by omega)]; exact q) (.inl (PyProof.noPylong_small (by omega)))
theorem Z1:OpR X (binaryOp .Mod) (rI (fun _ j=>0 < j) fun i j=>.int (i % j)):=opI fun i j _ _ _ _ _ hc q=>by
 have h1:(0:Int) < j:=hc
 exact mod_int' (by omega) (by rw [Int.fmod_eq_emod_of_nonneg i (by omega)]; exact q)
theorem zL:OpR X (binaryOp .Pow) (rI qkj fun i j=>.int (i ^ j.toNat)):=opI fun _ _ _ _ _ _ _ hc q=>pow_int_small hc.1 hc.2.1 hc.2.2 q
theorem unI {f:Value->Sem Value} {g:Int->Int}
   (rule:∀ (i:Int) (t:Tok) (s:Shared) (Q:Value->Shared->Prop) (E:Value->Shared->Prop),Q (.int (g i) s.toks) { s with toks:=s.toks+1 }->wpAny (model X.prog X.w) X.A (f (.int i t)) Q E s) :
   UnR X f (rU fun i=>.int (g i)):=by
 intro pins s σ H x v Q I rx h
 obtain ⟨i,rfl,q⟩:=h
 obtain ⟨t,rfl⟩:=rx
 exact rule i t s _ _ ⟨.int (g i),H,I.tok _,⟨_,rfl⟩,q⟩
theorem Qq:UnR X (unaryOp .USub) (rU fun i=>.int (-i)):=unI fun _ _ _ _ _ q=>neg_int q
end
def qjw:V->V->Bool
 | .non,.non=>true | .non,.int _=>true | .int _,.non=>true | .non,.bl _=>true | .bl _,.non=>true | .non,.str _=>true | .str _,.non=>true
 | .int _,.int _=>true | .bl _,.bl _=>true | .str _,.str _=>true | .byt _,.byt _=>true
 | .int _,.str _=>true | .str _,.int _=>true | .bl _,.str _=>true | .str _,.bl _=>true
 | _,_=>false
def rEq:R2:=fun x y H Q=>qjw x y=true∧Q (.bl (decide (x=y))) H
def rNe:R2:=fun x y H Q=>qjw x y=true∧Q (.bl (!decide (x=y))) H
theorem qfV {i j:Int}:decide (V.int i=V.int j)=(i == j):=by
 rw [Bool.eq_iff_iff]
 simp
theorem qhp {i j:Bool}:decide (V.bl i=V.bl j)=(i == j):=by
 rw [Bool.eq_iff_iff]
 simp
theorem qfU {i j:Str}:decide (V.str i=V.str j)=(i == j):=by
 rw [Bool.eq_iff_iff]
 simp
theorem qfW {i j:Array UInt8}:decide (V.byt i=V.byt j)=(i.toList == j.toList):=by
 rw [Bool.eq_iff_iff]
 cases i
 cases j
 simp
section
variable {X:Cx} {a b c:Expr} {ta tb tc:TE} {pos:Pos}
theorem zd {pins:List (Addr×Obj)} {σ:St} {H:Hp} {s:Shared} {Q:VK} {k k':Bool} (I:Inv X pins σ H s) (q:Q (.bl k) H) (e:k=k'):EP X pins σ Q (.bool k') s:=by
 subst e
 exact ⟨.bl k,H,I,rfl,q⟩
theorem op_eq:OpR X (compareOp .Eq) rEq:=by
 intro pins s σ H x y v u Q I rx ry h
 obtain ⟨hs,q⟩:=h
 cases x with
 | non =>
   cases rx
   cases y with
   | non=>cases ry; exact PySem.EqNone.eq_none_none (zd I q (by simp))
   | bl j=>cases ry; exact PySem.EqNone.eq_none_bool (zd I q (by simp))
   | int j=>obtain ⟨t',rfl⟩:=ry; exact PySem.EqNone.eq_none_int (zd I q (by simp))
   | str j=>obtain ⟨t',rfl⟩:=ry; exact PySem.EqNone.eq_none_str (zd I q (by simp))
   | _=>exact absurd (show false=true from hs) Bool.false_ne_true
 | bl i =>
   cases rx
   cases y with
   | non=>cases ry; exact PySem.EqNone.eq_bool_none (zd I q (by simp))
   | bl j=>cases ry; exact eq_bool (zd I q qhp)
   | str j=>obtain ⟨t',rfl⟩:=ry; exact PySem.EqMixed.eq_bool_str (zd I q (by simp))
   | _=>exact absurd (show false=true from hs) Bool.false_ne_true
 | int i =>
   obtain ⟨t,rfl⟩:=rx
   cases y with
   | non=>cases ry; exact PySem.EqNone.eq_int_none (zd I q (by simp))
   | int j=>obtain ⟨t',rfl⟩:=ry; exact eq_int (zd I q qfV)
   | str j=>obtain ⟨t',rfl⟩:=ry; exact PySem.EqMixed.eq_int_str (zd I q (by simp))
   | _=>exact absurd (show false=true from hs) Bool.false_ne_true
 | str i =>
   obtain ⟨t,rfl⟩:=rx
   cases y with
   | non=>cases ry; exact PySem.EqNone.eq_str_none (zd I q (by simp))
   | bl j=>cases ry; exact PySem.EqMixed.eq_str_bool (zd I q (by simp))
   | int j=>obtain ⟨t',rfl⟩:=ry; exact PySem.EqMixed.eq_str_int (zd I q (by simp))
   | str j=>obtain ⟨t',rfl⟩:=ry; exact eq_str (zd I q qfU)
   | _=>exact absurd (show false=true from hs) Bool.false_ne_true
 | byt i =>
   obtain ⟨t,rfl⟩:=rx
   cases y with
   | byt j=>obtain ⟨t',rfl⟩:=ry; exact PySem.W.eq_bytes (zd I q qfW)
   | _=>exact absurd (show false=true from hs) Bool.false_ne_true
 | _=>cases y<;>exact absurd (show false=true from hs) Bool.false_ne_true
theorem op_ne:OpR X (compareOp .NotEq) rNe:=by
 intro pins s σ H x y v u Q I rx ry h
 obtain ⟨hs,q⟩:=h
 cases x with
 | non =>
   cases rx
   cases y with
   | non=>cases ry; exact PySem.EqNone.ne_none_none (zd I q (by simp))
   | bl j=>cases ry; exact PySem.EqNone.ne_none_bool (zd I q (by simp))
   | int j=>obtain ⟨t',rfl⟩:=ry; exact PySem.EqNone.ne_none_int (zd I q (by simp))
   | str j=>obtain ⟨t',rfl⟩:=ry; exact PySem.EqNone.ne_none_str (zd I q (by simp))
   | _=>exact absurd (show false=true from hs) Bool.false_ne_true
 | bl i =>
   cases rx
   cases y with
   | non=>cases ry; exact PySem.EqNone.ne_bool_none (zd I q (by simp))
   | bl j=>cases ry; exact ne_bool (zd I q (congrArg not qhp))
   | str j=>obtain ⟨t',rfl⟩:=ry; exact PySem.EqMixed.ne_bool_str (zd I q (by simp))
   | _=>exact absurd (show false=true from hs) Bool.false_ne_true
 | int i =>
   obtain ⟨t,rfl⟩:=rx
   cases y with
   | non=>cases ry; exact PySem.EqNone.ne_int_none (zd I q (by simp))
   | int j=>obtain ⟨t',rfl⟩:=ry; exact ne_int (zd I q (congrArg not qfV))
   | str j=>obtain ⟨t',rfl⟩:=ry; exact PySem.EqMixed.ne_int_str (zd I q (by simp))
   | _=>exact absurd (show false=true from hs) Bool.false_ne_true
 | str i =>
   obtain ⟨t,rfl⟩:=rx
   cases y with
   | non=>cases ry; exact PySem.EqNone.ne_str_none (zd I q (by simp))
   | bl j=>cases ry; exact PySem.EqMixed.ne_str_bool (zd I q (by simp))
   | int j=>obtain ⟨t',rfl⟩:=ry; exact PySem.EqMixed.ne_str_int (zd I q (by simp))
   | str j=>obtain ⟨t',rfl⟩:=ry; exact ne_str (zd I q (congrArg not qfU))
   | _=>exact absurd (show false=true from hs) Bool.false_ne_true
 | byt i =>
   obtain ⟨t,rfl⟩:=rx
   cases y with
   | byt j=>obtain ⟨t',rfl⟩:=ry; exact PySem.W.ne_bytes (zd I q (congrArg not qfW))
   | _=>exact absurd (show false=true from hs) Bool.false_ne_true
 | _=>cases y<;>exact absurd (show false=true from hs) Bool.false_ne_true
theorem qiu:OpR X (compareOp .Lt) (rI0 fun i j=>.bl (decide (i < j))):=qiW fun _ _ _ _ _ _ _ q=>lt_int q
theorem qaO:OpR X (compareOp .LtE) (rI0 fun i j=>.bl (decide (i≤j))):=qiW fun _ _ _ _ _ _ _ q=>le_int q
theorem qfp:OpR X (compareOp .Gt) (rI0 fun i j=>.bl (decide (j < i))):=qiW fun _ _ _ _ _ _ _ q=>gt_int q
theorem qhP:OpR X (compareOp .GtE) (rI0 fun i j=>.bl (decide (j≤i))):=qiW fun _ _ _ _ _ _ _ q=>ge_int q
theorem qfo:OpR X (compareOp .IsNot) (fun x y H Q=>y=.non∧Q (.bl (!decide (x=.non))) H):=by
 intro pins s σ H x y v u Q I rx ry h
 obtain ⟨rfl,q⟩:=h
 cases ry
 refine isnot_none_gen (zd I q ?_)
 cases x<;>first
   | (cases rx; rfl)
   | (obtain ⟨t,rfl⟩:=rx; rfl)
theorem OpR.or {f:Value->Value->Sem Value} {r r':R2} (h:OpR X f r) (h':OpR X f r'):OpR X f (fun x y H Q=>r x y H Q∨r' x y H Q):=by
 intro pins s σ H x y v u Q I rx ry q
 rcases q with q | q
 · exact h pins s σ H x y v u Q I rx ry q
 · exact h' pins s σ H x y v u Q I rx ry q
theorem qG (b:Expr) {op:CmpOp} (h:op≠.In:=by decide) (h2:op≠.NotIn:=by decide):behindInMarks op b=false:=by
 have e1:(op == CmpOp.In)=false:=by cases op<;>first | rfl | exact absurd rfl h
 have e2:(op == CmpOp.NotIn)=false:=by cases op<;>first | rfl | exact absurd rfl h2
 cases b<;>simp [behindInMarks,e1,e2]
theorem Zs {op:CmpOp} {r:R2} (ho:OpR X (compareOp op) r) (ha:PE X a ta) (hb:PE X b tb) (hm:behindInMarks op b=false):PE X (.Compare a [op] [b] pos) (tOp r ta tb):=by
 intro pins s σ H Q I h
 exact wpAny_Compare1 (qjp ha hb I h fun v u s2 x y H2 I2 rx ry q=>ho pins s2 σ H2 x y v u Q I2 rx ry q) hm
inductive qe2 (Q:(Bool->Hp->Prop)) (x:V) (H':Hp):Prop
 | mk (k:_) (h1:x=.bl k) (h2:Q k H'):qe2 Q x H'
def qic (t:TE):TT:=fun σ H Q=>t σ H fun x H'=>qe2 Q x H'
theorem qA {op:CmpOp} {r:R2} (ho:OpR X (compareOp op) r) (ha:PE X a ta) (hb:PE X b tb) (hm:behindInMarks op b=false):PT X (.Compare a [op] [b] pos) (qic (tOp r ta tb)):=by
 intro pins s σ H Q I h
 refine wpAny_isTrue_Compare1 (thn (ha pins s σ H _ I h) fun v s1 ⟨x,H1,I1,r1,q1⟩=>thn (hb pins s1 σ H1 _ I1 q1) fun u s2 ⟨y,H2,I2,r2,q2⟩ =>
   thn (ho pins s2 σ H2 x y v u _ I2 r1 r2 q2) fun c s3 ⟨z,H3,I3,r3,k,e,q3⟩=>?_) hm
 subst e
 cases r3
 exact wpAny_truthy_bool ⟨H3,I3,q3⟩
def qgV (r r':R2) (ta tb tc:TE):TE:=fun σ H Q=>ta σ H fun x H1=>tb σ H1 fun y H2=>r x y H2 fun z H3=>∃ k,z=.bl k ∧
 (if k=true then tc σ H3 fun w' H4=>r' y w' H4 Q else Q (.bl false) H3)
theorem qd4 {op op':CmpOp} {r r':R2} (ho:OpR X (compareOp op) r) (ho':OpR X (compareOp op') r') (ha:PE X a ta) (hb:PE X b tb) (hc:PE X c tc)
   (hm:lastMarks [op,op'] [b,c]=false:=by with_unfolding_all rfl):PE X (.Compare a [op,op'] [b,c] pos) (qgV r r' ta tb tc):=by
 intro pins s σ H Q I h
 refine Compare_chain (thn (ha pins s σ H _ I h) fun v s1 ⟨x,H1,I1,r1,q1⟩=>chain_link (thn (hb pins s1 σ H1 _ I1 q1) fun u s2 ⟨y,H2,I2,r2,q2⟩ =>
   thn (ho pins s2 σ H2 x y v u _ I2 r1 r2 q2) fun d s3 ⟨z,H3,I3,r3,k,e,q3⟩=>?_)) hm
 subst e
 cases r3
 refine wpAny_truthy_bool ?_
 cases k with
 | false=>exact ite_ff ⟨.bl false,H3,I3,rfl,q3⟩
 | true=>exact ite_tt (chain_last (thn (hc pins s3 σ H3 _ I3 q3) fun w' s4 ⟨z',H4,I4,r4,q4⟩=>ho' pins s4 σ H4 y z' u w' Q I4 r2 r4 q4))
theorem qgq {op op':CmpOp} {r r':R2} (ho:OpR X (compareOp op) r) (ho':OpR X (compareOp op') r') (ha:PE X a ta) (hb:PE X b tb) (hc:PE X c tc)
   (hm:lastMarks [op,op'] [b,c]=false:=by with_unfolding_all rfl):PT X (.Compare a [op,op'] [b,c] pos) (qic (qgV r r' ta tb tc)):=by
 intro pins s σ H Q I h
 refine isTrue_chain (thn (ha pins s σ H _ I h) fun v s1 ⟨x,H1,I1,r1,q1⟩=>test_link (thn (hb pins s1 σ H1 _ I1 q1) fun u s2 ⟨y,H2,I2,r2,q2⟩ =>
   thn (ho pins s2 σ H2 x y v u _ I2 r1 r2 q2) fun d s3 ⟨z,H3,I3,r3,k,e,q3⟩=>?_)) hm
 subst e
 cases r3
 refine wpAny_truthy_bool ?_
 cases k with
 | false =>
   obtain ⟨k',e',q'⟩:=q3
   cases e'
   exact ite_ff ⟨H3,I3,q'⟩
 | true =>
   refine ite_tt (test_last (thn (hc pins s3 σ H3 _ I3 q3) fun w' s4 ⟨z',H4,I4,r4,q4⟩=>thn (ho' pins s4 σ H4 y z' u w' _ I4 r2 r4 q4) fun d' s5 zz_=>?_))
   obtain ⟨z2,H5,I5,r5,k2,e2,q5⟩:=zz_
   subst e2
   cases r5
   exact wpAny_truthy_bool ⟨H5,I5,q5⟩
def qjP (K:PySem.W.Frag) (x:V) (H:Hp) (k:Bool):Prop :=
 match x with
 | .non=>k=false
 | .bl b=>k=b
 | .int i=>k=(i != 0)
 | .str y=>y.length≤sizeLine∧k=((y.length:Int) != 0)
 | .byt y=>y.size≤sizeLine∧k=((y.size:Int) != 0)
 | .ref p=>(∃ xs,SqL K H p xs∧k=!xs.isEmpty)∨(∃ xs,SqT K H p xs∧k=!xs.isEmpty)∨∃ kvs,H p=some (.dK kvs)∧k=!kvs.isEmpty
 | _=>False
theorem qeL {κ:Type} {kvs:List (κ×V)} {vs:List (κ×Value)} (r:KV kvs vs):(!vs.isEmpty)=!kvs.isEmpty:=by
 cases r<;>rfl
theorem qbG {xs:List V} {its:List Value} (r:Vals xs its):(!its.toArray.isEmpty)=!xs.isEmpty:=by
 cases r<;>simp
theorem qbE:(sizeLine:Nat) < 2 ^ 63:=by rw [sizeLine_eq]; decide
theorem qib:qkg X (fun x H Q=>∃ k,qjP X.K x H k∧Q k H):=by
 intro pins s σ H x v Q I rx h
 obtain ⟨k,e,q⟩:=h
 have hl:=qbE
 have hs:sizeLine=16777216:=sizeLine_eq
 cases x with
 | non =>
   cases rx
   have e':k=false:=e
   subst e'
   exact truthy_none ⟨H,I,q⟩
 | bl b =>
   cases rx
   have e':k=b:=e
   subst e'
   exact wpAny_truthy_bool ⟨H,I,q⟩
 | int i =>
   obtain ⟨t,rfl⟩:=rx
   have e':k=(i != 0):=e
   subst e'
   exact PySem.P.truthy_int ⟨H,I,q⟩
 | str y =>
   obtain ⟨t,rfl⟩:=rx
   obtain ⟨hy,e'⟩:y.length≤sizeLine∧k=((y.length:Int) != 0):=e
   subst e'
   exact PySem.P.truthy_str (by omega) ⟨H,I.tok _,q⟩
 | byt y =>
   obtain ⟨t,rfl⟩:=rx
   obtain ⟨hy,e'⟩:y.size≤sizeLine∧k=((y.size:Int) != 0):=e
   subst e'
   exact PySem.W.truthy_bytes (by omega) ⟨H,I.tok _,q⟩
 | ref p =>
   cases rx
   have e':(∃ xs,SqL X.K H p xs∧k=!xs.isEmpty)∨(∃ xs,SqT X.K H p xs∧k=!xs.isEmpty)∨∃ kvs,H p=some (.dK kvs)∧k=!kvs.isEmpty:=e
   rcases e' with ⟨xs,hx,e'⟩ | ⟨xs,hx,e'⟩ | ⟨kvs,hx,e'⟩
   · subst e'
     obtain ⟨its,r,pl,hz⟩:=I.list hx
     have hlen:=r.length
     exact wpAny_truthy_list pl.isList (by simp only [List.size_toArray]; omega) ⟨H,I.tok _,by rw [qbG r]; exact q⟩
   · subst e'
     obtain ⟨its,r,pl,hz⟩:=I.tuple hx
     have hlen:=r.length
     exact truthy_tuple pl (by simp only [List.size_toArray]; omega) ⟨H,I.tok _,by rw [qbG r]; exact q⟩
   · subst e'
     obtain ⟨hz,hS,vs,r,m⟩:kvs.length≤sizeLine∧(p == sysModules)=false∧∃ vs,KV kvs vs∧s.heap.DictOf (qQ X.prog X.w) p vs:=I.hok p _ hx
     have hlen:kvs.length=vs.length:=Paired.length r
     exact wpAny_truthy_dict hS m (by omega) ⟨H,I.tok _,by rw [qeL r]; exact q⟩
 | _=>exact (show False from e).elim
theorem qgp (ha:PE X a ta) (he:∀ whole,isTrue a X.env whole=(do let v ← whole; standAt a.pos; holding [v] (truthy v))) :
   PT X a (fun σ H Q=>ta σ H fun x H'=>∃ k,qjP X.K x H' k∧Q k H'):=by
 intro pins s σ H Q I h
 exact isTrue_plain (thn (ha pins s σ H _ I h) fun v s1 ⟨x,H1,I1,r1,q1⟩=>qib pins s1 σ H1 x v Q I1 r1 q1) (he _)
theorem qex:OpR X (binaryOp .Add) (fun x y H Q=>∃ i j,x=.str i∧y=.str j∧i.length+j.length≤sizeLine∧Q (.str (i++j)) H):=by
 intro pins s σ H x y v u Q I rx ry h
 obtain ⟨i,j,rfl,rfl,hz,q⟩:=h
 obtain ⟨t,rfl⟩:=rx
 obtain ⟨t',rfl⟩:=ry
 exact add_str (fun t' tk=>⟨.str (i++j),H,I.tok _,⟨_,rfl⟩,q⟩) hz
theorem qar {x:V} {us:List Value} (r:Vals [x] us):∃ u,us=[u]∧RelV x u:=by
 cases r with
 | cons r1 r2=>cases r2; exact ⟨_,rfl,r1⟩
theorem qeV {x y:V} {us:List Value} (r:Vals [x,y] us):∃ u w',us=[u,w']∧RelV x u∧RelV y w':=by
 cases r with
 | cons r1 r2 =>
   cases r2 with
   | cons r3 r4=>cases r4; exact ⟨_,_,rfl,r1,r3⟩
theorem Qw (hc:X.calm=true):JB X (.builtin "max") (fun xs H Q=>∃ i j,xs=[.int i,.int j]∧Q (.int (if j > i then j else i)) H):=by
 intro pins s σ H xs us Q I r h
 obtain ⟨i,j,rfl,q⟩:=h
 obtain ⟨u,w',rfl,⟨t,rfl⟩,⟨t',rfl⟩⟩:=qeV r
 refine max_two_ints (I.ok.hd hc) fun h' tk k=>⟨_,H,I.kept k,?_,q⟩
 by_cases hj:j > i
 · rw [if_pos hj,if_pos hj]; exact ⟨_,rfl⟩
 · rw [if_neg hj,if_neg hj]; exact ⟨_,rfl⟩
theorem Ze (hc:X.calm=true):JB X (.builtin "min") (fun xs H Q=>∃ i j,xs=[.int i,.int j]∧Q (.int (if j < i then j else i)) H):=by
 intro pins s σ H xs us Q I r h
 obtain ⟨i,j,rfl,q⟩:=h
 obtain ⟨u,w',rfl,⟨t,rfl⟩,⟨t',rfl⟩⟩:=qeV r
 refine min_two_ints (I.ok.hd hc) fun h' tk k=>⟨_,H,I.kept k,?_,q⟩
 by_cases hj:j < i
 · rw [if_pos hj,if_pos hj]; exact ⟨_,rfl⟩
 · rw [if_neg hj,if_neg hj]; exact ⟨_,rfl⟩
theorem JA:JB X (.type "int") (fun xs H Q=>(∃ i,xs=[.int i]∧Q (.int i) H)∨∃ k,xs=[.bl k]∧Q (.int (if k then 1 else 0)) H):=by
 intro pins s σ H xs us Q I r h
 rcases h with ⟨i,rfl,q⟩ | ⟨k,rfl,q⟩
 · obtain ⟨u,rfl,t,rfl⟩:=qar r
   exact call_int_int ⟨.int i,H,I,⟨_,rfl⟩,q⟩
 · obtain ⟨u,rfl,r1⟩:=qar r
   cases r1
   exact call_int_bool ⟨.int (if k then 1 else 0),H,I.tok _,⟨_,rfl⟩,q⟩
def qki (K:PySem.W.Frag) (x:V) (H:Hp) (n:Nat):Prop :=
 match x with
 | .str y=>y.length≤sizeLine∧n=y.length
 | .byt y=>y.size≤sizeLine∧n=y.size
 | .ref p=>(∃ xs,SqL K H p xs∧n=xs.length)∨∃ xs,SqT K H p xs∧n=xs.length
 | _=>False
theorem zp:JB X (.builtin "len") (fun xs H Q=>∃ x n,xs=[x]∧qki X.K x H n∧Q (.int n) H):=by
 intro pins s σ H xs us Q I r h
 obtain ⟨x,n,rfl,e,q⟩:=h
 obtain ⟨u,rfl,rx⟩:=qar r
 have hl:=qbE
 have hs:sizeLine=16777216:=sizeLine_eq
 cases x with
 | str y =>
   obtain ⟨t,rfl⟩:=rx
   obtain ⟨hy,e'⟩:y.length≤sizeLine∧n=y.length:=e
   subst e'
   exact len_str (by omega) ⟨.int _,H,I.tok _,⟨_,rfl⟩,q⟩
 | byt y =>
   obtain ⟨t,rfl⟩:=rx
   obtain ⟨hy,e'⟩:y.size≤sizeLine∧n=y.size:=e
   subst e'
   exact PySem.W.len_bytes (by omega) ⟨.int _,H,I.tok _,⟨_,rfl⟩,q⟩
 | ref p =>
   cases rx
   have e':(∃ xs,SqL X.K H p xs∧n=xs.length)∨∃ xs,SqT X.K H p xs∧n=xs.length:=e
   rcases e' with ⟨xs,hx,e'⟩ | ⟨xs,hx,e'⟩
   · subst e'
     obtain ⟨its,r',pl,hz⟩:=I.list hx
     have hlen:=r'.length
     exact Calls.call_len_list pl.isList (by simp only [List.size_toArray]; omega) ⟨.int xs.length,H,I.tok _,⟨_,by simp only [List.size_toArray]; rw [hlen]⟩,q⟩
   · subst e'
     obtain ⟨its,r',pl,hz⟩:=I.tuple hx
     have hlen:=r'.length
     exact len_tuple pl (by simp only [List.size_toArray]; omega) ⟨.int xs.length,H,I.tok _,⟨_,by simp only [List.size_toArray]; rw [hlen]⟩,q⟩
 | _=>exact (show False from e).elim
end
end L2
namespace L2
open PySem PySem.Spec PyProof.Rows
structure ObjM (h:Heap) (x dx C:Addr) (mA:Str->Option Value):Prop where
 obj:h.get? x=some (PySem.W.instObj C dx)
 ns:h.Ns1 dx mA
 ne:dx≠x
theorem qfC {h:Heap} {dx:Addr} {mA:Str->Option Value} (n:h.Ns1 dx mA):∃ od,h.get? dx=some od∧∀ name,PySem.W.lookIn name od=some (mA name):=by
 obtain ⟨o,es,ep,ho,hd,hk,_,hm⟩:=n
 refine ⟨o,ho,fun name=>?_⟩
 have e:=hm name
 unfold nsFind findBy at e
 rw [← Array.find?_toList] at e
 unfold PySem.W.lookIn
 rw [hd]
 dsimp only
 split
 · rename_i y q
   rw [q] at e
   exact congrArg some e
 · rename_i q
   rw [q] at e
   have a:es.toList.any (·.refKey)=false:=by
     rw [List.any_eq_false]
     intro y hy
     obtain ⟨z,t,hkey⟩:=hk y (Array.mem_toList_iff.mp hy)
     simp [DictEntry.refKey,hkey]
   have a':¬ es.toList.any (·.refKey)=true:=by rw [a]; exact Bool.false_ne_true
   rw [if_neg a']
   exact congrArg some e
theorem ObjM.look {h:Heap} {x dx C:Addr} {mA:Str->Option Value} (I:ObjM h x dx C mA):∃ od,PySem.W.InstAt h x (PySem.W.instObj C dx) C (some od)∧∀ name,PySem.W.lookIn name od=some (mA name) :=
 let ⟨od,ho,hl⟩:=qfC I.ns
 ⟨od,⟨I.obj,rfl,rfl,ho⟩,hl⟩
section
variable {prog:Program} {w:World} {A:Around} {E:Value->Shared->Prop} {s:Shared} {K:PySem.W.Frag} {x dx C f:Addr} {mA:Str->Option Value} {name:Str} {v:Value}
theorem qhX {expr:Bool} {Q:Value->Shared->Prop} (X:K.In s.heap) (I:ObjM s.heap x dx C mA) (hg:PySem.W.plainGet K C name=true) (hh:PySem.W.hasDictIn K C=true)
   (ha:PySem.W.findIn K (.ref C) name=some none) (hv:mA name=some v) (hv':PySem.W.handedIn v=true) (h:Q v { s with toks:=s.toks+1 }) :
   wpAny (model prog w) A (getAttr (.ref x) name expr) Q E s:=by
 obtain ⟨od,J,hl⟩:=I.look
 exact PySem.W.get_value X J (PySem.W.plainGet_of hg).1 (PySem.W.findObj_own hh ha rfl (by rw [hl,hv])) hv' h
theorem qgL {pl:Sem Bool} {Q:Value×List Value->Shared->Prop} (X:K.In s.heap) (I:ObjM s.heap x dx C mA) (hg:PySem.W.plainGet K C name=true)
   (hf:PySem.W.findIn K (.ref C) name=some (some (.ref f))) (ht:PySem.W.isFn K (.ref f)=true) (hv:mA name=none) (h:Q (.ref f,[.ref x]) s) :
   wpAny (model prog w) A (getMethod (.ref x) name pl) Q E s:=by
 obtain ⟨od,J,hl⟩:=I.look
 exact PySem.W.method_fn X J (PySem.W.plainGet_of hg).1 (PySem.W.plainGet_of hg).2 hf (beq_iff_eq.mp ht) (by show (PySem.W.lookIn name od).map (·.isSome)=some false; rw [hl,hv]; rfl) h
theorem qhH {ns:List Str} {Q:Unit->Shared->Prop} (X:K.In s.heap) (I:ObjM s.heap x dx C mA)
   (hs:PySem.W.findIn K (.ref C) "__setattr__"=some (some (.builtin "object.__setattr__"))) (hp:PySem.W.plainOver K C=true) (ht:PySem.W.takerIn K C name=some none) (hh:PySem.W.hasDictIn K C=true)
   (hw:PySem.Within mA ns) (hsz:ns.length≤sizeLine)
   (h:∀ h',ObjM h' x dx C (fun y=>if y=name then some v else mA y)->Heap.SameBut dx s.heap h'->Q () { s with heap:=h',toks:=s.toks+2 }) :
   wpAny (model prog w) A (setAttr (.ref x) name v) Q E s:=by
 obtain ⟨od,J,hl⟩:=I.look
 refine PySem.W.set_plain X J hs (PySem.W.osa_open (s:={ s with toks:=s.toks+1 }) (r:=none) X J hp ht fun b=>?_)
 obtain ⟨cd,hc,hd'⟩:=PySem.W.any_some hh
 have hx:s.heap.get? x=some ⟨.ref C,some dx,.plain,#[]⟩:=I.obj
 refine wpAny_bind (wpAny_pure (wpAny_bind (wpAny_bind (wpAny_loadPart hx (wpAny_bind (PySem.W.Looks.here (s:={ s with toks:=s.toks+1 }) (PySem.W.looks_clsIn X hc) ?_))))))
 rw [hd']
 refine wpAny_pure (a:=some dx) (wpAny_bind (wpAny_pure (wpAny_bind ?_)))
 refine wpAny_nsSet1 (s:={ s with toks:=s.toks+1 }) I.ns fun h' hn2 hs2=>?_
 obtain ⟨oD,esD,epD,hoD,hdD,hcD⟩:=hn2.count (PySem.Within.cons name v hw)
 refine wpAny_bind (wpAny_lookBehind hoD (by rw [hdD]; exact pastItsLine_dict (Nat.le_trans hcD (by rw [List.length_cons]; omega))) ?_)
 exact wpAny_pure (h _ ⟨(hs2.2 _ (Ne.symm I.ne)).trans I.obj,hn2,I.ne⟩ hs2)
theorem qgD {R:Result->Shared->Prop} {vs:List Value} {kw:List (Str×Value)} (X:K.In s.heap) (hm:PySem.W.makesIn K C=true)
   (hi:PySem.W.findIn K (.ref C) "__init__"=some (some (.ref f))) (hf:PySem.W.typeIn K (.ref f)=some (.type "function"))
   (h:codeAny (model prog w) (A.under (.builtin "type.__call__" ⟨.ref C::vs,kw⟩)) (.call (.ref f) ⟨.ref (s.heap.objs.size+1)::vs,kw⟩) (PySem.W.InitBack (s.heap.objs.size+1) R)
     { s with heap:=(s.heap.push PySem.W.emptyDict).push (PySem.W.instObj C s.heap.objs.size) }) :
   codeAny (model prog w) A (.call (.ref C) ⟨vs,kw⟩) R s:=by
 obtain ⟨hh,g,d,t,os⟩:=s
 exact PySem.W.make_core (PySem.W.makes_of X hm) (PySem.W.looks_findIn X hi) (fun self=>PySem.W.bind_fn X self hf) (.inl rfl) h
end
def qcT (f:Str) (v:V):List (Str×V)->List (Str×V)
 | []=>[(f,v)]
 | (g,x)::r=>if g=f then (g,v)::r else (g,x)::qcT f v r
theorem ZU (f g:Str) (v:V):∀ fs:List (Str×V),(qcT f v fs).lookup g=if g=f then some v else fs.lookup g
 | []=>by
   show List.lookup g [(f,v)]=_
   by_cases h:g=f
   · have hb:(g == f)=true:=beq_iff_eq.mpr h
     simp only [List.lookup,hb,if_pos h]
   · have hb:(g == f)=false:=beq_eq_false_iff_ne.mpr h
     simp only [List.lookup,hb,if_neg h]
 | (k,x)::r=>by
   have ih:=ZU f g v r
   rw [show qcT f v ((k,x)::r)=(if k=f then (k,v)::r else (k,x)::qcT f v r) from rfl]
   by_cases hk:k=f
   · rw [if_pos hk]
     by_cases h:g=k
     · have hb:(g == k)=true:=beq_iff_eq.mpr h
       simp only [List.lookup,hb,if_pos (h.trans hk)]
     · have hb:(g == k)=false:=beq_eq_false_iff_ne.mpr h
       simp only [List.lookup,hb,if_neg (fun e:g=f=>h (e.trans hk.symm))]
   · rw [if_neg hk]
     by_cases h:g=k
     · have hb:(g == k)=true:=beq_iff_eq.mpr h
       simp only [List.lookup,hb,if_neg (fun e:g=f=>hk (h.symm.trans e))]
     · have hb:(g == k)=false:=beq_eq_false_iff_ne.mpr h
       simp only [List.lookup,hb]
       exact ih
theorem qaY (f:Str) (v:V):∀ fs:List (Str×V),f∈(qcT f v fs).map (·.1)∧∀ g,g∈fs.map (·.1)->g∈(qcT f v fs).map (·.1)
 | []=>⟨by simp [qcT],fun g h=>by simp at h⟩
 | (k,x)::r=>by
   obtain ⟨i1,i2⟩:=qaY f v r
   rw [show qcT f v ((k,x)::r)=(if k=f then (k,v)::r else (k,x)::qcT f v r) from rfl]
   by_cases hk:k=f
   · rw [if_pos hk]
     subst hk
     exact ⟨by simp,fun g h=>by simpa using h⟩
   · rw [if_neg hk]
     refine ⟨?_,fun g h=>?_⟩
     · rw [List.map_cons]
       exact List.mem_cons_of_mem _ i1
     · rw [List.map_cons] at h ⊢
       rcases List.mem_cons.mp h with e | e
       · exact List.mem_cons.mpr (.inl e)
       · exact List.mem_cons_of_mem _ (i2 g e)
theorem qaV (f:Str) (v:V):∀ fs:List (Str×V),(qcT f v fs).length≤fs.length+1
 | []=>by simp [qcT]
 | (k,x)::r=>by
   have ih:=qaV f v r
   rw [show qcT f v ((k,x)::r)=(if k=f then (k,v)::r else (k,x)::qcT f v r) from rfl]
   by_cases hk:k=f
   · rw [if_pos hk,List.length_cons,List.length_cons]; omega
   · rw [if_neg hk,List.length_cons,List.length_cons]; omega
theorem RelO.some_of {v:V} {o:Option Value} (r:RelO (some v) o):∃ u,o=some u∧RelV v u:=by
 cases o with
 | none=>exact (show False from r).elim
 | some u=>exact ⟨u,rfl,r⟩
theorem RelO.none_of {o:Option Value} (r:RelO none o):o=none:=by
 cases o with
 | none=>rfl
 | some u=>exact (show False from r).elim
theorem qfN {v:V} {u:Value} (r:RelV v u):PySem.W.handedIn u=true:=by
 cases v with
 | non=>cases (show u=Value.none from r); rfl
 | bl b=>cases (show u=Value.bool b from r); rfl
 | int i=>obtain ⟨t,e⟩:=(show ∃ t,u=Value.int i t from r); cases e; rfl
 | str x=>obtain ⟨t,e⟩:=(show ∃ t,u=Value.str x t from r); cases e; rfl
 | byt b=>obtain ⟨t,e⟩:=(show ∃ t,u=Value.bytes b t from r); cases e; rfl
 | flt b=>obtain ⟨t,e⟩:=(show ∃ t,u=Value.float b t from r); cases e; rfl
 | ref a=>cases (show u=Value.ref a from r); rfl
 | ty n=>cases (show u=Value.type n from r); rfl
section
variable {P:Program} {w:World} {H H':Hp} {h h':Heap} {a C dx:Addr} {fs fs':List (Str×V)}
theorem qco (hok:HOk P w H h) (e:H a=some (.ins C dx fs)):∃ mA,ObjM h a dx C mA∧(∀ f,RelO (fs.lookup f) (mA f))∧PySem.Within mA (fs.map (·.1))∧fs.length≤1000∧H dx=some (.own a):=by
 obtain ⟨d,z,ne,ob,mA,n,r,q⟩:=(show ObjOk P w H h a (.ins C dx fs) from hok a _ e)
 exact ⟨mA,⟨ob,n,ne⟩,r,q,z,d⟩
end
structure Cls (K:PySem.W.Frag) (C:Addr):Prop where
 pg:PySem.W.plainGet K C Str.empty=true
 hd:PySem.W.hasDictIn K C=true
 po:PySem.W.plainOver K C=true
 sa:PySem.W.findIn K (.ref C) "__setattr__"=some (some (.builtin "object.__setattr__"))
theorem Cls.get {K:PySem.W.Frag} {C:Addr} (c:Cls K C) (f:Str):PySem.W.plainGet K C f=true:=c.pg
def NoAttr (K:PySem.W.Frag) (C:Addr) (f:Str):Prop:=PySem.W.findIn K (.ref C) f=some none
theorem NoAttr.taker {K:PySem.W.Frag} {C:Addr} {f:Str} (n:NoAttr K C f):PySem.W.takerIn K C f=some none:=by
 unfold PySem.W.takerIn
 rw [show PySem.W.findIn K (.ref C) f=some none from n]
 rfl
structure qgR (K:PySem.W.Frag) (C:Addr) (m:Str) (f:Addr):Prop where
 at_:PySem.W.findIn K (.ref C) m=some (some (.ref f))
 fn:PySem.W.isFn K (.ref f)=true
 kp:PySem.W.keepIn K (.ref f)=true
section
variable {X:Cx} {pins:List (Addr×Obj)} {σ:St} {H:Hp} {s:Shared} {a C dx:Addr} {fs:List (Str×V)} {f:Str} {v:V} {A:Around} {E:Value->Shared->Prop}
theorem qeM {b:Bool} {Q:Value->Shared->Prop} (I:Inv X pins σ H s) (e:H a=some (.ins C dx fs)) (c:Cls X.K C) (n:NoAttr X.K C f) (l:fs.lookup f=some v)
   (h:∀ u s',Inv X pins σ H s'->RelV v u->Q u s'):wpAny (model X.prog X.w) A (getAttr (.ref a) f b) Q E s:=by
 obtain ⟨mA,O,r,_,_,_⟩:=qco I.hok e
 obtain ⟨u,hu,ru⟩:=RelO.some_of (v:=v) (o:=mA f) (by rw [← l]; exact r f)
 exact qhX I.kIn O (c.get f) c.hd n hu (qfN ru) (h u _ (I.tok _) ru)
theorem qbH {m:Str} {g:Addr} {pl:Sem Bool} {Q:Value×List Value->Shared->Prop} (I:Inv X pins σ H s) (e:H a=some (.ins C dx fs)) (c:Cls X.K C) (k:qgR X.K C m g) (l:fs.lookup m=none)
   (h:Q (.ref g,[.ref a]) s):wpAny (model X.prog X.w) A (getMethod (.ref a) m pl) Q E s:=by
 obtain ⟨mA,O,r,_,_,_⟩:=qco I.hok e
 have hn:mA m=none:=RelO.none_of (by rw [← l]; exact r m)
 exact qgL I.kIn O (c.get m) k.at_ k.fn hn h
theorem qer {y:V} {u:Value} {Q:Unit->Shared->Prop} (I:Inv X pins σ H s) (e:H a=some (.ins C dx fs)) (c:Cls X.K C) (n:NoAttr X.K C f) (hl:fs.length < 1000) (ry:RelV y u)
   (h:∀ s',Inv X pins σ (upd H a (.ins C dx (qcT f y fs))) s'->Q () s'):wpAny (model X.prog X.w) A (setAttr (.ref a) f u) Q E s:=by
 obtain ⟨mA,O,r,wi,_,ho⟩:=qco I.hok e
 have hz:(fs.map (·.1)).length≤sizeLine:=by rw [List.length_map,sizeLine_eq]; omega
 refine qhH I.kIn O c.sa c.po n.taker c.hd wi hz fun h' O' sb=>h _ ?_
 have hd:∃ o,h'.get? dx=some o:=let ⟨o,_,_,e',_⟩:=O'.ns; ⟨o,e'⟩
 refine I.write (x:=a) (e:=dx) (by rw [e]; exact True.intro) (.inr ho) (fun b q hb z=>(sb.2 b hb).trans z) hd ?_
 refine ⟨by rw [qh O.ne]; exact ho,?_,O.ne,O'.obj,_,O'.ns,fun g=>?_,fun g hg=>?_⟩
 · have:=qaV f y fs; omega
 · show RelO ((qcT f y fs).lookup g) (if g=f then some u else mA g)
   rw [ZU]
   by_cases q:g=f
   · rw [if_pos q,if_pos q]; exact ry
   · rw [if_neg q,if_neg q]; exact r g
 · by_cases q:g=f
   · rw [q]; exact (qaY f y fs).1
   · refine (qaY f y fs).2 g (wi g fun z=>hg ?_)
     show (if g=f then some u else mA g)=none
     rw [if_neg q]; exact z
theorem Inv.made (I:Inv X pins σ H s):Inv X pins σ (upd (upd H s.heap.objs.size (.own (s.heap.objs.size+1))) (s.heap.objs.size+1) (.ins C s.heap.objs.size []))
   { s with heap:=(s.heap.push PySem.W.emptyDict).push (PySem.W.instObj C s.heap.objs.size) }:=by
 have e1:(s.heap.push PySem.W.emptyDict).get? s.heap.objs.size=some PySem.W.emptyDict:=Heap.get?_push_size s.heap rfl
 have e2:((s.heap.push PySem.W.emptyDict).push (PySem.W.instObj C s.heap.objs.size)).get? (s.heap.objs.size+1)=some (PySem.W.instObj C s.heap.objs.size):=by
   have:=Heap.get?_push_size (s.heap.push PySem.W.emptyDict) (o:=PySem.W.instObj C s.heap.objs.size) rfl
   rwa [Heap.size_push] at this
 have e3:(s.heap.push PySem.W.emptyDict).Ns s.heap.objs.size (fun _=>none):=⟨PySem.W.emptyDict,#[],_,e1,rfl,(fun e he=>absurd he (by simp)),fun _=>rfl⟩
 have I1:=I.laid (a:=s.heap.objs.size) (o:=.own (s.heap.objs.size+1)) (h':=s.heap.push PySem.W.emptyDict) (t':=s.toks) (fun b u q=>Heap.get?_push_of_some _ q) (Nat.le_refl _) ⟨_,e1⟩
 refine I1.laid (a:=s.heap.objs.size+1) (o:=.ins C s.heap.objs.size []) (t':=s.toks) (fun b u q=>Heap.get?_push_of_some _ q) (Nat.le_of_eq (Heap.size_push _ _)) ?_
 have ne:s.heap.objs.size≠s.heap.objs.size+1:=Nat.ne_of_lt (Nat.lt_succ_self _)
 refine ⟨by rw [qh ne,qd],Nat.zero_le _,ne,e2,fun _=>none,(Heap.Ns1.of_empty e3).at fun o q=>Heap.get?_push_of_some _ q,fun _=>True.intro,fun y hy=>absurd rfl hy⟩
theorem qh3 {prog:Program} {w:World} {env:Env} {e:Expr} {f:Str} {pos:Pos} {s:Shared} {Q:Value->Shared->Prop} (hb:attributeBase e f env (eval e env)=eval e env)
   (h:wpAny (model prog w) A (eval e env) (fun o s₁=>wpAny (model prog w) A (getAttr o f true) Q E s₁) E s):wpAny (model prog w) A (eval (.Attribute e f pos) env) Q E s :=
 Attribute_any_ h (by rw [arm_eval_Attribute,hb])
end
inductive qgU (K:PySem.W.Frag) (f:Str) (Q:VK) (x:V) (H1:Hp):Prop
 | mk (a C dx fs v:_) (h1:x=.ref a) (h2:H1 a=some (.ins C dx fs)) (h3:Cls K C) (h4:NoAttr K C f) (h5:fs.lookup f=some v) (h6:Q v H1):qgU K f Q x H1
def qj0 (K:PySem.W.Frag) (ta:TE) (f:Str):TE:=fun σ H Q=>ta σ H fun x H1=>qgU K f Q x H1
def qj3 (K:PySem.W.Frag) (ta tv:TE) (f:Str):TS:=fun D σ H=>tv σ H fun y H1=>ta σ H1 fun x H2=>∃ a C dx fs,x=.ref a∧H2 a=some (.ins C dx fs)∧Cls K C∧NoAttr K C f∧fs.length < 1000 ∧
 D.nx σ (upd H2 a (.ins C dx (qcT f y fs)))
section
variable {X:Cx} {o e value:Expr} {f:Str} {pos pos' tpos:Pos} {ta tv:TE}
theorem qR (he:PE X e ta) (hb:attributeBase e f X.env (eval e X.env)=eval e X.env):PE X (.Attribute e f pos) (qj0 X.K ta f):=by
 intro pins s σ H Q I h
 refine qh3 hb (thn (he pins s σ H _ I h) fun u s1 zz_=>?_)
 obtain ⟨x,H1,I1,rx,a,C,dx,fs,v,ex,ea,c,n,l,q⟩:=zz_
 subst ex
 obtain rfl:u=Value.ref a:=rx
 exact qeM I1 ea c n l fun u' s2 I2 ru=>⟨v,H1,I2,ru,q⟩
theorem j4 (ha:PE X o ta) (hv:PE X value tv) (hs:swapsWith value (some (.Attribute o f pos')) pos.line X.env=pure false):PS X (.Assign [.Attribute o f pos'] value pos) (qj3 X.K ta tv f):=by
 intro pins s σ H D I h
 refine plainObj_wpAny_Assign_Attribute (thn (hv pins s σ H _ I h) fun u s1 ⟨y,H1,I1,ry,q⟩=>thn (ha pins s1 σ H1 _ I1 q) fun ov s2 zz_=>?_) hs
 obtain ⟨x,H2,I2,rx,a,C,dx,fs,ex,ea,c,n,l,q2⟩:=zz_
 subst ex
 obtain rfl:ov=Value.ref a:=rx
 exact qer I2 ea c n l ry fun s3 I3=>⟨σ,_,I3,q2⟩
end
section
variable {X:Cx} {pins:List (Addr×Obj)} {σ:St} {H:Hp} {s:Shared} {A:Around} {E:Value->Shared->Prop} {Q:Value->Shared->Prop} {c:Value} {b:Bool}
inductive qdm (K:PySem.W.Frag) (H:Hp):V->Value->Prop where
 | non:qdm K H .non (.type "NoneType")
 | bl (x:Bool):qdm K H (.bl x) (.type "bool")
 | int (i:Int):qdm K H (.int i) (.type "int")
 | str (x:Str):qdm K H (.str x) (.type "str")
 | flt (x:UInt64):qdm K H (.flt x) (.type "float")
 | lst {a:Addr} {xs:List V} (e:H a=some (.lst xs)):qdm K H (.ref a) (.type "list")
 | frz {a:Addr} {o:Obj} {xs:List V} (e:H a=some (.frz o (.lst xs))):qdm K H (.ref a) (.type "list")
 | tup {a:Addr} {xs:List V} (e:H a=some (.tup xs)):qdm K H (.ref a) (.type "tuple")
 | dK {a:Addr} {kvs:List (Key×V)} (e:H a=some (.dK kvs)):qdm K H (.ref a) (.type "dict")
 | dT {a:Addr} {kvs:List (List Key×V)} (e:H a=some (.dT kvs)):qdm K H (.ref a) (.type "dict")
 | ins {a C dx:Addr} {fs:List (Str×V)} (e:H a=some (.ins C dx fs)) (cl:Cls K C) (ha:PySem.W.findIn K (.ref C) "__class__"=some (some (.builtin "object.__class__")))
     (hn:PySem.W.specialIn K (.builtin "object.__class__") "__get__"=some (some (.builtin "getset_descriptor.__get__"))) (htk:PySem.W.takesIn K (.builtin "object.__class__")=some true)
     (hm:PySem.W.mroIn K C (.type "object")=some true):qdm K H (.ref a) (.ref C)
theorem qda {x:V} {u t:Value} (I:Inv X pins σ H s) (rx:RelV x u) (ty:qdm X.K H x t) (e:PySem.W.kitOne X.K t c=some b) (h:∀ tk,Q (.bool b) { s with toks:=tk }) :
   wpAny (model X.prog X.w) A (call (.builtin "isinstance") [u,c]) Q E s:=by
 cases ty with
 | non=>cases (show u=Value.none from rx); exact PySem.W.kia_one PySem.W.kitx_none I.kIn True.intro e (fun z=>nomatch z) h
 | bl y=>cases (show u=Value.bool y from rx); exact PySem.W.kia_one PySem.W.kitx_bool I.kIn True.intro e (fun z=>nomatch z) h
 | int i=>obtain ⟨t,q⟩:=(show ∃ t,u=Value.int i t from rx); cases q; exact PySem.W.kia_one PySem.W.kitx_int I.kIn True.intro e (fun z=>nomatch z) h
 | str y=>obtain ⟨t,q⟩:=(show ∃ t,u=Value.str y t from rx); cases q; exact PySem.W.kia_one PySem.W.kitx_str I.kIn True.intro e (fun z=>nomatch z) h
 | flt y=>obtain ⟨t,q⟩:=(show ∃ t,u=Value.float y t from rx); cases q; exact PySem.W.kia_one PySem.W.kitx_float I.kIn True.intro e (fun z=>nomatch z) h
 | @lst a xs ea =>
   cases (show u=Value.ref a from rx)
   obtain ⟨_,_,n,_,h1⟩:=(show ObjOk X.prog X.w H s.heap a (.lst xs) from I.hok a _ ea)
   exact PySem.W.kia_one PySem.W.kitx_list I.kIn ⟨_,h1,rfl⟩ e (fun z=>nomatch z) h
 | @frz a ob xs ea =>
   cases (show u=Value.ref a from rx)
   obtain ⟨_,_,_,n,_,h1⟩:=(show ObjOk X.prog X.w H s.heap a (.frz ob (.lst xs)) from I.hok a _ ea)
   exact PySem.W.kia_one PySem.W.kitx_list I.kIn ⟨_,h1,rfl⟩ e (fun z=>nomatch z) h
 | @tup a xs ea =>
   cases (show u=Value.ref a from rx)
   obtain ⟨_,_,_,p⟩:=(show ObjOk X.prog X.w H s.heap a (.tup xs) from I.hok a _ ea)
   obtain ⟨o,h1,h2,_⟩:=p
   exact PySem.W.kia_one PySem.W.kitx_tuple I.kIn ⟨o,h1,h2⟩ e (fun z=>nomatch z) h
 | @dK a kvs ea =>
   cases (show u=Value.ref a from rx)
   obtain ⟨_,_,vs,_,p⟩:=(show ObjOk X.prog X.w H s.heap a (.dK kvs) from I.hok a _ ea)
   obtain ⟨o,es,ep,h1,h2,_⟩:=p
   exact PySem.W.kia_one PySem.W.kitx_dict I.kIn ⟨o,h1,h2.1⟩ e (fun z=>nomatch z) h
 | @dT a kvs ea =>
   cases (show u=Value.ref a from rx)
   obtain ⟨_,_,xs,_,o,es,ep,h1,h2,_⟩:=(show ObjOk X.prog X.w H s.heap a (.dT kvs) from I.hok a _ ea)
   exact PySem.W.kia_one PySem.W.kitx_dict I.kIn ⟨o,h1,h2.1⟩ e (fun z=>nomatch z) h
 | @ins a C dx fs ea cl ha hn htk hm =>
   cases (show u=Value.ref a from rx)
   obtain ⟨mA,O,_⟩:=qco I.hok ea
   obtain ⟨od,J,_⟩:=O.look
   exact PySem.W.kia_one (PySem.W.kitx_own (cl.get _) cl.hd ha hn htk hm) I.kIn J e (fun z=>nomatch z) h
end
end L2
namespace L2
open PySem PySem.Spec PyProof.Rows
structure Room (k:Nat) (A:Around):Prop where
 hd:A.handled=none
 dp:A.depth+3 * k+5 < recursionLimit
 un:A.units+16 * k+200 < cLine
 gd:A.guards=some []
theorem Room.mono {j k:Nat} {A:Around} (r:Room k A) (h:j≤k):Room j A:=⟨r.hd,by have:=r.dp; omega,by have:=r.un; omega,r.gd⟩
theorem Room.deeper {k:Nat} {A:Around} (r:Room (k+1) A) (env:Env):Room k (A.deeper env) :=
 ⟨r.hd,by have:=r.dp; show A.depth+1+3 * k+5 < _; omega,by have:=r.un; show A.units+3+16 * k+200 < _; omega,r.gd⟩
theorem qeF {A:Around} {C:Addr} {us:List Value} {kw:List (Str×Value)}:(A.under (.builtin "type.__call__" ⟨.ref C::us,kw⟩)).depth=A.depth+1:=by
 first | rfl | simp [Around.under,Code.weight,Code.isCreation,Code.isGuard,Code.isCaller,Code.frames,Code.isFrame,guardIds]
theorem qeE {A:Around} {C:Addr} {us:List Value} {kw:List (Str×Value)}:(A.under (.builtin "type.__call__" ⟨.ref C::us,kw⟩)).units=A.units+1:=by
 first | rfl | simp [Around.under,Code.cUnits,Code.frames,Code.isFrame]
theorem Room.make {k:Nat} {A:Around} (r:Room (k+1) A) (C:Addr) (us:List Value) (kw:List (Str×Value)):Room k (A.under (.builtin "type.__call__" ⟨.ref C::us,kw⟩)) :=
 ⟨r.hd,by have:=r.dp; rw [qeF]; omega,by have:=r.un; rw [qeE]; omega,r.gd⟩
theorem Room.depth {k:Nat} {A:Around} (r:Room k A):A.depth < recursionLimit:=by have:=r.dp; omega
theorem Room.units {k:Nat} {A:Around} (r:Room k A):A.units+64 < cLine:=by have:=r.un; omega
def qeo:TA:=fun _ H Q=>Q [] H
def qi2 (ta:TE) (tr:TA):TA:=fun σ H Q=>ta σ H fun x H1=>tr σ H1 fun xs H2=>Q (x::xs) H2
section
variable {X:Cx} {e:Expr} {es:List Expr} {te:TE} {t:TA} {pos:Pos}
theorem qb:PA X [] qeo:=fun _ _ _ _ H Q I h=>Calls.spliced_nil ⟨[],H,I,.nil,h⟩
theorem qa (ha:PE X e te) (hr:PA X es t) (hs:starEach (e::es) X.env=(false,eval e X.env)::starEach es X.env:=by rfl):PA X (e::es) (qi2 te t):=by
 intro pos pins s σ H Q I h
 rw [hs]
 show wpAny _ _ (spliced ((false,eval e X.env)::backTo pos (starEach es X.env))) _ _ s
 refine Calls.spliced_cons (thn (ha pins s σ H _ I h) fun u s1 zz_=>?_)
 obtain ⟨x,H1,I1,r1,q1⟩:=zz_
 exact thn (hr pos pins s1 σ H1 _ I1 q1) fun us s2 ⟨xs,H2,I2,r2,q2⟩=>⟨x::xs,H2,I2,.cons r1 r2,q2⟩
def qjX (t:TA):TE:=fun σ H Q=>t σ H fun xs H1=>xs.length≤sizeLine∧∀ p,H1 p=none->Q (.ref p) (upd H1 p (.tup xs))
def qjZ (t:TA):TE:=fun σ H Q=>t σ H fun xs H1=>xs.length≤sizeLine∧∀ p,H1 p=none->Q (.ref p) (upd H1 p (.lst xs))
theorem zC {x1} (h:PA X es t):PE X (.Tuple es x1 pos) (qjX t):=by
 intro pins s σ H Q I hq
 refine wpAny_Tuple_spliced (thn (h pos pins s σ H _ I hq) fun us s1 ⟨xs,H1,I1,r,z,q⟩=>⟨by rw [← r.length]; exact z,?_⟩)
 have hf:H1 s1.heap.objs.size=none:=I1.hok.fresh (Nat.le_refl _)
 refine ⟨.ref s1.heap.objs.size,upd H1 s1.heap.objs.size (.tup xs),I1.laid (t':=s1.toks) (fun b u e=>Heap.get?_push_of_some _ e) (Nat.le_refl _) ?_,rfl,q _ hf⟩
 exact ⟨z,us,r,⟨_,Heap.get?_push_size _ rfl,rfl,_,rfl⟩⟩
theorem qN (h:PA X es t):PE X (.List es pos) (qjZ t):=by
 intro pins s σ H Q I hq
 refine wpAny_List_spliced (thn (h pos pins s σ H _ I hq) fun us s1 ⟨xs,H1,I1,r,z,q⟩=>⟨by rw [← r.length]; exact z,?_⟩)
 have hf:H1 s1.heap.objs.size=none:=I1.hok.fresh (Nat.le_refl _)
 refine ⟨.ref s1.heap.objs.size,upd H1 s1.heap.objs.size (.lst xs),I1.laid (t':=s1.toks) (fun b u e=>Heap.get?_push_of_some _ e) (Nat.le_refl _) ?_,rfl,q _ hf⟩
 exact ⟨z,us,0,r,Heap.get?_push_size _ rfl⟩
end
abbrev Sp:=List V->Hp->VK->XK->Prop
abbrev CXT:=List Env->Hp->Shared->XK->Value->Shared->Prop
structure Env0 (P:Program) (w:World) (K:PySem.W.Frag) (mg:Str->Option Value) (base:Heap) (A:Around) (outer:List Env) (s:Shared) (H:Hp):Prop where
 frames:A.frames=some outer
 mod:Mod K mg base
 bs:∀ b o,base.get? b=some o->s.heap.get? b=some o∧H b=none
 bsz:base.objs.size≤s.heap.objs.size
 funs:s.heap.FunFrames base outer
 frf:∀ b∈frs outer,H b=none
 hok:HOk P w H s.heap
 bare:AllBare s.gens
def CE (outer:List Env) (P:Program) (w:World) (H:Hp) (s:Shared) (Q:VK) (u:Value) (s':Shared):Prop :=
 ∃ v H',s'.os=s.os∧AllBare s'.gens∧Un (frs outer) [] H H' s.heap s'.heap∧HOk P w H' s'.heap∧RelV v u∧Q v H'
def CR (CX:CXT) (outer:List Env) (P:Program) (w:World) (H:Hp) (s:Shared) (Q:VK) (E:XK) (r:Result) (s':Shared):Prop :=
 match r with
 | .ok (.ret u)=>CE outer P w H s Q u s'
 | .ok _=>False
 | .error e=>CX outer H s E e s'
structure qC (P:Program) (w:World) (K:PySem.W.Frag) (mg:Str->Option Value) (base:Heap) (CX:CXT) (k:Nat) (f:Addr) (fd:FuncData) (ps:List Str) (sp:Sp):Prop where
 len:∀ vs H Q E,sp vs H Q E->vs.length=ps.length
 run:∀ (A:Around) (outer:List Env) (s:Shared) (H:Hp) (args:Args) (us:List Value) (vs:List V) (Q:VK) (E:XK),Room k A->Env0 P w K mg base A outer s H->BindsTo s fd args (ps.zip us)->Vals vs us->sp vs H Q E ->
   codeAny (model P w) A (.call (.ref f) args) (CR CX outer P w H s Q E) s
theorem Env0.make {P:Program} {w:World} {K:PySem.W.Frag} {mg:Str->Option Value} {base:Heap} {A:Around} {outer:List Env} {s:Shared} {H:Hp} (e:Env0 P w K mg base A outer s H) (C:Addr) (us:List Value) (kw:List (Str×Value)) :
   Env0 P w K mg base (A.under (.builtin "type.__call__" ⟨.ref C::us,kw⟩)) outer s H:=⟨by first | exact e.frames | (simpa [Around.under,Code.envs,Code.isFrame,pushEnvs] using e.frames),e.mod,e.bs,e.bsz,e.funs,e.frf,e.hok,e.bare⟩
section
variable {X:Cx} {pins:List (Addr×Obj)} {σ:St} {H:Hp} {s s':Shared}
theorem Inv.env0 (I:Inv X pins σ H s):Env0 X.prog X.w X.K X.mg X.base X.A X.stack s H :=
 ⟨I.ok.frames,I.ok.mod,I.bs,Nat.le_trans I.ok.bsz I.sz,I.stack,I.stkFree,I.hok,I.bare⟩
theorem Inv.after {Q:VK} {u:Value} (I:Inv X pins σ H s) (h:CE X.stack X.prog X.w H s Q u s'):EP X pins σ Q u s':=by
 obtain ⟨v,H',os,bare,un,hok,r,q⟩:=h
 obtain ⟨hh,g,d,t,os'⟩:=s'
 obtain rfl:os'=s.os:=os
 exact ⟨v,H',I.call (h':=hh) (g':=g) (d':=d) (t':=t) (ch:=[]) un hok bare (fun b z=>absurd z (by simp)),r,q⟩
end
def qih (sp:Sp) (dvs:List V) (E:XK) (t:TA):TE:=fun σ H Q=>t σ H fun vs H1=>sp (vs++dvs) H1 Q E
inductive qe6 (C:Addr) (m:Str) (sp:Sp) (dvs:List V) (E:XK) (t:TA) (σ:St) (Q:VK) (x:V) (H1:Hp):Prop
 | mk (a dx fs:_) (h1:x=.ref a) (h2:H1 a=some (.ins C dx fs)) (h3:fs.lookup m=none) (h4:t σ H1 fun vs H2=>sp (x::(vs++dvs)) H2 Q E):qe6 C m sp dvs E t σ Q x H1
def Z4 (C:Addr) (m:Str) (sp:Sp) (dvs:List V) (E:XK) (ta:TE) (t:TA):TE:=fun σ H Q=>ta σ H fun x H1=>qe6 C m sp dvs E t σ Q x H1
def qie (C:Addr) (sp:Sp) (dvs:List V) (E:XK) (t:TA):TE:=fun σ H Q=>t σ H fun vs H1=>∀ x dx,H1 x=none->H1 dx=none->dx≠x ->
 sp (.ref x::(vs++dvs)) (upd (upd H1 dx (.own x)) x (.ins C dx [])) (fun v H2=>v=.non∧Q (.ref x) H2) E
def Binds (K:PySem.W.Frag) (fd:FuncData) (ps:List Str) (ds:List Value):Prop :=
 ∀ (s:Shared) (us:List Value),K.In s.heap->(us++ds).length=ps.length->BindsTo s fd ⟨us,[]⟩ (ps.zip (us++ds))
theorem Binds.all {K:PySem.W.Frag} {fd:FuncData} {ps:List Str} (h:∀ us:List Value,us.length=ps.length->bindArgs fd ⟨us,[]⟩=pure (ps.zip us)):Binds K fd ps []:=fun s us _ hl=>by
 rw [List.append_nil] at hl ⊢
 exact .of_eq (h us hl)
def qaf (CX:CXT) (X:Cx) (E:XK):Prop:=∀ (pins:List (Addr×Obj)) (σ:St) (H:Hp) (s:Shared) (e:Value) (s':Shared),Inv X pins σ H s->CX X.stack H s E e s'->X.xe e s'
section
variable {X:Cx} {CX:CXT} {k:Nat} {f C:Addr} {fd:FuncData} {ps:List Str} {sp:Sp} {dvs:List V} {ds:List Value} {E:XK} {x m:Str} {p pos apos:Pos} {e o:Expr} {es:List Expr} {ta:TE} {t:TA}
theorem qdX {pins:List (Addr×Obj)} {σ:St} {H:Hp} {s:Shared} {Q:VK} {us:List Value} {vs:List V} (F:qC X.prog X.w X.K X.mg X.base CX k f fd ps sp) (hr:Room k X.A) (hb:Binds X.K fd ps ds) (hd:Vals dvs ds) (hx:qaf CX X E)
   (I:Inv X pins σ H s) (r:Vals vs us) (h:sp (vs++dvs) H Q E):wpAny (model X.prog X.w) X.A (call (.ref f) us) (EP X pins σ Q) X.xe s:=by
 have r2:Vals (vs++dvs) (us++ds):=r.append hd
 have hl:(us++ds).length=ps.length:=by rw [← r2.length]; exact F.len _ _ _ _ h
 refine wpAny_call (codeAny_mono (F.run X.A X.stack s H ⟨us,[]⟩ (us++ds) (vs++dvs) Q E hr I.env0 (hb s us I.kIn hl) r2 h) fun r s' hq=>?_)
 cases r with
 | error e=>exact hx pins σ H s e s' I hq
 | ok fl =>
   cases fl with
   | ret u=>exact I.after hq
   | next=>exact False.elim hq
   | brk=>exact False.elim hq
   | cont=>exact False.elim hq
theorem qj (F:qC X.prog X.w X.K X.mg X.base CX k f fd ps sp) (hr:Room k X.A) (hg:Gl X x) (hm:X.mg x=some (.ref f)) (hk:PySem.W.keepIn X.K (.ref f)=true) (hb:Binds X.K fd ps ds) (hd:Vals dvs ds) (hx:qaf CX X E)
   (ha:PA X (e::es) t) (hdb:(x == ("__debug__":Str))=false:=by decide) (he:starEach (e::es) X.env=(false,eval e X.env)::starEach es X.env:=by rfl) (hpl:(backTo pos (starEach es X.env)).any (·.1)=false:=by rfl) :
   PE X (.Call (.Name x p) (e::es) [] pos) (qih sp dvs E t):=by
 intro pins s σ H Q I h
 refine wpAny_Call_Name_kw (qaW I hg hm ?_ hdb)
 refine PySem.W.callWith_K (h₀:=X.base) I.ok.mod.kin hk (thn (ha pos pins s σ H _ I h) fun us s1 ⟨vs,H1,I1,r,q⟩=>⟨I1.kIn,?_⟩) he hpl
 exact qdX F hr hb hd hx I1 r q
theorem qW {pl:Sem Bool} (he:PE X o ta) (c:Cls X.K C) (hm:qgR X.K C m f) (F:qC X.prog X.w X.K X.mg X.base CX k f fd ps sp) (hr:Room k X.A) (hb:Binds X.K fd ps ds) (hd:Vals dvs ds) (hx:qaf CX X E) (ha:PA X (e::es) t)
   (hst:starEach (e::es) X.env=(false,eval e X.env)::starEach es X.env:=by rfl) (hpl:(backTo pos (starEach es X.env)).any (·.1)=false:=by rfl)
   (ht:eval (.Call (.Attribute o m apos) (e::es) [] pos) X.env=(do
     let ov ← eval o X.env
     standAt apos.atName
     let (f,first) ← holding [ov] (getMethod ov m pl)
     callWith pos f first (backTo pos (starEach (e::es) X.env)) (backToKw pos (keywordEach [] X.env))):=by rfl) :
   PE X (.Call (.Attribute o m apos) (e::es) [] pos) (Z4 C m sp dvs E ta t):=by
 intro pins s σ H Q I h
 refine PySem.W.methodCall_KW (pl:=pl) (thn (he pins s σ H _ I h) fun u s1 zz_=>?_) ht
 obtain ⟨x,H1,I1,rx,a,dx,fs,ex,ea,l,q⟩:=zz_
 subst ex
 obtain rfl:u=Value.ref a:=rx
 refine qbH I1 ea c hm l ?_
 refine PySem.W.callWith_K (first:=[.ref a]) (h₀:=X.base) I.ok.mod.kin hm.kp (thn (ha pos pins s1 σ H1 _ I1 q) fun us s2 ⟨vs,H2,I2,r,q2⟩=>⟨I2.kIn,?_⟩) hst hpl
 exact qdX (us:=.ref a::us) (vs:=.ref a::vs) F hr hb hd hx I2 (.cons rfl r) q2
theorem qX {pl:Sem Bool} (he:PE X o ta) (c:Cls X.K C) (hm:qgR X.K C m f) (F:qC X.prog X.w X.K X.mg X.base CX k f fd ps sp) (hr:Room k X.A) (hb:Binds X.K fd ps ds) (hd:Vals dvs ds) (hx:qaf CX X E)
   (ht:eval (.Call (.Attribute o m apos) [] [] pos) X.env=(do
     let ov ← eval o X.env
     standAt apos.atName
     let (f,first) ← holding [ov] (getMethod ov m pl)
     callWith pos f first (backTo pos (starEach [] X.env)) (backToKw pos (keywordEach [] X.env))):=by rfl) :
   PE X (.Call (.Attribute o m apos) [] [] pos) (Z4 C m sp dvs E ta qeo):=by
 intro pins s σ H Q I h
 refine PySem.W.methodCall_KW (pl:=pl) (thn (he pins s σ H _ I h) fun u s1 zz_=>?_) ht
 obtain ⟨x,H1,I1,rx,a,dx,fs,ex,ea,l,q⟩:=zz_
 subst ex
 obtain rfl:u=Value.ref a:=rx
 refine qbH I1 ea c hm l ?_
 exact PySem.W.callWith_K0 (first:=[.ref a]) I1.kIn hm.kp (qdX (us:=[.ref a]) (vs:=[.ref a]) F hr hb hd hx I1 (.cons rfl .nil) q)
structure Mk (K:PySem.W.Frag) (C f:Addr):Prop where
 makes:PySem.W.makesIn K C=true
 init:PySem.W.findIn K (.ref C) "__init__"=some (some (.ref f))
 fn:PySem.W.isFn K (.ref f)=true
 kp:PySem.W.keepIn K (.ref C)=true
theorem qdW {pins:List (Addr×Obj)} {σ:St} {H:Hp} {s:Shared} {Q:VK} {us:List Value} {vs:List V} (M:Mk X.K C f) (F:qC X.prog X.w X.K X.mg X.base CX k f fd ps sp) (hr:Room (k+1) X.A) (hb:Binds X.K fd ps ds) (hd:Vals dvs ds)
   (hx:qaf CX X E) (I:Inv X pins σ H s) (r:Vals vs us)
   (h:∀ x dx,H x=none->H dx=none->dx≠x->sp (.ref x::(vs++dvs)) (upd (upd H dx (.own x)) x (.ins C dx [])) (fun v H2=>v=.non∧Q (.ref x) H2) E) :
   wpAny (model X.prog X.w) X.A (call (.ref C) us) (EP X pins σ Q) X.xe s:=by
 have hq:=h (s.heap.objs.size+1) s.heap.objs.size (I.hok.fresh (Nat.le_succ _)) (I.hok.fresh (Nat.le_refl _)) (Nat.ne_of_lt (Nat.lt_succ_self _))
 have I2:=Inv.made (C:=C) I
 have r2:Vals (V.ref (s.heap.objs.size+1)::(vs++dvs)) (Value.ref (s.heap.objs.size+1)::(us++ds)):=.cons rfl (r.append hd)
 have hl:(Value.ref (s.heap.objs.size+1)::us++ds).length=ps.length:=by
   have e:=r2.length
   rw [F.len _ _ _ _ hq] at e
   exact e.symm
 refine wpAny_call (qgD (f:=f) I.kIn M.makes M.init (beq_iff_eq.mp M.fn) (codeAny_mono (F.run _ X.stack _ _ ⟨Value.ref (s.heap.objs.size+1)::us,[]⟩ (Value.ref (s.heap.objs.size+1)::(us++ds)) _ _ E (hr.make C us [])
   (I2.env0.make C us []) (hb _ (Value.ref (s.heap.objs.size+1)::us) I2.kIn hl) r2 hq) fun r s' hq'=>?_))
 cases r with
 | error e=>exact hx pins σ _ _ e s' I2 hq'
 | ok fl =>
   cases fl with
   | ret u =>
     obtain ⟨v,H',I3,rv,ev,q3⟩:=I2.after hq'
     subst ev
     exact ⟨rv,⟨V.ref (s.heap.objs.size+1),H',I3,rfl,q3⟩⟩
   | next=>exact False.elim hq'
   | brk=>exact False.elim hq'
   | cont=>exact False.elim hq'
theorem JS (M:Mk X.K C f) (F:qC X.prog X.w X.K X.mg X.base CX k f fd ps sp) (hr:Room (k+1) X.A) (hg:Gl X x) (hm:X.mg x=some (.ref C)) (hb:Binds X.K fd ps ds) (hd:Vals dvs ds) (hx:qaf CX X E)
   (ha:PA X (e::es) t) (hdb:(x == ("__debug__":Str))=false:=by decide) (he:starEach (e::es) X.env=(false,eval e X.env)::starEach es X.env:=by rfl) (hpl:(backTo pos (starEach es X.env)).any (·.1)=false:=by rfl) :
   PE X (.Call (.Name x p) (e::es) [] pos) (qie C sp dvs E t):=by
 intro pins s σ H Q I h
 refine wpAny_Call_Name_kw (qaW I hg hm ?_ hdb)
 refine PySem.W.callWith_K (h₀:=X.base) I.ok.mod.kin M.kp (thn (ha pos pins s σ H _ I h) fun us s1 ⟨vs,H1,I1,r,q⟩=>⟨I1.kIn,?_⟩) he hpl
 exact qdW M F hr hb hd hx I1 r q
theorem qd3 (M:Mk X.K C f) (F:qC X.prog X.w X.K X.mg X.base CX k f fd ps sp) (hr:Room (k+1) X.A) (hg:Gl X x) (hm:X.mg x=some (.ref C)) (hb:Binds X.K fd ps ds) (hd:Vals dvs ds) (hx:qaf CX X E)
   (hdb:(x == ("__debug__":Str))=false:=by decide):PE X (.Call (.Name x p) [] [] pos) (qie C sp dvs E qeo):=by
 intro pins s σ H Q I h
 refine wpAny_Call_Name_kw (qaW I hg hm ?_ hdb)
 exact PySem.W.callWith_K0 I.kIn M.kp (qdW (us:=[]) M F hr hb hd hx I .nil h)
end
section
variable {X:Cx} {CX:CXT} {k:Nat} {f C:Addr} {fd:FuncData} {ps ks:List Str} {sp:Sp} {E:XK} {x m:Str} {p pos apos kpos:Pos} {e o:Expr} {es:List Expr} {kws:List Keyword} {te ta:TE} {t tk:TA} {nm:Option Str}
variable {g:List Value->List Value->List Value} {gV:List V->List V->List V}
end
structure qp (N P:List Str) (sc:Scope):Prop where
 kind:sc.kind=.function
 co:sc.isCoroutine=false
 gen:sc.isGenerator=false
 nd:N.Nodup
 pre:N.take P.length=P
 par:∀ x∈P,sc.names.lookup x=some .local∨sc.names.lookup x=some .cell
 nofree:∀ y∈sc.names,y.2≠.free
theorem qdg {kindOf:Str->Option NameKind} {x:Str}:∀ {binds:List (Str×Value)} {m:Str->Option Value},(∀ v,(x,v)∉binds)->bindL kindOf binds m x=m x
 | [],_,_=>rfl
 | (n,v)::r,m,h=>by
   unfold bindL
   rw [qdg fun w hw=>h w (List.mem_cons_of_mem _ hw)]
   split
   · have:x≠n:=by rintro rfl; exact h v List.mem_cons_self
     simp [this]
   · rfl
theorem qdi {kindOf:Str->Option NameKind} {x:Str}:∀ {binds:List (Str×Value)} {m:Str->Option Value},(∀ v,(x,v)∉binds)->bindC kindOf binds m x=m x
 | [],_,_=>rfl
 | (n,v)::r,m,h=>by
   unfold bindC
   rw [qdi fun w hw=>h w (List.mem_cons_of_mem _ hw)]
   split
   · rfl
   · have:x≠n:=by rintro rfl; exact h v List.mem_cons_self
     simp [this]
theorem qdh {kindOf:Str->Option NameKind} {x:Str} {v:Value}:∀ {P:List Str} {vs:List Value} {i:Nat} {m:Str->Option Value},P.Nodup->P[i]?=some x->vs[i]?=some v->kindOf x=some .local ->
   bindL kindOf (P.zip vs) m x=some v
 | [],_,_,_,_,h,_,_=>by simp at h
 | _::_,[],_,_,_,_,h,_=>by simp at h
 | p::P,w::vs,0,m,nd,h1,h2,hk=>by
   simp at h1 h2; subst h1; subst h2
   show bindL kindOf ((p,w)::P.zip vs) m p=_
   unfold bindL
   rw [qdg fun v hv=>(List.nodup_cons.mp nd).1 (List.of_mem_zip hv).1,if_pos hk]
   simp
 | p::P,w::vs,i+1,m,nd,h1,h2,hk=>by
   show bindL kindOf ((p,w)::P.zip vs) m x=_
   unfold bindL
   exact qdh (i:=i) (List.nodup_cons.mp nd).2 (by simpa using h1) (by simpa using h2) hk
theorem qdj {kindOf:Str->Option NameKind} {x:Str} {v:Value}:∀ {P:List Str} {vs:List Value} {i:Nat} {m:Str->Option Value},P.Nodup->P[i]?=some x->vs[i]?=some v->kindOf x≠some .local ->
   bindC kindOf (P.zip vs) m x=some v
 | [],_,_,_,_,h,_,_=>by simp at h
 | _::_,[],_,_,_,_,h,_=>by simp at h
 | p::P,w::vs,0,m,nd,h1,h2,hk=>by
   simp at h1 h2; subst h1; subst h2
   show bindC kindOf ((p,w)::P.zip vs) m p=_
   unfold bindC
   rw [qdi fun v hv=>(List.nodup_cons.mp nd).1 (List.of_mem_zip hv).1,if_neg hk]
   simp
 | p::P,w::vs,i+1,m,nd,h1,h2,hk=>by
   show bindC kindOf ((p,w)::P.zip vs) m x=_
   unfold bindC
   exact qdj (i:=i) (List.nodup_cons.mp nd).2 (by simpa using h1) (by simpa using h2) hk
def qcu (N:List Str) (vs:List V):St:=vs.map some++List.replicate (N.length - vs.length) none
def zx (CX:CXT) (P:Program) (w:World) (K:PySem.W.Frag) (mg:Str->Option Value) (base:Heap) (N:List Str) (qual:Str) (scope:Scope) (f:Addr) (cd:Value) (A:Around) (outer:List Env) (s:Shared) (H:Hp) (E:XK):Cx where
 prog:=P
 w:=w
 K:=K
 mg:=mg
 base:=base
 A:=A.deeper (envOfC qual scope s.heap.objs.size f cd)
 N:=N
 s₀:=s
 H₀:=H
 env:=envOfC qual scope s.heap.objs.size f cd
 outer:=outer
 stack:=envOfC qual scope s.heap.objs.size f cd::outer
 ex:=[]
 calm:=true
 fn:=fun _=>true
 pn:=[]
 xe:=fun e s'=>wpAny (model P w) (A.deeper (envOfC qual scope s.heap.objs.size f cd)) (leaving (envOfC qual scope s.heap.objs.size f cd) e) (fun _ s''=>CX outer H s E e s'') (fun e' s''=>CX outer H s E e' s'') s'
theorem qej {sc:Scope} {n:Nat} {x:Str} (h:sc.names.lookup x=some .cell):∃ c,(cellsFrom n sc.names []).lookup x=some c:=by
 have q:=PySem.W.cellsFrom_some sc.names n [] (.inl h)
 exact Option.isSome_iff_exists.mp q
theorem qfI {CX:CXT} {P:Program} {w:World} {K:PySem.W.Frag} {mg:Str->Option Value} {base:Heap} {N ps:List Str} {qual:Str} {scope:Scope} {f:Addr} {cd:Value} {A:Around} {outer:List Env} {s s1:Shared} {H:Hp} {E:XK} {us:List Value} {vs:List V}
   (S:qp N ps scope) (hd:A.handled=none) (e0:Env0 P w K mg base A outer s H) (hl:vs.length=ps.length) (r:Vals vs us)
   (x:InCallC s s.heap.objs.size (bindL (envOfC qual scope s.heap.objs.size f cd).kindOf (ps.zip us) fun _=>none) (cellsFrom (s.heap.objs.size+1) scope.names []) (bindC (envOfC qual scope s.heap.objs.size f cd).kindOf (ps.zip us) fun _=>none) s1) :
   Inv (zx CX P w K mg base N qual scope f cd A outer s H E) [] (qcu N vs) H s1:=by
 have hpl:ps.length≤N.length:=by have:=congrArg List.length S.pre; rw [List.length_take] at this; omega
 obtain ⟨h1,tk,rfl,hk⟩:=x.done
 have noA:∀ b:Addr,b∉(zx CX P w K mg base N qual scope f cd A outer s H E).ex:=fun b z=>absurd (show b∈([]:List Addr) from z) (by simp)
 refine ⟨⟨e0.mod,S.kind,rfl,rfl,Nat.le_refl _,fun y z c h1 h2=>?_,fun y hy=>?_,fun y c _ h=>?_,fun _=>hd,Around.frames_deeper e0.frames,.inr ⟨rfl,rfl⟩,fun b z=>absurd z (noA b),e0.bs,e0.bsz,fun b _ _=>noA b,fun b z=>absurd z (noA b),e0.funs,e0.frf⟩,
   rfl,e0.bare,Un.kept hk,⟨_,x.toInCall.ns,fun i y v h1 h2 h3=>?_⟩,fun y c h=>⟨_,x.cell y c h⟩,e0.hok.fresh (Nat.le_refl _),fun y c h=>?_,fun p hp=>absurd (show p∈([]:List (Addr×Obj)) from hp) (by simp),e0.hok.kept hk,?_⟩
 · exact name_of_addr x.apart (PySem.mem_of_lookup h1) (PySem.mem_of_lookup h2)
 · have hy:scope.names.lookup y=some .cell∨scope.names.lookup y=some .free:=hy
   rcases hy with hy | hy
   · exact qej hy
   · exact absurd rfl (S.nofree _ (PySem.mem_of_lookup hy))
 · exact Nat.le_of_lt (x.above y c (PySem.mem_of_lookup h))
 · have hi:i < vs.length:=by
     unfold qcu at h2
     by_cases hi:i < vs.length
     · exact hi
     · rw [List.getElem?_append_right (by simpa using hi)] at h2
       rw [List.getElem?_replicate] at h2
       split at h2<;>cases h2
   have ha:vs[i]?=some v:=by
     unfold qcu at h2
     rw [List.getElem?_append_left (by simpa using hi),List.getElem?_map] at h2
     cases e:vs[i]? with
     | none=>rw [e] at h2; cases h2
     | some a=>rw [e] at h2; cases h2; rfl
   obtain ⟨u,hu,rv⟩:=r.get ha
   have hp:ps[i]?=some y:=by
     rw [← S.pre,List.getElem?_take_of_lt (by omega)]; exact h1
   have ndP:ps.Nodup:=by rw [← S.pre]; exact S.nd.sublist (List.take_sublist _ _)
   refine ⟨u,rv,?_⟩
   rcases S.par y (List.mem_of_getElem? hp) with k | k
   · exact .inl ⟨k,qdh ndP hp hu k⟩
   · obtain ⟨c,e⟩:=qej (n:=s.heap.objs.size+1) k
     refine .inr ⟨.inl k,c,e,?_⟩
     have q:=x.cell y c e
     rw [qdj ndP hp hu (by show scope.names.lookup y≠_; rw [k]; decide)] at q
     exact q
 · exact e0.hok.fresh (Nat.le_of_lt (x.above y c (PySem.mem_of_lookup h)))
 · unfold qcu
   show _=N.length
   rw [List.length_append,List.length_map,List.length_replicate]
   omega
theorem qjl {CX:CXT} {P:Program} {w:World} {K:PySem.W.Frag} {mg:Str->Option Value} {base:Heap} {k:Nat} {f:Addr} {name qual:Str} {params:Arguments} {body:List Stmt} {scope:Scope} {dV kV doc pm cdv ct oc:Value} {an od:Option Addr}
   {osl:Array (Option Value)} {N ps:List Str} {sp:Sp} (lk:K.lookup f=some ⟨oc,od,.func (PySem.W.fnOf name qual params body scope dV kV doc pm an cdv ct),osl⟩) (hcd:PySem.W.codeIn K cdv qual=true) (S:qp N ps scope)
   (len:∀ vs H Q E,sp vs H Q E->vs.length=ps.length)
   (hbody:∀ (A:Around) (outer:List Env) (s:Shared) (H:Hp) (vs:List V) (Q:VK) (E:XK),Room k (A.deeper (envOfC qual scope s.heap.objs.size f cdv))->sp vs H Q E ->
     ∃ t,PSs (zx CX P w K mg base N qual scope f cdv A outer s H E) body t∧t { nx:=fun _ H'=>Q .non H',rt:=Q } (qcu N vs) H) :
   qC P w K mg base CX (k+1) f (PySem.W.fnOf name qual params body scope dV kV doc pm an cdv ct) ps sp:=by
 refine ⟨len,fun A outer s H args us vs Q E hr e0 hb r hsp=>?_⟩
 have hl:=len _ _ _ _ hsp
 have KX:K.In s.heap:=e0.mod.kin.keeps fun b o e=>(e0.bs b o e).1
 have lim:s.heap.NoLimit:=e0.mod.nolimit.keeps fun b o e=>(e0.bs b o e).1
 have hkind:∀ y∈ps.zip us,scope.names.lookup y.1=some .local∨(scope.names.lookup y.1=some .cell∧((cellsFrom (s.heap.objs.size+1) scope.names []).lookup y.1).isSome=true):=fun ⟨n,v⟩ hy=>by
   rcases S.par n (List.of_mem_zip hy).1 with q | q
   · exact .inl q
   · exact .inr ⟨q,PySem.W.cellsFrom_some _ _ _ (.inl q)⟩
 refine codeAny_call_function hr.depth (KX _ _ lk) rfl S.co S.gen rfl (PySem.W.codeRec_of KX hcd) (hb _ _ _ _ ?_)
 refine wpAny_newFunctionEnv_cells S.kind hkind fun env he s1 x=>?_
 subst he
 refine ⟨lim.keeps x.toInCall.keep,codeAny_func ?_⟩
 obtain ⟨t,ht,hq⟩:=hbody A outer s H vs Q E (hr.deeper _) hsp
 have I:Inv (zx CX P w K mg base N qual scope f cdv A outer s H E) [] (qcu N vs) H s1:=qfI S hr.hd e0 hl r x
 refine wpAny_mono (ht [] s1 (qcu N vs) H _ I hq) (fun fl s' hs=>?_) fun e s' hs=>hs
 have fin:∀ {σ':St} {H':Hp} {v:V} {u:Value},Inv (zx CX P w K mg base N qual scope f cdv A outer s H E) [] σ' H' s'->RelV v u->Q v H'->CE outer P w H s Q u s' :=
   fun {σ' H' v u} J rv q=>⟨v,H',J.os,J.bare,J.base,J.hok,rv,q⟩
 cases fl with
 | ret u =>
   obtain ⟨v,σ',H',J,rv,q⟩:=hs
   exact fin J rv q
 | next =>
   obtain ⟨σ',H',J,q⟩:=hs
   exact fin (v:=V.non) (u:=Value.none) J rfl q
 | brk =>
   obtain ⟨_,_,_,q⟩:=hs
   exact False.elim q
 | cont =>
   obtain ⟨_,_,_,q⟩:=hs
   exact False.elim q
end L2
namespace L2
open PySem PySem.Spec PyProof.Rows
section
variable {X:Cx} {x:Str} {p pos:Pos} {e:Expr} {es:List Expr} {t:TA} {id T:String} {r:List V->Hp->VK->Prop}
def tCB (r:List V->Hp->VK->Prop) (t:TA):TE:=fun σ H Q=>t σ H fun vs H1=>r vs H1 Q
theorem qq (hc:JB X (.builtin id) r) (hg:Gl X x) (hm:X.mg x=none) (hv:bootBuiltins x=some (.builtin id)) (ha:PA X (e::es) t) (hn:x≠"__name__":=by decide) (hdb:(x == ("__debug__":Str))=false:=by decide)
   (he:starEach (e::es) X.env=(false,eval e X.env)::starEach es X.env:=by rfl) (hpl:(backTo pos (starEach es X.env)).any (·.1)=false:=by rfl):PE X (.Call (.Name x p) (e::es) [] pos) (tCB r t):=by
 intro pins s σ H Q I h
 refine wpAny_Call_Name_kw (qae I hg hm hv ?_ hn hdb)
 exact PyProof.Rows.callWith_builtin1 (thn (ha pos pins s σ H _ I h) fun us s1 ⟨vs,H1,I1,r1,q1⟩=>hc pins s1 σ H1 vs us Q I1 r1 q1) he hpl
theorem Qu (hc:JB X (.type T) r) (hg:Gl X x) (hm:X.mg x=none) (hv:bootBuiltins x=some (.type T)) (ha:PA X (e::es) t) (hn:x≠"__name__":=by decide) (hdb:(x == ("__debug__":Str))=false:=by decide)
   (he:starEach (e::es) X.env=(false,eval e X.env)::starEach es X.env:=by rfl) (hpl:(backTo pos (starEach es X.env)).any (·.1)=false:=by rfl):PE X (.Call (.Name x p) (e::es) [] pos) (tCB r t):=by
 intro pins s σ H Q I h
 refine wpAny_Call_Name_kw (qae I hg hm hv ?_ hn hdb)
 exact PyProof.Rows.callWith_type1 (thn (ha pos pins s σ H _ I h) fun us s1 ⟨vs,H1,I1,r1,q1⟩=>hc pins s1 σ H1 vs us Q I1 r1 q1) he hpl
end
end L2
namespace HT
open PySem PyProof.Rows
section
open PySem.SeqAt
open PySem.AutoSeq1 (wpAny_loadPart')
open PySem.MeetsSeq PySem.MeetsSeq2 PySem.MeetsSeq3
end
section
variable {prog:Program} {w:World} {A:Around} {E:Value->Shared->Prop} {s:Shared}
def sIx (n d:Nat):Option Int->Nat
 | none=>d
 | some v=>if v < 0 then (v+(n:Int)).toNat else min v.toNat n
theorem sIx_none (n d:Nat):sIx n d none=d:=rfl
theorem sIx_nat (n d k:Nat):sIx n d (some (k:Int))=min k n:=by
 show (if (k:Int) < 0 then ((k:Int)+(n:Int)).toNat else min (k:Int).toNat n)=min k n
 rw [if_neg (by omega),Int.toNat_natCast]
end
end HT
namespace L2
open PySem PySem.Spec PyProof.Rows
abbrev TO:=St->Hp->(Option Int->Hp->Prop)->Prop
def PO (X:Cx) (e:Option Expr) (t:TO):Prop :=
 ∀ (pins:List (Addr×Obj)) (s:Shared) (σ:St) (H:Hp) (Q:Option Int->Hp->Prop),Inv X pins σ H s->t σ H Q ->
   wpAny (model X.prog X.w) X.A (evalPart e X.env) (fun u s'=>∃ o H',Inv X pins σ H' s'∧IsPart u o∧Q o H') X.xe s
def qhz:TO:=fun _ H Q=>Q none H
inductive qe3 (Q:(Option Int->Hp->Prop)) (x:V) (H1:Hp):Prop
 | mk (i:_) (h1:x=.int i) (h2:Q (some i) H1):qe3 Q x H1
def qiX (t:TE):TO:=fun σ H Q=>t σ H fun x H1=>qe3 Q x H1
section
variable {X:Cx} {e:Expr} {te:TE} {lo hi:Option Expr} {tl th:TO} {pos p2:Pos}
theorem qaM:PO X none qhz:=by
 intro pins s σ H Q I h
 rw [evalPart_none]
 exact wpAny_pure ⟨none,H,I,.none,h⟩
theorem j9 (h:PE X e te):PO X (some e) (qiX te):=by
 intro pins s σ H Q I hw
 rw [evalPart_some]
 refine thn (h pins s σ H _ I hw) fun u s1 zz_=>?_
 obtain ⟨x,H1,I1,r1,q1⟩:=zz_
 obtain ⟨i,rfl,q⟩:=q1
 obtain ⟨t,rfl⟩:=r1
 exact ⟨some i,H1,I1,.int i t,q⟩
def SlR (X:Cx) (r:V->Option Int->Option Int->Hp->VK->Prop):Prop :=
 ∀ (pins:List (Addr×Obj)) (s:Shared) (σ:St) (H:Hp) (x:V) (v vl vu:Value) (lo hi:Option Int) (sl:Addr) (Q:VK),Inv X pins σ H s->RelV x v->s.heap.IsSliceOf sl vl vu .none->IsPart vl lo->IsPart vu hi->r x lo hi H Q ->
   ∃ T id,typeLookup (.type T) "__getitem__"=pure (some (.builtin id))∧s.TypeIs v T∧wpAny (model X.prog X.w) X.A (getItem v (.ref sl)) (EP X pins σ Q) X.xe s
theorem SlR.or {r r':V->Option Int->Option Int->Hp->VK->Prop} (h:SlR X r) (h':SlR X r'):SlR X (fun x lo hi H Q=>r x lo hi H Q∨r' x lo hi H Q):=by
 intro pins s σ H x v vl vu lo hi sl Q I rx hs pl pu q
 rcases q with q | q
 · exact h pins s σ H x v vl vu lo hi sl Q I rx hs pl pu q
 · exact h' pins s σ H x v vl vu lo hi sl Q I rx hs pl pu q
def tSl (r:V->Option Int->Option Int->Hp->VK->Prop) (te:TE) (tl th:TO):TE:=fun σ H Q=>te σ H fun x H1=>tl σ H1 fun l H2=>th σ H2 fun u H3=>r x l u H3 Q
theorem jG {r:V->Option Int->Option Int->Hp->VK->Prop} (hr:SlR X r) (he:PE X e te) (hl:PO X lo tl) (hu:PO X hi th):PE X (.Subscript e (.Slice lo hi none p2) pos) (tSl r te tl th):=by
 intro pins s σ H Q I h
 refine Subscript_ (thn (he pins s σ H _ I h) fun v s1 zz_=>?_)
 obtain ⟨x,H1,I1,r1,q1⟩:=zz_
 refine wpAny_Slice (thn (hl pins s1 σ H1 _ I1 q1) fun vl s2 ⟨l,H2,I2,pl,q2⟩=>thn (hu pins s2 σ H2 _ I2 q2) fun vu s3 zz_=>?_)
 obtain ⟨u,H3,I3,pu,q3⟩:=zz_
 rw [evalPart_none]
 refine wpAny_pure ?_
 have I4:Inv X pins σ H3 { s3 with heap:=s3.heap.push { cls:=.type "slice",data:=.fields #[vl,vu,.none] } }:=I3.kept (t':=s3.toks) fun b ob q=>Heap.get?_push_of_some _ q
 obtain ⟨T,id,hT,ht,hg⟩:=hr pins { s3 with heap:=s3.heap.push { cls:=.type "slice",data:=.fields #[vl,vu,.none] } } σ H3 x v vl vu l u s3.heap.objs.size Q I4 r1 (Heap.IsSliceOf.new ..) pl pu q3
 show wpAny (model X.prog X.w) X.A (subscriptTail e (.Slice lo hi none p2) v (.ref s3.heap.objs.size)) (EP X pins σ Q) X.xe { s3 with heap:=s3.heap.push { cls:=.type "slice",data:=.fields #[vl,vu,.none] } }
 exact tail_any (ops:=[.ref s3.heap.objs.size,v]) ht hT hg (by with_unfolding_all rfl)
def qgc (xs:List V) (lo hi:Option Int):List V:=(xs.drop (HT.sIx xs.length 0 lo)).take (HT.sIx xs.length xs.length hi - HT.sIx xs.length 0 lo)
theorem qdF (xs:List V) (lo hi:Option Int):(qgc xs lo hi).length≤xs.length:=by
 unfold qgc
 refine Nat.le_trans (List.length_take_le' _ _) ?_
 rw [List.length_drop]
 exact Nat.sub_le _ _
end
end L2
namespace L2
open PySem PySem.Spec PyProof.Rows
def ixN (n:Nat) (i:Int):Option Nat:=if 0≤i then (if i < n then some i.toNat else none) else if -(n:Int)≤i then some (i+n).toNat else none
def atI {α:Type} (xs:List α) (i:Int):Option α:=(ixN xs.length i).bind fun j=>xs[j]?
theorem qfG {n:Nat} {i:Int} {j:Nat} (h:ixN n i=some j):seqIndex? i n=some j∧j < n∧-(n:Int)≤i∧i < n:=by
 unfold ixN at h
 by_cases h0:0≤i
 · rw [if_pos h0] at h
   by_cases h1:i < n
   · rw [if_pos h1] at h
     have e:i.toNat=j:=Option.some.inj h
     exact ⟨by rw [seqIndex_of h0 h1,e],by omega,by omega,h1⟩
   · rw [if_neg h1] at h; cases h
 · rw [if_neg h0] at h
   by_cases h1:-(n:Int)≤i
   · rw [if_pos h1] at h
     have e:(i+n).toNat=j:=Option.some.inj h
     exact ⟨by rw [seqIndex_neg (by omega) h1,e],by omega,h1,by omega⟩
   · rw [if_neg h1] at h; cases h
theorem qdH {α:Type} {xs:List α} {i:Int} {v:α} (h:atI xs i=some v):∃ j,seqIndex? i xs.length=some j∧xs[j]?=some v∧j < xs.length∧-(xs.length:Int)≤i∧i < xs.length:=by
 unfold atI at h
 cases e:ixN xs.length i with
 | none=>rw [e] at h; cases h
 | some j =>
   rw [e] at h
   obtain ⟨h1,h2,h3,h4⟩:=qfG e
   exact ⟨j,h1,h,h2,h3,h4⟩
theorem QL {α:Type} {xs:List α} {j:Nat} {v:α} (h:xs[j]?=some v):atI xs (j:Int)=some v:=by
 have hj:j < xs.length:=(List.getElem?_eq_some_iff.mp h).1
 have e:ixN xs.length (j:Int)=some j:=by
   unfold ixN
   rw [if_pos (by omega),if_pos (by omega)]; simp
 unfold atI; rw [e]; exact h
def qh4 (b:Expr):Prop:=∀ o i,subscripted b false o i=operate [o,i] (getItem o i)
def IxR (X:Cx) (r:R2):Prop :=
 ∀ (value slice:Expr) (pins:List (Addr×Obj)) (s:Shared) (σ:St) (H:Hp) (x y:V) (v u:Value) (Q:VK),Inv X pins σ H s->RelV x v->RelV y u->r x y H Q ->
   subscripted slice false v u=operate [v,u] (getItem v u)->wpAny (model X.prog X.w) X.A (subscriptTail value slice v u) (EP X pins σ Q) X.xe s
def MtR (X:Cx) (id:String) (r:V->List V->Hp->VK->Prop):Prop :=
 ∀ (pins:List (Addr×Obj)) (s:Shared) (σ:St) (H:Hp) (x:V) (xs:List V) (v:Value) (us:List Value) (Q:VK),Inv X pins σ H s->RelV x v->Vals xs us->r x xs H Q ->
   wpAny (model X.prog X.w) X.A (call (.builtin id) (v::us)) (EP X pins σ Q) X.xe s
section
variable {X:Cx} {a b:Expr} {ta tb:TE} {pos:Pos}
theorem IxR.or {r r':R2} (h:IxR X r) (h':IxR X r'):IxR X (fun x y H Q=>r x y H Q∨r' x y H Q):=by
 intro value slice pins s σ H x y v u Q I rx ry q hs
 rcases q with q | q
 · exact h value slice pins s σ H x y v u Q I rx ry q hs
 · exact h' value slice pins s σ H x y v u Q I rx ry q hs
theorem qD {r:R2} (hr:IxR X r) (ha:PE X a ta) (hb:PE X b tb) (hs:qh4 b):PE X (.Subscript a b pos) (tOp r ta tb):=by
 intro pins s σ H Q I h
 exact Subscript_ (qjp ha hb I h fun v u s2 x y H2 I2 rx ry q=>hr a b pins s2 σ H2 x y v u Q I2 rx ry q (hs _ _))
inductive qg3 (K:PySem.W.Frag) (x:V) (y:V) (H:Hp) (Q:VK):Prop
 | mk (p xs i v:_) (h1:x=.ref p) (h2:y=.int i) (h3:SqL K H p xs) (h4:atI xs i=some v) (h5:Q v H):qg3 K x y H Q
def qjD (K:PySem.W.Frag):R2:=fun x y H Q=>qg3 K x y H Q
inductive qg2 (K:PySem.W.Frag) (x:V) (y:V) (H:Hp) (Q:VK):Prop
 | mk (p xs i v:_) (h1:x=.ref p) (h2:y=.int i) (h3:SqT K H p xs) (h4:atI xs i=some v) (h5:Q v H):qg2 K x y H Q
def qjB (K:PySem.W.Frag):R2:=fun x y H Q=>qg2 K x y H Q
def qjC:R2:=fun x y H Q=>∃ z i c,x=.str z∧y=.int i∧z.length≤sizeLine∧atI z.cps.toList i=some c∧Q (.str ⟨#[c]⟩) H
theorem ix_list:IxR X (qjD X.K):=by
 intro value slice pins s σ H x y v u Q I rx ry h hs
 obtain ⟨p,xs,i,z,rfl,rfl,hq,he,q⟩:=h
 cases rx
 obtain ⟨t,rfl⟩:=ry
 obtain ⟨its,r,pl,hz⟩:=I.list hq
 obtain ⟨j,h1,h2,h3,h4,h5⟩:=qdH he
 obtain ⟨w,ew,rw'⟩:=r.get h2
 have hl:=r.length
 have hn:=qbE
 have fin:EP X pins σ Q w s:=⟨z,H,I,rw',q⟩
 by_cases h0:0≤i
 · have hj:i.toNat=j:=by
     rw [seqIndex_of h0 h5] at h1
     exact Option.some.inj h1
   exact item_listR pl.isList h0 (by omega) (by rw [hj]; simpa using ew) fin hs
 · have hj:(i+(its.toArray.size:Int)).toNat=j:=by
     rw [seqIndex_neg (by omega) h4] at h1
     rw [List.size_toArray,← hl]
     exact Option.some.inj h1
   exact subscriptTail_builtinR (x:=w) pl.isList.typeIs slot_list_getitem.lookup
     (wpAny_getItem_list_neg (Q:=fun r s'=>r=w∧EP X pins σ Q r s') pl.isList (by omega) (by rw [List.size_toArray]<;>omega) (by omega) (by rw [hj]; simpa using ew) ⟨rfl,fin⟩) hs
theorem ix_tup:IxR X (qjB X.K):=by
 intro value slice pins s σ H x y v u Q I rx ry h hs
 obtain ⟨p,xs,i,z,rfl,rfl,hq,he,q⟩:=h
 cases rx
 obtain ⟨t,rfl⟩:=ry
 obtain ⟨its,r,pl,hz⟩:=I.tuple hq
 obtain ⟨j,h1,h2,h3,h4,h5⟩:=qdH he
 obtain ⟨w,ew,rw'⟩:=r.get h2
 have hl:=r.length
 have hn:=qbE
 have fin:EP X pins σ Q w s:=⟨z,H,I,rw',q⟩
 exact subscriptTail_builtinR (x:=w) pl.typeIs slot_tuple_getitem.lookup
   (getItem_tuple (j:=j) (Q:=fun r s'=>r=w∧EP X pins σ Q r s') pl (by omega) (by omega) (by rw [List.size_toArray,← hl]; exact h1) (by simpa using ew) ⟨rfl,fin⟩) hs
theorem qiE:IxR X qjC:=by
 intro value slice pins s σ H x y v u Q I rx ry h hs
 obtain ⟨z,i,c,rfl,rfl,hz,he,q⟩:=h
 obtain ⟨t,rfl⟩:=rx
 obtain ⟨t',rfl⟩:=ry
 obtain ⟨j,h1,h2,h3,h4,h5⟩:=qdH he
 have hl:z.cps.toList.length=z.length:=by simp [Str.length]
 rw [hl] at h1 h4 h5
 have hn:=qbE
 exact tail_any (typeIs_str s z t) slot_str_getitem.lookup (getItem_str (c:=c) (by
   have e1:decide (i < -(2 ^ 63:Int))=false:=decide_eq_false (by omega)
   have e2:decide (i ≥ 2 ^ 63)=false:=decide_eq_false (by omega)
   rw [e1,e2,Bool.or_false]) (by rw [h1]; simpa using h2) ⟨.str ⟨#[c]⟩,H,I.tok _,⟨_,rfl⟩,q⟩) hs
def rIx (K:PySem.W.Frag):R2:=fun x y H Q=>qjD K x y H Q∨qjB K x y H Q∨qjC x y H Q
theorem qr:IxR X (rIx X.K):=ix_list.or (ix_tup.or qiE)
theorem qeD (its:List Value) (n j:Nat) (u:Value):Obj.mapSeq (·.setIfInBounds j u) { cls:=.type "list",data:=.seq its.toArray n }={ cls:=.type "list",data:=.seq (its.set j u).toArray n }:=by
 simp [Obj.mapSeq]
theorem Inv.lst {pins:List (Addr×Obj)} {σ:St} {H:Hp} {s:Shared} {p:Addr} {xs:List V} (I:Inv X pins σ H s) (h:H p=some (.lst xs)) :
   ∃ (its:List Value) (n:Nat),Vals xs its∧s.heap.get? p=some { cls:=.type "list",data:=.seq its.toArray n }∧xs.length≤sizeLine:=by
 obtain ⟨z,its,n,r,e⟩:=I.hok p _ h
 exact ⟨its,n,r,e,z⟩
theorem Inv.lstUpd {pins:List (Addr×Obj)} {σ:St} {H:Hp} {s:Shared} {p:Addr} {xs ys:List V} {its its':List Value} {n n':Nat} {f:Obj->Obj} (I:Inv X pins σ H s) (h:H p=some (.lst xs))
   (ho:s.heap.get? p=some { cls:=.type "list",data:=.seq its.toArray n }) (hf:f { cls:=.type "list",data:=.seq its.toArray n }={ cls:=.type "list",data:=.seq its'.toArray n' }) (r:Vals ys its') (hz:ys.length≤sizeLine) (t:Nat) :
   Inv X pins σ (upd H p (.lst ys)) { s with heap:=s.heap.update p f,toks:=t }:=by
 have e:(s.heap.update p f).get? p=some { cls:=.type "list",data:=.seq its'.toArray n' }:=by
   rw [Heap.get?_update_self f ho (by rw [hf]<;>rfl),hf]
 refine I.write (x:=p) (e:=p) (by rw [h]; trivial) (.inl rfl) (fun b u hb q=>(Heap.get?_update_other _ _ (Ne.symm hb)).trans q) ⟨_,e⟩ ?_
 exact ⟨hz,its',n',r,e⟩
inductive qfj (o:V) (i:V) (v:V) (H:Hp) (Q:(Hp->Prop)):Prop
 | mk (p xs k j:_) (h1:o=.ref p) (h2:i=.int k) (h3:H p=some (.lst xs)) (h4:ixN xs.length k=some j) (h5:Q (upd H p (.lst (xs.set j v)))):qfj o i v H Q
def qi7:V->V->V->Hp->(Hp->Prop)->Prop:=fun o i v H Q=>qfj o i v H Q
theorem jy:qjS X qi7:=by
 intro pins s σ H o i v ov iv u Q I ro ri rv h
 obtain ⟨p,xs,k,j,rfl,rfl,hp,hj,q⟩:=h
 cases ro
 obtain ⟨t,rfl⟩:=ri
 obtain ⟨its,n,r,ho,hz⟩:=I.lst hp
 obtain ⟨h1,h2,h3,h4⟩:=qfG hj
 have hl:=r.length
 have hn:=qbE
 have I':Inv X pins σ (upd H p (.lst (xs.set j v))) { s with heap:=s.heap.update p (Obj.mapSeq (·.setIfInBounds j u)) } :=
   I.lstUpd hp ho (qeD its n j u) (r.set rv j) (by rw [List.length_set]; exact hz) s.toks
 by_cases h0:0≤k
 · have hk:k.toNat=j:=by
     rw [seqIndex_of h0 h4] at h1
     exact Option.some.inj h1
   exact PySem.W.ki_setAt ho h0 (by omega) (by rw [List.size_toArray,← hl]; exact h4) (by rw [hk]; exact ⟨_,I',q⟩)
 · have hk:(k+(its.toArray.size:Int)).toNat=j:=by
     rw [seqIndex_neg (by omega) h3] at h1
     rw [List.size_toArray,← hl]
     exact Option.some.inj h1
   exact PySem.W.ki_setBack ho (by omega) (by rw [List.size_toArray,← hl]; exact h3) (by omega) (by rw [hk]; exact ⟨_,I',q⟩)
theorem tn_ (n:Nat):((-1:Int)+(n:Int)).toNat=n - 1:=by
 rw [Int.add_comm]; exact Int.toNat_sub n 1
theorem qgX (i:Int) (n:Nat):max 0 (min (if i < 0 then i+(n:Int) else i) (n:Int))=((if i < 0 then (i+(n:Int)).toNat else min i.toNat n:Nat):Int):=by
 by_cases h:i < 0
 · have h':i+(n:Int)≤n:=by have:=Int.add_le_add_right (Int.le_of_lt h) n; rwa [Int.zero_add] at this
   rw [if_pos h,if_pos h,Int.min_eq_left h',Int.ofNat_toNat,Int.max_comm]
 · obtain ⟨k,rfl⟩:=Int.eq_ofNat_of_zero_le (Int.not_lt.mp h)
   rw [if_neg h,if_neg h,Int.toNat_natCast]
   rcases Nat.le_total k n with g | g
   · rw [Nat.min_eq_left g,Int.min_eq_left (Int.ofNat_le.mpr g),Int.max_eq_right (Int.natCast_nonneg _)]
   · rw [Nat.min_eq_right g,Int.min_eq_right (Int.ofNat_le.mpr g),Int.max_eq_right (Int.natCast_nonneg _)]
theorem qcD (lo hi:Option Int) (n:Nat):(sliceBounds lo hi none n).1=((HT.sIx n 0 lo:Nat):Int)∧(sliceBounds lo hi none n).2.1=((HT.sIx n n hi:Nat):Int)∧(sliceBounds lo hi none n).2.2=1:=by
 refine ⟨?_,?_,rfl⟩
 · cases lo with
   | none=>simp [sliceBounds,HT.sIx]
   | some i =>
     simp only [sliceBounds,HT.sIx,Option.getD_none,show (1:Int) > 0 by decide,if_true]
     exact qgX i n
 · cases hi with
   | none=>simp [sliceBounds,HT.sIx]
   | some i =>
     simp only [sliceBounds,HT.sIx,Option.getD_none,show (1:Int) > 0 by decide,if_true]
     exact qgX i n
theorem qbR (its:List Value) (lo hi:Option Int):slicePick its.toArray lo hi none=((its.drop (HT.sIx its.length 0 lo)).take (HT.sIx its.length its.length hi - HT.sIx its.length 0 lo)).toArray:=by
 obtain ⟨h1,h2,h3⟩:=qcD lo hi its.toArray.size
 unfold slicePick
 rw [h1,h2,h3]
 simp only [sliceRange_one,pick_run,List.size_toArray]<;>rfl
inductive qgZ (K:PySem.W.Frag) (x:V) (lo:Option Int) (hi:Option Int) (H:Hp) (Q:VK):Prop
 | mk (a xs:_) (h1:x=.ref a) (h2:SqL K H a xs) (h3:∀ p,H p=none->Q (.ref p) (upd H p (.lst (qgc xs lo hi)))):qgZ K x lo hi H Q
def qjz (K:PySem.W.Frag):V->Option Int->Option Int->Hp->VK->Prop:=fun x lo hi H Q=>qgZ K x lo hi H Q
theorem sl_list:SlR X (qjz X.K):=by
 intro pins s σ H x v vl vu lo hi sl Q I rx hs pl pu h
 obtain ⟨a,xs,rfl,hx,q⟩:=h
 cases rx
 obtain ⟨its,r,ht,hz⟩:=I.list hx
 have hlen:=r.length
 refine ⟨"list",_,slot_list_getitem.lookup,ht.isList.typeIs,?_⟩
 refine wpAny_getItem_list_slice ht.isList hs pl pu .none (by simp) ?_ (by rw [List.size_toArray]<;>omega)
 rw [qbR,← hlen]
 refine ⟨.ref s.heap.objs.size,_,I.laid (t':=s.toks) (o:=.lst (qgc xs lo hi)) (fun b ob q=>Heap.get?_push_of_some _ q) (Nat.le_refl _) ?_,rfl,q _ (I.hok.fresh (Nat.le_refl _))⟩
 exact ⟨Nat.le_trans (qdF xs lo hi) hz,_,0,(r.drop (HT.sIx xs.length 0 lo)).take (HT.sIx xs.length xs.length hi - HT.sIx xs.length 0 lo),Heap.get?_push_size _ rfl⟩
def qdc:V->Bool
 | .non=>true
 | .bl _=>true
 | .int _=>true
 | .str _=>true
 | _=>false
def eqV:V->V->Bool
 | .non,.non=>true
 | .bl a,.bl b=>a == b
 | .bl a,.int b=>(if a then 1 else 0) == b
 | .int a,.bl b=>a == (if b then 1 else 0)
 | .int a,.int b=>a == b
 | .str a,.str b=>a == b
 | _,_=>false
theorem qiJ {A:Around} {s:Shared} {y x:V} {u v:Value} (ry:RelV y u) (rx:RelV x v) (fy:qdc y=true) (fx:qdc x=true):SeqAt.EqAt A s u v (eqV y x):=by
 cases y with
 | non =>
   cases ry
   cases x with
   | non=>cases rx; exact SeqAt.EqAt.same _
   | bl b=>cases rx; exact SeqAt.EqAt.none_bool b
   | int b=>obtain ⟨t,rfl⟩:=rx; exact SeqAt.EqAt.none_int b t
   | str b=>obtain ⟨t,rfl⟩:=rx; exact SeqAt.EqAt.none_str b t
   | _=>exact absurd (show false=true from fx) Bool.false_ne_true
 | bl a =>
   cases ry
   cases x with
   | non=>cases rx; exact SeqAt.EqAt.bool_none a
   | bl b=>cases rx; exact SeqAt.EqAt.bool_bool a b
   | int b=>obtain ⟨t,rfl⟩:=rx; exact SeqAt.EqAt.bool_int a b t
   | str b=>obtain ⟨t,rfl⟩:=rx; exact SeqAt.EqAt.bool_str a b t
   | _=>exact absurd (show false=true from fx) Bool.false_ne_true
 | int a =>
   obtain ⟨t',rfl⟩:=ry
   cases x with
   | non=>cases rx; exact SeqAt.EqAt.int_none a t'
   | bl b=>cases rx; exact SeqAt.EqAt.int_bool a t' b
   | int b=>obtain ⟨t,rfl⟩:=rx; exact SeqAt.EqAt.int_int a t' b t
   | str b=>obtain ⟨t,rfl⟩:=rx; exact SeqAt.EqAt.int_str a t' b t
   | _=>exact absurd (show false=true from fx) Bool.false_ne_true
 | str a =>
   obtain ⟨t',rfl⟩:=ry
   cases x with
   | non=>cases rx; exact SeqAt.EqAt.str_none a t'
   | bl b=>cases rx; exact SeqAt.EqAt.str_bool a t' b
   | int b=>obtain ⟨t,rfl⟩:=rx; exact SeqAt.EqAt.str_int a t' b t
   | str b=>obtain ⟨t,rfl⟩:=rx; exact SeqAt.EqAt.str_str a t' b t
   | _=>exact absurd (show false=true from fx) Bool.false_ne_true
 | _=>exact absurd (show false=true from fy) Bool.false_ne_true
def eqU (x:V) (u:Value):Bool:=match u with
 | .none=>eqV .non x
 | .bool b=>eqV (.bl b) x
 | .int i _=>eqV (.int i) x
 | .str z _=>eqV (.str z) x
 | _=>false
theorem qhm {x y:V} {u:Value} (r:RelV y u) (f:qdc y=true):eqU x u=eqV y x:=by
 cases y with
 | non=>cases r; rfl
 | bl b=>cases r; rfl
 | int i=>obtain ⟨t,rfl⟩:=r; rfl
 | str z=>obtain ⟨t,rfl⟩:=r; rfl
 | _=>exact absurd (show false=true from f) Bool.false_ne_true
theorem qdI {x:V}:∀ {xs:List V} {us:List Value},Vals xs us->xs.all qdc=true->us.any (eqU x)=xs.any fun y=>eqV y x
 | _,_,.nil,_=>rfl
 | y::xs,u::us,.cons r t,f=>by
   rw [List.all_cons,Bool.and_eq_true] at f
   rw [List.any_cons,List.any_cons,qhm r f.1,qdI t f.2]
theorem qcg {A:Around} {s:Shared} {x:V} {v:Value} (rx:RelV x v) (fx:qdc x=true):∀ {xs:List V} {us:List Value},Vals xs us->xs.all qdc=true->∀ u∈us,SeqAt.EqAt A s u v (eqU x u)
 | _,_,.nil,_=>fun u hu=>by cases hu
 | y::xs,u::us,.cons r t,f=>fun u' hu=>by
   rw [List.all_cons,Bool.and_eq_true] at f
   rcases List.mem_cons.mp hu with rfl | hu
   · rw [qhm r f.1]; exact qiJ r rx f.1 fx
   · exact qcg rx fx t f.2 u' hu
def inV (x:V) (xs:List V):Bool:=xs.any fun y=>eqV y x
inductive qil (K:PySem.W.Frag) (neg:Bool) (x:V) (y:V) (H:Hp) (Q:VK):Prop
 | mk (p xs:_) (h1:y=.ref p) (h2:(SqL K H p xs∨SqT K H p xs)) (h3:qdc x=true) (h4:xs.all qdc=true) (h5:Q (.bl (if neg then !inV x xs else inV x xs)) H):qil K neg x y H Q
def rIn (K:PySem.W.Frag) (neg:Bool):R2:=fun x y H Q=>qil K neg x y H Q
theorem qcW:OpR X (compareOp .In) (rIn X.K false):=by
 intro pins s σ H x y v u Q I rx ry h
 obtain ⟨p,xs,rfl,hq,fx,fs,q⟩:=h
 cases ry
 rcases hq with hq | hq
 · obtain ⟨its,r,pl,hz⟩:=I.list hq
   refine SeqAt.in_listAt (eqU x) pl.isList (fun w hw=>qcg rx fx r fs w (by simpa using hw)) ⟨.bl _,H,I,rfl,?_⟩
   rw [show its.toArray.any (eqU x)=its.any (eqU x) by simp,qdI r fs]
   exact q
 · obtain ⟨its,r,pl,hz⟩:=I.tuple hq
   refine SeqAt.in_tupleAt (eqU x) pl (fun w hw=>qcg rx fx r fs w (by simpa using hw)) ⟨.bl _,H,I,rfl,?_⟩
   rw [show its.toArray.any (eqU x)=its.any (eqU x) by simp,qdI r fs]
   exact q
theorem Zo:JB X (.type "list") (fun xs H Q=>∃ p ys,xs=[.ref p]∧(SqL X.K H p ys∨SqT X.K H p ys)∧∀ l,H l=none->Q (.ref l) (upd H l (.lst ys))):=by
 intro pins s σ H xs us Q I r h
 obtain ⟨p,ys,rfl,hq,q⟩:=h
 obtain ⟨u,rfl,rx⟩:=qar r
 cases rx
 have fin:∀ (its:List Value),Vals ys its->ys.length≤sizeLine->∀ (h':Heap) (c':Nat),(∀ b o',s.heap.get? b=some o'->h'.get? b=some o') ->
     h'.get? s.heap.objs.size=some { cls:=.type "list",dict:=none,data:=.seq its.toArray c',slots:=#[] }->EP X pins σ Q (.ref s.heap.objs.size) { s with heap:=h' }:=fun its r' hz h' c' kp e =>
   ⟨.ref s.heap.objs.size,_,I.laid (t':=s.toks) kp (Nat.le_refl _) (show ObjOk X.prog X.w _ h' _ (.lst ys) from ⟨hz,its,c',r',e⟩),rfl,q _ (I.hok.fresh (Nat.le_refl _))⟩
 rcases hq with hq | hq
 · obtain ⟨its,r',pl,hz⟩:=I.list hq
   have hlen:=r'.length
   obtain ⟨o,ho,hc,n,hd⟩:=pl.isList
   exact call_list_seq p (.inl rfl) ho hc hd (fun h' c' kp e=>fin its r' hz h' c' kp e) (by simp only [List.size_toArray]<;>omega)
 · obtain ⟨its,r',pl,hz⟩:=I.tuple hq
   have hlen:=r'.length
   obtain ⟨o,ho,hc,n,hd⟩:=pl
   exact call_list_seq p (.inr rfl) ho hc hd (fun h' c' kp e=>fin its r' hz h' c' kp e) (by simp only [List.size_toArray]<;>omega)
def tyV (K:PySem.W.Frag) (T:String) (x:V) (H:Hp):Prop:=match x with
 | .str _=>T="str"
 | .int _=>T="int"
 | .ref p=>(T="list"∧∃ xs,SqL K H p xs)∨(T="tuple"∧∃ o,K.lookup p=some o∧o.cls=.type "tuple"∧o.dict=none) ∨
     (T="dict"∧((∃ kvs,H p=some (.dK kvs))∨∃ kvs,H p=some (.dT kvs)))∨(T="set"∧∃ S n,H p=some (.set S n))
 | _=>False
theorem qh9 {pins:List (Addr×Obj)} {σ:St} {H:Hp} {s:Shared} {T:String} {x:V} {v:Value} (I:Inv X pins σ H s) (r:RelV x v) (ty:tyV X.K T x H) :
   s.TypeIs v T∧∀ a,v=.ref a->∃ ob,s.heap.get? a=some ob∧ob.dict=none:=by
 cases x with
 | str z =>
   obtain ⟨t,rfl⟩:=r
   cases (show T="str" from ty)
   exact ⟨typeIs_str s z t,fun _ e=>nomatch e⟩
 | int i =>
   obtain ⟨t,rfl⟩:=r
   cases (show T="int" from ty)
   exact ⟨typeIs_int s i t,fun _ e=>nomatch e⟩
 | ref p =>
   cases r
   rcases ty with ⟨rfl,xs,hq⟩ | ⟨rfl,o,hk,hc,hd⟩ | ⟨rfl,hk⟩ | ⟨rfl,S,n,hk⟩
   · obtain ⟨its,_,pl,_⟩:=I.list hq
     refine ⟨pl.isList.typeIs,fun a e=>?_⟩
     cases e
     obtain ⟨o,n,e,c,hd,_⟩:=pl
     exact ⟨o,e,hd⟩
   · refine ⟨⟨o,I.kIn p o hk,hc⟩,fun a e=>?_⟩
     cases e
     exact ⟨o,I.kIn _ o hk,hd⟩
   · have z:∃ o,s.heap.get? p=some o∧o.ExactDict:=by
       rcases hk with ⟨kvs,hk⟩ | ⟨kvs,hk⟩
       · obtain ⟨_,_,_,_,o,_,_,e,ex,_⟩:=I.hok p _ hk
         exact ⟨o,e,ex⟩
       · obtain ⟨_,_,_,_,o,_,_,e,ex,_⟩:=I.hok p _ hk
         exact ⟨o,e,ex⟩
     obtain ⟨o,e,ex⟩:=z
     refine ⟨⟨o,e,ex.1⟩,fun a e2=>?_⟩
     cases e2
     exact ⟨o,e,ex.2.1⟩
   · obtain ⟨o,_,_,_,e,ex,_⟩:=I.hok p _ hk
     refine ⟨⟨o,e,ex.1⟩,fun a e2=>?_⟩
     cases e2
     exact ⟨o,e,ex.2.1⟩
 | _=>exact False.elim ty
def tBM (K:PySem.W.Frag) (T:String) (r:V->List V->Hp->VK->Prop) (to:TE) (t:TA):TE:=fun σ H Q=>to σ H fun x H1=>tyV K T x H1∧t σ H1 fun xs H2=>r x xs H2 Q
variable {o e:Expr} {es:List Expr} {to:TE} {t:TA} {name:Str} {apos cpos:Pos} {T id:String} {r:V->List V->Hp->VK->Prop}
theorem Ja (pa:PlainAttrs T) (slot:Slot T name id) (hty:typeOf (.builtin id)=pure (.type "method_descriptor")) (hm:MtR X id r) (ho:PE X o to) (ha:PA X (e::es) t)
   (hbase:attributeBase o name X.env (eval o X.env)=eval o X.env:=by rfl)
   (hfew:((backTo cpos (starEach (e::es) X.env)).all (fun x=>!x.1) && (backToKw cpos (keywordEach [] X.env)).all (fun x=>x.1.isSome)
     && decide ((e::es).length+([]:List Keyword).length+(if ([]:List Keyword).isEmpty then 0 else 1) < 30))=true:=by rfl)
   (hline:(apos.endLine == cpos.line)=true:=by rfl) (hs:starEach (e::es) X.env=(false,eval e X.env)::starEach es X.env:=by rfl) (hplain:(backTo cpos (starEach es X.env)).any (·.1)=false:=by rfl) :
   PE X (.Call (.Attribute o name apos) (e::es) [] cpos) (tBM X.K T r to t):=by
 intro pins s σ H Q I h
 refine wpAny_Call_method_late hbase hfew hline rfl (thn (ho pins s σ H _ I h) fun v s1 zz_=>?_)
 obtain ⟨x,H1,I1,r1,ty,q1⟩:=zz_
 obtain ⟨h1,h2⟩:=qh9 I1 r1 ty
 refine ⟨T,id,pa,slot,hty,h1,h2,?_⟩
 have hA:=ha cpos pins s1 σ H1 _ I1 q1
 rw [hs] at hA ⊢
 refine Calls.callWith_builtin (by show (false || (backTo cpos (starEach es X.env)).any (·.1))=false; rw [hplain]<;>rfl) (Calls.evalArgs_plain ?_)
 exact thn hA fun us s2 ⟨vs,H2,I2,r2,q2⟩=>hm pins s2 σ H2 x vs v us Q I2 r1 r2 q2
end
end L2
namespace L2
open PySem PySem.Spec PyProof.Rows
def MtM (X:Cx) (id:String) (r:V->List V->Hp->VK->Prop):Prop :=
 ∀ (pins:List (Addr×Obj)) (s:Shared) (σ:St) (H:Hp) (x:V) (xs:List V) (v:Value) (us:List Value) (Q:VK),Inv X pins σ H s->RelV x v->Vals xs us->r x xs H Q ->
   wpAny (model X.prog X.w) X.A (call (.builtin id) (v::us)) (EP X pins σ Q) X.xe s
theorem Vals.one {x:V} {us:List Value} (h:Vals [x] us):∃ u,us=[u]∧RelV x u:=by
 cases h with
 | cons r t=>cases t; exact ⟨_,rfl,r⟩
section
variable {X:Cx} {pins:List (Addr×Obj)} {σ:St} {H:Hp} {s:Shared} {l b:Addr} {xs ys zs:List V}
theorem Inv.lset {its its':List Value} {n:Nat} {f:Array Value->Array Value} {t':Nat} (I:Inv X pins σ H s) (hH:H l=some (.lst xs))
   (e:s.heap.get? l=some { cls:=.type "list",data:=.seq its.toArray n }) (hf:f its.toArray=its'.toArray) (hv:Vals ys its') (hz:ys.length≤sizeLine) :
   Inv X pins σ (upd H l (.lst ys)) { s with heap:=s.heap.update l (Obj.mapSeq f),toks:=t' }:=by
 have q:=PySem.IsL.update e f
 rw [hf] at q
 refine I.write (x:=l) (e:=l) (by rw [hH]; exact trivial) (.inl rfl) (fun b' u hb hu=>(Heap.get?_update_other s.heap (Obj.mapSeq f) (Ne.symm hb)).trans hu) ⟨_,q⟩ ?_
 exact ⟨hz,its',_,hv,q⟩
theorem Inv.lnew {its:List Value} {t':Nat} (I:Inv X pins σ H s) (hv:Vals ys its) (hz:ys.length≤sizeLine) :
   Inv X pins σ (upd H s.heap.objs.size (.lst ys)) { s with heap:=s.heap.push { cls:=.type "list",data:=.seq its.toArray },toks:=t' } :=
 I.laid (fun _ _ q=>Heap.get?_push_of_some _ q) (Nat.le_refl _) ⟨hz,its,0,hv,Heap.get?_push_size _ rfl⟩
theorem Inv.fresh (I:Inv X pins σ H s):H s.heap.objs.size=none:=I.hok.fresh (Nat.le_refl _)
theorem Inv.lstM (I:Inv X pins σ H s) (hH:H l=some (.lst xs)):xs.length≤sizeLine∧∃ (its:List Value) (n:Nat),Vals xs its∧xs.length=its.length∧s.heap.get? l=some { cls:=.type "list",data:=.seq its.toArray n }:=by
 obtain ⟨z,its,n,r,e⟩:=I.hok l _ hH
 exact ⟨z,its,n,r,r.length,e⟩
end
section
variable {X:Cx}
inductive qcR (x:V) (vs:List V) (H:Hp) (Q:VK):Prop
 | mk (l xs y:_) (h1:x=.ref l) (h2:vs=[y]) (h3:H l=some (.lst xs)) (h4:xs.length < sizeLine) (h5:Q .non (upd H l (.lst (xs++[y])))):qcR x vs H Q
def qhK:V->List V->Hp->VK->Prop:=fun x vs H Q=>qcR x vs H Q
theorem zn:MtM X "list.append" qhK:=by
 intro pins s σ H x vs v us Q I rx rv h
 obtain ⟨l,xs,y,rfl,rfl,hH,hz,q⟩:=h
 cases rx
 obtain ⟨u,rfl,ru⟩:=rv.one
 obtain ⟨z,its,n,r,hl,e⟩:=I.lstM hH
 refine call_meets F.slot_list_append ⟨_,e,rfl⟩ F.entry_list_append (F.args_list_append_2 _ _) (PySem.list_append l its.toArray n u (by rw [List.size_toArray]; omega)) ⟨e,?_⟩
 refine ⟨.non,_,I.lset (its':=its++[u]) hH e (by simp) (r.append (.cons ru .nil)) ?_,rfl,q⟩
 rw [List.length_append,List.length_singleton]
 omega
inductive qg6 (x:V) (y:V) (H:Hp) (Q:VK):Prop
 | mk (l b xs zs:_) (h1:x=.ref l) (h2:y=.ref b) (h3:H l=some (.lst xs)) (h4:H b=some (.lst zs)) (h5:xs.length+zs.length≤sizeLine) (h6:∀ p,H p=none->Q (.ref p) (upd H p (.lst (xs++zs)))):qg6 x y H Q
def qjH:R2:=fun x y H Q=>qg6 x y H Q
theorem op_cat:OpR X (binaryOp .Add) qjH:=by
 intro pins s σ H x y v u Q I rx ry h
 obtain ⟨l,b,xs,zs,rfl,rfl,hH,hB,hz,q⟩:=h
 cases rx
 cases ry
 obtain ⟨z,its,n,r,hl,e⟩:=I.lstM hH
 obtain ⟨z2,its2,n2,r2,hl2,e2⟩:=I.lstM hB
 refine PySem.P.add_list e e2 ?_ (by rw [List.size_toArray,List.size_toArray]; omega)
 have ea:its.toArray++its2.toArray=(its++its2).toArray:=by simp
 rw [ea]
 exact ⟨.ref _,_,I.lnew (t':=s.toks) (r.append r2) (by rw [List.length_append]; omega),rfl,q _ I.fresh⟩
end
section
variable {prog:Program} {w:World} {A:Around} {E:Value->Shared->Prop} {s:Shared}
end
section
variable {X:Cx}
end
end L2
namespace L2
open PySem PySem.Spec PyProof.Rows
section
variable {κ:Type} [DecidableEq κ]
def qam (kvs:List (κ×V)) (k:κ):Option V:=(kvs.find? fun kv=>decide (kv.1=k)).map (·.2)
def qbv (kvs:List (κ×V)) (k:κ) (v:V):List (κ×V) :=
 if (kvs.any fun kv=>decide (kv.1=k))=true then kvs.map (fun kv=>if kv.1=k then (kv.1,v) else kv) else kvs++[(k,v)]
theorem jw {p:κ×V} {r:List (κ×V)} {k:κ} (e:p.1=k):qam (p::r) k=some p.2:=by simp [qam,List.find?_cons,e]
theorem jx {p:κ×V} {r:List (κ×V)} {k:κ} (e:¬ p.1=k):qam (p::r) k=qam r k:=by simp [qam,List.find?_cons,e]
theorem qbO (k:κ):∀ kvs:List (κ×V),(kvs.any fun kv=>decide (kv.1=k))=(qam kvs k).isSome
 | []=>rfl
 | p::r=>by
   rw [List.any_cons]
   by_cases e:p.1=k
   · simp only [jw e,decide_eq_true e,Bool.true_or,Option.isSome_some]
   · rw [jx e,decide_eq_false e,Bool.false_or]; exact qbO k r
theorem Jb (kvs:List (κ×V)) (k:κ) (v:V):(qbv kvs k v).length≤kvs.length+1:=by
 unfold qbv
 split
 · rw [List.length_map]; omega
 · rw [List.length_append,List.length_cons,List.length_nil]; omega
theorem qao {kvs:List (κ×V)} {k:κ} (v:V) (h:qam kvs k=none):qbv kvs k v=kvs++[(k,v)]:=by
 unfold qbv
 rw [qbO,h]
 exact if_neg (by decide)
theorem RelO.isSome_eq {o:Option V} {u:Option Value} (r:RelO o u):o.isSome=u.isSome:=by
 cases o with
 | none=>cases u with
   | none=>rfl
   | some _=>exact (show False from r).elim
 | some _=>cases u with
   | none=>exact (show False from r).elim
   | some _=>rfl
theorem KV.val {kvs:List (κ×V)} {vs:List (κ×Value)} (r:KV kvs vs) (k:κ):RelO (qam kvs k) (valueAt vs k):=by
 unfold KV at r
 induction r with
 | nil=>exact True.intro
 | @cons p q ps qs h t ih =>
   obtain ⟨h1,h2⟩:=h
   by_cases e:p.1=k
   · have e':q.1=k:=h1.symm.trans e
     have b:valueAt (q::qs) k=some q.2:=by simp [valueAt,List.find?_cons,e']
     rw [jw e,b]; exact h2
   · have e':¬ q.1=k:=fun z=>e (h1.trans z)
     have b:valueAt (q::qs) k=valueAt qs k:=by simp [valueAt,List.find?_cons,e']
     rw [jx e,b]; exact ih
theorem KV.any {kvs:List (κ×V)} {vs:List (κ×Value)} (r:KV kvs vs) (k:κ):(kvs.any fun kv=>decide (kv.1=k))=vs.any fun kv=>decide (kv.1=k):=by
 unfold KV at r
 induction r with
 | nil=>rfl
 | cons h t ih=>rw [List.any_cons,List.any_cons,ih,h.1]
theorem KV.repl {kvs:List (κ×V)} {vs:List (κ×Value)} (r:KV kvs vs) (k:κ) {y:V} {u:Value} (ry:RelV y u) :
   KV (kvs.map fun kv=>if kv.1=k then (kv.1,y) else kv) (vs.map fun kv=>if kv.1=k then (kv.1,u) else kv):=by
 unfold KV at r ⊢
 induction r with
 | nil=>exact .nil
 | @cons p q ps qs h t ih =>
   rw [List.map_cons,List.map_cons]
   refine .cons ?_ ih
   obtain ⟨h1,h2⟩:=h
   by_cases e:p.1=k
   · rw [if_pos e,if_pos (h1.symm.trans e)]; exact ⟨h1,ry⟩
   · rw [if_neg e,if_neg (fun z=>e (h1.trans z))]; exact ⟨h1,h2⟩
theorem KV.put {kvs:List (κ×V)} {vs:List (κ×Value)} (r:KV kvs vs) (k:κ) {y:V} {u:Value} (ry:RelV y u):KV (qbv kvs k y) (stored vs k u):=by
 unfold qbv stored
 rw [r.any k]
 by_cases e:(vs.any fun kv=>decide (kv.1=k))=true
 · rw [if_pos e,if_pos e]; exact r.repl k ry
 · rw [if_neg e,if_neg e]; exact Paired.snoc r ⟨rfl,ry⟩
theorem KV.length {kvs:List (κ×V)} {vs:List (κ×Value)} (r:KV kvs vs):kvs.length=vs.length:=Paired.length r
end
theorem qeH {P:Program} {w:World} {k:Key} {u:Value} (r:RelV (kV k) u):(qQ P w).is k u=true:=by
 cases k with
 | inl i=>obtain ⟨t,e⟩:=(show ∃ t,u=Value.int i t from r); subst e; exact qdz P w i t
 | inr x=>obtain ⟨t,e⟩:=(show ∃ t,u=Value.str x t from r); subst e; exact qdy P w x t
theorem qc9 {P:Program} {w:World}:∀ {ks:List Key} {us:List Value},Vals (ks.map kV) us->ItemsAre (qQ P w) ks us
 | [],_,r=>by rw [List.map_nil] at r; cases r; exact .nil
 | k::ks,_,r=>by
   rw [List.map_cons] at r
   cases r with
   | cons h t=>exact .cons (qeH h) (qc9 t)
abbrev KT (H:Hp):List (List Key×V)->List (List Key×Addr×Value)->Prop:=Paired fun p q=>p.1=q.1∧H q.2.1=some (.tup (p.1.map kV))∧RelV p.2 q.2.2
theorem KT.val {H:Hp} {kvs:List (List Key×V)} {xs:List (List Key×Addr×Value)} (r:KT H kvs xs) (k:List Key):RelO (qam kvs k) ((atKey xs k).map (·.2)):=by
 induction r with
 | nil=>exact True.intro
 | @cons p q ps qs h t ih =>
   obtain ⟨h1,_,h2⟩:=h
   by_cases e:p.1=k
   · have e':q.1=k:=h1.symm.trans e
     have b:atKey (q::qs) k=some q.2:=by simp [atKey,List.find?_cons,e']
     rw [jw e,b]; exact h2
   · have e':¬ q.1=k:=fun z=>e (h1.trans z)
     have b:atKey (q::qs) k=atKey qs k:=by simp [atKey,List.find?_cons,e']
     rw [jx e,b]; exact ih
theorem KT.repl {H:Hp} {kvs:List (List Key×V)} {xs:List (List Key×Addr×Value)} (r:KT H kvs xs) (k:List Key) {y:V} {u:Value} (ry:RelV y u) :
   KT H (kvs.map fun kv=>if kv.1=k then (kv.1,y) else kv) (xs.map (putAt k u)):=by
 induction r with
 | nil=>exact .nil
 | @cons p q ps qs h t ih =>
   rw [List.map_cons,List.map_cons]
   refine .cons ?_ ih
   obtain ⟨h1,h2,h3⟩:=h
   unfold putAt
   by_cases e:p.1=k
   · rw [if_pos e,if_pos (h1.symm.trans e)]; exact ⟨h1,h2,ry⟩
   · rw [if_neg e,if_neg (fun z=>e (h1.trans z))]; exact ⟨h1,h2,h3⟩
theorem KT.put {H:Hp} {kvs:List (List Key×V)} {xs:List (List Key×Addr×Value)} (r:KT H kvs xs) (k:List Key) {b:Addr} {y:V} {u:Value} (hb:H b=some (.tup (k.map kV))) (ry:RelV y u) :
   KT H (qbv kvs k y) (storedH xs k b u):=by
 have e:(kvs.any fun kv=>decide (kv.1=k))=(atKey xs k).isSome:=by
   rw [qbO,(r.val k).isSome_eq,Option.isSome_map]
 unfold qbv storedH
 rw [e]
 by_cases q:(atKey xs k).isSome=true
 · rw [if_pos q,if_pos q]; exact r.repl k ry
 · rw [if_neg q,if_neg q]; exact Paired.snoc r ⟨rfl,hb,ry⟩
theorem KT.keeps {H H':Hp} {kvs:List (List Key×V)} {xs:List (List Key×Addr×Value)} (r:KT H kvs xs) (ht:∀ b ys,H b=some (.tup ys)->H' b=some (.tup ys)):KT H' kvs xs :=
 Paired.mapP r fun _ _ z=>⟨z.1,ht _ _ z.2.1,z.2.2⟩
section
variable {P:Program} {w:World} {H:Hp} {h:Heap} {a:Addr}
theorem qij {u:HO} (ok:HOk P w H h) (e:Rd H a u):ObjOk P w H h a u:=e.ok ok
theorem qal {kvs:List (Key×V)} (ok:HOk P w H h) (e:Rd H a (.dK kvs)):kvs.length≤sizeLine∧(a == sysModules)=false∧∃ vs,KV kvs vs∧h.DictOf (qQ P w) a vs :=
 show ObjOk P w H h a (.dK kvs) from qij ok e
theorem qiO {kvs:List (Key×V)} (ok:HOk P w H h) (e:H a=some (.dK kvs)):kvs.length≤sizeLine∧(a == sysModules)=false∧∃ vs,KV kvs vs∧h.DictOf (qQ P w) a vs:=qal ok (.inl e)
theorem qc8 {ks:List Key} (ok:HOk P w H h) (e:H a=some (.tup (ks.map kV))):(tupleKind (qQ P w)).is h ks a:=by
 obtain ⟨_,its,r,o,h1,h2,n,h3⟩:=(show ObjOk P w H h a (.tup (ks.map kV)) from ok a _ e)
 exact ⟨o,its.toArray,n,h1,h2,h3,by simpa using qc9 r⟩
theorem qeO {kvs:List (List Key×V)} (ok:HOk P w H h) (e:Rd H a (.dT kvs)):kvs.length≤sizeLine∧(a == sysModules)=false ∧
   ∃ xs,KT H kvs xs∧h.DictOfH (tupleKind (qQ P w)) a xs:=by
 obtain ⟨z,y,xs,r,o,es,ep,h1,h2,h3,h4,h5⟩:=(show ObjOk P w H h a (.dT kvs) from qij ok e)
 refine ⟨z,y,xs,r,o,es,ep,h1,h2,h3,h4,fun x hx=>?_,h5⟩
 have all:∀ {l:List (List Key×V)} {m:List (List Key×Addr×Value)},KT H l m->∀ x∈m,(tupleKind (qQ P w)).is h x.1 x.2.1:=by
   intro l m q
   induction q with
   | nil=>intro x hx; exact nomatch hx
   | @cons p q ps qs hq t ih =>
     intro x hx
     rcases List.mem_cons.mp hx with e | hx
     · subst e
       exact qc8 ok (by rw [← hq.1]; exact hq.2.1)
     · exact ih x hx
 exact all r x hx
theorem qjm {kvs:List (List Key×V)} (ok:HOk P w H h) (e:H a=some (.dT kvs)):kvs.length≤sizeLine∧(a == sysModules)=false ∧
   ∃ xs,KT H kvs xs∧h.DictOfH (tupleKind (qQ P w)) a xs:=qeO ok (.inl e)
end
def qbM (H:Hp) (a:Addr) (y:V) (r:Option V):Prop :=
 (∃ kvs k,Rd H a (.dK kvs)∧y=kV k∧r=qam kvs k)∨∃ kvs k b,Rd H a (.dT kvs)∧y=.ref b∧H b=some (.tup (k.map kV))∧r=qam kvs k
def DPut (H:Hp) (a:Addr) (y v:V) (H':Hp):Prop :=
 (∃ kvs k,H a=some (.dK kvs)∧y=kV k∧kvs.length < sizeLine∧H'=upd H a (.dK (qbv kvs k v))) ∨
 ∃ kvs k b,H a=some (.dT kvs)∧y=.ref b∧H b=some (.tup (k.map kV))∧kvs.length < sizeLine∧H'=upd H a (.dT (qbv kvs k v))
theorem DPut.k {H:Hp} {a:Addr} {kvs:List (Key×V)} {k:Key} {v:V} (e:H a=some (.dK kvs)) (hl:kvs.length < sizeLine):DPut H a (kV k) v (upd H a (.dK (qbv kvs k v))):=.inl ⟨kvs,k,e,rfl,hl,rfl⟩
section
variable {X:Cx} {pins:List (Addr×Obj)} {σ:St} {H:Hp} {s:Shared} {a:Addr} {y v:V} {u r:Value} {o:Option V} {A:Around} {E:Value->Shared->Prop}
theorem Inv.big (I:Inv X pins σ H s):sysModules < s.heap.objs.size:=by
 have h:mainGlobals < s.heap.objs.size:=(I.mod.glob.keeps I.bk).lt
 exact Nat.lt_trans (by decide) h
theorem qfY {Q:Value->Shared->Prop} (hu:A.units+1 < cLine) (I:Inv X pins σ H s) (g:qbM H a y (some v)) (ry:RelV y u) (h:∀ w' s',Inv X pins σ H s'->RelV v w'->Q w' s') :
   wpAny (model X.prog X.w) A (getItem (.ref a) u) Q E s:=by
 rcases g with ⟨kvs,k,e,ey,l⟩ | ⟨kvs,k,b,e,ey,eb,l⟩
 · subst ey
   obtain ⟨z,hd,vs,rel,dd⟩:=qal I.hok e
   obtain ⟨w',hw,rw'⟩:=RelO.some_of (v:=v) (o:=valueAt vs k) (by rw [l]; exact rel.val k)
   exact wpAny_getItem_of (qeH ry) dd.mapOf hw (h w' _ (I.tok _) rw')
 · subst ey
   cases (show u=Value.ref b from ry)
   obtain ⟨z,hd,xs,rel,dd⟩:=qeO I.hok e
   obtain ⟨w',hw,rw'⟩:=RelO.some_of (v:=v) (o:=(atKey xs k).map (·.2)) (by rw [l]; exact rel.val k)
   obtain ⟨p,hp,hp2⟩:=Option.map_eq_some_iff.mp hw
   refine wpAny_getItem_heap (tupleKind_room_in1 hu) (qc8 I.hok eb) dd hp ?_
   rw [hp2]
   exact h w' _ (I.tok _) rw'
theorem qke {Q:Value->Shared->Prop} (hu:A.units+1 < cLine) (I:Inv X pins σ H s) (g:qbM H a y o) (ry:RelV y u) (h:∀ s',Inv X pins σ H s'->Q (.bool o.isSome) s') :
   wpAny (model X.prog X.w) A (compareOp .In u (.ref a)) Q E s:=by
 rcases g with ⟨kvs,k,e,ey,l⟩ | ⟨kvs,k,b,e,ey,eb,l⟩
 · subst ey
   obtain ⟨z,hd,vs,rel,dd⟩:=qal I.hok e
   refine wpAny_in_of (qeH ry) hd dd.mapOf ?_
   rw [← (rel.val k).isSome_eq,← l]
   exact h _ (I.tok _)
 · subst ey
   cases (show u=Value.ref b from ry)
   obtain ⟨z,hd,xs,rel,dd⟩:=qeO I.hok e
   refine wpAny_in_heap (tupleKind_room_in1 hu) (qc8 I.hok eb) hd dd ?_
   have q:=(rel.val k).isSome_eq
   rw [Option.isSome_map] at q
   rw [← q,← l]
   exact h _ (I.tok _)
theorem qh0 {Q:Value->Shared->Prop} (hu:A.units+1 < cLine) (I:Inv X pins σ H s) (g:qbM H a y o) (ry:RelV y u) (h:∀ s',Inv X pins σ H s'->Q (.bool (!o.isSome)) s') :
   wpAny (model X.prog X.w) A (compareOp .NotIn u (.ref a)) Q E s:=by
 rcases g with ⟨kvs,k,e,ey,l⟩ | ⟨kvs,k,b,e,ey,eb,l⟩
 · subst ey
   obtain ⟨z,hd,vs,rel,dd⟩:=qal I.hok e
   refine wpAny_notIn_of (qeH ry) hd dd.mapOf ?_
   rw [← (rel.val k).isSome_eq,← l]
   exact h _ (I.tok _)
 · subst ey
   cases (show u=Value.ref b from ry)
   obtain ⟨z,hd,xs,rel,dd⟩:=qeO I.hok e
   refine wpAny_notIn_heap (tupleKind_room_in1 hu) (qc8 I.hok eb) hd dd ?_
   have q:=(rel.val k).isSome_eq
   rw [Option.isSome_map] at q
   rw [← q,← l]
   exact h _ (I.tok _)
theorem qdE {h':Heap} {t':Nat} {ob:HO} (I:Inv X pins σ H s) (mu:Mut (H a)) (hs:Heap.SameBut a s.heap h') (he:∃ q,h'.get? a=some q) (new:ObjOk X.prog X.w (upd H a ob) h' a ob) :
   Inv X pins σ (upd H a ob) { s with heap:=h',toks:=t' } :=
 I.write (x:=a) (e:=a) mu (.inl rfl) (fun b q hb z=>(hs.2 b hb).trans z) he new
theorem qho {P:Program} {w:World} {H':Hp} {h':Heap} {kvs:List (Key×V)} {vs:List (Key×Value)} (z:kvs.length≤sizeLine) (hd:(a == sysModules)=false) (rel:KV kvs vs) (dd:h'.DictOf (qQ P w) a vs) :
   ObjOk P w H' h' a (.dK kvs):=⟨z,hd,vs,rel,dd⟩
theorem qfX {H':Hp} {Q:Unit->Shared->Prop} (hu:A.units+1 < cLine) (I:Inv X pins σ H s) (g:DPut H a y v H') (ry:RelV y u) (rv:RelV v r) (h:∀ s',Inv X pins σ H' s'->Q () s') :
   wpAny (model X.prog X.w) A (setItem (.ref a) u r) Q E s:=by
 rcases g with ⟨kvs,k,e,ey,l,eH⟩ | ⟨kvs,k,b,e,ey,eb,l,eH⟩
 · subst ey eH
   obtain ⟨z,hd,vs,rel,dd⟩:=qiO I.hok e
   have hz:vs.length≤sizeLine:=by rw [← rel.length]; exact z
   have hl:(qbv kvs k v).length≤sizeLine:=by have:=Jb kvs k v; omega
   refine wpAny_setItem_pairs (hsz:=hz) (qeH ry) dd fun h' dd' hs=>h _ ?_
   have he:∃ q,h'.get? a=some q:=let ⟨q,_,_,hq,_⟩:=dd'; ⟨q,hq⟩
   exact qdE I (by rw [e]; exact True.intro) hs he (qho hl hd (rel.put k rv) dd')
 · subst ey eH
   cases (show u=Value.ref b from ry)
   obtain ⟨z,hd,xs,rel,dd⟩:=qjm I.hok e
   have hz:xs.length≤sizeLine:=by rw [← Paired.length rel]; exact z
   have hl:(qbv kvs k v).length≤sizeLine:=by have:=Jb kvs k v; omega
   refine wpAny_setItem_heap (hsz:=hz) (tupleKind_room_in1 hu) (qc8 I.hok eb) dd fun h' dd' hs=>h _ ?_
   obtain ⟨q,es,ep,hq,h2,h3,h4,_,h5⟩:=dd'
   refine qdE I (by rw [e]; exact True.intro) hs ⟨q,hq⟩ ⟨hl,hd,_,(rel.put k eb rv).keeps fun c ys ec=>?_,q,es,ep,hq,h2,h3,h4,h5⟩
   rw [qh (qJ ec e (fun z=>nomatch z))]
   exact ec
end
section
variable {X:Cx} {pins:List (Addr×Obj)} {σ:St} {H:Hp} {s:Shared} {a:Addr} {kvs:List (Key×V)} {k:Key} {u:Value} {A:Around} {E:Value->Shared->Prop}
theorem qjn {Q:Value->Shared->Prop} (I:Inv X pins σ H s) (e:Rd H a (.dK kvs)) (h:∀ t s',Inv X pins σ H s'->Q (.int kvs.length t) s'):wpAny (model X.prog X.w) A (call (.builtin "len") [.ref a]) Q E s:=by
 obtain ⟨z,hd,vs,rel,dd⟩:=qal I.hok e
 refine call_len_dict hd dd (by rw [← rel.length]; rw [sizeLine_eq] at z; omega) ?_
 rw [← rel.length]
 exact h _ _ (I.tok _)
end
def qjT (i:Expr):Prop:=∀ ov iv,subscripted i false ov iv=operate [ov,iv] (getItem ov iv)
theorem qhB {prog:Program} {w:World} {A:Around} {E:Value->Shared->Prop} {s:Shared} {env:Env} {value slice:Expr} {pos:Pos} {T id:String} {Q:Value->Shared->Prop}
   (hl:typeLookup (.type T) "__getitem__"=pure (some (.builtin id))) (hs:qjT slice)
   (h:wpAny (model prog w) A (eval value env) (fun o s₁=>wpAny (model prog w) A (eval slice env) (fun i s₂=>s₂.TypeIs o T∧wpAny (model prog w) A (getItem o i) Q E s₂) E s₁) E s) :
   wpAny (model prog w) A (eval (.Subscript value slice pos) env) Q E s:=by
 refine Subscript_ (wpAny_mono h (fun o s₁ h₁=>wpAny_mono h₁ (fun i s₂ h₂=>?_) fun _ _ x=>x) fun _ _ x=>x)
 obtain ⟨hT,h₂⟩:=h₂
 unfold subscriptTail
 refine wpAny_bind ?_
 rw [getitemInPython_of_ne hT.not_modules]
 refine wpAny_bind (wpAny_specialOf hT hl ?_)
 have fin:wpAny (model prog w) A (subscripted slice false o i) (fun r s₃=>wpAny (model prog w) A (letTemporaryGo value o r >>= fun _=>pure r) Q E s₃) E s₂:=by
   rw [hs o i]
   exact wpAny_operating (wpAny_mono h₂ (fun r s₃ h₃=>wpAny_bind (wpAny_letTemporaryGo (wpAny_pure h₃))) fun _ _ x=>x)
 first
   | exact wpAny_pure (wpAny_bind fin)
   | exact wpAny_bind (wpAny_pure (wpAny_bind fin))
   | exact wpAny_bind fin
theorem qdD {X:Cx} {pins:List (Addr×Obj)} {σ:St} {H:Hp} {s:Shared} {a:Addr} {y:V} {o:Option V} (I:Inv X pins σ H s) (g:qbM H a y o):s.TypeIs (.ref a) "dict":=by
 rcases g with ⟨kvs,k,e,_,_⟩ | ⟨kvs,k,b,e,_,_,_⟩
 · obtain ⟨_,_,vs,_,dd⟩:=qal I.hok e
   exact dd.typeIs
 · obtain ⟨_,_,xs,_,dd⟩:=qeO I.hok e
   exact dd.typeIs
def qi1 (td ty:TE):TE:=fun σ H Q=>td σ H fun x H1=>ty σ H1 fun y H2=>∃ a v,x=.ref a∧qbM H2 a y (some v)∧Q v H2
def qi5 (td ty tv:TE):TS:=fun D σ H=>tv σ H fun v H1=>td σ H1 fun x H2=>ty σ H2 fun y H3=>∃ a H4,x=.ref a∧DPut H3 a y v H4∧D.nx σ H4
section
variable {X:Cx} {o i e value:Expr} {pos pos' tpos:Pos} {td ty tv:TE}
theorem qI (hu:X.A.units+1 < cLine) (ho:PE X o td) (hi:PE X i ty) (hs:qjT i):PE X (.Subscript o i pos) (qi1 td ty):=by
 intro pins s σ H Q I h
 refine qhB PySem.F.slot_dict_getitem.lookup hs (thn (ho pins s σ H _ I h) fun u s1 ⟨x,H1,I1,rx,q1⟩=>thn (hi pins s1 σ H1 _ I1 q1) fun iv s2 zz_=>?_)
 obtain ⟨y,H2,I2,ry,a,v,ex,g,q2⟩:=zz_
 subst ex
 obtain rfl:u=Value.ref a:=rx
 exact ⟨qdD I2 g,qfY hu I2 g ry fun w' s3 I3 rw'=>⟨v,H2,I3,rw',q2⟩⟩
theorem qaL (hu:X.A.units+1 < cLine) (ho:PE X o td) (hi:PE X i ty) (hv:PE X value tv) (hs:swapsWith value (some (.Subscript o i pos')) pos.line X.env=pure false) :
   PS X (.Assign [.Subscript o i pos'] value pos) (qi5 td ty tv):=by
 intro pins s σ H D I h
 refine wpAny_Assign_Subscript (thn (hv pins s σ H _ I h) fun r s1 ⟨v,H1,I1,rv,q1⟩=>thn (ho pins s1 σ H1 _ I1 q1) fun u s2 ⟨x,H2,I2,rx,q2⟩=>thn (hi pins s2 σ H2 _ I2 q2) fun iv s3 zz_=>?_) hs
 obtain ⟨y,H3,I3,ry,a,H4,ex,g,q3⟩:=zz_
 subst ex
 obtain rfl:u=Value.ref a:=rx
 exact qfX hu I3 g ry rv fun s4 I4=>⟨σ,H4,I4,q3⟩
end
theorem qee {P:Program} {w:World} {H:Hp} (h:Heap) (hb:sysModules < h.objs.size):ObjOk P w H (h.push { cls:=.type "dict",data:=.dict #[] }) h.objs.size (.dK []) :=
 ⟨Nat.zero_le _,beq_eq_false_iff_ne.mpr (Ne.symm (Nat.ne_of_lt hb)),[],.nil,Heap.DictOf.new h⟩
def qif:TE:=fun _ H Q=>∀ p,H p=none->Q (.ref p) (upd H p (.dK []))
section
variable {X:Cx} {pos:Pos}
theorem Jr:PE X (.Dict [] [] pos) qif:=fun pins s σ H Q I h =>
 wpAny_Dict_empty ⟨.ref s.heap.objs.size,_,I.laid (a:=s.heap.objs.size) (o:=.dK []) (t':=s.toks) (fun _ _ q=>Heap.get?_push_of_some _ q) (Nat.le_refl _) (qee s.heap I.big),rfl,h _ (I.hok.fresh (Nat.le_refl _))⟩
end
def qe4:List (TE×TE)->St->Hp->(List (V×V)->Hp->Prop)->Prop
 | [],_,H,Q=>Q [] H
 | (tk,tv)::r,σ,H,Q=>tk σ H fun x H1=>tv σ H1 fun y H2=>qe4 r σ H2 fun ps H3=>Q ((x,y)::ps) H3
abbrev VV:List (V×V)->List (Value×Value)->Prop:=Paired fun p q=>RelV p.1 q.1∧RelV p.2 q.2
def PPs (X:Cx) (pos:Pos) (keys:List (Option Expr)) (values:List Expr) (trs:List (TE×TE)):Prop :=
 ∀ (pins:List (Addr×Obj)) (s:Shared) (σ:St) (H:Hp) (Q:List (V×V)->Hp->Prop),Inv X pins σ H s->qe4 trs σ H Q ->
   wpAny (model X.prog X.w) X.A (evalPairs (pairTrees keys values X.env pos)) (fun vs s'=>∃ ps H',Inv X pins σ H' s'∧VV ps vs∧Q ps H') X.xe s
theorem qhL {X:Cx} {pos:Pos}:PPs X pos [] [] []:=fun pins s σ H Q I h=>pairTrees_nil_walk ⟨[],H,I,.nil,h⟩
theorem qb3 {X:Cx} {pos:Pos} {k v:Expr} {ks:List (Option Expr)} {vs:List Expr} {tk tv:TE} {trs:List (TE×TE)} (hk:PE X k tk) (hv:PE X v tv) (hr:PPs X pos ks vs trs) :
   PPs X pos (some k::ks) (v::vs) ((tk,tv)::trs):=fun pins s σ H Q I h =>
 pairTrees_cons_walk (thn (hk pins s σ H _ I h) fun u s1 ⟨x,H1,I1,rx,q1⟩=>thn (hv pins s1 σ H1 _ I1 q1) fun w2 s2 ⟨y,H2,I2,ry,q2⟩ =>
   thn (hr pins s2 σ H2 _ I2 q2) fun ws s3 ⟨ps,H3,I3,rel,q3⟩=>⟨(x,y)::ps,H3,I3,.cons ⟨rx,ry⟩ rel,q3⟩)
def qc5 (kvs more:List (Key×V)):List (Key×V):=more.foldl (fun acc kv=>qbv acc kv.1 kv.2) kvs
theorem KV.merge:∀ {more:List (Key×V)} {rs:List (Key×Value)} {kvs:List (Key×V)} {vs:List (Key×Value)},KV more rs->KV kvs vs->KV (qc5 kvs more) (merged vs rs):=by
 intro more rs kvs vs r
 unfold KV at r
 induction r generalizing kvs vs with
 | nil=>intro q; exact q
 | @cons p q ps qs h t ih =>
   intro r0
   have e:KV (qbv kvs p.1 p.2) (stored vs q.1 q.2):=by
     have:=r0.put p.1 h.2
     rw [← h.1]; exact this
   exact ih e
theorem Jx:∀ (more kvs:List (Key×V)),(qc5 kvs more).length≤kvs.length+more.length
 | [],kvs=>by show kvs.length≤kvs.length+0; omega
 | p::r,kvs=>by
   have h1:=Jx r (qbv kvs p.1 p.2)
   have h2:=Jb kvs p.1 p.2
   show (qc5 (qbv kvs p.1 p.2) r).length≤_
   rw [List.length_cons]; omega
theorem qbK {P:Program} {w:World}:∀ {kvs:List (Key×V)} {ws:List (Value×Value)},VV (kvs.map fun kv=>(kV kv.1,kv.2)) ws->∃ rs,Carries (qQ P w) ws rs∧KV kvs rs
 | [],_,r=>by rw [List.map_nil] at r; cases r; exact ⟨[],True.intro,.nil⟩
 | p::kvs,_,r=>by
   rw [List.map_cons] at r
   cases r with
   | @cons a b as bs h t =>
     obtain ⟨rs,c,q⟩:=qbK (P:=P) (w:=w) t
     obtain ⟨b1,b2⟩:=b
     exact ⟨(p.1,b2)::rs,⟨qeH h.1,rfl,c⟩,.cons ⟨rfl,h.2⟩ q⟩
def qi0 (trs:List (TE×TE)):TE:=fun σ H Q=>∀ p,H p=none->qe4 trs σ (upd H p (.dK [])) fun ps H2=>H2 p=some (.dK [])∧∃ kvs:List (Key×V),ps=kvs.map (fun kv=>(kV kv.1,kv.2))∧kvs.length≤15∧Q (.ref p) (upd H2 p (.dK (qc5 [] kvs)))
theorem qhO {X:Cx} {pos:Pos} {keys:List (Option Expr)} {values:List Expr} {trs:List (TE×TE)} (h:PPs X pos keys values trs) (hall:keys.all (·.isSome)=true) (hl:keys.length=values.length) (h0:keys≠[])
   (h15:keys.length≤15):PE X (.Dict keys values pos) (qi0 trs):=by
 intro pins s σ H Q I q
 have hn:=I.hok.fresh (Nat.le_refl s.heap.objs.size)
 have I1:=I.laid (a:=s.heap.objs.size) (o:=.dK []) (h':=s.heap.push { cls:=.type "dict",data:=.dict #[] }) (t':=s.toks) (fun _ _ q=>Heap.get?_push_of_some _ q) (Nat.le_refl _) (qee s.heap I.big)
 refine wpAny_Dict_walk (knd:=qQ X.prog X.w) hall hl h0 h15 (thn (h pins _ σ _ _ I1 (q _ hn)) fun ws s2 zz_=>?_)
 obtain ⟨ps,H2,I2,rel,e,kvs,ep,lk,q2⟩:=zz_
 subst ep
 obtain ⟨rs,c,rk⟩:=qbK (P:=X.prog) (w:=X.w) rel
 obtain ⟨z,hd,vs0,r0,dd⟩:=qiO I2.hok e
 cases r0
 refine ⟨rs,c,dd,fun h' dd' hs=>⟨.ref s.heap.objs.size,_,?_,rfl,q2⟩⟩
 have hz:(qc5 [] kvs).length≤sizeLine:=by
   have h1:=Jx kvs []
   rw [List.length_nil] at h1
   rw [sizeLine_eq]; omega
 have he:∃ q,h'.get? s.heap.objs.size=some q:=let ⟨q,_,_,hq,_⟩:=dd'; ⟨q,hq⟩
 exact qdE I2 (by rw [e]; exact True.intro) hs he (qho hz hd (rk.merge .nil) dd')
def IsD (H:Hp) (a:Addr):Prop:=(∃ kvs,Rd H a (.dK kvs))∨∃ kvs,Rd H a (.dT kvs)
theorem qiG {X:Cx} {pins:List (Addr×Obj)} {σ:St} {H:Hp} {s:Shared} {a:Addr} (I:Inv X pins σ H s) (d:IsD H a) :
   s.TypeIs (.ref a) "dict"∧(∀ b,Value.ref a=.ref b->∃ ob,s.heap.get? b=some ob∧ob.dict=none)∧(a == sysModules)=false:=by
 rcases d with ⟨kvs,e⟩ | ⟨kvs,e⟩
 · obtain ⟨_,hd,vs,_,dd⟩:=qal I.hok e
   refine ⟨dd.typeIs,fun b q=>?_,hd⟩
   cases q
   obtain ⟨ob,_,_,h1,h2,_⟩:=dd
   exact ⟨ob,h1,h2.2.1⟩
 · obtain ⟨_,hd,xs,_,dd⟩:=qeO I.hok e
   refine ⟨dd.typeIs,fun b q=>?_,hd⟩
   cases q
   obtain ⟨ob,_,_,h1,h2,_⟩:=dd
   exact ⟨ob,h1,h2.2.1⟩
section
variable {X:Cx} {pins:List (Addr×Obj)} {σ:St} {H:Hp} {s:Shared} {a:Addr} {y d:V} {u r:Value} {o:Option V} {A:Around} {E:Value->Shared->Prop}
end
section
variable {X:Cx} {o e f:Expr} {apos cpos:Pos} {td ty tx:TE}
end
section
variable {X:Cx} {pins:List (Addr×Obj)} {σ:St} {H:Hp} {s:Shared} {a:Addr} {kvs:List (Key×V)} {A:Around} {E:Value->Shared->Prop}
end
section
variable {X:Cx} {pins:List (Addr×Obj)} {σ:St} {H:Hp} {s:Shared} {a:Addr} {y:V} {u:Value} {A:Around} {E:Value->Shared->Prop}
end
end L2
namespace Att
open PySem PySem.W PySem.Calls PyProof.Rows
theorem qa0 {P:Params} {h:Heap}:∀ (ns:List Int) (vs:List Value),WellAll P h vs (ns.map WData.int)->IntsAre vs ns:=by
 intro ns
 induction ns with
 | nil =>
   intro vs w
   rw [List.map_nil] at w
   cases w
   exact .nil
 | cons n ns ih =>
   intro vs w
   rw [List.map_cons] at w
   cases w with
   | cons a b =>
     cases a
     exact .cons _ _ (ih _ b)
theorem qfb {l:OpenLaw} {n:Nat} (hn:l.most=some n) {P:Params} {h:Heap} {args:List WData} {vals:List Value}
   (hpre:l.row.toRowW.claim.pre args=true) (hwl:WellAll P h vals args) :
   ∃ a vs ns,vals=[Value.ref a]∧args=[WData.list (ns.map WData.int)]∧h.get? a=some { cls:=.type "list",data:=.seq vs.toArray }∧IntsAre vs ns∧ns.length≤n:=by
 have hsh:WShape.hasAll [] args [.list .int]=true:=(pre_splitW hpre).1
 have hc:l.pre.holds [] { args:=args }=true:=(pre_splitW hpre).2
 obtain ⟨d,r,rfl,h1,h2⟩:=hasAllW_cons hsh
 obtain rfl:=hasAllW_nil h2
 obtain ⟨xs,rfl,h3⟩:=hasW_list h1
 obtain ⟨ns,rfl⟩:=items_int h3
 have hlen:ns.length≤n:=by
   unfold OpenLaw.pre at hc
   have h4:(WTm.not (.lt (.lit (.int (n:Int))) (.len (.arg 0)))).holds [] { args:=[.list (ns.map .int)] }=true:=by
     have h4:=(holds_andW hc).1
     rw [hn] at h4
     exact h4
   have h5:=condW_of h4 (w_not (w_lt w_lit (w_len_list (w_arg rfl))))
   rw [List.length_map] at h5
   refine Nat.le_of_not_lt fun q=>?_
   have q':(n:Int) < ((ns.length:Nat):Int):=by omega
   first
     | (rw [decide_eq_true q'] at h5; exact absurd h5 (by decide))
     | (simp at h5; omega)
 cases hwl with
 | cons w1 w2 =>
   cases w2
   cases w1 with
   | list ho hall=>exact ⟨_,_,ns,rfl,rfl,ho,qa0 ns _ hall,hlen⟩
theorem qfl (l:OpenLaw) (args:List WData):l.row.toRowW.claim.post args (.bool true) args=true :=
 postW_of (r:=l.row.toRowW) (X:=(true == true))
   (show WShape.has [] (.bool true) .bool=true by first | rfl | decide | simp [WShape.has,WShape.arms,WShape.armsAll])
   (show (WTm.eq .res (.lit (.bool true))).value [] { args:=args,res:=some (.bool true),after:=args }=some (.bool (true == true)) from w_eq_bool (w_res rfl) w_lit) rfl
theorem attach_call {l:OpenLaw} {n:Nat} {q:Program} {loose:List Str} {XP:(Str->Option Value)->Heap->Prop} {YP:World->Heap->Prop} {d:DefRec}
   (hn:l.most=some n) (hdf:d.params.defaults=[])
   (call:∀ (w:World) (s₀ s₁:Shared) (mg mb:Str->Option Value) (fa:Addr) (o:Obj) (pm cd doc:Value) (a:Addr) (vs:List Value) (ns:List Int),
     Ground q loose [] XP w s₀ mg mb s₁.heap->YP w s₁.heap ->
     s₁.heap.get? fa=some o->o.data=.func (docDef d.name d.params d.body d.scope pm cd doc)->s₁.heap.CodeRec cd d.name->mg d.name=some (.ref fa) ->
     s₁.heap.get? a=some { cls:=.type "list",data:=.seq vs.toArray }->IntsAre vs ns->ns.length≤n->s₁.gens=#[] ->
     codeAny (model l.prog w) callerA (.call (.ref fa) ⟨[.ref a],[]⟩) (fun r s'=>r=.ok (.ret (.bool true))∧OldK s₁.heap s'.heap∧s'.os=s₁.os∧AllBare s'.gens) s₁) :
   WalkO q loose XP YP l.row.toRowW d [] (fun f vs=>PySem.call f vs):=by
 intro w s₀ s₁ mg mb G Y fa o pm cd doc dV kV ho hd hcd hD hmg hg args vals as hpre hlay hrd hwl hlo
 obtain rfl:dV=.none:=Dflts.none hD hdf
 obtain rfl:kV=.none:=Dflts.noKw hD
 obtain ⟨a,vs,ns,rfl,rfl,hobj,hints,hlen⟩:=qfb hn hpre hwl
 refine enter_call (codeAny_mono (call w s₀ s₁ mg mb fa o pm cd doc a vs ns G Y ho (fd_plain hd) hcd hmg hobj hints hlen hg) fun r s' hq=>?_)
 obtain ⟨rfl,h2,h3,h4⟩:=hq
 exact ⟨.inl ⟨.bool true,.bool true,[],rfl,fun _=>rfl,.bool true,qfl l _,fun _=>⟨List.Pairwise.nil,fun _ hm=>(nomatch hm)⟩⟩,h2,h3,h4⟩
section
variable {prog:Program} {w:World} {A:Around} {E:Value->Shared->Prop} {s:Shared} {K:Frag}
end
end Att
namespace L2
open PySem PySem.Spec PyProof.Rows
theorem qcs:∀ {vs:List Value} {ns:List Int},IntsAre vs ns->Vals (ns.map V.int) vs
 | _,_,.nil=>.nil
 | _,_,.cons n t h=>.cons ⟨t,rfl⟩ (qcs h)
def qjs (H:Hp):Prop:=∀ b,H b=none∨∃ o xs,H b=some (.frz o (.lst xs))
theorem law_call {P:Program} {w:World} {K:PySem.W.Frag} {mg mb:Str->Option Value} {CX:CXT} {k:Nat} {fa a:Addr} {fd:FuncData} {x:Str} {sp:Sp} {s₁:Shared} {vs:List Value} {ns:List Int}
   (KX:K.In s₁.heap) (hns:s₁.heap.Ns mainGlobals mg) (hb:s₁.heap.Ns builtinsNs mb) (hbb:∀ x:Str,x≠"__name__"->mb x=bootBuiltins x) (hlim:s₁.heap.NoLimit) (hg:s₁.gens=#[])
   (ha:s₁.heap.get? a=some { cls:=.type "list",data:=.seq vs.toArray }) (hi:IntsAre vs ns) (hl:ns.length≤sizeLine) (hr:Room k callerA)
   (F:∀ base:Heap,K.In base->base.Ns mainGlobals mg->qC P w K mg base CX k fa fd [x] sp) (hbind:∀ (s:Shared) (u:Value),BindsTo s fd ⟨[u],[]⟩ [(x,u)])
   (hsp:∀ H:Hp,qjs H->SqL K H a (ns.map V.int)->sp [.ref a] H (fun v _=>v=.bl true) fun _ _ _=>False)
   (hCX:∀ H e s',CX [] H s₁ (fun _ _ _=>False) e s'->False) :
   codeAny (model P w) callerA (.call (.ref fa) ⟨[.ref a],[]⟩) (fun r s'=>r=.ok (.ret (.bool true))∧OldK s₁.heap s'.heap∧s'.os=s₁.os∧AllBare s'.gens) s₁:=by
 have rv:=qcs hi
 have lenV:=hi.length
 -- from an abstract heap in which nothing but the script may be tracked
 have core:∀ H:Hp,qjs H->SqL K H a (ns.map V.int)->HOk P w H s₁.heap->(∀ b,H b≠none->b=a)->(H a≠none->K.lookup a=none) ->
     codeAny (model P w) callerA (.call (.ref fa) ⟨[.ref a],[]⟩) (fun r s'=>r=.ok (.ret (.bool true))∧OldK s₁.heap s'.heap∧s'.os=s₁.os∧AllBare s'.gens) s₁:=by
   intro H hO hS hok hA hK
   have base_of:∀ {b:Addr} {o:Obj},s₁.heap.get? b=some o->H b=none->(qgI s₁.heap H).get? b=some o:=fun e n=>qgH e n
   have noA:∀ {b:Addr} {o:Obj} {es:Array DictEntry} {ep:Nat},s₁.heap.get? b=some o->o.data=.dict es ep->H b=none:=fun {b o es ep} e d=>by
     cases q:H b with
     | none=>rfl
     | some u =>
       have e':b=a:=hA b (by rw [q]; simp)
       subst e'
       rw [ha] at e; cases e
       have d':Data.seq vs.toArray _=Data.dict es ep:=d
       cases d'
   have nsK:∀ {b:Addr} {m:Str->Option Value},s₁.heap.Ns b m->(qgI s₁.heap H).Ns b m:=fun {b m} ⟨o,es,ep,e,d,r⟩=>⟨o,es,ep,base_of e (noA e d),d,r⟩
   have hKb:K.In (qgI s₁.heap H):=fun b o e=>base_of (KX b o e) (by
     cases q:H b with
     | none=>rfl
     | some u =>
       have e':b=a:=hA b (by rw [q]; simp)
       subst e'
       rw [hK (by rw [q]; simp)] at e; cases e)
   have hM:Mod K mg (qgI s₁.heap H):=⟨hKb,nsK hns,⟨mb,nsK hb,hbb⟩,let ⟨mc,h1,h2⟩:=hlim; ⟨mc,nsK h1,h2⟩⟩
   have e0:Env0 P w K mg (qgI s₁.heap H) callerA [] s₁ H:=⟨rfl,hM,fun b o e=>qhR e,Nat.le_of_eq (qfM _ _),trivial,fun b hb=>absurd (show b∈([]:List Addr) from hb) (by simp),hok,.of_eq hg⟩
   refine codeAny_mono ((F _ hKb (nsK hns)).run callerA [] s₁ H ⟨[.ref a],[]⟩ [.ref a] [.ref a] _ _ hr e0 (hbind s₁ (.ref a)) (.cons rfl .nil) (hsp H hO hS)) fun r s' h=>?_
   cases r with
   | error e=>exact (hCX H e s' h).elim
   | ok fl =>
     cases fl with
     | next=>exact False.elim h
     | brk=>exact False.elim h
     | cont=>exact False.elim h
     | ret u =>
       obtain ⟨v,H',os,bare,un,hok',r',q⟩:=h
       have q':v=.bl true:=q
       subst q'
       obtain rfl:u=Value.bool true:=r'
       refine ⟨rfl,OldK.of_keep fun b o e=>?_,os,bare⟩
       cases q:H b with
       | none=>exact un.keep b o e q (by intro z; exact absurd (show b∈([]:List Addr) from z) (by simp)) (by simp)
       | some u =>
         rcases hO b with z | ⟨ob,xs,z⟩
         · rw [q] at z; cases z
         · have z2:=un.frzs b ob _ z
           obtain ⟨e1,_⟩:=hok b _ z
           obtain ⟨e2,_⟩:=hok' b _ z2
           rw [e] at e1; cases e1
           exact e2
 cases hk:K.lookup a with
 | some o =>
   -- the script is one of the module's own objects
   have e:=KX a o hk
   rw [ha] at e
   cases e
   refine core (fun _=>none) (fun _=>.inl rfl) (.inr ⟨_,vs.toArray,_,hk,rfl,rfl,rfl,by rw [List.size_toArray,lenV]; exact hl,by simpa using rv⟩) (fun b u z=>by have z':(none:Option HO)=some u:=z; cases z') (fun b z=>absurd rfl z) fun z=>absurd rfl z
 | none =>
   refine core (fun b=>if b=a then some (.frz { cls:=.type "list",data:=.seq vs.toArray } (.lst (ns.map V.int))) else none) (fun b=>?_) (.inl (.inr ⟨{ cls:=.type "list",data:=.seq vs.toArray },if_pos rfl⟩)) (fun b u z=>?_) (fun b z=>?_) fun _=>hk
   · by_cases hb:b=a
     · exact .inr ⟨_,_,if_pos hb⟩
     · exact .inl (if_neg hb)
   · by_cases hb:b=a
     · have z':=(if_pos hb).symm.trans z
       cases z'
       subst hb
       exact ⟨ha,by rw [List.length_map]; exact hl,vs,_,rv,ha⟩
     · have z':=(if_neg hb).symm.trans z
       cases z'
   · by_cases hb:b=a
     · exact hb
     · exact absurd (if_neg hb) z
end L2
namespace L2
open PySem PySem.Spec PyProof.Rows
theorem walk_of {l:PySem.W.OpenLaw} {n k:Nat} {q:Program} {loose:List Str} {XP:(Str->Option Value)->Heap->Prop} {YP:World->Heap->Prop} {d:DefRec} {K:Params->PySem.W.Frag} {CX:World->CXT} {sp:World->Sp} {x:Str}
   (hn:l.most=some n) (hn2:n≤sizeLine) (hdf:d.params.defaults=[]) (hr:Room k callerA)
   (hY:∀ (w:World) (h:Heap),YP w h->(K w.params).In h)
   (F:∀ (w:World) (mg:Str->Option Value) (fa:Addr) (h:Heap),(K w.params).In h->h.Ns mainGlobals mg->mg d.name=some (.ref fa) ->
     ∃ fd:FuncData,(∀ (s:Shared) (u:Value),BindsTo s fd ⟨[u],[]⟩ [(x,u)]) ∧
       ∀ base:Heap,(K w.params).In base->base.Ns mainGlobals mg->qC l.prog w (K w.params) mg base (CX w) k fa fd [x] (sp w))
   (hsp:∀ (w:World) (H:Hp) (a:Addr) (ns:List Int),ns.length≤n->qjs H->SqL (K w.params) H a (ns.map V.int)->sp w [.ref a] H (fun v _=>v=.bl true) fun _ _ _=>False)
   (hCX:∀ (w:World) (H:Hp) (s:Shared) (e:Value) (s':Shared),CX w [] H s (fun _ _ _=>False) e s'->False) :
   PySem.W.WalkO q loose XP YP l.row.toRowW d [] (fun f vs=>PySem.call f vs):=by
 refine Att.attach_call hn hdf fun w s₀ s₁ mg mb fa o pm cd doc a vs ns G Y ho hd hcd hmg hobj hints hlen hg=>?_
 have KX:=hY w _ Y
 obtain ⟨fd,hb,hF⟩:=F w mg fa _ KX G.T.g hmg
 exact law_call KX G.T.g G.T.b G.T.builtins G.T.nolimit hg hobj hints (Nat.le_trans hlen hn2) hr hF hb (fun H hO hS=>hsp w H a ns hlen hO hS) fun H e s'=>hCX w H s₁ e s'
end L2
namespace L2
open PySem PySem.Spec PyProof.Rows
def qM (s:Stmt) (j:Nat):Stmt:=match s with
 | .ClassDef _ _ _ body _ _ _ _ _ _ _=>body.getD j (.Pass ⟨0,0,0,0⟩)
 | _=>.Pass ⟨0,0,0,0⟩
def qo (s:Stmt):Arguments:=match s with
 | .FunctionDef _ a _ _ _ _ _ _ _ _=>a
 | _=>{ posonlyargs:=[],args:=[],vararg:=none,kwonlyargs:=[],kw_defaults:=[],kwarg:=none,defaults:=[] }
def qm (s:Stmt):List Stmt:=match s with
 | .FunctionDef _ _ b _ _ _ _ _ _ _=>b
 | _=>[]
def qe (s:Stmt):Scope:=match s with
 | .FunctionDef _ _ _ _ _ _ sc _ _ _=>sc
 | _=>{ kind:=.function,names:=[],isGenerator:=false,isCoroutine:=false }
abbrev CX0:CXT:=fun _ _ _ _ _ _=>False
abbrev E0:XK:=fun _ _ _=>False
theorem ql {X:Cx}:qaf CX0 X E0:=fun _ _ _ _ _ _ _ h=>h.elim
structure Fun (K:PySem.W.Frag) (x qual:Str) (st:Stmt) (f:Addr) (fd:FuncData):Prop where
 ex:∃ (oc:Value) (od:Option Addr) (kV doc pm:Value) (an:Option Addr) (cdv ct:Value) (osl:Array (Option Value)),
   fd=PySem.W.fnOf x qual (qo st) (qm st) (qe st) .none kV doc pm an cdv ct∧K.lookup f=some ⟨oc,od,.func fd,osl⟩∧PySem.W.codeIn K cdv qual=true
 kp:PySem.W.keepIn K (.ref f)=true
section
variable {P:Program} {w:World} {K:PySem.W.Frag} {mg:Str->Option Value} {base:Heap}
theorem Fun.ok {x qual:Str} {st:Stmt} {f:Addr} {fd:FuncData} {N ps:List Str} {k:Nat} {sp:Sp} (F:Fun K x qual st f fd) (S:qp N ps (qe st)) (len:∀ vs H Q E,sp vs H Q E->vs.length=ps.length)
   (hbody:∀ (cdv:Value) (A:Around) (outer:List Env) (s:Shared) (H:Hp) (vs:List V) (Q:VK) (E:XK),Room k (A.deeper (envOfC qual (qe st) s.heap.objs.size f cdv))->sp vs H Q E ->
     ∃ t,PSs (zx CX0 P w K mg base N qual (qe st) f cdv A outer s H E).nox (qm st) t∧t { nx:=fun _ H'=>Q .non H',rt:=Q } (qcu N vs) H):qC P w K mg base CX0 (k+1) f fd ps sp:=by
 obtain ⟨oc,od,kV,doc,pm,an,cdv,ct,osl,rfl,lk,hcd⟩:=F.ex
 refine qjl lk hcd S len fun A outer s H vs Q E hr hsp=>?_
 obtain ⟨t,h,q⟩:=hbody cdv A outer s H vs Q E hr hsp
 exact ⟨t,h.nox,q⟩
theorem Fun.binds {x qual:Str} {st:Stmt} {f:Addr} {fd:FuncData} {ps:List Str} (F:Fun K x qual st f fd)
   (h:∀ (kV doc pm:Value) (an:Option Addr) (cdv ct:Value) (us:List Value),us.length=ps.length->bindArgs (PySem.W.fnOf x qual (qo st) (qm st) (qe st) .none kV doc pm an cdv ct) ⟨us,[]⟩=pure (ps.zip us)):Binds K fd ps []:=by
 obtain ⟨oc,od,kV,doc,pm,an,cdv,ct,osl,rfl,lk,hcd⟩:=F.ex
 exact .all (h kV doc pm an cdv ct)
theorem qy {x qual:Str} {st:Stmt} {f:Addr} {oc:Value} {od an:Option Addr} {osl:Array (Option Value)} {kV doc pm cdv ct:Value} (l:K.lookup f=some ⟨oc,od,.func (PySem.W.fnOf x qual (qo st) (qm st) (qe st) .none kV doc pm an cdv ct),osl⟩)
   (c:PySem.W.codeIn K cdv qual=true) (k:PySem.W.keepIn K (.ref f)=true):Fun K x qual st f (PySem.W.fnOf x qual (qo st) (qm st) (qe st) .none kV doc pm an cdv ct):=⟨⟨oc,od,kV,doc,pm,an,cdv,ct,osl,rfl,l,c⟩,k⟩
end
theorem qK {A:Around} {k:Nat} (hr:Room k A):A.units+1 < cLine:=Nat.lt_of_le_of_lt (Nat.add_le_add_left (by decide:1≤64) _) hr.units
theorem qE {n:Nat} (h:n≤1000):n < sizeLine:=Nat.lt_of_le_of_lt h (by decide)
section
variable {X:Cx}
theorem pv (i:Nat) {x:Str} {pos:Pos} (hN:X.N[i]?=some x:=by rfl) (hv:Vis X.env.scope x:=by first | exact Or.inl rfl | exact Or.inr (Or.inl rfl) | exact Or.inr (Or.inr rfl)) (hd:(x == ("__debug__":Str))=false:=by decide)
   (hcd:(x == ("__classdict__":Str))=false:=by decide):PE X (.Name x pos) (qhy i):=qir hN hv hd hcd
theorem qde:JB X (.builtin "len") (fun xs H Q=>∃ a kvs,xs=[V.ref a]∧H a=some (.dK kvs)∧Q (.int kvs.length) H):=by
 intro pins s σ H xs us Q I r h
 obtain ⟨a,kvs,rfl,ha,q⟩:=h
 obtain ⟨u,rfl,ru⟩:=qar r
 cases ru
 exact qjn I (.inl ha) fun t s' I'=>⟨.int kvs.length,H,I',⟨t,rfl⟩,q⟩
end
theorem qcr {A B:Prop} (h:B):if false=true then A else B:=by
 rw [if_neg Bool.false_ne_true]
 exact h
theorem qeJ {A B:Prop} (h:A):if true=true then A else B:=by
 rw [if_pos rfl]
 exact h
def Same (H H':Hp):Prop:=∀ b o,H b=some o->H' b=some o
theorem Same.refl (H:Hp):Same H H:=fun _ _ h=>h
theorem Same.trans {H H1 H2:Hp} (a:Same H H1) (b:Same H1 H2):Same H H2:=fun c o h=>b c o (a c o h)
theorem Same.seq {K:PySem.W.Frag} {H H':Hp} {a:Addr} {xs:List V} (e:Same H H') (h:SqL K H a xs):SqL K H' a xs:=by
 rcases h with (h | ⟨o,h⟩) | h
 · exact .inl (.inl (e _ _ h))
 · exact .inl (.inr ⟨o,e _ _ h⟩)
 · exact .inr h
section
variable {κ:Type} [DecidableEq κ]
end
end L2
namespace L2
open PySem PySem.Spec PyProof.Rows
section
variable {X:Cx} {pins:List (Addr×Obj)} {σ:St} {H:Hp} {s:Shared} {h':Heap}
theorem Inv.turnLaid {ch:List Addr} {a:Addr} {o:HO} {t':Nat} (I:Inv X pins σ H s) (k:∀ b u,b∉ch->s.heap.get? b=some u->h'.get? b=some u) (hf:∀ b∈ch,qeT X pins H b)
   (hp:s.heap.objs.size≤a) (new:ObjOk X.prog X.w (upd H a o) h' a o):Inv X pins σ (upd H a o) { s with heap:=h',toks:=t' }:=by
 have hn:H a=none:=I.hok.fresh hp
 refine I.step (g':=s.gens) (d':=s.drawn) (ch:=ch) (fun b hb=>?_) (fun b u _ _ hc e _=>k b u hc e) (fun b u _ _ hc e _=>⟨u.slots,k b u hc e⟩)
   (fun b u _ e n=>?_) (fun b u hc e=>⟨u,k b u hc e⟩) (fun b xs e=>?_) (fun b u v e=>?_) (fun b ps e=>?_) (fun m hm=>?_) (fun b u e=>?_) I.bare
 · obtain ⟨_,f1,_,f3,f4,f5⟩:=hf b hb
   exact ⟨f3,f1,f4,f5⟩
 · rw [qh (Nat.ne_of_lt (Nat.lt_of_lt_of_le (Heap.lt_size e) hp))]; exact n
 · rw [qh (qi e hn)]; exact e
 · rw [qh (qi e hn)]; exact e
 · exact ⟨#[],by rw [qh (qi e hn),e]; simp⟩
 · obtain ⟨ob,es,ep,ho,r⟩:=hm
   exact ⟨ob,es,ep,k _ ob (fun z=>(hf _ z).2.1 rfl) ho,r⟩
 · by_cases hb:b=a
   · subst hb; rw [qd] at e; cases e; exact new
   · rw [qh hb] at e
     refine (I.hok b u e).stay (fun c v hc q=>k c v ?_ q) (fun c q=>by rw [qh (qi q hn)]; exact q) fun c xs q=>by rw [qh (qi q hn)]; exact q
     intro z
     have zz:=(hf c z).1
     rcases hc with rfl | hc
     · rw [e] at zz; cases zz
     · rw [hc] at zz; cases zz
theorem Inv.turnL {ch:List Addr} {t':Nat} (I:Inv X pins σ H s) (k:∀ b u,b∉ch->s.heap.get? b=some u->h'.get? b=some u) (hf:∀ b∈ch,qeT X pins H b) :
   Inv X pins σ H { s with heap:=h',toks:=t' }:=by
 refine I.step (g':=s.gens) (d':=s.drawn) (ch:=ch) (fun b hb=>?_) (fun b u _ _ hc e _=>k b u hc e) (fun b u _ _ hc e _=>⟨u.slots,k b u hc e⟩)
   (fun b u _ e n=>n) (fun b u hc e=>⟨u,k b u hc e⟩) (fun b xs e=>e) (fun b u v e=>e) (fun b ps e=>⟨#[],by rw [e]; simp⟩) (fun m hm=>?_) (fun b u e=>?_) I.bare
 · obtain ⟨_,f1,_,f3,f4,f5⟩:=hf b hb
   exact ⟨f3,f1,f4,f5⟩
 · obtain ⟨ob,es,ep,ho,r⟩:=hm
   exact ⟨ob,es,ep,k _ ob (fun z=>(hf _ z).2.1 rfl) ho,r⟩
 · refine (I.hok b u e).stay (fun c v hc q=>k c v ?_ q) (fun c q=>q) fun c xs q=>q
   intro z
   have zz:=(hf c z).1
   rcases hc with rfl | hc
   · rw [e] at zz; cases zz
   · rw [hc] at zz; cases zz
end
def Ite (K:PySem.W.Frag) (a:Addr):It :=
 ⟨fun i H=>∃ xs x,SqL K H a xs∧xs[i]?=some x,
  fun i H x H'=>∃ p v,H p=none∧x=.ref p∧(∀ xs,SqL K H a xs->xs[i]?=some v)∧H'=upd H p (.tup [.int i,v]),
  fun i H=>∃ xs,SqL K H a xs∧xs.length≤i⟩
theorem qeX {P:Program} {w:World} {K:PySem.W.Frag} {elts:List Expr} {k:Nat} {pos:Pos} (a e it:Addr) (hne:e≠it) :
   qht P w K (.Tuple elts k pos) (Ite K a) [e,it] e (fun i h=>(∃ old,IsEnum h e it i old)∧h.IsListIter it a i) where
 mem:=by simp
 obj:=fun i h st b hb=>by
   obtain ⟨⟨old,he⟩,hit⟩:=st
   rcases List.mem_cons.mp hb with rfl | hb
   · exact ⟨_,he,fun v z=>by cases z⟩
   · have e1:b=it:=by simpa using hb
     subst e1
     obtain ⟨o,q,c,d⟩:=hit
     exact ⟨o,q,fun v z=>by rw [d] at z; cases z⟩
 keep:=fun i h h' st kk=>by
   obtain ⟨⟨old,he⟩,hit⟩:=st
   exact ⟨⟨old,kk e (by simp) _ he⟩,hit.at fun o q=>kk it (by simp) o q⟩
 item:=by
   intro X hP hw hK hc i pins s σ H E I hf st hg
   subst hP hw hK
   obtain ⟨xs,x,hq,hx⟩:=hg
   obtain ⟨its,rv,p,hz⟩:=I.list hq
   obtain ⟨u,hu,ru⟩:=rv.get hx
   obtain ⟨⟨old,he⟩,hit⟩:=st
   refine wpAny_pyNext_enum_item he hit p.isList (x:=u) (by simpa using hu) hne fun h1 ho hit1 hT hsz hk=>?_
   refine ⟨_,rfl,wpAny_letOwnedTupleGo_enum (s:={ s with heap:=h1,toks:=s.toks+1 }) ho fun h2 he2 hs2=>?_⟩
   have hel:e < s.heap.objs.size:=Heap.lt_size he
   have hil:it < s.heap.objs.size:=by obtain ⟨_,q,_⟩:=hit; exact Heap.lt_size q
   have hT2:h2.get? s.heap.objs.size=some { cls:=.type "tuple",data:=.seq #[.int i s.toks,u] }:=(hs2.2 _ (Nat.ne_of_gt hel)).trans hT
   have I1:Inv X pins σ (upd H s.heap.objs.size (.tup [.int i,x])) { s with heap:=h2,toks:=s.toks+1 }:=by
     refine I.turnLaid (ch:=[e,it]) (fun b o hb q=>?_) hf (Nat.le_refl _) ⟨by show 2≤sizeLine; decide,[.int i s.toks,u],.cons ⟨_,rfl⟩ (.cons ru .nil),⟨_,hT2,rfl,_,rfl⟩⟩
     have b1:b≠e:=fun z=>hb (by simp [z])
     have b2:b≠it:=fun z=>hb (by simp [z])
     exact (hs2.2 b b1).trans (hk b o b1 b2 q)
   refine ⟨.ref s.heap.objs.size,_,I1,rfl,⟨_,x,I.hok.fresh (Nat.le_refl _),rfl,fun ys hy=>by rw [I.list_inj hy hq]; exact hx,rfl⟩,⟨⟨_,by simpa using he2⟩,hit1.at fun o q=>(hs2.2 it hne.symm).trans q⟩,fun b hb=>?_⟩
   have hbl:b < s.heap.objs.size:=by
     rcases List.mem_cons.mp hb with rfl | hb
     · exact hel
     · have e1:b=it:=by simpa using hb
       rw [e1]; exact hil
   rw [qh (Nat.ne_of_lt hbl)]
   exact (hf b hb).1
 done:=by
   intro X hP hw hK hc i pins s σ H E I hf st hg
   subst hP hw hK
   obtain ⟨xs,hq,hx⟩:=hg
   obtain ⟨its,rv,p,hz⟩:=I.list hq
   obtain ⟨⟨old,he⟩,hit⟩:=st
   have hl:=rv.length
   refine wpAny_pyNext_enum_end (I.ok.hd hc) he hit p.isList (by simp; omega) fun h' eb=>⟨rfl,I.turnL (t':=s.toks) (ch:=[e,it]) (fun b o hb q=>eb b o (fun z=>hb (by simp [z])) q) hf⟩
 self:=fun _ _ _ _ _ st h=>by
   obtain ⟨⟨old,he⟩,_⟩:=st
   exact wpAny_pyIter_enum he h
theorem qf4:bootBuiltins "enumerate"=some (.type "enumerate"):=by decide +kernel
inductive qfL (K:PySem.W.Frag) (R:(It->Hp->Prop)) (vs:List V) (H1:Hp):Prop
 | mk (a:_) (h1:vs=[.ref a]) (h2:(∃ xs,SqL K H1 a xs)) (h3:R (Ite K a) H1):qfL K R vs H1
def qji (K:PySem.W.Frag) (ta:TA):TI:=fun σ H R=>ta σ H fun vs H1=>qfL K R vs H1
section
variable {X:Cx}
theorem qds {a:Expr} {ta:TA} {p pos tp:Pos} {elts:List Expr} {kk:Nat} (hg:Gl X "enumerate") (hm:X.mg "enumerate"=none) (ha:PA X [a] ta) (hs:starEach [a] X.env=[(false,eval a X.env)]:=by rfl) :
   PI X (.Tuple elts kk tp) (.Call (.Name "enumerate" p) [a] [] pos) (qji X.K ta):=by
 intro pins s σ H R I h
 refine Call_ (qae I hg hm qf4 (PyProof.Rows.callWith_type1 (thn (ha pos pins s σ H _ I h) fun us s1 zz_=>?_) hs rfl))
 obtain ⟨vs,H1,I1,r1,q1⟩:=zz_
 obtain ⟨l,e,⟨xs,hq⟩,q⟩:=q1
 subst e
 obtain ⟨u,rfl,ru⟩:=qar r1
 cases ru
 obtain ⟨its,rv,pl,hz⟩:=I1.list hq
 refine call_enumerate_list pl.isList fun h' he hit hsz hk=>?_
 have I2:Inv X pins σ H1 { s1 with heap:=h' }:=I1.kept (t':=s1.toks) hk
 refine wpAny_pyIter_enum he ⟨s1.heap.objs.size+1,[s1.heap.objs.size+1,s1.heap.objs.size],_,Ite X.K l,H1,rfl,I2,qeX l _ _ (Nat.succ_ne_self _),⟨⟨_,he⟩,hit⟩,fun b hb=>?_,q⟩
 have hb1:s1.heap.objs.size≤b:=by
   rcases List.mem_cons.mp hb with e1 | hb
   · rw [e1]; exact Nat.le_succ _
   · have e1:b=s1.heap.objs.size:=by simpa using hb
     rw [e1]; exact Nat.le_refl _
 exact I1.fpOk hb1 (I1.hok.fresh hb1)
end
theorem qcp {K:PySem.W.Frag} {a:Addr} {xs:List V} {g:TG} {tb:TS} {D:qgd} {σ:St} {H:Hp} (Pv:Nat->St->Hp->Prop) (h0:Pv 0 σ H) (hl:∀ i σ H,i≤xs.length->Pv i σ H->SqL K H a xs)
   (hs:∀ i x σ H p,xs[i]?=some x->Pv i σ H->H p=none->g (.ref p) σ (upd H p (.tup [.int i,x])) fun σ2 H2=>tb { D with nx:=Pv (i+1),ct:=Pv (i+1),bk:=D.nx } σ2 H2) (hd:∀ σ H,Pv xs.length σ H->D.nx σ H) :
   ∃ W:Nat->Nat->St->Hp->Prop,(∃ m,W 0 m σ H)∧∀ i m σ H,W i m σ H ->
     ((Ite K a).stop i H∧D.nx σ H)∨((Ite K a).go i H∧∃ N:St->Hp->Prop,(∀ σ' H',N σ' H'->∃ m',m' < m∧W (i+1) m' σ' H')∧∀ x H',(Ite K a).yld i H x H'->g x σ H' fun σ2 H2=>tb { D with nx:=N,ct:=N,bk:=D.nx } σ2 H2):=by
 refine ⟨fun i m σ H=>m=xs.length - i∧i≤xs.length∧Pv i σ H,⟨xs.length,by simp,Nat.zero_le _,h0⟩,?_⟩
 rintro i m σ H ⟨rfl,hi,p⟩
 have q:=hl i σ H hi p
 by_cases hlt:i < xs.length
 · refine .inr ⟨⟨xs,xs[i],q,by simp [hlt]⟩,Pv (i+1),fun σ' H' p'=>⟨xs.length - (i+1),by omega,rfl,hlt,p'⟩,fun x H' y=>?_⟩
   obtain ⟨t,v,hn,rfl,y,rfl⟩:=y
   exact hs i v σ _ t (y xs q) p hn
 · have e:i=xs.length:=by omega
   subst e
   exact .inl ⟨⟨xs,q,Nat.le_refl _⟩,hd σ H p⟩
def tyN (H:Hp):V->Option String
 | .non=>some "NoneType"
 | .bl _=>some "bool"
 | .int _=>some "int"
 | .str _=>some "str"
 | .ref a=>match H a with
   | some (.lst _)=>some "list"
   | some (.tup _)=>some "tuple"
   | some (.dK _)=>some "dict"
   | _=>none
 | _=>none
def qjM (c t:String):Bool:=t == c || (t == "bool" && c == "int")
theorem qgf {K:PySem.W.Frag} {H:Hp} {v:V} {t:String} (h:tyN H v=some t):qdm K H v (.type t):=by
 cases v with
 | non=>cases h; exact .non
 | bl b=>cases h; exact .bl b
 | int b=>cases h; exact .int b
 | str b=>cases h; exact .str b
 | byt b=>cases h
 | flt b=>cases h
 | ty b=>cases h
 | ref a =>
   simp only [tyN] at h
   split at h
   · rename_i e; cases h; exact .lst e
   · rename_i e; cases h; exact .tup e
   · rename_i e; cases h; exact .dK e
   · cases h
def qdn:List String:=["NoneType","bool","int","str","list","tuple","dict"]
theorem qhx {H:Hp} {v:V} {t:String} (h:tyN H v=some t):t∈qdn:=by
 cases v with
 | non=>cases h; decide
 | bl b=>cases h; decide
 | int b=>cases h; decide
 | str b=>cases h; decide
 | byt b=>cases h
 | flt b=>cases h
 | ty b=>cases h
 | ref a =>
   simp only [tyN] at h
   split at h<;>first | (cases h; decide) | cases h
def qcn:List String:=["bool","int","str","list","tuple","dict"]
theorem qiF (K:PySem.W.Frag) {t c:String} (ht:t∈qdn) (hc:c∈qcn):PySem.W.kitOne K (.type t) (.type c)=some (qjM c t):=by
 simp only [qdn,qcn,List.mem_cons,List.not_mem_nil,or_false] at ht hc
 rcases ht with rfl | rfl | rfl | rfl | rfl | rfl | rfl<;>rcases hc with rfl | rfl | rfl | rfl | rfl | rfl<;>(unfold PySem.W.kitOne PySem.W.kitCls; rfl)
inductive qg4 (xs:List V) (H:Hp) (Q:VK):Prop
 | mk (x c t:_) (h1:xs=[x,.ty c]) (h2:c∈qcn) (h3:tyN H x=some t) (h4:Q (.bl (qjM c t)) H):qg4 xs H Q
def qj5:List V->Hp->VK->Prop:=fun xs H Q=>qg4 xs H Q
section
variable {X:Cx}
theorem zA:JB X (.builtin "isinstance") qj5:=by
 intro pins s σ H xs us Q I r h
 obtain ⟨x,c,t,rfl,hc,ht,q⟩:=h
 obtain ⟨u,w',rfl,ru,rw'⟩:=qeV r
 cases (show w'=Value.type c from rw')
 exact qda I ru (qgf ht) (qiF X.K (qhx ht) hc) fun tk=>⟨.bl _,H,I.tok tk,rfl,q⟩
end
section
variable {X:Cx}
end
mutual
inductive DV (H:Hp):V->PyData->Prop
 | non:DV H .non .none
 | bl (b):DV H (.bl b) (.bool b)
 | int (i):DV H (.int i) (.int i)
 | str (x):DV H (.str x) (.str x)
 | lst {a xs ds}:Rd H a (.lst xs)->DVs H xs ds->DV H (.ref a) (.list ds)
 | tup {a xs ds}:Rd H a (.tup xs)->DVs H xs ds->DV H (.ref a) (.tuple ds)
inductive DVs (H:Hp):List V->List PyData->Prop
 | nil:DVs H [] []
 | cons {x xs d ds}:DV H x d->DVs H xs ds->DVs H (x::xs) (d::ds)
end
section
variable {P:Program} {w:World} {H:Hp} {h:Heap}
mutual
theorem DV.reads (ok:HOk P w H h):∀ {v:V} {d:PyData} {u:Value},DV H v d->RelV v u->∃ as,Reads h u d as
 | _,_,u,.non,r=>by cases (show u=Value.none from r); exact ⟨_,.none⟩
 | _,_,u,.bl b,r=>by cases (show u=Value.bool b from r); exact ⟨_,.bool b⟩
 | _,_,u,.int i,r=>by obtain ⟨t,q⟩:=(show ∃ t,u=Value.int i t from r); cases q; exact ⟨_,.int i t⟩
 | _,_,u,.str x,r=>by obtain ⟨t,q⟩:=(show ∃ t,u=Value.str x t from r); cases q; exact ⟨_,.str x t⟩
 | _,_,u,.lst (a:=a) rd q,r=>by
   cases (show u=Value.ref a from r)
   obtain ⟨_,its,n,rv,e⟩:=rd.ok ok
   obtain ⟨as,z⟩:=DVs.reads ok q rv
   exact ⟨_,.list e rfl rfl z⟩
 | _,_,u,.tup (a:=a) rd q,r=>by
   cases (show u=Value.ref a from r)
   obtain ⟨_,its,rv,ob,e,c,n,d⟩:=rd.ok ok
   obtain ⟨as,z⟩:=DVs.reads ok q rv
   exact ⟨_,.tuple e c d z⟩
theorem DVs.reads (ok:HOk P w H h):∀ {vs:List V} {ds:List PyData} {us:List Value},DVs H vs ds->Vals vs us->∃ as,ReadsAll h us ds as
 | _,_,_,.nil,.nil=>⟨_,.nil⟩
 | _,_,_,.cons a b,.cons r t=>by
   obtain ⟨as,z⟩:=DV.reads ok a r
   obtain ⟨bs,y⟩:=DVs.reads ok b t
   exact ⟨_,.cons z y⟩
end
end
section
variable {X:Cx}
inductive qg5 (x:V) (y:V) (H:Hp) (Q:VK):Prop
 | mk (d e:_) (h1:DV H x d) (h2:DV H y e) (h3:SeqAt.shaped d=true) (h4:SeqAt.shaped e=true) (h5:Q (.bl (PyData.eqv d e)) H):qg5 x y H Q
def qjG:R2:=fun x y H Q=>qg5 x y H Q
inductive qg0 (x:V) (y:V) (H:Hp) (Q:VK):Prop
 | mk (d e:_) (h1:DV H x d) (h2:DV H y e) (h3:SeqAt.shaped d=true) (h4:SeqAt.shaped e=true) (h5:Q (.bl (!PyData.eqv d e)) H):qg0 x y H Q
def qjA:R2:=fun x y H Q=>qg0 x y H Q
theorem qiv (hu:X.A.units+64 < cLine):OpR X (compareOp .Eq) qjG:=by
 intro pins s σ H x y v u Q I rx ry h
 obtain ⟨d,e,hd,he,sd,se,q⟩:=h
 obtain ⟨as,ra⟩:=hd.reads I.hok rx
 obtain ⟨bs,rb⟩:=he.reads I.hok ry
 exact eq_dataH ra rb sd se hu ⟨.bl _,H,I,rfl,q⟩
theorem qit (hu:X.A.units+64 < cLine):OpR X (compareOp .NotEq) qjA:=by
 intro pins s σ H x y v u Q I rx ry h
 obtain ⟨d,e,hd,he,sd,se,q⟩:=h
 obtain ⟨as,ra⟩:=hd.reads I.hok rx
 obtain ⟨bs,rb⟩:=he.reads I.hok ry
 exact ne_dataH ra rb sd se hu ⟨.bl _,H,I,rfl,q⟩
end
section
variable {X:Cx}
end
section
variable {X:Cx}
def qja:R2:=fun x y H Q=>rI0 (fun i j=>.int (i+j)) x y H Q∨qjH x y H Q∨∃ i j,x=.str i∧y=.str j∧i.length+j.length≤sizeLine∧Q (.str (i++j)) H
theorem Zu:OpR X (binaryOp .Add) qja:=op_add.or (op_cat.or qex)
def qjF:R2:=fun x y H Q=>rEq x y H Q∨qjG x y H Q
def qiU:R2:=fun x y H Q=>rNe x y H Q∨qjA x y H Q
theorem uEq (hU:X.A.units+64 < cLine):OpR X (compareOp .Eq) qjF:=op_eq.or (qiv hU)
theorem uNe (hU:X.A.units+64 < cLine):OpR X (compareOp .NotEq) qiU:=op_ne.or (qit hU)
end
theorem Jd:bootBuiltins "tuple"=some (.type "tuple"):=by decide +kernel
theorem zw:bootBuiltins "list"=some (.type "list"):=by decide +kernel
theorem ZM:bootBuiltins "int"=some (.type "int"):=by decide +kernel
theorem JV:bootBuiltins "bool"=some (.type "bool"):=by decide +kernel
theorem qdf:bootBuiltins "str"=some (.type "str"):=by decide +kernel
theorem qeR:bootBuiltins "dict"=some (.type "dict"):=by decide +kernel
theorem qS:bootBuiltins "len"=some (.builtin "len"):=by decide +kernel
theorem Qx:bootBuiltins "max"=some (.builtin "max"):=by decide +kernel
theorem Zf:bootBuiltins "min"=some (.builtin "min"):=by decide +kernel
theorem qx:bootBuiltins "isinstance"=some (.builtin "isinstance"):=by decide +kernel
structure Df (K:PySem.W.Frag) (mg:Str->Option Value) (x:Str) (st:Stmt) (ps:List Str) (f:Addr) (fd:FuncData):Prop where
 F:Fun K x x st f fd
 b:Binds K fd ps []
 m:mg x=some (.ref f)
 k:PySem.W.keepIn K (.ref f)=true
theorem Same.new {H:Hp} {p:Addr} (o:HO) (h:H p=none):Same H (upd H p o):=fun b u e=>by rw [qh (qi e h)]; exact e
theorem Same.then {H H1:Hp} (s:Same H H1) {p:Addr} (o:HO) (h:H1 p=none):Same H (upd H1 p o):=s.trans (Same.new o h)
def But (p:Addr) (H H':Hp):Prop:=∀ b o,H b=some o->b≠p->H' b=some o
theorem But.refl (p:Addr) (H:Hp):But p H H:=fun _ _ h _=>h
theorem But.trans {p:Addr} {H H1 H2:Hp} (a:But p H H1) (b:But p H1 H2):But p H H2:=fun c o h n=>b c o (a c o h n) n
theorem But.put {p:Addr} {H H1:Hp} (s:But p H H1) (o:HO):But p H (upd H1 p o):=fun b u e n=>by rw [qh n]; exact s b u e n
theorem But.same {p:Addr} {H H1 H2:Hp} (a:But p H H1) (b:Same H1 H2):But p H H2:=fun c o h n=>b c o (a c o h n)
theorem qk {n:Nat} (h:n≤1000):n≤sizeLine:=Nat.le_of_lt (qE h)
theorem zy {b:Bool} {A B:Prop} (e:b=false) (h:B):if b=true then A else B:=by rw [e]; exact qcr h
theorem qfH {b:Bool} {A B:Prop} (e:b=true) (h:A):if b=true then A else B:=by rw [e]; exact qeJ h
theorem qjf {b:Bool} {A B:Prop} (h1:b=true->A) (h2:b=false->B):if b=true then A else B:=by
 cases b
 · exact qcr (h2 rfl)
 · exact qeJ (h1 rfl)
theorem Zh {c A B:Prop} [Decidable c] (h1:c->A) (h2:¬ c->B):if (decide c)=true then A else B:=by
 by_cases h:c
 · rw [decide_eq_true h]; exact qeJ (h1 h)
 · rw [decide_eq_false h]; exact qcr (h2 h)
theorem qeK {c A B:Prop} [Decidable c] (h1:¬ c->A) (h2:c->B):if (!decide c)=true then A else B:=by
 by_cases h:c
 · rw [decide_eq_true h]; exact qcr (h2 h)
 · rw [decide_eq_false h]; exact qeJ (h1 h)
end L2
namespace L2
open PySem PySem.Spec PyProof.Rows
section
variable {prog:Program} {w:World} {A:Around} {R:Result->Shared->Prop} {s:Shared}
abbrev noE:Value->Shared->Prop:=fun _ _=>False
theorem qa5 {elt target iter:Expr} {ifs:List Expr} {scope:Scope} {pos:Pos} {it acc:Value} {env:Env} (I:Nat->Shared->Prop)
   (turn:∀ n s,I n s->wpAny (model prog w) A (pyNext it) (fun r s₁=>match r with
     | none=>R (.ok .next) s₁
     | some v=>wpAny (model prog w) A (letOwnedTupleGo target it v) (fun _ s₀=>wpAny (model prog w) A (assign target env v) (fun _ s₂ =>
         wpAny (model prog w) A (forIn ifs true fun c r=>if r=true then do let ok ← isTrue c env (eval c env); pure (ForInStep.yield ok) else pure (ForInStep.yield r)) (fun ok s₃ =>
           if ok=true then wpAny (model prog w) A (eval elt env) (fun x s₄ =>
             wpAny (model prog w) A (call (.builtin "list.append") [acc,x]) (fun _ s₅=>∃ m,m < n∧I m s₅) noE s₄) noE s₃
           else ∃ m,m < n∧I m s₃) noE s₂) noE s₀) noE s₁) noE s)
   (n:Nat) (h:I n s) :
   codeAny (model prog w) A (.compLoop (.ListComp elt [⟨target,iter,ifs,0⟩] scope pos) 0 it acc env) R s:=by
 refine codeAny_loop rfl I (fun n s hI=>?_) n h
 show wpAny _ A ((compTurn (.ListComp elt [⟨target,iter,ifs,0⟩] scope pos) 0 it acc env).onRaise (fun x=>do noteFrame x env; theTreesLotGoes x)) _ _ s
 refine wpAny_noted ?_
 rw [compTurn_list]
 refine wpAny_bind (wpAny_standAt (wpAny_bind (wpAny_mono (turn n s hI) (fun r s₁ h₁=>?_) fun _ _ h'=>h'.elim)))
 cases r with
 | none=>exact wpAny_pure h₁
 | some v =>
   refine wpAny_bind (wpAny_mono h₁ (fun _ s₀ h₀=>?_) fun _ _ h'=>h'.elim)
   refine wpAny_bind (wpAny_mono h₀ (fun _ s₂ h₂=>wpAny_bind (wpAny_mono h₂ (fun ok s₃ h₃=>?_) fun _ _ h'=>h'.elim)) fun _ _ h'=>h'.elim)
   cases ok with
   | false=>exact wpAny_pure ⟨rfl,h₃⟩
   | true =>
     exact wpAny_bind (wpAny_bind (wpAny_mono h₃ (fun x s₄ h₄=>wpAny_bind (wpAny_mono h₄ (fun _ s₅ h₅=>wpAny_pure (wpAny_pure ⟨rfl,h₅⟩)) fun _ _ h'=>h'.elim)) fun _ _ h'=>h'.elim))
end
def zv (X:Cx) (scope:Scope) (N:List Str) (cl:List (Str×Addr)) (C:Addr) (s₀:Shared) (H₀:Hp) (ex:List Addr) (pn:List (Addr×Obj)):Cx where
 prog:=X.prog
 w:=X.w
 K:=X.K
 mg:=X.mg
 base:=X.base
 A:=X.A
 N:=N
 s₀:=s₀
 H₀:=H₀
 env:=compEnvC scope cl C X.env
 outer:=X.stack
 stack:=X.stack
 ex:=ex
 fn:=fun x=>!(cl.lookup x).isSome
 calm:=X.calm
 pn:=pn
 xe:=noE
def st0 (js:List (Option Nat)) (σ:St):St:=js.map fun o=>o.bind fun j=>(σ[j]?).join
def PTs (X:Cx) (ifs:List Expr) (t:TT):Prop :=
 ∀ (pins:List (Addr×Obj)) (s:Shared) (σ:St) (H:Hp) (Q:Bool->Hp->Prop),Inv X pins σ H s->t σ H Q ->
   wpAny (model X.prog X.w) X.A (forIn ifs true fun c r=>if r=true then do let ok ← isTrue c X.env (eval c X.env); pure (ForInStep.yield ok) else pure (ForInStep.yield r)) (TP X pins σ Q) X.xe s
def qjW:TT:=fun _ H Q=>Q true H
theorem Zb {X:Cx}:PTs X [] qjW:=fun _ _ _ H _ I h=>wpAny_tests_nil ⟨H,I,h⟩
theorem qaK {X:Cx} {c:Expr} {t:TT} (h:PT X c t):PTs X [c] t:=fun pins s σ H Q I q=>wpAny_tests_one (h pins s σ H Q I q)
def jK (J:It) (g:TG) (tt:TT) (te:TE) (D:Addr) (Q:VK) (σ0:St) (H0:Hp):Prop :=
 ∃ W:Nat->Nat->St->Hp->Prop,(∃ m,W 0 m σ0 H0)∧∀ i m σ' H',W i m σ' H' ->
   (J.stop i H'∧Q (.ref D) H')∨(J.go i H'∧∃ N:St->Hp->Prop,(∀ σ2 H2,N σ2 H2->∃ m',m' < m∧W (i+1) m' σ2 H2) ∧
     ∀ x H2,J.yld i H' x H2->g x σ' H2 fun σ3 H3=>tt σ3 H3 fun ok H4=>if ok=true then te σ3 H4 fun y H5=>∃ ys,H5 D=some (.lst ys)∧ys.length < sizeLine∧N σ3 (upd H5 D (.lst (ys++[y]))) else N σ3 H4)
def qig (wi:TI) (g:TG) (tt:TT) (te:TE) (js:List (Option Nat)):TE:=fun σ H Q=>wi σ H fun J H1=>∀ D,H1 D=none->jK J g tt te D Q (st0 js σ) (upd H1 D (.lst []))
structure CompOk (X:Cx) (scope:Scope) (N:List Str) (cl:List (Str×Addr)) (js:List (Option Nat)):Prop where
 clos:closureFor scope X.env=pure cl
 sub:∀ x c,cl.lookup x=some c->X.env.cells.lookup x=some c
 all:∀ x,((relabel scope X.env).names.lookup x=some .cell∨(relabel scope X.env).names.lookup x=some .free)->∃ c,cl.lookup x=some c
 cell:∀ y∈scope.names,y.2≠.cell
 kind:scope.kind=.function
 names:∀ y∈scope.names,y.2=.local->scope.names.lookup y.1=some .local
 len:js.length=N.length
 fr:∀ (i j:Nat) (x:Str),js[i]?=some (some j)->N[i]?=some x->X.N[j]?=some x∧X.env.kindOf x=some .cell∧((relabel scope X.env).names.lookup x=some .cell∨(relabel scope X.env).names.lookup x=some .free)
section
variable {X:Cx}
theorem qhE {js:List (Option Nat)} {σ:St} {i:Nat} {v:V} (h:(st0 js σ)[i]?=some (some v)):∃ j,js[i]?=some (some j)∧σ[j]?=some (some v):=by
 unfold st0 at h
 rw [List.getElem?_map] at h
 cases e:js[i]? with
 | none=>rw [e] at h; cases h
 | some o =>
   rw [e] at h
   cases o with
   | none=>cases h
   | some j =>
     refine ⟨j,rfl,?_⟩
     have h':(σ[j]?).join=some v:=by simpa using h
     cases e2:σ[j]? with
     | none=>rw [e2] at h'; cases h'
     | some o2=>rw [e2] at h'; cases o2 with
       | none=>cases h'
       | some u=>rw [show u=v by simpa using h']
theorem qh1 {pins:List (Addr×Obj)} {σ:St} {H:Hp} {s:Shared} {scope:Scope} {N:List Str} {cl:List (Str×Addr)} {js:List (Option Nat)} {C:Addr} {fp:List Addr} (k:CompOk X scope N cl js) (I:Inv X pins σ H s)
   (hf:∀ b∈fp,qeT X pins H b) (hfl:∀ b∈fp,b < s.heap.objs.size) (hC:s.heap.objs.size≤C):(zv X scope N cl C s H fp (X.pn++pins)).Ok where
 mod:=I.ok.mod
 kind:=k.kind
 glob:=I.ok.glob
 blt:=I.ok.blt
 above:=hC
 inj:=fun x y c h1 h2=>I.ok.inj x y c (k.sub _ _ h1) (k.sub _ _ h2)
 has:=fun x h=>k.all x h
 cab:=fun x c h1 h2=>by
   have h1':(!(cl.lookup x).isSome)=true:=h1
   have h2':cl.lookup x=some c:=h2
   rw [h2'] at h1'; cases h1'
 hd:=I.ok.hd
 frames:=I.ok.frames
 stk:=.inl rfl
 exf:=fun b hb=>⟨Nat.ne_of_lt (Nat.lt_of_lt_of_le (hfl b hb) hC),fun x c h=>(hf b hb).2.2.2.2.1 x c (k.sub _ _ h)⟩
 bs:=I.bs
 bsz:=Nat.le_trans I.ok.bsz I.sz
 noex:=fun b o e hb=>by
   rcases (hf b hb).2.2.2.1 with z | z
   · exact I.ok.noex b o e z
   · exact absurd (Nat.lt_of_lt_of_le (Heap.lt_size e) (Nat.le_trans I.ok.bsz z)) (Nat.lt_irrefl _)
 exfs:=fun b hb z=>by
   rcases List.mem_cons.mp (I.stkSub b z) with e | e
   · exact (hf b hb).2.1 e
   · exact (hf b hb).2.2.1 e
 funs:=I.stack
 frf:=I.stkFree
theorem qei {pins:List (Addr×Obj)} {σ:St} {H:Hp} {s:Shared} {h1:Heap} {t':Nat} {scope:Scope} {N:List Str} {cl:List (Str×Addr)} {js:List (Option Nat)} {C D:Addr} {fp:List Addr} {m:Str->Option Value} (k:CompOk X scope N cl js) (I:Inv X pins σ H s)
   (hf:∀ b∈fp,qeT X pins H b) (hfl:∀ b∈fp,b < s.heap.objs.size) (hD:s.heap.objs.size≤D) (hC:s.heap.objs.size≤C) (hDC:D≠C)
   (hn:h1.Ns C m) (hl:h1.get? D=some { cls:=.type "list",data:=.seq ([]:List Value).toArray }) (hk:∀ b o,s.heap.get? b=some o->h1.get? b=some o) :
   Inv (zv X scope N cl C s H fp (X.pn++pins)) [] (st0 js σ) (upd H D (.lst [])) { s with heap:=h1,toks:=t' }:=by
 have fD:H D=none:=I.hok.fresh hD
 have fC:H C=none:=I.hok.fresh hC
 have nC:∀ b,b < s.heap.objs.size->b≠C:=fun b hb=>Nat.ne_of_lt (Nat.lt_of_lt_of_le hb hC)
 refine ⟨qh1 k I hf hfl hC,rfl,I.bare,?_,?_,?_,?_,?_,?_,?_,?_⟩
 · exact (Un.laid (fs:=frs X.stack) (ex:=fp) (o:=.lst []) hk hD fD)
 · refine ⟨m,hn,fun i x v e1 e2 e3=>?_⟩
   obtain ⟨j,f1,f2⟩:=qhE e2
   obtain ⟨g1,g2,g3⟩:=k.fr i j x f1 e1
   obtain ⟨m',hn',hl'⟩:=I.loc
   obtain ⟨u,ru,lk⟩:=hl' j x v g1 f2 (.inr (.inl g2))
   refine ⟨u,ru,.inr ⟨g3,?_⟩⟩
   obtain ⟨c,hc⟩:=k.all x g3
   rcases lk with ⟨z,_⟩ | ⟨_,c',hc',ic⟩
   · rw [g2] at z; cases z
   · have e:=k.sub _ _ hc
     rw [hc'] at e; cases e
     obtain ⟨o,ho,hd⟩:=ic
     exact ⟨c,hc,o,hk _ _ ho,hd⟩
 · intro x c h
   obtain ⟨v,o,ho,hd⟩:=I.cell x c (k.sub _ _ h)
   exact ⟨v,o,hk _ _ ho,hd⟩
 · show (upd H D (.lst [])) C=none
   rw [qh hDC.symm]; exact fC
 · intro x c h
   obtain ⟨v,o,ho,hd⟩:=I.cell x c (k.sub _ _ h)
   rw [qh (Nat.ne_of_lt (Nat.lt_of_lt_of_le (Heap.lt_size ho) hD))]
   exact I.freeC x c (k.sub _ _ h)
 · intro p hp
   have hp':p∈X.pn++pins:=by simpa [zv] using hp
   obtain ⟨e,n,ne,nf,d⟩:=I.pin p hp'
   have lt:=Heap.lt_size e
   refine ⟨hk _ _ e,by rw [qh (Nat.ne_of_lt (Nat.lt_of_lt_of_le lt hD))]; exact n,nC _ lt,fun z=>?_,d⟩
   rcases List.mem_cons.mp (I.stkSub _ z) with e | e
   · exact ne e
   · exact nf e
 · exact I.hok.laid hk hD ⟨Nat.zero_le _,[],0,.nil,hl⟩
 · show (st0 js σ).length=N.length
   unfold st0
   rw [List.length_map]; exact k.len
theorem Qt {elt iter tg:Expr} {ifs:List Expr} {scope:Scope} {pos:Pos} {wi:TI} {g:TG} {tt:TT} {te:TE} {N:List Str} {cl:List (Str×Addr)} {js:List (Option Nat)} (hc:X.calm=true) (k:CompOk X scope N cl js) (hi:PI X tg iter wi)
   (hg:∀ C s₀ H₀ ex pn,PG (zv X scope N cl C s₀ H₀ ex pn) tg g) (ht:∀ C s₀ H₀ ex pn,PTs (zv X scope N cl C s₀ H₀ ex pn) ifs tt) (he:∀ C s₀ H₀ ex pn,PE (zv X scope N cl C s₀ H₀ ex pn) elt te)
   (hs:∀ x,foldedSetIterable iter X.env x=pure x:=by intro _; rfl) :
   PE X (.ListComp elt [⟨tg,iter,ifs,0⟩] scope pos) (qig wi g tt te js):=by
 intro pins s σ H Q I h
 rw [eval_ListComp]
 refine wpAny_comprehension_free (use:=none) rfl hs k.clos k.kind k.names ?_
 refine thn (hi pins s σ H _ I h) fun v s1 h1=>thn h1 fun itv s2 h2=>?_
 obtain ⟨it,fp,tn,J,H2,e,I2,T,st2,f2,hD⟩:=h2
 subst e
 refine wpAny_newObj_type (wpAny_newFunctionEnv k.cell (by intro y hy; simp at hy) (fun h₁ hns₁ hsb₁=>?_) k.kind)
 dsimp only at hns₁ hsb₁ ⊢
 generalize hH2:s2.heap.push { cls:=.type "list",dict:=none,data:=.seq ([]:List Value).toArray }=P2 at hns₁ hsb₁ ⊢
 have hC:P2.objs.size=s2.heap.objs.size+1:=by rw [← hH2,Heap.size_push]
 have hDC:s2.heap.objs.size≠P2.objs.size:=by rw [hC]; exact Nat.ne_of_lt (Nat.lt_succ_self _)
 have hCle:s2.heap.objs.size≤P2.objs.size:=by rw [hC]; exact Nat.le_succ _
 have old:∀ b o,s2.heap.get? b=some o->h₁.get? b=some o:=fun b o e=>hsb₁.extBut b o (Nat.ne_of_lt (Nat.lt_of_lt_of_le (Heap.lt_size e) hCle)) (Heap.get?_push_of_some _ (hH2▸Heap.get?_push_of_some _ e))
 have hacc:h₁.get? s2.heap.objs.size=some { cls:=.type "list",data:=.seq ([]:List Value).toArray }:=hsb₁.extBut _ _ hDC (Heap.get?_push_of_some _ (hH2▸Heap.get?_push_size _ rfl))
 have hfl:∀ b∈fp,b < s2.heap.objs.size:=fun b hb=>by
   obtain ⟨o,e,_⟩:=T.obj _ _ st2 b hb
   exact Heap.lt_size e
 have fD:H2 s2.heap.objs.size=none:=I2.hok.fresh (Nat.le_refl _)
 obtain ⟨W,⟨m0,w0⟩,turn⟩:=hD _ fD
 have IX:Inv (zv X scope N cl P2.objs.size s2 H2 fp (X.pn++pins)) [] (st0 js σ) (upd H2 s2.heap.objs.size (.lst [])) { s2 with heap:=h₁,toks:=s2.toks+([]:List (Str×Value)).length } :=
   qei k I2 f2 hfl (Nat.le_refl _) hCle hDC hns₁ hacc old
 have hg':=hg P2.objs.size s2 H2 fp (X.pn++pins)
 have ht':=ht P2.objs.size s2 H2 fp (X.pn++pins)
 have he':=he P2.objs.size s2 H2 fp (X.pn++pins)
 have stat:∀ {H':Hp},(∀ b∈fp,H' b=none)->∀ b∈fp,qeT (zv X scope N cl P2.objs.size s2 H2 fp (X.pn++pins)) [] H' b:=fun hn b hb=>by
   obtain ⟨g0,g1,g2,g3,g4,g5⟩:=f2 b hb
   refine ⟨hn b hb,Nat.ne_of_lt (Nat.lt_of_lt_of_le (hfl b hb) hCle),fun z=>?_,.inl hb,fun x c h=>g4 x c (k.sub _ _ h),fun p hp=>g5 p (by simpa [zv] using hp)⟩
   rcases List.mem_cons.mp (I2.stkSub b z) with e | e
   · exact g1 e
   · exact g2 e
 have loop:∀ s₃:Shared,s₃={ s2 with heap:=h₁,toks:=s2.toks+([]:List (Str×Value)).length } ->
     codeAny (model X.prog X.w) X.A (.compLoop (.ListComp elt [⟨tg,iter,ifs,0⟩] scope pos) 0 (.ref it) (.ref s2.heap.objs.size) (compEnvC scope cl P2.objs.size X.env))
       (compPost (model X.prog X.w) X.A X.xe none (EP X pins σ Q) (.ref s2.heap.objs.size) P2.objs.size) s₃:=by
   rintro s₃ rfl
   refine qa5 (fun n s'=>∃ i σ' H',Inv (zv X scope N cl P2.objs.size s2 H2 fp (X.pn++pins)) [] σ' H' s'∧tn i s'.heap∧(∀ b∈fp,H' b=none)∧W i n σ' H') ?_ m0
     ⟨0,st0 js σ,_,IX,T.keep _ _ _ st2 (fun b hb o e=>old b o e),fun b hb=>by rw [qh (Nat.ne_of_lt (hfl b hb))]; exact (f2 b hb).1,w0⟩
   rintro n s3 ⟨i,σ3,H3,I3,st3,fr3,w3⟩
   rcases turn i n σ3 H3 w3 with ⟨stop,qn⟩ | ⟨go,N2,hN,step⟩
   · refine thn (T.done (zv X scope N cl P2.objs.size s2 H2 fp (X.pn++pins)) rfl rfl rfl hc i [] s3 σ3 H3 noE I3 (stat fr3) st3 stop) fun r s4 ⟨hr,I4⟩=>?_
     subst hr
     obtain ⟨m4,hn4,_⟩:=id I4.loc
     refine ⟨m4,hn4,fun h' hsb=>⟨.ref s2.heap.objs.size,H3,?_,rfl,qn⟩⟩
     have u4:Un (frs X.stack) fp H2 H3 s2.heap s4.heap:=I4.base
     have ltC:∀ b o,s2.heap.get? b=some o->b≠P2.objs.size:=fun b o e=>Nat.ne_of_lt (Nat.lt_of_lt_of_le (Heap.lt_size e) hCle)
     have u5:Un (frs X.stack) fp H2 H3 s2.heap h' :=
       { keep:=fun b o e n hb hx=>hsb.extBut b o (ltC b o e) (u4.keep b o e n hb hx)
         slot:=fun b o e n hb hx=>by
           obtain ⟨sl,q⟩:=u4.slot b o e n hb hx
           exact ⟨sl,hsb.extBut b _ (ltC b o e) q⟩
         free:=u4.free
         there:=fun b o e hx=>by
           obtain ⟨o',q⟩:=u4.there b o e hx
           exact ⟨o',hsb.extBut b _ (ltC b o e) q⟩
         tups:=u4.tups
         frzs:=u4.frzs
         tbls:=u4.tbls }
     have fC:H3 P2.objs.size=none:=I4.free
     have hok5:HOk X.prog X.w H3 h':=fun b u e=>(I4.hok b u e).stay (fun c v hc' q=>hsb.extBut c v (fun z=>by
       rcases hc' with y | y
       · rw [y] at z; rw [z,fC] at e; cases e
       · rw [z,fC] at y; cases y) q) (fun _ q=>q) fun _ _ q=>q
     exact I2.call' (s':={ s4 with heap:=h' }) I4.os u5 hok5 I4.bare fun b hb=>by
       obtain ⟨g0,g1,g2,g3,g4,g5⟩:=f2 b hb
       exact ⟨g3,g1,g4,g5⟩
   · refine thn (T.item (zv X scope N cl P2.objs.size s2 H2 fp (X.pn++pins)) rfl rfl rfl hc i [] s3 σ3 H3 noE I3 (stat fr3) st3 go) fun r s4 ⟨u,hr,h4⟩=>?_
     subst hr
     refine thn h4 fun _ s5 zz_=>?_
     obtain ⟨x,H5,I5,r5,y5,st5,fr5⟩:=zz_
     have I5':=I5.pinned (stat fr5) (T.obj _ _ st5)
     refine thn (hg' _ s5 σ3 H5 x u _ I5' r5 (step x H5 y5)) fun _ s6 zz_=>?_
     obtain ⟨σ6,H6,I6,q6⟩:=zz_
     refine thn (ht' _ s6 σ6 H6 _ I6 q6) fun ok s7 zz_=>?_
     obtain ⟨H7,I7,q7⟩:=zz_
     have again:∀ {s8:Shared} {σ8:St} {H8:Hp},Inv (zv X scope N cl P2.objs.size s2 H2 fp (X.pn++pins)) ([]++qbw fp s5.heap) σ8 H8 s8->N2 σ8 H8 ->
         ∃ m,m < n∧∃ i σ' H',Inv (zv X scope N cl P2.objs.size s2 H2 fp (X.pn++pins)) [] σ' H' s8∧tn i s8.heap∧(∀ b∈fp,H' b=none)∧W i m σ' H':=fun {s8 σ8 H8} I8 n8=>by
       obtain ⟨m',hm,w8⟩:=hN σ8 H8 n8
       refine ⟨m',hm,i+1,σ8,H8,I8.unpinned,T.keep _ _ _ st5 fun b hb o e=>(I8.pin (b,o) (List.mem_append_right _ (List.mem_append_right _ (QK hb e)))).1,fun b hb=>?_,w8⟩
       obtain ⟨o,e,d⟩:=T.obj _ _ st5 b hb
       exact (I8.pin (b,o) (List.mem_append_right _ (List.mem_append_right _ (QK hb e)))).2.1
     cases ok with
     | false=>exact again I7 (by simpa using q7)
     | true =>
       have q7':te σ6 H7 fun y H5=>∃ ys,H5 s2.heap.objs.size=some (.lst ys)∧ys.length < sizeLine∧N2 σ6 (upd H5 s2.heap.objs.size (.lst (ys++[y]))):=by simpa using q7
       refine thn (he' _ s7 σ6 H7 _ I7 q7') fun xv s8 zz_=>?_
       obtain ⟨y,H8,I8,r8,ys,hy,hlen,n8⟩:=zz_
       refine thn (zn (X:=zv X scope N cl P2.objs.size s2 H2 fp (X.pn++pins)) _ s8 σ6 H8 (.ref s2.heap.objs.size) [y] (.ref s2.heap.objs.size) [xv] (fun _ H9=>N2 σ6 H9) I8 rfl (.cons r8 .nil) ⟨_,ys,y,rfl,rfl,hy,hlen,n8⟩) fun _ s9 ⟨_,H9,I9,_,n9⟩=>again I9 n9
 exact codeAny_compStart_list (loop _ rfl) (T.self _ 0 _ _ _ (T.keep _ _ _ st2 (fun b hb o e=>old b o e)) (loop _ rfl))
end
end L2
namespace L2
open PySem PySem.Spec PyProof.Rows
def Its (x:Str):It:=⟨fun i _=>i < x.cps.size,fun i H v H'=>H'=H∧∃ c,x.cps[i]?=some c∧v=.str ⟨#[c]⟩,fun i _=>x.cps.size≤i⟩
theorem qhi {M:Model} {A:Around} {E:Value->Shared->Prop} {s:Shared} {tg:Expr} {it:Addr} {y:Str} {t:Tok} {Q:Unit->Shared->Prop} (hQ:Q () s):wpAny M A (letOwnedTupleGo tg (.ref it) (.str y t)) Q E s:=by
 unfold letOwnedTupleGo
 cases tg<;>exact wpAny_pure hQ
theorem qgh {P:Program} {w:World} {K:PySem.W.Frag} {tg:Expr} (it:Addr) (x:Str) (t:Tok) (ty:String) (hty:ty="str_ascii_iterator"∨ty="str_iterator") :
   qht P w K tg (Its x) [it] it (fun i h=>h.IsStrIter it ty x t i) where
 mem:=by simp
 obj:=fun i h st b hb=>by
   have e:b=it:=by simpa using hb
   subst e
   obtain ⟨o,e,c,d⟩:=st
   exact ⟨o,e,fun v z=>by rw [d] at z; cases z⟩
 keep:=fun i h h' st k=>by
   obtain ⟨o,e,r⟩:=st
   exact ⟨o,k it (by simp) o e,r⟩
 item:=by
   intro X hP hw hK hc i pins s σ H E I hf st hg
   subst hP hw hK
   obtain ⟨f0,f1,f2,f3,f4,f5⟩:=hf it (by simp)
   have hi:i < x.cps.size:=hg
   rcases hty with rfl | rfl
   · refine wpAny_pyNext_ascii_item st (c:=x.cps[i]) (by simp [hi]) fun h' st' sb=>?_
     have I1:Inv X pins σ H { s with heap:=h',toks:=s.toks+1 }:=I.turned (fun b o hb e=>sb.extBut b o hb e) f0 f1 f3 f4 f5
     exact ⟨_,rfl,qhi (s:={ s with heap:=h',toks:=s.toks+1 }) ⟨.str ⟨#[x.cps[i]]⟩,H,I1,⟨_,rfl⟩,⟨rfl,x.cps[i],by simp [hi],rfl⟩,st',fun b hb=>(hf b hb).1⟩⟩
   · refine wpAny_pyNext_wide_item st (c:=x.cps[i]) (by simp [hi]) fun h' st' sb=>?_
     have I1:Inv X pins σ H { s with heap:=h',toks:=s.toks+1 }:=I.turned (fun b o hb e=>sb.extBut b o hb e) f0 f1 f3 f4 f5
     exact ⟨_,rfl,qhi (s:={ s with heap:=h',toks:=s.toks+1 }) ⟨.str ⟨#[x.cps[i]]⟩,H,I1,⟨_,rfl⟩,⟨rfl,x.cps[i],by simp [hi],rfl⟩,st',fun b hb=>(hf b hb).1⟩⟩
 done:=by
   intro X hP hw hK hc i pins s σ H E I hf st hg
   subst hP hw hK
   obtain ⟨f0,f1,f2,f3,f4,f5⟩:=hf it (by simp)
   have hi:x.cps.size≤i:=hg
   rcases hty with rfl | rfl
   · exact wpAny_pyNext_ascii_end (I.ok.hd hc) st (by simp [hi]) fun h' eb=>⟨rfl,I.turned (t':=s.toks) (fun b o hb e=>eb b o hb e) f0 f1 f3 f4 f5⟩
   · exact wpAny_pyNext_wide_end (I.ok.hd hc) st (by simp [hi]) fun h' eb=>⟨rfl,I.turned (t':=s.toks) (fun b o hb e=>eb b o hb e) f0 f1 f3 f4 f5⟩
 self:=fun _ _ _ _ _ st h=>by
   rcases hty with rfl | rfl
   · exact wpAny_pyIter_striter_ascii st h
   · exact wpAny_pyIter_striter_wide st h
def qkb (te:TE):TI:=fun σ H R=>te σ H fun x H1=>∃ z,x=.str z∧R (Its z) H1
section
variable {X:Cx} {tg:Expr}
theorem qiq {e:Expr} {te:TE} (he:PE X e te):PI X tg e (qkb te):=by
 intro pins s σ H R I h
 refine thn (he pins s σ H _ I h) fun v s1 zz_=>?_
 obtain ⟨x,H1,I1,r1,q1⟩:=zz_
 obtain ⟨z,e,q⟩:=q1
 subst e
 obtain ⟨t,rfl⟩:=r1
 have fin:∀ ty,(ty="str_ascii_iterator"∨ty="str_iterator")->PIE X pins σ tg R (.ref s1.heap.objs.size) { s1 with heap:=s1.heap.push { cls:=.type ty,data:=.fields #[.str z t,.int 0 0] } }:=fun ty hty=>by
   refine ⟨s1.heap.objs.size,[s1.heap.objs.size],_,_,H1,rfl,I1.kept (t':=s1.toks) fun b o e=>Heap.get?_push_of_some _ e,qgh _ z t ty hty,⟨_,Heap.get?_push_size _ rfl,rfl,rfl⟩,fun b hb=>?_,q⟩
   have e:b=s1.heap.objs.size:=by simpa using hb
   subst e
   exact I1.fpOk (Nat.le_refl _) (I1.hok.fresh (Nat.le_refl _))
 cases ha:z.cps.all (· < 128)
 · exact wpAny_pyIter_wide ha (fin _ (.inr rfl))
 · exact wpAny_pyIter_ascii ha (fin _ (.inl rfl))
end
theorem qgQ {x:Str} {g:TG} {tt:TT} {te:TE} {D:Addr} {Q:VK} {σ:St} {H:Hp} (Pv:Nat->St->Hp->Prop) (h0:Pv 0 σ H)
   (hs:∀ i c σ H,x.cps[i]?=some c->Pv i σ H->g (.str ⟨#[c]⟩) σ H fun σ3 H3=>tt σ3 H3 fun ok H4=>if ok=true then te σ3 H4 fun y H5=>∃ ys,H5 D=some (.lst ys)∧ys.length < sizeLine∧Pv (i+1) σ3 (upd H5 D (.lst (ys++[y]))) else Pv (i+1) σ3 H4)
   (hd:∀ σ H,Pv x.cps.size σ H->Q (.ref D) H) :
   jK (Its x) g tt te D Q σ H:=by
 refine ⟨fun i m σ H=>m=x.cps.size - i∧i≤x.cps.size∧Pv i σ H,⟨x.cps.size,by simp,Nat.zero_le _,h0⟩,?_⟩
 rintro i m σ H ⟨rfl,hi,p⟩
 by_cases hlt:i < x.cps.size
 · refine .inr ⟨hlt,Pv (i+1),fun σ' H' p'=>⟨x.cps.size - (i+1),by omega,rfl,hlt,p'⟩,fun v H' y=>?_⟩
   obtain ⟨rfl,c,hc,rfl⟩:=y
   exact hs i c σ _ hc p
 · have e:i=x.cps.size:=by omega
   subst e
   exact .inl ⟨Nat.le_refl _,hd σ H p⟩
theorem qbI {lo:Int} {n:Nat} {g:TG} {tt:TT} {te:TE} {D:Addr} {Q:VK} {σ:St} {H:Hp} (Pv:Nat->St->Hp->Prop) (h0:Pv 0 σ H)
   (hs:∀ i σ H,i < n->Pv i σ H->g (.int (lo+i)) σ H fun σ3 H3=>tt σ3 H3 fun ok H4=>if ok=true then te σ3 H4 fun y H5=>∃ ys,H5 D=some (.lst ys)∧ys.length < sizeLine∧Pv (i+1) σ3 (upd H5 D (.lst (ys++[y]))) else Pv (i+1) σ3 H4)
   (hd:∀ σ H,Pv n σ H->Q (.ref D) H) :
   jK (Itr lo n) g tt te D Q σ H:=by
 refine ⟨fun i m σ H=>m=n - i∧i≤n∧Pv i σ H,⟨n,by simp,Nat.zero_le _,h0⟩,?_⟩
 rintro i m σ H ⟨rfl,hi,p⟩
 by_cases hlt:i < n
 · refine .inr ⟨hlt,Pv (i+1),fun σ' H' p'=>⟨n - (i+1),by omega,rfl,hlt,p'⟩,fun v H' y=>?_⟩
   obtain ⟨rfl,rfl⟩:=y
   exact hs i σ _ hlt p
 · have e:i=n:=by omega
   subst e
   exact .inl ⟨Nat.le_refl _,hd σ H p⟩
theorem z9 {K:PySem.W.Frag} {a:Addr} {xs:List V} {g:TG} {tt:TT} {te:TE} {D:Addr} {Q:VK} {σ:St} {H:Hp} (Pv:Nat->St->Hp->Prop) (h0:Pv 0 σ H) (hl:∀ i σ H,i≤xs.length->Pv i σ H->SqL K H a xs)
   (hs:∀ i x σ H,xs[i]?=some x->Pv i σ H->g x σ H fun σ3 H3=>tt σ3 H3 fun ok H4=>if ok=true then te σ3 H4 fun y H5=>∃ ys,H5 D=some (.lst ys)∧ys.length < sizeLine∧Pv (i+1) σ3 (upd H5 D (.lst (ys++[y]))) else Pv (i+1) σ3 H4)
   (hd:∀ σ H,Pv xs.length σ H->Q (.ref D) H) :
   jK (Itl K a) g tt te D Q σ H:=by
 refine ⟨fun i m σ H=>m=xs.length - i∧i≤xs.length∧Pv i σ H,⟨xs.length,by simp,Nat.zero_le _,h0⟩,?_⟩
 rintro i m σ H ⟨rfl,hi,p⟩
 have q:=hl i σ H hi p
 by_cases hlt:i < xs.length
 · refine .inr ⟨⟨xs,xs[i],q,by simp [hlt]⟩,Pv (i+1),fun σ' H' p'=>⟨xs.length - (i+1),by omega,rfl,hlt,p'⟩,fun v H' y=>?_⟩
   obtain ⟨e,y⟩:=y
   subst e
   exact hs i v σ _ (y xs q) p
 · have e:i=xs.length:=by omega
   subst e
   exact .inl ⟨⟨xs,q,Nat.le_refl _⟩,hd σ H p⟩
theorem qf6:∀ {bs:List Bool} {us:List Value},Vals (bs.map V.bl) us->us=bs.map Value.bool
 | [],_,r=>by cases r; rfl
 | b::bs,_,r=>by
   cases r with
   | cons r t =>
     cases r
     rw [qf6 t]; rfl
section
variable {X:Cx}
def qj7 (K:PySem.W.Frag):List V->Hp->VK->Prop:=fun xs H Q=>∃ (p:Addr) (bs:List Bool),xs=[.ref p]∧SqL K H p (bs.map V.bl)∧Q (.bl (bs.all id)) H
theorem qdk {α:Type} (f:α->Bool) (d:α):∀ l:List α,(List.range l.length).all (fun i=>f (l.getD i d))=l.all f
 | []=>rfl
 | a::l=>by
   rw [List.length_cons,List.range_succ_eq_map,List.all_cons,List.all_map,List.all_cons,← qdk f d l]
   rfl
theorem qf1 (hc:X.calm=true):JB X (.builtin "all") (qj7 X.K):=by
 intro pins s σ H xs us Q I r h
 obtain ⟨p,bs,rfl,hq,q⟩:=h
 obtain ⟨u,rfl,ru⟩:=qar r
 cases ru
 obtain ⟨its,rv,pl,hz⟩:=I.list hq
 have eits:=qf6 rv
 subst eits
 have hlt:p < s.heap.objs.size:=by obtain ⟨_,_,e,_⟩:=pl; exact Heap.lt_size e
 refine call_all_walk (wpAny_pyIter_list pl.isList ?_)
 have W:=Walks.list (prog:=X.prog) (w:=X.w) (A:=X.A.in1) (I.ok.hd hc) s.heap.objs.size p (Nat.ne_of_lt hlt) (bs.map Value.bool).toArray
 refine ⟨_,_,_,_,_,_,(fun i=>(bs.getD i true)),rfl,W,⟨⟨_,Heap.get?_push_size _ rfl,rfl,rfl⟩,pl.isList.push _⟩,?_,?_⟩
 · intro i v s' Q' E' hP hQ
   have hv:(bs.map Value.bool)[i]?=some v:=by simpa using hP
   rw [List.getElem?_map] at hv
   cases e:bs[i]? with
   | none=>rw [e] at hv; cases hv
   | some b =>
     rw [e] at hv
     cases hv
     have e2:bs.getD i true=b:=by rw [List.getD_eq_getElem?_getD,e]; rfl
     have hQ:Q' (bs.getD i true) s':=hQ
     rw [e2] at hQ
     exact wpAny_truthy_bool hQ
 · intro h' tk hk
   have es:(bs.map Value.bool).toArray.size=bs.length:=by simp
   have ea:(List.range (bs.map Value.bool).toArray.size).all (fun i=>bs.getD i true)=bs.all id:=by rw [es]; exact qdk id true bs
   refine ⟨.bl _,H,?_,by rw [ea]; rfl,q⟩
   exact I.kept (t':=tk) fun b o e=>hk b o (by simp; exact Nat.ne_of_lt (Heap.lt_size e)) (Heap.get?_push_of_some _ e)
end
theorem qf5:bootBuiltins "all"=some (.builtin "all"):=by decide +kernel
theorem qe8:∀ {ys:List Str} {us:List Value},Vals (ys.map V.str) us->StrsAre us ys
 | [],_,r=>by cases r; exact .nil
 | y::ys,_,r=>by
   cases r with
   | cons r t =>
     obtain ⟨k,rfl⟩:=r
     exact .cons y k (qe8 t)
section
variable {X:Cx}
def qi8 (K:PySem.W.Frag):V->List V->Hp->VK->Prop:=fun x xs H Q=>∃ (sep:Str) (p:Addr) (ys:List Str),x=.str sep∧xs=[.ref p]∧SqL K H p (ys.map V.str)∧(ys.map (·.length)).sum+ys.length * sep.length≤16777216∧Q (.str (Txt.join sep ys)) H
theorem qdx:MtR X "str.join" (qi8 X.K):=by
 intro pins s σ H x xs v us Q I rx r h
 obtain ⟨sep,p,ys,rfl,rfl,hq,hz,q⟩:=h
 obtain ⟨t,rfl⟩:=rx
 obtain ⟨u,rfl,ru⟩:=qar r
 cases ru
 obtain ⟨its,rv,pl,_⟩:=I.list hq
 exact join_list pl.isList (by simpa using qe8 rv) hz fun t' k=>⟨.str _,H,I.tok k,⟨_,rfl⟩,q⟩
def qjy:V->Option Int->Option Int->Hp->VK->Prop:=fun x lo hi H Q=>∃ z,x=.str z∧z.length≤sizeLine∧Q (.str (Txt.slice z lo hi)) H
theorem qii:SlR X qjy:=by
 intro pins s σ H x v vl vu lo hi sl Q I rx hs pl pu h
 obtain ⟨z,rfl,hz,q⟩:=h
 obtain ⟨t,rfl⟩:=rx
 refine ⟨"str",_,F.slot_str_getitem.lookup,typeIs_str _ _ _,?_⟩
 have fin:∀ t' k,EP X pins σ Q (.str (Txt.slice z lo hi) t') { s with toks:=k }:=fun t' k=>⟨.str _,H,I.tok k,⟨_,rfl⟩,q⟩
 obtain ⟨o,e1,e2,e3⟩:=hs
 cases pl with
 | none =>
   cases pu with
   | none=>exact wpAny_getItem_str_slice (l:=none) (u:=none) (st:=none) ⟨o,e1,e2,e3⟩ rfl (post_val_or_str ⟨Nat.le_trans (Txt.slice_le z _ _) hz,fin⟩)
   | int j u=>exact wpAny_getItem_str_slice (l:=none) (u:=some (j,u)) (st:=none) ⟨o,e1,e2,e3⟩ rfl (post_val_or_str ⟨Nat.le_trans (Txt.slice_le z _ _) hz,fin⟩)
 | int i ui =>
   cases pu with
   | none=>exact wpAny_getItem_str_slice (l:=some (i,ui)) (u:=none) (st:=none) ⟨o,e1,e2,e3⟩ rfl (post_val_or_str ⟨Nat.le_trans (Txt.slice_le z _ _) hz,fin⟩)
   | int j u=>exact wpAny_getItem_str_slice (l:=some (i,ui)) (u:=some (j,u)) (st:=none) ⟨o,e1,e2,e3⟩ rfl (post_val_or_str ⟨Nat.le_trans (Txt.slice_le z _ _) hz,fin⟩)
theorem uSl:SlR X (fun x lo hi H Q=>qjz X.K x lo hi H Q∨qjy x lo hi H Q):=sl_list.or qii
theorem qcV:OpR X (compareOp .LtE) (fun x y H Q=>∃ i j,x=.str i∧y=.str j∧Q (.bl (!decide (j.cps.toList < i.cps.toList))) H):=by
 intro pins s σ H x y v u Q I rx ry h
 obtain ⟨i,j,rfl,rfl,q⟩:=h
 obtain ⟨t,rfl⟩:=rx
 obtain ⟨t',rfl⟩:=ry
 exact P.le_str ⟨.bl _,H,I,rfl,q⟩
end
end L2
namespace L2
open PySem PySem.Spec PyProof.Rows
def Jz (cells:List (Str×Addr)):List (Str×NameKind)->List (Str×Addr)->List (Str×Addr)
 | [],acc=>acc
 | (n,k)::r,acc=>Jz cells r (if k == .free then (n,(cells.lookup n).getD 0)::acc else acc)
def qhq (env:Env) (x:Str×NameKind) (cs:List (Str×Addr)):Sem (ForInStep (List (Str×Addr))):=match x with
 | (name,kind)=>if (kind == NameKind.free)=true then (do let a ← cellOf env name; pure (ForInStep.yield ((name,a)::cs))) else pure (ForInStep.yield cs)
theorem qfZ {env:Env} {n:Str} {k:NameKind} {acc:List (Str×Addr)} (h:k=.free->∃ c,env.cells.lookup n=some c) :
   qhq env (n,k) acc=pure (ForInStep.yield (if k == .free then (n,(env.cells.lookup n).getD 0)::acc else acc)):=by
 by_cases hk:k=.free
 · subst hk
   obtain ⟨c,hc⟩:=h rfl
   show (do let a ← cellOf env n; pure (ForInStep.yield ((n,a)::acc)))=(pure (ForInStep.yield ((n,(env.cells.lookup n).getD 0)::acc)):Sem _)
   unfold cellOf
   rw [hc]
   rfl
 · cases k<;>first | exact absurd rfl hk | rfl
theorem qbJ {env:Env}:∀ (names:List (Str×NameKind)) (acc:List (Str×Addr)),(∀ y∈names,y.2=.free->∃ c,env.cells.lookup y.1=some c) ->
   (forIn names acc (qhq env))=(pure (Jz env.cells names acc):Sem (List (Str×Addr)))
 | [],acc,_=>rfl
 | (n,k)::r,acc,h=>by
   rw [List.forIn_cons,qfZ fun e=>h (n,k) List.mem_cons_self e]
   exact qbJ (env:=env) r _ fun y hy=>h y (List.mem_cons_of_mem _ hy)
theorem qeP {scope:Scope} {env:Env} (h:∀ y∈scope.names,y.2=.free->∃ c,env.cells.lookup y.1=some c):closureFor scope env=pure (Jz env.cells scope.names []):=by
 unfold closureFor
 exact (congrArg (fun (m:Sem (List (Str×Addr)))=>m >>= fun cs=>pure cs) (qbJ (env:=env) scope.names [] h)).trans rfl
theorem QZ {cells:List (Str×Addr)} {x:Str}:∀ (names:List (Str×NameKind)) (acc:List (Str×Addr)),(∀ y∈names,y.2=.free->∃ c,cells.lookup y.1=some c)->(∀ c,acc.lookup x=some c->cells.lookup x=some c) ->
   (∀ c,(Jz cells names acc).lookup x=some c->cells.lookup x=some c)∧(((x,NameKind.free)∈names∨(acc.lookup x).isSome=true)->((Jz cells names acc).lookup x).isSome=true)
 | [],acc,_,ha=>⟨ha,fun h=>h.elim (fun z=>nomatch z) id⟩
 | (n,k)::r,acc,h,ha=>by
   unfold Jz
   have hr:∀ y∈r,y.2=.free->∃ c,cells.lookup y.1=some c:=fun y hy=>h y (List.mem_cons_of_mem _ hy)
   cases hk:(k == NameKind.free) with
   | false =>
     obtain ⟨i1,i2⟩:=QZ (cells:=cells) (x:=x) r acc hr ha
     refine ⟨by simpa using i1,fun z=>?_⟩
     have:((Jz cells r acc).lookup x).isSome=true:=i2 (by
       rcases z with z | z
       · rcases List.mem_cons.mp z with e | e
         · cases e; cases hk
         · exact .inl e
       · exact .inr z)
     simpa using this
   | true =>
     obtain ⟨c,hc⟩:=h (n,k) List.mem_cons_self (by simpa using hk)
     have hc:cells.lookup n=some c:=hc
     have ek:k=NameKind.free:=by simpa using hk
     subst ek
     have ha':∀ c',((n,(cells.lookup n).getD 0)::acc).lookup x=some c'->cells.lookup x=some c':=fun c' z=>by
       rw [List.lookup_cons] at z
       cases e:x == n with
       | true =>
         rw [e] at z
         have e':x=n:=by simpa using e
         rw [e',hc] at *
         simpa using z
       | false=>rw [e] at z; exact ha c' z
     obtain ⟨i1,i2⟩:=QZ (cells:=cells) (x:=x) r _ hr ha'
     refine ⟨i1,fun z=>i2 ?_⟩
     by_cases e:x=n
     · right
       rw [List.lookup_cons,e]; simp
     · rcases z with z | z
       · rcases List.mem_cons.mp z with q | q
         · cases q; exact absurd rfl e
         · exact .inl q
       · right
         rw [List.lookup_cons]
         have:(x == n)=false:=by simpa using e
         rw [this]; exact z
theorem jI {x:Str} {k:NameKind}:∀ {names:List (Str×NameKind)},names.lookup x=some k->(x,k)∈names
 | [],h=>by cases h
 | (n,j)::r,h=>by
   rw [List.lookup_cons] at h
   cases e:x == n with
   | true =>
     rw [e] at h
     have e':x=n:=by simpa using e
     cases h
     rw [e']; exact List.mem_cons_self
   | false=>rw [e] at h; exact List.mem_cons_of_mem _ (jI h)
theorem qaI {scope:Scope} {env:Env} {x:Str} {k:NameKind} (h:(x,k)∈(relabel scope env).names):(x,k)∈scope.names∨(k=.cell∧(x,NameKind.free)∈scope.names):=by
 have h':(x,k)∈scope.names.map fun (n,k)=>if (k == .free && env.scope.kind == .function && env.kindOf n == some .cell) then (n,.cell) else (n,k):=h
 obtain ⟨⟨n,j⟩,hm,e⟩:=List.mem_map.mp h'
 simp only at e
 split at e
 · rename_i c
   cases e
   have:j=.free:=by
     have c1:=(Bool.and_eq_true_iff.mp (Bool.and_eq_true_iff.mp c).1).1
     simpa using c1
   subst this
   exact .inr ⟨rfl,hm⟩
 · cases e; exact .inl hm
theorem Zd {env:Env} {x:Str} (hX:env.scope.kind=.function) (g3:env.kindOf x=some .cell):∀ {names:List (Str×NameKind)},names.lookup x=some .free ->
   (names.map fun (n,k)=>if (k == NameKind.free && env.scope.kind == .function && env.kindOf n == some .cell) then (n,NameKind.cell) else (n,k)).lookup x=some .cell
 | [],h=>by cases h
 | (n,k)::r,h=>by
   have ih:=Zd hX g3 (names:=r)
   show List.lookup x ((if (k == NameKind.free && env.scope.kind == .function && env.kindOf n == some .cell)=true then (n,NameKind.cell) else (n,k))::_)=_
   rw [List.lookup_cons] at h
   cases e:x == n with
   | true =>
     rw [e] at h
     have e':x=n:=by simpa using e
     have ek:k=.free:=by simpa using h
     rw [ek,← e',if_pos (show (NameKind.free == NameKind.free && env.scope.kind == .function && env.kindOf x == some .cell)=true by rw [hX,g3]; decide),List.lookup_cons]
     simp
   | false =>
     rw [e] at h
     by_cases hc:(k == NameKind.free && env.scope.kind == .function && env.kindOf n == some .cell)=true
     · rw [if_pos hc,List.lookup_cons,e]; exact ih h
     · rw [if_neg hc,List.lookup_cons,e]; exact ih h
theorem CompOk.of {X:Cx} {scope:Scope} {N:List Str} {js:List (Option Nat)} (hkind:scope.kind=.function) (hcell:∀ y∈scope.names,y.2≠.cell) (hnames:∀ y∈scope.names,y.2=.local->scope.names.lookup y.1=some .local)
   (hX:X.env.scope.kind=.function) (hfree:∀ y∈scope.names,y.2=.free->X.env.kindOf y.1=some .cell∧∃ c,X.env.cells.lookup y.1=some c) (len:js.length=N.length)
   (hfr:∀ (i j:Nat) (x:Str),js[i]?=some (some j)->N[i]?=some x->X.N[j]?=some x∧scope.names.lookup x=some .free) :
   CompOk X scope N (Jz X.env.cells scope.names []) js where
 clos:=qeP fun y hy z=>(hfree y hy z).2
 sub:=fun x c h=>(QZ scope.names [] (fun y hy z=>(hfree y hy z).2) (fun c h=>by cases h)).1 c h
 all:=fun x h=>by
   have hm:(x,NameKind.free)∈scope.names:=by
     rcases h with h | h
     · rcases qaI (jI h) with z | ⟨_,z⟩
       · exact absurd rfl (hcell _ z)
       · exact z
     · rcases qaI (jI h) with z | ⟨e,_⟩
       · exact z
       · cases e
   have:=(QZ (cells:=X.env.cells) (x:=x) scope.names [] (fun y hy z=>(hfree y hy z).2) (fun c h=>by cases h)).2 (.inl hm)
   exact Option.isSome_iff_exists.mp this
 cell:=hcell
 kind:=hkind
 names:=hnames
 len:=len
 fr:=fun i j x h1 h2=>by
   obtain ⟨g1,g2⟩:=hfr i j x h1 h2
   obtain ⟨g3,_⟩:=hfree (x,.free) (jI g2) rfl
   refine ⟨g1,g3,.inl ?_⟩
   exact Zd hX g3 g2
def qiH (sc:Scope) (N0 N:List Str) (js:List (Option Nat)):Bool:=(js.zip N).all fun p=>match p.1 with
 | none=>true
 | some j=>N0[j]? == some p.2 && sc.names.lookup p.2 == some .free
theorem qgM {sc:Scope} {N0:List Str}:∀ {js:List (Option Nat)} {N:List Str},qiH sc N0 N js=true->∀ (i j:Nat) (x:Str),js[i]?=some (some j)->N[i]?=some x->N0[j]?=some x∧sc.names.lookup x=some .free:=by
 intro js N h i j x h1 h2
 have hm:(some j,x)∈js.zip N:=by
   refine List.mem_of_getElem? (i:=i) ?_
   rw [List.getElem?_zip_eq_some]
   exact ⟨h1,h2⟩
 have:=List.all_eq_true.mp h _ hm
 simpa using this
theorem CompOk.def {CX:CXT} {P:Program} {w:World} {K:PySem.W.Frag} {mg:Str->Option Value} {base:Heap} {N0:List Str} {qual:Str} {sc0:Scope} {f:Addr} {cd:Value} {A:Around} {outer:List Env} {s:Shared} {H:Hp} {E:XK} {scope:Scope}
   (N:List Str) (js:List (Option Nat)) (hk0:sc0.kind=.function:=by rfl) (hk:scope.kind=.function:=by rfl) (hcell:∀ y∈scope.names,y.2≠.cell:=by decide +kernel) (hnames:∀ y∈scope.names,y.2=.local->scope.names.lookup y.1=some .local:=by decide +kernel)
   (hfr0:∀ y∈scope.names,y.2=.free->sc0.names.lookup y.1=some .cell:=by decide +kernel) (len:js.length=N.length:=by rfl) (hfr:qiH scope N0 N js=true:=by decide +kernel) :
   CompOk (zx CX P w K mg base N0 qual sc0 f cd A outer s H E).nox scope N (Jz (zx CX P w K mg base N0 qual sc0 f cd A outer s H E).nox.env.cells scope.names []) js :=
 CompOk.of hk hcell hnames hk0 (fun y hy z=>⟨hfr0 y hy z,Option.isSome_iff_exists.mp (PySem.W.cellsFrom_some _ _ _ (.inl (hfr0 y hy z)))⟩) len (qgM hfr)
inductive qd1 (K:PySem.W.Frag) (x:V) (y:V) (H:Hp) (Q:VK):Prop
 | mk (p b xs:_) (h1:x=.ref p) (h2:y=.ref b) (h3:SqL K H p xs) (h4:SqL K H b []) (h5:Q (.bl xs.isEmpty) H):qd1 K x y H Q
def qin (K:PySem.W.Frag):R2:=fun x y H Q=>qd1 K x y H Q
theorem qgt {X:Cx} (hu:X.A.units+64 < cLine):OpR X (compareOp .Eq) (qin X.K):=by
 intro pins s σ H x y v u Q I rx ry h
 obtain ⟨p,b,xs,rfl,rfl,hp,hb,q⟩:=h
 cases rx
 cases ry
 obtain ⟨its,rv,pl,_⟩:=I.list hp
 obtain ⟨its2,rv2,pl2,_⟩:=I.list hb
 cases rv2
 have hl:=rv.length
 cases xs with
 | nil =>
   cases rv
   exact SeqAt.eq_listAt (e:=fun _=>true) pl.isList pl2.isList rfl (by omega) (fun j h1 h2=>by simp at h1) ⟨.bl true,H,I,rfl,q⟩
 | cons a r=>exact SeqAt.eq_list_lengthsAt pl.isList pl2.isList (by simp; intro z; rw [z] at hl; cases hl) (by omega) ⟨.bl false,H,I,rfl,q⟩
end L2
namespace L2
open PySem PySem.Spec PyProof.Rows
section
variable {prog:Program} {w:World} {A:Around} {E:Value->Shared->Prop} {s:Shared}
theorem qgC {j u:Addr} {k:Nat} {xs:Array Value} {x:Value} {Q:Value->Shared->Prop} (a:s.heap.IsTupleIter j u k) (b:s.heap.IsTuple u xs) (e:xs[k]?=some x)
   (q:∀ h',h'.IsTupleIter j u (k+1)->Heap.SameBut j s.heap h'->Q x { s with heap:=h' }):wpAny (model prog w) A (Builtin.SmallTypes.nextOf (.ref j)) Q E s:=by
 obtain ⟨oj,gj,cj,dj⟩:=id a
 obtain ⟨ou,gu,_,nu,du⟩:=b
 unfold Builtin.SmallTypes.nextOf
 refine wpAny_bind (wpAny_callSpecial?_slot (name:=Str.ofString "__next__") a.typeIs F.slot_tuple_iterator_next (wpAny_call_entry F.slot_tuple_iterator_next a.typeIs F.entry_tuple_iterator_next ?_ (F.args_tuple_iterator_next_1 _)))
 show wpAny _ _ (field (.ref j) 0 >>= _) _ _ s
 refine wpAny_bind (wpAny_field gj dj (x:=.ref u) rfl ?_)
 show wpAny _ _ (if (Value.ref u == Value.none)=true then _ else _) _ _ s
 rw [if_neg (show ¬ ((Value.ref u == Value.none)=true) from Bool.false_ne_true)]
 show wpAny _ _ (field (.ref j) 1 >>= _) _ _ s
 refine wpAny_bind (wpAny_field gj dj (x:=.int k 0) rfl ?_)
 show wpAny _ _ (seqItems? (.ref u) >>= _) _ _ s
 refine wpAny_bind (wpAny_seqItems gu du ?_)
 simp only [Int.toNat_natCast,e]
 refine wpAny_bind (wpAny_setField gj dj (by simp) (wpAny_pure ⟨x,rfl,wpAny_pure (q _ ?_ (Heap.SameBut.update ..))⟩))
 refine ⟨_,Heap.get?_update_self _ gj (Obj.isFreed_of_fields (Obj.data_mapFields dj _)),(Obj.cls_mapFields ..).trans cj,?_⟩
 rw [Obj.data_mapFields dj]; simp [rawInt]
theorem qhS {j u:Addr} {k:Nat} {xs:Array Value} {Q:Value->Shared->Prop} (hd:A.handled=none) (a:s.heap.IsTupleIter j u k) (b:s.heap.IsTuple u xs) (e:xs[k]?=none)
   (q:∀ h' z,Heap.ExtBut j s.heap h'->(∃ o,h'.get? z=some o∧o.cls=.type "StopIteration")->E (.ref z) { s with heap:=h' }):wpAny (model prog w) A (Builtin.SmallTypes.nextOf (.ref j)) Q E s:=by
 obtain ⟨oj,gj,cj,dj⟩:=id a
 obtain ⟨ou,gu,_,nu,du⟩:=b
 unfold Builtin.SmallTypes.nextOf
 refine wpAny_bind (wpAny_callSpecial?_slot (name:=Str.ofString "__next__") a.typeIs F.slot_tuple_iterator_next (wpAny_call_entry F.slot_tuple_iterator_next a.typeIs F.entry_tuple_iterator_next ?_ (F.args_tuple_iterator_next_1 _)))
 show wpAny _ _ (field (.ref j) 0 >>= _) _ _ s
 refine wpAny_bind (wpAny_field gj dj (x:=.ref u) rfl ?_)
 show wpAny _ _ (if (Value.ref u == Value.none)=true then _ else _) _ _ s
 rw [if_neg (show ¬ ((Value.ref u == Value.none)=true) from Bool.false_ne_true)]
 show wpAny _ _ (field (.ref j) 1 >>= _) _ _ s
 refine wpAny_bind (wpAny_field gj dj (x:=.int k 0) rfl ?_)
 show wpAny _ _ (seqItems? (.ref u) >>= _) _ _ s
 refine wpAny_bind (wpAny_seqItems gu du ?_)
 simp only [Int.toNat_natCast,e]
 refine wpAny_bind (wpAny_rule (wpAny_bind (wpAny_setField gj dj (by simp) ?_)))
 show wpAny _ _ (newExc (.type "StopIteration") [] >>= _) _ _ { s with heap:=_ }
 refine wpAny_bind ?_
 simp only [newExc,newTuple]
 refine wpAny_bind (wpAny_newObj_type ?_ (by size_fits))
 refine wpAny_bind (m:=firstArgMember _ _) (wpAny_of_eq (a:=Value.none) (by first | rfl | (simp only [firstArgMember]; rfl)) (wpAny_newObj_type ?_ (by size_fits)))
 simp only [raiseNew]
 refine wpAny_bind (wpAny_handled ?_)
 first | rw [show A.in1.handled=none from hd] | rw [hd]
 exact wpAny_bind (wpAny_pure (wpAny_throw (q _ _ (((Heap.SameBut.update ..).extBut.push _).push _) ⟨_,Heap.get?_push_size _ rfl,rfl⟩)))
def itK:Bool->Heap->Addr->Addr->Nat->Prop
 | false,h,j,u,k=>h.IsListIter j u k
 | true,h,j,u,k=>h.IsTupleIter j u k
def sqK:Bool->Heap->Addr->Array Value->Prop
 | false,h,u,xs=>h.IsList u xs
 | true,h,u,xs=>h.IsTuple u xs
theorem itK.at {t:Bool} {h h':Heap} {j u:Addr} {k:Nat} (x:itK t h j u k) (e:∀ o,h.get? j=some o->h'.get? j=some o):itK t h' j u k:=by
 cases t with
 | false=>exact Heap.IsListIter.at x e
 | true=>obtain ⟨o,g,r⟩:=x; exact ⟨o,e o g,r⟩
theorem itK.get {t:Bool} {h:Heap} {j u:Addr} {k:Nat} (x:itK t h j u k):∃ o,h.get? j=some o∧o.data=.fields #[.ref u,.int k 0]:=by
 cases t with
 | false=>obtain ⟨o,g,_,d⟩:=x; exact ⟨o,g,d⟩
 | true=>obtain ⟨o,g,_,d⟩:=x; exact ⟨o,g,d⟩
theorem sqK.at {t:Bool} {h h':Heap} {u:Addr} {xs:Array Value} (x:sqK t h u xs) (e:∀ o,h.get? u=some o->h'.get? u=some o):sqK t h' u xs:=by
 cases t with
 | false=>exact Heap.IsList.at x e
 | true=>obtain ⟨o,g,r⟩:=x; exact ⟨o,e o g,r⟩
theorem sqK.lt {t:Bool} {h:Heap} {u:Addr} {xs:Array Value} (x:sqK t h u xs):u < h.objs.size:=by
 cases t with
 | false=>obtain ⟨o,g,_⟩:=x; exact Heap.lt_size g
 | true=>obtain ⟨o,g,_⟩:=x; exact Heap.lt_size g
theorem qcc {t:Bool} {j u:Addr} {k:Nat} {xs:Array Value} {x:Value} {Q:Value->Shared->Prop} (a:itK t s.heap j u k) (b:sqK t s.heap u xs) (e:xs[k]?=some x)
   (q:∀ h',itK t h' j u (k+1)->Heap.SameBut j s.heap h'->Q x { s with heap:=h' }):wpAny (model prog w) A (Builtin.SmallTypes.nextOf (.ref j)) Q E s:=by
 cases t with
 | false=>exact wpAny_nextOf_list_item a b e q
 | true=>exact qgC a b e q
theorem qfz {t:Bool} {j u:Addr} {k:Nat} {xs:Array Value} {Q:Value->Shared->Prop} (hd:A.handled=none) (a:itK t s.heap j u k) (b:sqK t s.heap u xs) (e:xs[k]?=none)
   (q:∀ h' z,Heap.ExtBut j s.heap h'->(∃ o,h'.get? z=some o∧o.cls=.type "StopIteration")->E (.ref z) { s with heap:=h' }):wpAny (model prog w) A (Builtin.SmallTypes.nextOf (.ref j)) Q E s:=by
 cases t with
 | false=>exact wpAny_nextOf_list_end hd a b e q
 | true=>exact qhS hd a b e q
theorem qhu {t:Bool} {z TI TO i1 i2 l1 l2:Addr} {k:Nat} {xs ys:Array Value} {x y a b:Value} {Q:Value->Shared->Prop} (D:ZipApart z TI TO i1 i2 l1 l2)
   (gz:IsZip s.heap z TI TO .none) (gI:IsPair s.heap TI (.ref i1) (.ref i2)) (gO:IsPair s.heap TO a b) (j1:itK t s.heap i1 l1 k) (j2:itK t s.heap i2 l2 k) (m1:sqK t s.heap l1 xs) (m2:sqK t s.heap l2 ys) (ex:xs[k]?=some x) (ey:ys[k]?=some y)
   (q:∀ h',IsZip h' z TI TO (rawInt s.heap.objs.size)->IsPair h' TO x y->itK t h' i1 l1 (k+1)->itK t h' i2 l2 (k+1)->IsPair h' s.heap.objs.size x y ->
     (∀ c o,c≠z->c≠TO->c≠i1->c≠i2->s.heap.get? c=some o->h'.get? c=some o)->Q (.ref s.heap.objs.size) { s with heap:=h' }) :
   wpAny (model prog w) A (Builtin.«zip.__next__» ⟨[.ref z],[]⟩) (fun fin s'=>∃ v,fin=.done (.ret v)∧Q v s') E s:=by
 show wpAny _ _ (field (.ref z) 2 >>= _) _ _ s
 refine wpAny_bind (wpAny_field gz rfl (x:=.bool false) rfl ?_)
 show wpAny _ _ (field (.ref z) 3 >>= _) _ _ s
 refine wpAny_bind (wpAny_field gz rfl (x:=.ref TI) rfl (wpAny_bind (wpAny_seqItems gI rfl ?_)))
 show wpAny _ _ (Builtin.SmallTypes.ownedTupleIsFree (.ref z) >>= _) _ _ s
 refine wpAny_bind ?_
 unfold Builtin.SmallTypes.ownedTupleIsFree
 refine wpAny_bind (wpAny_field gz rfl (x:=.none) rfl (wpAny_pure ?_))
 simp only [if_true]
 refine wpAny_bind (wpAny_rule (wpAny_bind (wpAny_field gz rfl (x:=.ref TO) rfl (wpAny_bind (wpAny_setField_rec gz (by simp) fun g1 z1 n1=>?_)))))
 replace z1:IsZip g1 z TI TO .ellipsis:=z1
 refine wpAny_bind ?_
 simp only [List.zipIdx_cons,List.zipIdx_nil,List.forIn_cons,List.forIn_nil]
 refine wpAny_bind (wpAny_bind (wpAny_onRaise ?_))
 show wpAny _ _ (Builtin.SmallTypes.nextOf (.ref i1) >>= _) _ _ { s with heap:=g1 }
 refine wpAny_bind (qcc (t:=t) (s:={ s with heap:=g1 }) (j1.at fun o e=>n1.extBut _ o D.i1z e) (m1.at fun o e=>n1.extBut _ o D.l1z e) ex fun g2 j12 n2=>wpAny_pure ?_)
 have O2:IsPair g2 TO a b:=n2.extBut _ _ D.TOi1 (n1.extBut _ _ D.TOz gO)
 refine wpAny_bind (wpAny_seqItems O2 rfl (wpAny_bind (wpAny_updateSeq_pair O2 fun g3 O3 n3=>?_)))
 replace O3:IsPair g3 TO x b:=O3
 refine wpAny_bind (wpAny_letGo (wpAny_pure (wpAny_bind (wpAny_bind (wpAny_onRaise ?_)))))
 show wpAny _ _ (Builtin.SmallTypes.nextOf (.ref i2) >>= _) _ _ { s with heap:=g3 }
 have k3:∀ c o,c≠z->c≠i1->c≠TO->s.heap.get? c=some o->g3.get? c=some o:=fun c o c1 c2 c3 e=>n3.extBut _ _ c3 (n2.extBut _ _ c2 (n1.extBut _ _ c1 e))
 refine wpAny_bind (qcc (t:=t) (s:={ s with heap:=g3 }) (j2.at fun o e=>k3 _ o D.i2z D.i12.symm D.TOi2.symm e) (m2.at fun o e=>k3 _ o D.l2z D.l2i1 D.l2TO e) ey fun g4 j24 n4=>wpAny_pure ?_)
 have O4:IsPair g4 TO x b:=n4.extBut _ _ D.TOi2 O3
 refine wpAny_bind (wpAny_seqItems O4 rfl (wpAny_bind (wpAny_updateSeq_pair O4 fun g5 O5 n5=>?_)))
 replace O5:IsPair g5 TO x y:=O5
 refine wpAny_bind (wpAny_letGo (wpAny_pure (wpAny_pure (wpAny_bind (wpAny_seqItems O5 rfl (wpAny_bind (wpAny_newTuple ?_)))))))
 have sz:g5.objs.size=s.heap.objs.size:=by rw [n5.1,n4.1,n3.1,n2.1,n1.1]
 have z5:IsZip g5 z TI TO .ellipsis:=n5.extBut _ _ D.TOz.symm (n4.extBut _ _ D.i2z.symm (n3.extBut _ _ D.TOz.symm (n2.extBut _ _ D.i1z.symm z1)))
 have k5:∀ c o,c≠z->c≠TO->c≠i1->c≠i2->s.heap.get? c=some o->g5.get? c=some o:=fun c o c1 c2 c3 c4 e=>n5.extBut _ _ c2 (n4.extBut _ _ c4 (k3 c o c1 c3 c2 e))
 have p1:itK t g5 i1 l1 (k+1):=((j12.at fun o e=>n3.extBut _ o D.TOi1.symm e).at fun o e=>n4.extBut _ o D.i12 e).at fun o e=>n5.extBut _ o D.TOi1.symm e
 have p2:itK t g5 i2 l2 (k+1):=j24.at fun o e=>n5.extBut _ o D.TOi2.symm e
 have lz:z < g5.objs.size:=Heap.lt_size z5
 show wpAny _ _ (Builtin.SmallTypes.ownedTupleHandOut (.ref z) (.ref g5.objs.size) >>= _) _ _ { s with heap:=_ }
 refine wpAny_bind ?_
 unfold Builtin.SmallTypes.ownedTupleHandOut
 have z6:IsZip (g5.push { cls:=.type "tuple",data:=.seq #[x,y] }) z TI TO .ellipsis:=Heap.get?_push_of_some _ z5
 refine wpAny_bind (wpAny_setField_rec z6 (by simp) fun g7 z7 n7=>?_)
 replace z7:IsZip g7 z TI TO (rawInt g5.objs.size):=z7
 refine wpAny_setField_rec z7 (by simp) fun g8 z8 n8=>?_
 replace z8:IsZip g8 z TI TO (rawInt g5.objs.size):=z8
 have up:∀ c o,c≠z->g5.get? c=some o->g8.get? c=some o:=fun c o c1 e=>n8.extBut _ _ c1 (n7.extBut _ _ c1 (Heap.get?_push_of_some _ e))
 have T8:IsPair g8 g5.objs.size x y:=n8.extBut _ _ (Nat.ne_of_gt lz) (n7.extBut _ _ (Nat.ne_of_gt lz) (Heap.get?_push_size _ rfl))
 rw [sz] at z8 T8
 refine wpAny_pure ⟨_,rfl,?_⟩
 show Q (.ref g5.objs.size) { s with heap:=g8 }
 rw [sz]
 exact q g8 z8 (up _ _ D.TOz O5) (p1.at fun o e=>up _ o D.i1z e) (p2.at fun o e=>up _ o D.i2z e) T8 fun c o c1 c2 c3 c4 e=>up c o c1 (k5 c o c1 c2 c3 c4 e)
theorem qh7 {t:Bool} {z TI TO i1 i2 l1 l2:Addr} {k:Nat} {xs ys:Array Value} {a b:Value} {Q:Fin->Shared->Prop} (hd:A.handled=none) (D:ZipApart z TI TO i1 i2 l1 l2)
   (gz:IsZip s.heap z TI TO .none) (gI:IsPair s.heap TI (.ref i1) (.ref i2)) (gO:IsPair s.heap TO a b) (j1:itK t s.heap i1 l1 k) (j2:itK t s.heap i2 l2 k) (m1:sqK t s.heap l1 xs) (m2:sqK t s.heap l2 ys) (en:xs[k]?=none∨ys[k]?=none)
   (q:∀ h' v,(∀ c o,c≠z->c≠TO->c≠i1->c≠i2->s.heap.get? c=some o->h'.get? c=some o)->(∃ o,h'.get? v=some o∧o.cls=.type "StopIteration")->E (.ref v) { s with heap:=h' }) :
   wpAny (model prog w) A (Builtin.«zip.__next__» ⟨[.ref z],[]⟩) Q E s:=by
 show wpAny _ _ (field (.ref z) 2 >>= _) _ _ s
 refine wpAny_bind (wpAny_field gz rfl (x:=.bool false) rfl ?_)
 show wpAny _ _ (field (.ref z) 3 >>= _) _ _ s
 refine wpAny_bind (wpAny_field gz rfl (x:=.ref TI) rfl (wpAny_bind (wpAny_seqItems gI rfl ?_)))
 show wpAny _ _ (Builtin.SmallTypes.ownedTupleIsFree (.ref z) >>= _) _ _ s
 refine wpAny_bind ?_
 unfold Builtin.SmallTypes.ownedTupleIsFree
 refine wpAny_bind (wpAny_field gz rfl (x:=.none) rfl (wpAny_pure ?_))
 simp only [if_true]
 refine wpAny_bind (wpAny_rule (wpAny_bind (wpAny_field gz rfl (x:=.ref TO) rfl (wpAny_bind (wpAny_setField_rec gz (by simp) fun g1 z1 n1=>?_)))))
 replace z1:IsZip g1 z TI TO .ellipsis:=z1
 refine wpAny_bind ?_
 simp only [List.zipIdx_cons,List.zipIdx_nil,List.forIn_cons,List.forIn_nil]
 refine wpAny_bind (wpAny_bind (wpAny_onRaise ?_))
 show wpAny _ _ (Builtin.SmallTypes.nextOf (.ref i1) >>= _) _ _ { s with heap:=g1 }
 have a1:itK t g1 i1 l1 k:=j1.at fun o e=>n1.extBut _ o D.i1z e
 have b1:sqK t g1 l1 xs:=m1.at fun o e=>n1.extBut _ o D.l1z e
 cases ex:xs[k]? with
 | none =>
   refine wpAny_bind (qfz (t:=t) (s:={ s with heap:=g1 }) hd a1 b1 ex fun g2 v n2 sv=>?_)
   obtain ⟨ov,gv,cv⟩:=sv
   have z2:IsZip g2 z TI TO .ellipsis:=n2 _ _ D.i1z.symm z1
   have vz:v≠z:=fun e=>by subst e; rw [z2] at gv; cases gv; simp at cv
   exact wpAny_setField_rec z2 (by simp) fun g3 _ n3=>q g3 v (fun c o c1 _ c3 _ e=>n3.extBut _ _ c1 (n2 _ _ c3 (n1.extBut _ _ c1 e))) ⟨ov,n3.extBut _ _ vz gv,cv⟩
 | some x =>
   have ey:ys[k]?=none:=en.resolve_left fun e=>by rw [ex] at e; cases e
   refine wpAny_bind (qcc (t:=t) (s:={ s with heap:=g1 }) a1 b1 ex fun g2 j12 n2=>wpAny_pure ?_)
   have O2:IsPair g2 TO a b:=n2.extBut _ _ D.TOi1 (n1.extBut _ _ D.TOz gO)
   refine wpAny_bind (wpAny_seqItems O2 rfl (wpAny_bind (wpAny_updateSeq_pair O2 fun g3 O3 n3=>?_)))
   refine wpAny_bind (wpAny_letGo (wpAny_pure (wpAny_bind (wpAny_bind (wpAny_onRaise ?_)))))
   show wpAny _ _ (Builtin.SmallTypes.nextOf (.ref i2) >>= _) _ _ { s with heap:=g3 }
   have k3:∀ c o,c≠z->c≠i1->c≠TO->s.heap.get? c=some o->g3.get? c=some o:=fun c o c1 c2 c3 e=>n3.extBut _ _ c3 (n2.extBut _ _ c2 (n1.extBut _ _ c1 e))
   refine wpAny_bind (qfz (t:=t) (s:={ s with heap:=g3 }) hd (j2.at fun o e=>k3 _ o D.i2z D.i12.symm D.TOi2.symm e) (m2.at fun o e=>k3 _ o D.l2z D.l2i1 D.l2TO e) ey fun g4 v n4 sv=>?_)
   obtain ⟨ov,gv,cv⟩:=sv
   have z4:IsZip g4 z TI TO .ellipsis:=n4 _ _ D.i2z.symm (n3.extBut _ _ D.TOz.symm (n2.extBut _ _ D.i1z.symm z1))
   have vz:v≠z:=fun e=>by subst e; rw [z4] at gv; cases gv; simp at cv
   exact wpAny_setField_rec z4 (by simp) fun g5 _ n5=>q g5 v (fun c o c1 c2 c3 c4 e=>n5.extBut _ _ c1 (n4 _ _ c4 (k3 c o c1 c3 c2 e))) ⟨ov,n5.extBut _ _ vz gv,cv⟩
theorem qgr {t:Bool} {z TI TO i1 i2 l1 l2:Addr} {k:Nat} {xs ys:Array Value} {x y a b:Value} {Q:Option Value->Shared->Prop} (D:ZipApart z TI TO i1 i2 l1 l2)
   (gz:IsZip s.heap z TI TO .none) (gI:IsPair s.heap TI (.ref i1) (.ref i2)) (gO:IsPair s.heap TO a b) (j1:itK t s.heap i1 l1 k) (j2:itK t s.heap i2 l2 k) (m1:sqK t s.heap l1 xs) (m2:sqK t s.heap l2 ys) (ex:xs[k]?=some x) (ey:ys[k]?=some y)
   (q:∀ h',IsZip h' z TI TO (rawInt s.heap.objs.size)->IsPair h' TO x y->itK t h' i1 l1 (k+1)->itK t h' i2 l2 (k+1)->IsPair h' s.heap.objs.size x y ->
     (∀ c o,c≠z->c≠TO->c≠i1->c≠i2->s.heap.get? c=some o->h'.get? c=some o)->Q (some (.ref s.heap.objs.size)) { s with heap:=h' }) :
   wpAny (model prog w) A (pyNext (.ref z)) Q E s:=by
 have T:s.TypeIs (.ref z) "zip":=⟨_,gz,rfl⟩
 unfold pyNext
 exact wpAny_bind (wpAny_attempt (wpAny_callSpecial?_slot (name:=Str.ofString "__next__") T F.slot_zip_next (wpAny_call_entry F.slot_zip_next T F.entry_zip_next
   (qhu D gz gI gO j1 j2 m1 m2 ex ey fun h' c1 c2 c3 c4 c5 c6=>wpAny_pure (q h' c1 c2 c3 c4 c5 c6)) (F.args_zip_next_1 _))))
theorem qhM {t:Bool} {z TI TO i1 i2 l1 l2:Addr} {k:Nat} {xs ys:Array Value} {a b:Value} {Q:Option Value->Shared->Prop} (hd:A.handled=none) (D:ZipApart z TI TO i1 i2 l1 l2)
   (gz:IsZip s.heap z TI TO .none) (gI:IsPair s.heap TI (.ref i1) (.ref i2)) (gO:IsPair s.heap TO a b) (j1:itK t s.heap i1 l1 k) (j2:itK t s.heap i2 l2 k) (m1:sqK t s.heap l1 xs) (m2:sqK t s.heap l2 ys) (en:xs[k]?=none∨ys[k]?=none)
   (q:∀ h',(∀ c o,c≠z->c≠TO->c≠i1->c≠i2->s.heap.get? c=some o->h'.get? c=some o)->Q none { s with heap:=h' }):wpAny (model prog w) A (pyNext (.ref z)) Q E s:=by
 have T:s.TypeIs (.ref z) "zip":=⟨_,gz,rfl⟩
 unfold pyNext
 refine wpAny_bind (wpAny_attempt (wpAny_callSpecial?_slot (name:=Str.ofString "__next__") T F.slot_zip_next (wpAny_call_entry F.slot_zip_next T F.entry_zip_next
   (qh7 hd D gz gI gO j1 j2 m1 m2 en fun h' v hk sv=>?_) (F.args_zip_next_1 _))))
 obtain ⟨o,go,co⟩:=sv
 exact wpAny_bind (wpAny_isInstance (T:="StopIteration") (b:=true) ⟨o,go,co⟩ isSubtype_stop (wpAny_pure (q _ hk)))
end
def itN:Bool->String
 | false=>"list_iterator"
 | true=>"tuple_iterator"
abbrev zk1 (t:Bool) (h:Heap) (u:Addr):Heap:=h.push { cls:=.type (itN t),data:=.fields #[.ref u,.int 0 0] }
abbrev zk3 (t:Bool) (h:Heap) (u v:Addr):Heap:=(zk1 t (zk1 t h u) v).push { cls:=.type "tuple",data:=.seq #[.ref h.objs.size,.ref (zk1 t h u).objs.size] }
abbrev zk4 (t:Bool) (h:Heap) (u v:Addr):Heap:=(zk3 t h u v).push { cls:=.type "tuple",data:=.seq #[.none,.none] }
abbrev zk5 (t:Bool) (h:Heap) (u v:Addr):Heap:=(zk4 t h u v).push { cls:=.type "zip",data:=.fields #[.none,.bool false,.bool false,.ref (zk1 t (zk1 t h u) v).objs.size,.ref (zk3 t h u v).objs.size] }
theorem qh6 (t:Bool) (u v:Addr) (xs ys:Array Value):Meets (Builtin.«zip.__new__» ⟨[.type "zip",.ref u,.ref v],[]⟩) (fun _ R s=>sqK t s.heap u xs∧sqK t s.heap v ys ∧
     R (.ok (.ret (.ref (zk4 t s.heap u v).objs.size))) { s with heap:=zk5 t s.heap u v }) :=
 .of_wp fun prog w A R s h=>by
   obtain ⟨hp,g,d,tk,os⟩:=s; obtain ⟨m1,m2,h⟩:=h
   have hsub:=sub_zip
   cases t with
   | false =>
     have L1:Heap.IsList (Shared.heap ⟨hp,g,d,tk,os⟩) u xs:=m1
     have L2:Heap.IsList (Shared.heap ⟨hp.push { cls:=.type "list_iterator",data:=.fields #[.ref u,.int 0 0] },g,d,tk,os⟩) v ys:=Heap.IsList.push m2 _
     wp_walk using wpAny_pyIter_list L1,wpAny_pyIter_list L2
     exact ⟨_,rfl,h⟩
   | true =>
     have L1:Heap.IsTuple (Shared.heap ⟨hp,g,d,tk,os⟩) u xs:=m1
     have L2:Heap.IsTuple (Shared.heap ⟨hp.push { cls:=.type "tuple_iterator",data:=.fields #[.ref u,.int 0 0] },g,d,tk,os⟩) v ys:=Heap.IsTuple.push m2 _
     wp_walk using wpAny_pyIter_tuple L1,wpAny_pyIter_tuple L2
     exact ⟨_,rfl,h⟩
section
variable {prog:Program} {w:World} {A:Around} {E:Value->Shared->Prop} {s:Shared}
theorem itK.new {t:Bool} {h:Heap} {j u:Addr} (g:h.get? j=some { cls:=.type (itN t),data:=.fields #[.ref u,.int 0 0] }):itK t h j u 0:=by
 cases t with
 | false=>exact ⟨_,g,rfl,rfl⟩
 | true=>exact ⟨_,g,rfl,rfl⟩
theorem qf0 {t:Bool} {u v:Addr} {xs ys:Array Value} {Q:Value->Shared->Prop} (m1:sqK t s.heap u xs) (m2:sqK t s.heap v ys)
   (q:∀ h',IsZip h' (s.heap.objs.size+4) (s.heap.objs.size+2) (s.heap.objs.size+3) .none->IsPair h' (s.heap.objs.size+2) (.ref s.heap.objs.size) (.ref (s.heap.objs.size+1)) ->
     IsPair h' (s.heap.objs.size+3) .none .none->itK t h' s.heap.objs.size u 0->itK t h' (s.heap.objs.size+1) v 0->(∀ c o,s.heap.get? c=some o->h'.get? c=some o)->Q (.ref (s.heap.objs.size+4)) { s with heap:=h' }) :
   wpAny (model prog w) A (call (.type "zip") [.ref u,.ref v]) Q E s:=by
 refine callType_new F.called_zip (by decide) (F.typeCall_zip_2 _ _) (F.newCall_zip_2 _ _) (fun obj=>F.args_object_init_3 obj _ _) F.entry_zip_new (qh6 t u v xs ys) ⟨m1,m2,?_⟩
 have y1:(zk1 t s.heap u).objs.size=s.heap.objs.size+1:=Heap.size_push ..
 have y2:(zk1 t (zk1 t s.heap u) v).objs.size=s.heap.objs.size+2:=by rw [Heap.size_push,y1]
 have y3:(zk3 t s.heap u v).objs.size=s.heap.objs.size+3:=by rw [Heap.size_push,y2]
 have y4:(zk4 t s.heap u v).objs.size=s.heap.objs.size+4:=by rw [Heap.size_push,y3]
 have f5:(zk5 t s.heap u v).get? (zk4 t s.heap u v).objs.size=some _:=Heap.get?_push_size _ rfl
 have f4:(zk5 t s.heap u v).get? (zk3 t s.heap u v).objs.size=some _:=Heap.get?_push_of_some _ (Heap.get?_push_size _ rfl)
 have f3:(zk5 t s.heap u v).get? (zk1 t (zk1 t s.heap u) v).objs.size=some _:=Heap.get?_push_of_some _ (Heap.get?_push_of_some _ (Heap.get?_push_size _ rfl))
 have f2:(zk5 t s.heap u v).get? (zk1 t s.heap u).objs.size=some _:=Heap.get?_push_of_some _ (Heap.get?_push_of_some _ (Heap.get?_push_of_some _ (Heap.get?_push_size _ rfl)))
 have f1:(zk5 t s.heap u v).get? s.heap.objs.size=some _:=Heap.get?_push_of_some _ (Heap.get?_push_of_some _ (Heap.get?_push_of_some _ (Heap.get?_push_of_some _ (Heap.get?_push_size _ rfl))))
 show _∧_
 rw [y2,y3,y4] at f5
 rw [y1,y2] at f3
 rw [y3] at f4
 rw [y1] at f2
 rw [y4]
 exact ⟨⟨_,f5,rfl⟩,q _ f5 f3 f4 (.new f1) (.new f2) fun c o e=>Heap.get?_push_of_some _ (Heap.get?_push_of_some _ (Heap.get?_push_of_some _ (Heap.get?_push_of_some _ (Heap.get?_push_of_some _ e))))⟩
end
end L2
namespace L2
open PySem PySem.Spec PyProof.Rows
def SqK (K:PySem.W.Frag):Bool->Hp->Addr->List V->Prop
 | false=>SqL K
 | true=>SqT K
def Itz (K:PySem.W.Frag) (t:Bool) (a b:Addr):It :=
 ⟨fun i H=>∃ xs ys x y,SqK K t H a xs∧SqK K t H b ys∧xs[i]?=some x∧ys[i]?=some y,
  fun i H v H'=>∃ p x y,H p=none∧v=.ref p∧(∀ xs ys,SqK K t H a xs->SqK K t H b ys->xs[i]?=some x∧ys[i]?=some y)∧H'=upd H p (.tup [x,y]),
  fun i H=>∃ xs ys,SqK K t H a xs∧SqK K t H b ys∧(xs.length≤i∨ys.length≤i)⟩
section
variable {X:Cx} {pins:List (Addr×Obj)} {σ:St} {H:Hp} {s:Shared}
theorem Inv.seqK {t:Bool} {a:Addr} {xs:List V} (I:Inv X pins σ H s) (h:SqK X.K t H a xs):∃ its:List Value,Vals xs its∧sqK t s.heap a its.toArray∧xs.length≤sizeLine:=by
 cases t with
 | false =>
   obtain ⟨its,rv,p,z⟩:=I.list h
   exact ⟨its,rv,p.isList,z⟩
 | true=>exact I.tuple h
theorem Inv.seqK_inj {t:Bool} {a:Addr} {xs ys:List V} (I:Inv X pins σ H s) (h:SqK X.K t H a xs) (h':SqK X.K t H a ys):xs=ys:=by
 cases t with
 | false=>exact I.list_inj h h'
 | true=>exact I.tuple_inj h h'
end
structure ZSt (t:Bool) (z TI TO i1 i2 a b:Addr) (i:Nat) (h:Heap):Prop where
 gz:IsZip h z TI TO .none
 gI:IsPair h TI (.ref i1) (.ref i2)
 gO:∃ u v,IsPair h TO u v
 j1:itK t h i1 a i
 j2:itK t h i2 b i
theorem qgg {P:Program} {w:World} {K:PySem.W.Frag} {elts:List Expr} {k:Nat} {pos:Pos} {t:Bool} (z TI TO i1 i2 a b:Addr) (D:ZipApart z TI TO i1 i2 a b) :
   qht P w K (.Tuple elts k pos) (Itz K t a b) [z,TI,TO,i1,i2] z (ZSt t z TI TO i1 i2 a b) where
 mem:=by simp
 obj:=fun i h st c hc=>by
   obtain ⟨gz,gI,⟨u,v,gO⟩,j1,j2⟩:=st
   simp only [List.mem_cons,List.not_mem_nil,or_false] at hc
   rcases hc with rfl | rfl | rfl | rfl | rfl
   · exact ⟨_,gz,fun v e=>by cases e⟩
   · exact ⟨_,gI,fun v e=>by cases e⟩
   · exact ⟨_,gO,fun v e=>by cases e⟩
   · obtain ⟨o,g,d⟩:=j1.get; exact ⟨o,g,fun v e=>by rw [d] at e; cases e⟩
   · obtain ⟨o,g,d⟩:=j2.get; exact ⟨o,g,fun v e=>by rw [d] at e; cases e⟩
 keep:=fun i h h' st kk=>by
   obtain ⟨gz,gI,⟨u,v,gO⟩,j1,j2⟩:=st
   exact ⟨kk z (by simp) _ gz,kk TI (by simp) _ gI,⟨u,v,kk TO (by simp) _ gO⟩,j1.at fun o e=>kk i1 (by simp) o e,j2.at fun o e=>kk i2 (by simp) o e⟩
 item:=by
   intro X hP hw hK hc i pins s σ H E I hf st hg
   subst hP hw hK
   obtain ⟨xs,ys,x,y,hq,hq2,hx,hy⟩:=hg
   obtain ⟨its,rv,p,hz⟩:=I.seqK hq
   obtain ⟨its2,rv2,p2,hz2⟩:=I.seqK hq2
   obtain ⟨u,hu,ru⟩:=rv.get hx
   obtain ⟨u2,hu2,ru2⟩:=rv2.get hy
   obtain ⟨gz,gI,⟨_,_,gO⟩,j1,j2⟩:=st
   refine qgr (t:=t) D gz gI gO j1 j2 p p2 (x:=u) (y:=u2) (by simpa using hu) (by simpa using hu2) fun h1 w1 w2 w3 w4 w5 hk=>?_
   refine ⟨_,rfl,wpAny_letOwnedTupleGo_zip (s:={ s with heap:=h1 }) w1 fun h2 gz2 hs2=>?_⟩
   have lz:z < s.heap.objs.size:=Heap.lt_size gz
   have lI:TI < s.heap.objs.size:=Heap.lt_size gI
   have lO:TO < s.heap.objs.size:=Heap.lt_size gO
   have l1:i1 < s.heap.objs.size:=by obtain ⟨o,g,_⟩:=j1.get; exact Heap.lt_size g
   have l2:i2 < s.heap.objs.size:=by obtain ⟨o,g,_⟩:=j2.get; exact Heap.lt_size g
   have T2:h2.get? s.heap.objs.size=some { cls:=.type "tuple",data:=.seq #[u,u2] }:=(hs2.2 _ (Nat.ne_of_gt lz)).trans w5
   have I1:Inv X pins σ (upd H s.heap.objs.size (.tup [x,y])) { s with heap:=h2,toks:=s.toks }:=by
     refine I.turnLaid (ch:=[z,TI,TO,i1,i2]) (fun c o hc q=>?_) hf (Nat.le_refl _) ⟨by show 2≤sizeLine; decide,[u,u2],.cons ru (.cons ru2 .nil),⟨_,T2,rfl,_,rfl⟩⟩
     have c1:c≠z:=fun e=>hc (by simp [e])
     exact (hs2.2 c c1).trans (hk c o c1 (fun e=>hc (by simp [e])) (fun e=>hc (by simp [e])) (fun e=>hc (by simp [e])) q)
   refine ⟨.ref s.heap.objs.size,_,I1,rfl,⟨_,x,y,I.hok.fresh (Nat.le_refl _),rfl,fun ys1 ys2 q1 q2=>by rw [I.seqK_inj q1 hq,I.seqK_inj q2 hq2]; exact ⟨hx,hy⟩,rfl⟩,?_,fun c hc=>?_⟩
   · exact ⟨gz2,(hs2.2 _ D.TIz).trans (hk _ _ D.TIz D.TITO D.TIi1 D.TIi2 gI),⟨_,_,(hs2.2 _ D.TOz).trans w2⟩,w3.at fun o e=>(hs2.2 _ D.i1z).trans e,w4.at fun o e=>(hs2.2 _ D.i2z).trans e⟩
   · have hcl:c < s.heap.objs.size:=by
       simp only [List.mem_cons,List.not_mem_nil,or_false] at hc
       rcases hc with rfl | rfl | rfl | rfl | rfl<;>assumption
     rw [qh (Nat.ne_of_lt hcl)]
     exact (hf c hc).1
 done:=by
   intro X hP hw hK hc i pins s σ H E I hf st hg
   subst hP hw hK
   obtain ⟨xs,ys,hq,hq2,hx⟩:=hg
   obtain ⟨its,rv,p,hz⟩:=I.seqK hq
   obtain ⟨its2,rv2,p2,hz2⟩:=I.seqK hq2
   obtain ⟨gz,gI,⟨_,_,gO⟩,j1,j2⟩:=st
   have e1:=rv.length
   have e2:=rv2.length
   refine qhM (t:=t) (I.ok.hd hc) D gz gI gO j1 j2 p p2 (by simp; omega) fun h' hk=>⟨rfl,I.turnL (t':=s.toks) (ch:=[z,TI,TO,i1,i2]) (fun c o hc q=>hk c o (fun e=>hc (by simp [e])) (fun e=>hc (by simp [e])) (fun e=>hc (by simp [e])) (fun e=>hc (by simp [e])) q) hf⟩
 self:=fun _ _ _ _ _ st h=>wpAny_pyIter_zip st.gz h
theorem qf3:bootBuiltins "zip"=some (.type "zip"):=by decide +kernel
inductive qhh (K:PySem.W.Frag) (R:(It->Hp->Prop)) (vs:List V) (H1:Hp):Prop
 | mk (t a b:_) (h1:vs=[.ref a,.ref b]) (h2:(∃ xs,SqK K t H1 a xs)) (h3:(∃ ys,SqK K t H1 b ys)) (h4:R (Itz K t a b) H1):qhh K R vs H1
def qj9 (K:PySem.W.Frag) (ta:TA):TI:=fun σ H R=>ta σ H fun vs H1=>qhh K R vs H1
section
variable {X:Cx}
theorem qg7 {e1 e2:Expr} {ta:TA} {p pos tp:Pos} {elts:List Expr} {kk:Nat} (hg:Gl X "zip") (hm:X.mg "zip"=none) (ha:PA X [e1,e2] ta) (hs:starEach [e1,e2] X.env=(false,eval e1 X.env)::starEach [e2] X.env:=by rfl)
   (hpl:(backTo pos (starEach [e2] X.env)).any (·.1)=false:=by rfl):PI X (.Tuple elts kk tp) (.Call (.Name "zip" p) [e1,e2] [] pos) (qj9 X.K ta):=by
 intro pins s σ H R I h
 refine Call_ (qae I hg hm qf3 (PyProof.Rows.callWith_type1 (thn (ha pos pins s σ H _ I h) fun us s1 zz_=>?_) hs hpl))
 obtain ⟨vs,H1,I1,r1,q1⟩:=zz_
 obtain ⟨t,a,b,e,⟨xs,hq⟩,⟨ys,hq2⟩,q⟩:=q1
 subst e
 obtain ⟨u,v,rfl,ru,rv⟩:=qeV r1
 cases ru
 cases rv
 obtain ⟨its,rv,pl,hz⟩:=I1.seqK hq
 obtain ⟨its2,rv2,pl2,hz2⟩:=I1.seqK hq2
 refine qf0 (t:=t) pl pl2 fun h' gz gI gO j1 j2 hk=>?_
 have I2:Inv X pins σ H1 { s1 with heap:=h' }:=I1.kept (t':=s1.toks) hk
 have la:=pl.lt
 have lb:=pl2.lt
 have D:ZipApart (s1.heap.objs.size+4) (s1.heap.objs.size+2) (s1.heap.objs.size+3) s1.heap.objs.size (s1.heap.objs.size+1) a b:=by
   constructor<;>(intro h; have h':=@id (@Eq Nat _ _) h; clear h; revert la lb h'; exact fun (la:@LT.lt Nat _ _ _) (lb:@LT.lt Nat _ _ _) h'=>by omega)
 refine wpAny_pyIter_zip gz ⟨s1.heap.objs.size+4,_,_,Itz X.K t a b,H1,rfl,I2,qgg _ _ _ _ _ _ _ D,⟨gz,gI,⟨_,_,gO⟩,j1,j2⟩,fun c hc=>?_,q⟩
 have hc1:s1.heap.objs.size≤c:=by
   simp only [List.mem_cons,List.not_mem_nil,or_false] at hc
   rcases hc with rfl | rfl | rfl | rfl | rfl<;>omega
 exact I1.fpOk hc1 (I1.hok.fresh hc1)
end
theorem qeh {K:PySem.W.Frag} {t:Bool} {a b:Addr} {xs ys:List V} {g:TG} {tt:TT} {te:TE} {D:Addr} {Q:VK} {σ0:St} {H0:Hp} (Pv:Nat->St->Hp->Prop) (he:xs.length=ys.length) (h0:Pv 0 σ0 H0)
   (hl:∀ i σ H,i≤xs.length->Pv i σ H->SqK K t H a xs∧SqK K t H b ys)
   (hs:∀ i x y σ H p,xs[i]?=some x->ys[i]?=some y->Pv i σ H->H p=none->g (.ref p) σ (upd H p (.tup [x,y])) fun σ3 H3=>tt σ3 H3 fun ok H4=>if ok=true then te σ3 H4 fun v H5=>∃ zs,H5 D=some (.lst zs)∧zs.length < sizeLine∧Pv (i+1) σ3 (upd H5 D (.lst (zs++[v]))) else Pv (i+1) σ3 H4)
   (hd:∀ σ H,Pv xs.length σ H->Q (.ref D) H):jK (Itz K t a b) g tt te D Q σ0 H0:=by
 refine ⟨fun i m σ H=>m=xs.length - i∧i≤xs.length∧Pv i σ H,⟨xs.length,by simp,Nat.zero_le _,h0⟩,?_⟩
 rintro i m σ H ⟨rfl,hi,p⟩
 obtain ⟨q1,q2⟩:=hl i σ H hi p
 by_cases hlt:i < xs.length
 · have hlt2:i < ys.length:=by omega
   refine .inr ⟨⟨xs,ys,xs[i],ys[i],q1,q2,by simp [hlt],by simp [hlt2]⟩,Pv (i+1),fun σ' H' p'=>⟨xs.length - (i+1),by omega,rfl,hlt,p'⟩,fun x H' y=>?_⟩
   obtain ⟨c,u,v,hn,rfl,z,rfl⟩:=y
   obtain ⟨z1,z2⟩:=z xs ys q1 q2
   exact hs i u v σ _ c z1 z2 p hn
 · have e:i=xs.length:=by omega
   subst e
   exact .inl ⟨⟨xs,ys,q1,q2,.inl (Nat.le_refl _)⟩,hd σ H p⟩
section
variable {X:Cx} {pins:List (Addr×Obj)} {σ:St} {H:Hp} {s:Shared} {A:Around} {E:Value->Shared->Prop} {Q:Value->Shared->Prop} {b:Bool}
end
end L2
namespace L2
open PySem PySem.Spec PyProof.Rows
theorem Same.put {G H:Hp} {p:Addr} (s:Same G H) (n:G p=none) (o:HO):Same G (upd H p o):=fun c u e=>by rw [qh (qi e n)]; exact s c u e
theorem Same.none {G H:Hp} {p:Addr} (s:Same G H) (n:H p=none):G p=none:=by
 cases e:G p with
 | none=>rfl
 | some o=>rw [s p o e] at n; cases n
theorem But.none {H H':Hp} {p q:Addr} (b:But p H H') (n:H' q=none) (h:q≠p):H q=none:=by
 cases e:H q with
 | none=>rfl
 | some o=>rw [b q o e h] at n; cases n
theorem qbQ {α:Type} {xs:List α} {x y:α} {i:Nat} (h:(xs++[x])[i]?=some y):xs[i]?=some y∨(i=xs.length∧y=x):=by
 rw [List.getElem?_append] at h
 by_cases hi:i < xs.length
 · rw [if_pos hi] at h; exact .inl h
 · rw [if_neg hi] at h
   have e:i - xs.length=0:=by
     cases n:i - xs.length with
     | zero=>rfl
     | succ k=>rw [n] at h; simp at h
   rw [e] at h
   exact .inr ⟨by omega,by simpa using h.symm⟩
def qiV (K:PySem.W.Frag):List V->Hp->VK->Prop:=fun xs H Q=>∃ p ys,xs=[.ref p]∧(SqL K H p ys∨SqT K H p ys)∧∀ l,H l=none->Q (.ref l) (upd H l (.lst ys))
end L2
namespace L2
open PySem PySem.Spec PyProof.Rows
section
variable {X:Cx}
theorem qfk {i:Nat} {x:Str} {pos' pos:Pos} {elt iter tg:Expr} {ifs:List Expr} {scope:Scope} {cpos:Pos} {wi:TI} {g:TG} {tt:TT} {te:TE} {N:List Str} {cl:List (Str×Addr)} {js:List (Option Nat)} (hN:X.N.Nodup) (hi0:X.N[i]?=some x) (hx:Loc X.env.scope x)
   (hc:X.calm=true) (k:CompOk X scope N cl js) (hi:PI X tg iter wi)
   (hg:∀ C s₀ H₀ ex pn,PG (zv X scope N cl C s₀ H₀ ex pn) tg g) (ht:∀ C s₀ H₀ ex pn,PTs (zv X scope N cl C s₀ H₀ ex pn) ifs tt) (he:∀ C s₀ H₀ ex pn,PE (zv X scope N cl C s₀ H₀ ex pn) elt te)
   (hsw:swapsWith (.ListComp elt [⟨tg,iter,ifs,0⟩] scope cpos) (some (.Name x pos')) pos.line X.env=pure true:=by rfl)
   (hf:X.fn x=true∨X.env.scope.names.lookup x=some .local:=by first | exact .inl rfl | exact .inr rfl | assumption)
   (hs:∀ x,foldedSetIterable iter X.env x=pure x:=by intro _; rfl) :
   PS X (.Assign [.Name x pos'] (.ListComp elt [⟨tg,iter,ifs,0⟩] scope cpos) pos) (qi3 (qig wi g tt te js) (qhY i)):=by
 intro pins s σ H D0 I h
 rw [exec_Assign_Name_used _ _ _ _ hsw]
 refine wpAny_bind (wpAny_standAt (wpAny_bind ?_))
 show wpAny _ X.A (do let _ ← comprehension (.ListComp elt [⟨tg,iter,ifs,0⟩] scope cpos) scope X.env _ (newList []) false (eval iter X.env) (some (assign (.Name x pos') X.env))) _ _ s
 refine wpAny_bind (wpAny_mono (wpAny_comprehension_free (use:=some (assign (.Name x pos') X.env)) (Q:=fun _ s'=>∃ σ' H',Inv X pins σ' H' s'∧D0.nx σ' H') rfl hs k.clos k.kind k.names ?_) (fun _ s' hq=>wpAny_pure (wpAny_pure hq)) fun _ _ e=>e)
 refine thn (hi pins s σ H _ I h) fun v s1 h1=>thn h1 fun itv s2 h2=>?_
 obtain ⟨it,fp,tn,J,H2,e,I2,T,st2,f2,hD⟩:=h2
 subst e
 refine wpAny_newObj_type (wpAny_newFunctionEnv k.cell (by intro y hy; simp at hy) (fun h₁ hns₁ hsb₁=>?_) k.kind)
 dsimp only at hns₁ hsb₁ ⊢
 generalize hH2:s2.heap.push { cls:=.type "list",dict:=none,data:=.seq ([]:List Value).toArray }=P2 at hns₁ hsb₁ ⊢
 have hC:P2.objs.size=s2.heap.objs.size+1:=by rw [← hH2,Heap.size_push]
 have hDC:s2.heap.objs.size≠P2.objs.size:=by rw [hC]; exact Nat.ne_of_lt (Nat.lt_succ_self _)
 have hCle:s2.heap.objs.size≤P2.objs.size:=by rw [hC]; exact Nat.le_succ _
 have old:∀ b o,s2.heap.get? b=some o->h₁.get? b=some o:=fun b o e=>hsb₁.extBut b o (Nat.ne_of_lt (Nat.lt_of_lt_of_le (Heap.lt_size e) hCle)) (Heap.get?_push_of_some _ (hH2▸Heap.get?_push_of_some _ e))
 have hacc:h₁.get? s2.heap.objs.size=some { cls:=.type "list",data:=.seq ([]:List Value).toArray }:=hsb₁.extBut _ _ hDC (Heap.get?_push_of_some _ (hH2▸Heap.get?_push_size _ rfl))
 have hfl:∀ b∈fp,b < s2.heap.objs.size:=fun b hb=>by
   obtain ⟨o,e,_⟩:=T.obj _ _ st2 b hb
   exact Heap.lt_size e
 have fD:H2 s2.heap.objs.size=none:=I2.hok.fresh (Nat.le_refl _)
 obtain ⟨W,⟨m0,w0⟩,turn⟩:=hD _ fD
 have IX:Inv (zv X scope N cl P2.objs.size s2 H2 fp (X.pn++pins)) [] (st0 js σ) (upd H2 s2.heap.objs.size (.lst [])) { s2 with heap:=h₁,toks:=s2.toks+([]:List (Str×Value)).length } :=
   qei k I2 f2 hfl (Nat.le_refl _) hCle hDC hns₁ hacc old
 have hg':=hg P2.objs.size s2 H2 fp (X.pn++pins)
 have ht':=ht P2.objs.size s2 H2 fp (X.pn++pins)
 have he':=he P2.objs.size s2 H2 fp (X.pn++pins)
 have stat:∀ {H':Hp},(∀ b∈fp,H' b=none)->∀ b∈fp,qeT (zv X scope N cl P2.objs.size s2 H2 fp (X.pn++pins)) [] H' b:=fun hn b hb=>by
   obtain ⟨g0,g1,g2,g3,g4,g5⟩:=f2 b hb
   refine ⟨hn b hb,Nat.ne_of_lt (Nat.lt_of_lt_of_le (hfl b hb) hCle),fun z=>?_,.inl hb,fun x c h=>g4 x c (k.sub _ _ h),fun p hp=>g5 p (by simpa [zv] using hp)⟩
   rcases List.mem_cons.mp (I2.stkSub b z) with e | e
   · exact g1 e
   · exact g2 e
 have loop:∀ s₃:Shared,s₃={ s2 with heap:=h₁,toks:=s2.toks+([]:List (Str×Value)).length } ->
     codeAny (model X.prog X.w) X.A (.compLoop (.ListComp elt [⟨tg,iter,ifs,0⟩] scope cpos) 0 (.ref it) (.ref s2.heap.objs.size) (compEnvC scope cl P2.objs.size X.env))
       (compPost (model X.prog X.w) X.A X.xe (some (assign (.Name x pos') X.env)) (fun _ s'=>∃ σ' H',Inv X pins σ' H' s'∧D0.nx σ' H') (.ref s2.heap.objs.size) P2.objs.size) s₃:=by
   rintro s₃ rfl
   refine qa5 (fun n s'=>∃ i σ' H',Inv (zv X scope N cl P2.objs.size s2 H2 fp (X.pn++pins)) [] σ' H' s'∧tn i s'.heap∧(∀ b∈fp,H' b=none)∧W i n σ' H') ?_ m0
     ⟨0,st0 js σ,_,IX,T.keep _ _ _ st2 (fun b hb o e=>old b o e),fun b hb=>by rw [qh (Nat.ne_of_lt (hfl b hb))]; exact (f2 b hb).1,w0⟩
   rintro n s3 ⟨i,σ3,H3,I3,st3,fr3,w3⟩
   rcases turn i n σ3 H3 w3 with ⟨stop,qn⟩ | ⟨go,N2,hN,step⟩
   · refine thn (T.done (zv X scope N cl P2.objs.size s2 H2 fp (X.pn++pins)) rfl rfl rfl hc i [] s3 σ3 H3 noE I3 (stat fr3) st3 stop) fun r s4 ⟨hr,I4⟩=>?_
     subst hr
     obtain ⟨m4,hn4,_⟩:=id I4.loc
     have u4:Un (frs X.stack) fp H2 H3 s2.heap s4.heap:=I4.base
     have fC:H3 P2.objs.size=none:=I4.free
     have I6:Inv X pins σ H3 s4:=I2.call' (s':=s4) I4.os u4 I4.hok I4.bare fun b hb=>by
       obtain ⟨g0,g1,g2,g3,g4,g5⟩:=f2 b hb
       exact ⟨g3,g1,g4,g5⟩
     have fpC:qeT X pins H3 P2.objs.size:=I2.fpOk hCle fC
     have hn4':s4.heap.Ns P2.objs.size m4:=hn4
     obtain ⟨oC,esC,epC,gC,rC⟩:=id hn4'
     have I7:=I6.pinned (fp:=[P2.objs.size]) (fun b hb=>by rw [show b=P2.objs.size by simpa using hb]; exact fpC) (fun b hb=>⟨oC,by rw [show b=P2.objs.size by simpa using hb]; exact gC,fun v z=>by rw [rC.1] at z; cases z⟩)
     show wpAny _ X.A (assign (.Name x pos') X.env (.ref s2.heap.objs.size)) _ _ s4
     refine wpAny_assign_Name (qbP I7 hN hi0 hx (v:=.ref s2.heap.objs.size) rfl (fun s5 I8=>?_) hf)
     have g5:=(I8.pin (P2.objs.size,oC) (List.mem_append_right _ (List.mem_append_right _ (QK (by simp) gC)))).1
     refine ⟨m4,hn4'.at' (fun o e=>by rw [gC] at e; cases e; exact g5),fun h' hsb=>⟨_,H3,?_,qn⟩⟩
     exact I8.unpinned.turnL (t':=s5.toks) (ch:=[P2.objs.size]) (fun b o hb e=>hsb.extBut b o (fun z=>hb (by simp [z])) e) (fun b hb=>by rw [show b=P2.objs.size by simpa using hb]; exact fpC)
   · refine thn (T.item (zv X scope N cl P2.objs.size s2 H2 fp (X.pn++pins)) rfl rfl rfl hc i [] s3 σ3 H3 noE I3 (stat fr3) st3 go) fun r s4 ⟨u,hr,h4⟩=>?_
     subst hr
     refine thn h4 fun _ s5 zz_=>?_
     obtain ⟨x,H5,I5,r5,y5,st5,fr5⟩:=zz_
     have I5':=I5.pinned (stat fr5) (T.obj _ _ st5)
     refine thn (hg' _ s5 σ3 H5 x u _ I5' r5 (step x H5 y5)) fun _ s6 zz_=>?_
     obtain ⟨σ6,H6,I6,q6⟩:=zz_
     refine thn (ht' _ s6 σ6 H6 _ I6 q6) fun ok s7 zz_=>?_
     obtain ⟨H7,I7,q7⟩:=zz_
     have again:∀ {s8:Shared} {σ8:St} {H8:Hp},Inv (zv X scope N cl P2.objs.size s2 H2 fp (X.pn++pins)) ([]++qbw fp s5.heap) σ8 H8 s8->N2 σ8 H8 ->
         ∃ m,m < n∧∃ i σ' H',Inv (zv X scope N cl P2.objs.size s2 H2 fp (X.pn++pins)) [] σ' H' s8∧tn i s8.heap∧(∀ b∈fp,H' b=none)∧W i m σ' H':=fun {s8 σ8 H8} I8 n8=>by
       obtain ⟨m',hm,w8⟩:=hN σ8 H8 n8
       refine ⟨m',hm,i+1,σ8,H8,I8.unpinned,T.keep _ _ _ st5 fun b hb o e=>(I8.pin (b,o) (List.mem_append_right _ (List.mem_append_right _ (QK hb e)))).1,fun b hb=>?_,w8⟩
       obtain ⟨o,e,d⟩:=T.obj _ _ st5 b hb
       exact (I8.pin (b,o) (List.mem_append_right _ (List.mem_append_right _ (QK hb e)))).2.1
     cases ok with
     | false=>exact again I7 (by simpa using q7)
     | true =>
       have q7':te σ6 H7 fun y H5=>∃ ys,H5 s2.heap.objs.size=some (.lst ys)∧ys.length < sizeLine∧N2 σ6 (upd H5 s2.heap.objs.size (.lst (ys++[y]))):=by simpa using q7
       refine thn (he' _ s7 σ6 H7 _ I7 q7') fun xv s8 zz_=>?_
       obtain ⟨y,H8,I8,r8,ys,hy,hlen,n8⟩:=zz_
       refine thn (zn (X:=zv X scope N cl P2.objs.size s2 H2 fp (X.pn++pins)) _ s8 σ6 H8 (.ref s2.heap.objs.size) [y] (.ref s2.heap.objs.size) [xv] (fun _ H9=>N2 σ6 H9) I8 rfl (.cons r8 .nil) ⟨_,ys,y,rfl,rfl,hy,hlen,n8⟩) fun _ s9 ⟨_,H9,I9,_,n9⟩=>again I9 n9
 exact codeAny_compStart_list (loop _ rfl) (T.self _ 0 _ _ _ (T.keep _ _ _ st2 (fun b hb o e=>old b o e)) (loop _ rfl))
end
end L2
namespace L2
open PySem PySem.Spec PyProof.Rows
section
variable {prog:Program} {w:World} {A:Around} {E:Value->Shared->Prop}
end
end L2
namespace L2
open PySem PySem.Spec PyProof.Rows
end L2
namespace L2
open PySem PySem.Spec PyProof.Rows
theorem zc {t u:TS} {D:qgd} {σ:St} {H:Hp} (Post:St->Hp->Prop) (h1:∀ N:St->Hp->Prop,(∀ σ' H',Post σ' H'->N σ' H')->t { D with nx:=N } σ H) (h2:∀ σ' H',Post σ' H'->u D σ' H'):qju t u D σ H:=h1 (u D) h2
inductive qf9 (H:Hp) (p:Addr):Prop
 | mk (c x y:Int) (h1:0≤c) (h2:H p=some (.lst [.int c,.int x,.int y])):qf9 H p
def PenAt (H:Hp) (p:Addr):Prop:=qf9 H p
theorem PenAt.ne {H:Hp} {p q:Addr} (h:PenAt H p) (hq:H q=none):q≠p:=by
 obtain ⟨c,x,y,_,e⟩:=h
 exact (qi e hq).symm
theorem PenAt.upd {H:Hp} {p q:Addr} (h:PenAt H p) (n:q≠p) (o:HO):PenAt (L2.upd H q o) p:=by
 obtain ⟨c,x,y,k,e⟩:=h
 exact ⟨c,x,y,k,by rw [qh n.symm]; exact e⟩
inductive qiP {β:Type} (f:β->List V) (H:Hp) (ps:List β) (i:Nat) (z:V):Prop
 | mk (p:β) (t:Addr) (h1:ps[i]?=some p) (h2:z=.ref t) (h3:H t=some (.tup (f p))):qiP f H ps i z
inductive qiQ {β:Type} (f:β->List V) (H:Hp) (zs:List V) (i:Nat) (p:β):Prop
 | mk (t:Addr) (h1:zs[i]?=some (.ref t)) (h2:H t=some (.tup (f p))):qiQ f H zs i p
def TupL {β:Type} (f:β->List V) (H:Hp) (zs:List V) (ps:List β):Prop:=zs.length=ps.length∧∀ (i:Nat) z p,zs[i]?=some z->ps[i]?=some p->∃ t,z=.ref t∧H t=some (.tup (f p))
section
variable {β:Type} {f:β->List V} {H H':Hp} {zs:List V} {ps:List β}
theorem TupL.nil:TupL f H [] []:=⟨rfl,fun i z p e=>by simp at e⟩
theorem TupL.same (h:TupL f H zs ps) (s:Same H H'):TupL f H' zs ps:=⟨h.1,fun i z p e1 e2=>by
 obtain ⟨t,e,q⟩:=h.2 i z p e1 e2
 exact ⟨t,e,s _ _ q⟩⟩
theorem TupL.put {q:Addr} {xs ys:List V} (h:TupL f H zs ps) (hq:H q=some (.lst xs)):TupL f (upd H q (.lst ys)) zs ps:=⟨h.1,fun i z y e1 e2=>by
 obtain ⟨t,e,r⟩:=h.2 i z y e1 e2
 exact ⟨t,e,by rw [qh (qJ r hq (by intro z; cases z))]; exact r⟩⟩
theorem TupL.snoc {t:Addr} {p:β} (h:TupL f H zs ps) (q:H t=some (.tup (f p))):TupL f H (zs++[.ref t]) (ps++[p]):=⟨by rw [List.length_append,List.length_append,h.1]; rfl,fun i z y e1 e2=>by
 rcases qbQ e1 with e | ⟨ei,e⟩
 · rcases qbQ e2 with e' | ⟨ei',_⟩
   · exact h.2 i z y e e'
   · have:=(List.getElem?_eq_some_iff.mp e).1
     rw [ei',← h.1] at this
     exact absurd this (Nat.lt_irrefl _)
 · rcases qbQ e2 with e' | ⟨_,e'⟩
   · have:=(List.getElem?_eq_some_iff.mp e').1
     rw [ei,h.1] at this
     exact absurd this (Nat.lt_irrefl _)
   · exact ⟨t,e,e'▸q⟩⟩
theorem TupL.at_ (h:TupL f H zs ps) {i:Nat} {p:β} (e:ps[i]?=some p):qiQ f H zs i p:=by
 have hi:i < zs.length:=by rw [h.1]; exact (List.getElem?_eq_some_iff.mp e).1
 obtain ⟨t,et,q⟩:=h.2 i _ p (List.getElem?_eq_getElem hi) e
 exact ⟨t,by rw [List.getElem?_eq_getElem hi,et],q⟩
theorem TupL.of (h:TupL f H zs ps) {i:Nat} {z:V} (e:zs[i]?=some z):qiP f H ps i z:=by
 have hi:i < ps.length:=by rw [← h.1]; exact (List.getElem?_eq_some_iff.mp e).1
 obtain ⟨t,et,q⟩:=h.2 i z _ e (List.getElem?_eq_getElem hi)
 exact ⟨_,t,List.getElem?_eq_getElem hi,et,q⟩
end
theorem qfT {H:Hp}:∀ (ns:List Int),DVs H (ns.map V.int) (ns.map PyData.int)
 | []=>.nil
 | n::r=>.cons (.int n) (qfT r)
theorem qea:∀ (ns:List Int),PyData.canLayAll0 (ns.map PyData.int)=true∧PyData.depthAll (ns.map PyData.int)≤1
 | []=>⟨rfl,by simp [PyData.depthAll]⟩
 | n::r=>by
   obtain ⟨h1,h2⟩:=qea r
   refine ⟨by simp [PyData.canLayAll0,PyData.canLay0,h1],?_⟩
   simp only [List.map_cons,PyData.depthAll,PyData.depth]; omega
theorem qfS {β:Type} {g:β->List Int} {H:Hp}:∀ {zs:List V} {ps:List β},TupL (fun p=>(g p).map V.int) H zs ps->DVs H zs (ps.map fun p=>PyData.tuple ((g p).map PyData.int))
 | [],[],_=>.nil
 | z::zs,p::ps,h=>by
   obtain ⟨t,e,q⟩:=h.2 0 z p rfl rfl
   subst e
   refine .cons (.tup (.inl q) (qfT _)) (qfS ⟨by simpa using h.1,fun i z p e1 e2=>h.2 (i+1) z p (by simpa using e1) (by simpa using e2)⟩)
 | [],_::_,h=>by simp [TupL] at h
 | _::_,[],h=>by simp [TupL] at h
theorem qd9 {β:Type} {g:β->List Int}:∀ (ps:List β),PyData.canLayAll0 (ps.map fun p=>PyData.tuple ((g p).map PyData.int))=true∧PyData.depthAll (ps.map fun p=>PyData.tuple ((g p).map PyData.int))≤2
 | []=>⟨rfl,by simp [PyData.depthAll]⟩
 | p::r=>by
   obtain ⟨h1,h2⟩:=qd9 (g:=g) r
   obtain ⟨h3,h4⟩:=qea (g p)
   refine ⟨?_,?_⟩
   · simp only [List.map_cons,PyData.canLayAll0,PyData.canLay0,h1,h3]; rfl
   · simp only [List.map_cons,PyData.depthAll,PyData.depth]; omega
end L2
namespace L2
open PySem PySem.Spec PyProof.Rows PySem.Builtin.Str PySem.NumText
section
variable {X:Cx}
end
theorem qhC {x y:Str} (h:x.cps.toList=y.cps.toList):x=y:=by
 obtain ⟨a⟩:=x; obtain ⟨b⟩:=y
 have:a=b:=by
   have:=congrArg List.toArray h
   simpa using this
 rw [this]
theorem qeG (x:Str):x.cps.toList.length=x.length:=Array.length_toList
end L2
namespace L2
open PySem PySem.Spec PyProof.Rows PySem.Builtin PySem.Builtin.Str PySem.NumText
section
variable {X:Cx}
end
end L2
namespace KC
open PySem L2 PySem.NumText PyProof.Rows
theorem jv {xs:List V} {i:Int} (h0:0≤i) (h1:i < xs.length):∃ v,atI xs i=some v∧v∈xs:=by
 obtain ⟨n,rfl⟩:=Int.eq_ofNat_of_zero_le h0
 have hn:n < xs.length:=by omega
 exact ⟨xs[n],QL (List.getElem?_eq_getElem hn),List.getElem_mem hn⟩
section
variable {c:Nat} {a r:List Nat}
end
end KC
namespace KC
open PySem L2 PySem.NumText PyProof.Rows
section
variable (n:Int) {q:Nat} (lo hi:Int)
end
end KC
namespace KC
open PySem L2 PySem.NumText PyProof.Rows
end KC
namespace KC
open PySem L2 PySem.NumText PyProof.Rows PySem.Builtin PySem.Builtin.Str
end KC
namespace L2
open PySem PySem.Spec PyProof.Rows
section
variable {M:Model} {A:Around} {E:Value->Shared->Prop} {s:Shared}
end
section
variable {X:Cx} {pins:List (Addr×Obj)} {σ:St} {H:Hp} {s:Shared} {ea C:Addr} {dx:Option Addr}
end
end L2
namespace L2
open PySem PySem.Spec PyProof.Rows
def tyS:Value->String
 | .type a=>a
 | _=>""
def qeU:List Value->Bool
 | []=>false
 | x::r=>match x with
   | .ref _=>qeU r
   | _=>(x::r).map tyS == ["ValueError","Exception","BaseException","object"]
inductive qhs (K:PySem.W.Frag) (C:Addr):Prop
 | mk (nm qn:Str) (N:Addr) (bs bm:List Value) (sn:List Str) (sub:List Value) (ab:Bool) (col:Option Bool) (dd:Option Addr) (k0 k1 k2 k3 k5:Option Value) (h1:K.lookup C=some (excClassObj nm qn C N bs bm true sn sub ab col dd k0 k1 k2 k3 k5 "ValueError.__new__")) (h2:qeU bm=true):qhs K C
def qjq (K:PySem.W.Frag) (C:Addr):Prop:=qhs K C
noncomputable def xIn (K:PySem.W.Frag) (C:Addr):Bool:=@decide (qjq K C) (Classical.propDecidable _)
theorem xIn_iff {K:PySem.W.Frag} {C:Addr}:xIn K C=true↔qjq K C:=@decide_eq_true_iff (qjq K C) (Classical.propDecidable _)
section
variable {M:Model} {A:Around} {E:Value->Shared->Prop} {h:Heap} {g:Array GenState} {d:Drawn} {t:Nat} {os:OsState}
variable {nm q:Str} {C N:Addr} {bs bm bmB:List Value} {sn:List Str} {sub:List Value} {ab:Bool} {col:Option Bool} {dd:Option Addr} {k0 k1 k2 k3 k5:Option Value} {B newId initId:String}
end
section
variable {prog:Program} {w:World} {A:Around} {R:Result->Shared->Prop} {E:Value->Shared->Prop} {h:Heap} {g:Array GenState} {d:Drawn} {t:Nat} {os:OsState}
variable {nm q:Str} {C N:Addr} {bs bm bmB:List Value} {sn:List Str} {sub:List Value} {ab:Bool} {col:Option Bool} {dd:Option Addr} {k0 k1 k2 k3 k5:Option Value} {B newId initId:String}
end
end L2
namespace L2
open PySem PySem.Spec PyProof.Rows
section
variable {M:Model} {A:Around} {E:Value->Shared->Prop} {s:Shared} {env:Env}
end
section
variable {prog:Program} {w:World} {A:Around} {E:Value->Shared->Prop} {s:Shared} {K:PySem.W.Frag} {C x:Addr} {ox:Obj} {name:Str} {v:Value}
end
section
variable {prog:Program} {w:World} {A:Around} {E:Value->Shared->Prop} {s:Shared} {K:PySem.W.Frag} {C x:Addr} {ox:Obj} {name:Str} {v:Value}
end
section
variable {prog:Program} {w:World} {A:Around} {E:Value->Shared->Prop} {s:Shared} {K:PySem.W.Frag} {C x:Addr} {ox:Obj} {od:Option Obj} {name:Str} {v:Value}
end
end L2
namespace L2
open PySem PySem.Spec PyProof.Rows
section
variable {prog:Program} {w:World} {A:Around} {E:Value->Shared->Prop} {s:Shared} {K:PySem.W.Frag} {C x:Addr} {ox:Obj} {od:Option Obj}
end
end L2
namespace L2
open PySem PySem.Spec PyProof.Rows
section
variable {X:Cx} {pins:List (Addr×Obj)} {σ:St} {H:Hp} {s:Shared} {h':Heap}
end
section
variable {X:Cx} {o e value:Expr} {es:List Expr} {f x:Str} {p apos pos pos' tpos:Pos} {ta tv:TE} {t:TA} {C fa:Addr}
structure qga (K:PySem.W.Frag) (C f:Addr):Prop where
 sp:PySem.W.specialIn K (.ref C) "__getattribute__"=some (some (.builtin "type.__getattribute__"))
 rd:PySem.W.readsIn K C (.type "type")=true
 at_:PySem.W.findCls K (.ref C) (.type "type") "__init__"=some (.val (.ref f))
 kp:PySem.W.keepIn K (.ref f)=true
theorem qap {k:Nat} {fd:FuncData} {ps:List Str} {sp:Sp} {pl:Sem Bool} (c:qga X.K C fa) (F:qC X.prog X.w X.K X.mg X.base CX0 k fa fd ps sp) (hr:Room k X.A) (hb:Binds X.K fd ps []) (hg:Gl X x) (hm:X.mg x=some (.ref C))
   (ha:PA X (e::es) t) (hdb:(x == ("__debug__":Str))=false:=by decide)
   (hst:starEach (e::es) X.env=(false,eval e X.env)::starEach es X.env:=by rfl) (hpl:(backTo pos (starEach es X.env)).any (·.1)=false:=by rfl)
   (ht:eval (.Call (.Attribute (.Name x p) "__init__" apos) (e::es) [] pos) X.env=(do
     let ov ← eval (.Name x p) X.env
     standAt apos.atName
     let (f,first) ← holding [ov] (getMethod ov "__init__" pl)
     callWith pos f first (backTo pos (starEach (e::es) X.env)) (backToKw pos (keywordEach [] X.env))):=by rfl) :
   PE X (.Call (.Attribute (.Name x p) "__init__" apos) (e::es) [] pos) (qih sp [] E0 t):=by
 intro pins s σ H Q I h
 refine PySem.W.methodCall_KW (pl:=pl) (qaW I hg hm ?_ hdb) ht
 refine PySem.W.method_cls I.kIn c.sp (PySem.W.cls_value I.kIn c.rd c.at_ rfl ?_)
 have I0:=I.tok (s.toks+1)
 refine PySem.W.callWith_K (h₀:=X.base) I.ok.mod.kin c.kp (thn (ha pos pins _ σ H _ I0 h) fun us s1 ⟨vs,H1,I1,r,q⟩=>⟨I1.kIn,?_⟩) hst hpl
 exact qdX F hr hb .nil ql I1 r q
def qiS (K:PySem.W.Frag) (C:Addr):V->Option Bool
 | .ref D=>if (PySem.W.clsIn K D).isSome && PySem.W.typeIn K (.ref D) == some (.type "type") then PySem.W.subIn K (.ref C) (.ref D) else none
 | .ty T=>if T == "ValueError" then some true else none
 | _=>none
end
end L2
namespace L2
open PySem PySem.Spec PyProof.Rows
section
variable {X:Cx} {pins:List (Addr×Obj)} {σ:St} {H:Hp} {s:Shared}
end
section
variable {M:Model} {A:Around} {E:Value->Shared->Prop} {s:Shared}
end
section
variable {X:Cx} {e o c:Expr} {es:List Expr} {a b:List Stmt} {x m:Str} {p pos apos:Pos} {ta:TE} {t:TA} {tc:TT} {f C:Addr} {fd:FuncData} {ps:List Str} {sp:Sp} {k:Nat}
end
end L2
namespace L2
open PySem PySem.Spec PyProof.Rows
def qhV (v:Value):Bool:=match v with
 | .type s=>s == "type"
 | _=>false
def qhW (v:Option Value):Bool:=match v with
 | some (.builtin s)=>s == "ValueError.__new__"
 | _=>false
def qjb (C:Addr) (l:List Value):Bool:=match l with
 | .ref C1::bm=>C1 == C && qeU bm
 | _=>false
def xOb (C:Addr) (o:Obj):Bool:=match o.data with
 | .cls cd=>qhV o.cls && qjb C cd.mro && !cd.hasDel && cd.hasDict && o.slots.size == 6 && qhW (o.slots.getD 4 none)
 | _=>false
theorem qgF {v:Value} (h:qhV v=true):v=.type "type":=by
 cases v with
 | type s=>rw [eq_of_beq (show (s == "type")=true from h)]
 | _=>cases h
theorem qgG {v:Option Value} (h:qhW v=true):v=some (.builtin "ValueError.__new__"):=by
 cases v with
 | none=>cases h
 | some v =>
   cases v with
   | builtin s=>rw [eq_of_beq (show (s == "ValueError.__new__")=true from h)]
   | _=>cases h
theorem qhU {C:Addr} {l:List Value} (h:qjb C l=true):∃ bm,l=.ref C::bm∧qeU bm=true:=by
 cases l with
 | nil=>cases h
 | cons v bm =>
   cases v with
   | ref C1 =>
     have h':(C1 == C && qeU bm)=true:=h
     rw [Bool.and_eq_true] at h'
     exact ⟨bm,by rw [eq_of_beq h'.1],h'.2⟩
   | _=>cases h
theorem six {α:Type} {l:List α} (h:l.length=6):∃ a b c d e f,l=[a,b,c,d,e,f]:=by
 obtain ⟨a,l,rfl⟩:=List.exists_cons_of_length_eq_add_one h
 obtain ⟨b,l,rfl⟩:=List.exists_cons_of_length_eq_add_one (Nat.succ.inj h)
 obtain ⟨c,l,rfl⟩:=List.exists_cons_of_length_eq_add_one (Nat.succ.inj (Nat.succ.inj h))
 obtain ⟨d,l,rfl⟩:=List.exists_cons_of_length_eq_add_one (Nat.succ.inj (Nat.succ.inj (Nat.succ.inj h)))
 obtain ⟨e,l,rfl⟩:=List.exists_cons_of_length_eq_add_one (Nat.succ.inj (Nat.succ.inj (Nat.succ.inj (Nat.succ.inj h))))
 obtain ⟨f,l,rfl⟩:=List.exists_cons_of_length_eq_add_one (Nat.succ.inj (Nat.succ.inj (Nat.succ.inj (Nat.succ.inj (Nat.succ.inj h)))))
 have:l=[]:=List.eq_nil_of_length_eq_zero (Nat.succ.inj (Nat.succ.inj (Nat.succ.inj (Nat.succ.inj (Nat.succ.inj (Nat.succ.inj h))))))
 subst this
 exact ⟨a,b,c,d,e,f,rfl⟩
theorem qh8 {K:PySem.W.Frag} {C:Addr} {o:Obj} (h:K.lookup C=some o) (q:xOb C o=true):xIn K C=true:=by
 obtain ⟨oc,dd,od,⟨sl⟩⟩:=o
 cases od with
 | cls cd =>
   have q':(qhV oc && qjb C cd.mro && !cd.hasDel && cd.hasDict && sl.length == 6 && qhW ((Array.mk sl).getD 4 none))=true:=q
   simp only [Bool.and_eq_true,beq_iff_eq,Bool.not_eq_true'] at q'
   obtain ⟨⟨⟨⟨⟨q0,q1⟩,q2⟩,q3⟩,q4⟩,q5⟩:=q'
   obtain ⟨bm,hm,hx⟩:=qhU q1
   obtain ⟨k0,k1,k2,k3,k4,k5,rfl⟩:=six q4
   have e4:k4=some (.builtin "ValueError.__new__"):=qgG q5
   have e0:=qgF q0
   obtain ⟨nm,bs,mro,ns,qn,hdc,sn,sub,ab,col,del⟩:=cd
   dsimp only at hm q2 q3
   subst hm q2 q3 e4 e0
   exact xIn_iff.mpr ⟨nm,qn,ns,bs,bm,sn,sub,ab,col,dd,k0,k1,k2,k3,k5,h,hx⟩
 | _=>cases q
theorem qhv {K:PySem.W.Frag} {C D:Addr} {b:Bool} (h1:PySem.W.isClsIn K D=true) (h2:PySem.W.typeIn K (.ref D)=some (.type "type")) (h3:PySem.W.subIn K (.ref C) (.ref D)=some b):qiS K C (.ref D)=some b:=by
 unfold qiS
 have h1':(PySem.W.clsIn K D).isSome=true:=h1
 simp only [h1',h2,Bool.true_and,beq_self_eq_true,if_true]
 exact h3
section
variable {P:Program} {w:World} {K:PySem.W.Frag} {mg:Str->Option Value} {base:Heap}
end
end L2
namespace L2
open PySem PySem.Spec PyProof.Rows
end L2
namespace L2
open PySem PySem.Spec PyProof.Rows
end L2
namespace L2
open PySem PySem.Spec PyProof.Rows
theorem qeg (zs:List V) (n:Nat) (k:Int) (hk:k=(n:Int)):qgc zs none (some k)=zs.take n:=by
 subst hk
 unfold qgc
 rw [HT.sIx_none,HT.sIx_nat,Nat.sub_zero,List.drop_zero]
 by_cases h:n≤zs.length
 · rw [Nat.min_eq_left h]
 · rw [Nat.min_eq_right (by omega),List.take_of_length_le (Nat.le_refl _),List.take_of_length_le (by omega)]
end L2
namespace Srt
open PySem PySem.W PyProof.Rows
def RunP {α:Type} (lt:Nat->Nat->Bool) (n:Nat):KasT α->(α->Prop)->Prop
 | .ret a,P=>P a
 | .ask i j k,P=>i < n∧j < n∧RunP lt n (k (lt i j)) P
section
variable {lt:Nat->Nat->Bool} {n:Nat}
theorem RunP.bind {α β:Type} {f:α->KasT β} {P:β->Prop}:∀ {t:KasT α},RunP lt n t (fun a=>RunP lt n (f a) P)->RunP lt n (t.bind f) P
 | .ret _,h=>h
 | .ask i j k,h=>⟨h.1,h.2.1,RunP.bind (t:=k (lt i j)) h.2.2⟩
theorem RunP.mono {α:Type} {P P':α->Prop} (hp:∀ a,P a->P' a):∀ {t:KasT α},RunP lt n t P->RunP lt n t P'
 | .ret _,h=>hp _ h
 | .ask i j k,h=>⟨h.1,h.2.1,RunP.mono hp (t:=k (lt i j)) h.2.2⟩
theorem RunP.wp {α:Type} {cmp:Nat->Nat->(Bool->Shared->Prop)->Shared->Prop} {Q:α->Shared->Prop} {P:α->Prop} {s:Shared} (hc:∀ i j (C:Bool->Shared->Prop),i < n->j < n->C (lt i j) s->cmp i j C s) (hq:∀ a,P a->Q a s):∀ {t:KasT α},RunP lt n t P->t.kasWp cmp Q s
 | .ret _,h=>hq _ h
 | .ask i j k,h=>hc i j _ h.1 h.2.1 (RunP.wp hc hq (t:=k (lt i j)) h.2.2)
theorem RunP.ite {α:Type} {c:Prop} [Decidable c] {t u:KasT α} {P:α->Prop} (h1:c->RunP lt n t P) (h2:¬ c->RunP lt n u P):RunP lt n (if c then t else u) P:=by
 by_cases h:c
 · rw [if_pos h]; exact h1 h
 · rw [if_neg h]; exact h2 h
def Bd (n:Nat) (p:Array Nat):Prop:=∀ x,p.getD x 0 < n
theorem qa1 {p q:Array Nat} {x y:Nat} (h:p[x]?=q[y]?):p.getD x 0=q.getD y 0:=by
 simp only [Array.getD_eq_getD_getElem?,h]
theorem qbu {p:Array Nat} {i j:Nat} (hj:j≤p.size) (x:Nat):(kas_rev p i j).getD x 0=if i≤x∧x < j then p.getD (i+j - 1 - x) 0 else p.getD x 0:=by
 have h:=getElem?_mirror_all (xs:=p) (i:=i) hj x
 by_cases c:i≤x∧x < j
 · rw [if_pos c] at h ⊢; exact qa1 h
 · rw [if_neg c] at h ⊢; exact qa1 h
theorem Bd.rev {p:Array Nat} {i j:Nat} (h:Bd n p) (hj:j≤p.size):Bd n (kas_rev p i j):=fun x=>by
 rw [qbu hj]
 split<;>exact h _
theorem qf2 {p:Array Nat} {k d:Nat} (hk:k < p.size) (hd:d≤k) (x:Nat):(bubble p k d).getD x 0=if x=k - d then p.getD k 0 else if k - d < x∧x≤k then p.getD (x - 1) 0 else p.getD x 0:=by
 have h:=getElem?_bubble (xs:=p) hk d hd x
 by_cases c:x=k - d
 · rw [if_pos c] at h ⊢; exact qa1 h
 · rw [if_neg c] at h ⊢
   by_cases c2:k - d < x∧x≤k
   · rw [if_pos c2] at h ⊢; exact qa1 h
   · rw [if_neg c2] at h ⊢; exact qa1 h
theorem Bd.bub {p:Array Nat} {k d:Nat} (h:Bd n p) (hk:k < p.size) (hd:d≤k):Bd n (bubble p k d):=fun x=>by
 rw [qf2 hk hd]
 by_cases c:x=k - d
 · rw [if_pos c]; exact h _
 · rw [if_neg c]
   by_cases c2:k - d < x∧x≤k
   · rw [if_pos c2]; exact h _
   · rw [if_neg c2]; exact h _
structure Ord (lt:Nat->Nat->Bool):Prop where
 tr:∀ a b c,lt b a=false->lt c b=false->lt c a=false
 asy:∀ a b,lt a b=true->lt b a=false
theorem Ord.irr (O:Ord lt) (a:Nat):lt a a=false:=by
 cases h:lt a a with
 | false=>rfl
 | true=>rw [← h]; exact O.asy _ _ h
def Up (lt:Nat->Nat->Bool) (p:Array Nat) (k:Nat):Prop:=∀ x,x+1 < k->lt (p.getD (x+1) 0) (p.getD x 0)=false
def Dn (lt:Nat->Nat->Bool) (p:Array Nat) (k:Nat):Prop:=∀ x,x+1 < k->lt (p.getD x 0) (p.getD (x+1) 0)=false
def Eqv (lt:Nat->Nat->Bool) (a b:Nat):Prop:=lt a b=false∧lt b a=false
theorem Eqv.not (O:Ord lt) {a a' b b':Nat} (h1:Eqv lt a a') (h2:Eqv lt b b') (h:lt a b=false):lt a' b'=false:=O.tr _ _ _ (O.tr _ _ _ h2.1 h) h1.2
theorem Up.le (O:Ord lt) {p:Array Nat} {k:Nat} (h:Up lt p k) {x:Nat}:∀ d,x+d < k->lt (p.getD (x+d) 0) (p.getD x 0)=false
 | 0,_=>O.irr _
 | d+1,hd=>O.tr _ _ _ (Up.le O h d (by omega)) (h (x+d) (by omega))
theorem qf7 (p:Array Nat) (hb:Bd n p):∀ (f m:Nat),1≤m->Up lt p m->RunP lt n (kas_asc p f m) fun r=>m≤r∧r≤m+f∧Up lt p r∧(r < m+f->lt (p.getD r 0) (p.getD (r - 1) 0)=true)
 | 0,m,_,hu=>⟨Nat.le_refl _,Nat.le_refl _,hu,fun h=>absurd h (by omega)⟩
 | f+1,m,h1,hu=>by
   refine ⟨hb _,hb _,RunP.ite (fun c=>?_) (fun c=>?_)⟩
   · exact ⟨Nat.le_refl _,by omega,hu,fun _=>c⟩
   · have c:lt (p.getD m 0) (p.getD (m - 1) 0)=false:=by simpa using c
     refine RunP.mono (fun r h=>?_) (qf7 p hb f (m+1) (by omega) (fun x hx=>?_))
     · exact ⟨by omega,by omega,h.2.2.1,fun z=>h.2.2.2 (by omega)⟩
     · by_cases e:x+1=m
       · have e1:x=m - 1:=by omega
         rw [e1,show m - 1+1=m by omega]
         exact c
       · exact hu x (by omega)
def Blk (lt:Nat->Nat->Bool) (p:Array Nat) (m q:Nat):Prop:=q+1≤m∧∀ x,m - (q+1)≤x->x < m->Eqv lt (p.getD x 0) (p.getD (m - 1) 0)
theorem Blk.rev (O:Ord lt) {p:Array Nat} {m q:Nat} (hm:m≤p.size) (h:Blk lt p m q) (x:Nat) (hx:x < m):Eqv lt (p.getD x 0) ((kas_rev p (m - (q+1)) m).getD x 0):=by
 rw [qbu hm]
 by_cases c:m - (q+1)≤x∧x < m
 · rw [if_pos c]
   have h1:=h.2 x c.1 c.2
   have hq:=h.1
   have h2:=h.2 (m - (q+1)+m - 1 - x) (by omega) (by omega)
   exact ⟨O.tr _ _ _ h2.2 h1.1,O.tr _ _ _ h1.2 h2.1⟩
 · rw [if_neg c]; exact ⟨O.irr _,O.irr _⟩
theorem Dn.eqv (O:Ord lt) {p p':Array Nat} {m:Nat} (h:Dn lt p m) (e:∀ x,x < m->Eqv lt (p.getD x 0) (p'.getD x 0)):Dn lt p' m:=fun x hx=>(e x (by omega)).not O (e (x+1) hx) (h x hx)
theorem qcq (O:Ord lt):∀ (f:Nat) (p:Array Nat) (m q:Nat),Bd n p->1≤m->m+f≤p.size->Dn lt p m->Blk lt p m q->RunP lt n (kas_desc f p m q) fun r =>
   Bd n r.1∧r.1.Perm p∧r.1.size=p.size∧m≤r.2.1∧r.2.1≤m+f∧Dn lt r.1 r.2.1∧Blk lt r.1 r.2.1 r.2.2
 | 0,p,m,q,hb,h1,hs,hd,bl=>⟨hb,Array.Perm.refl _,rfl,Nat.le_refl _,Nat.le_refl _,hd,bl⟩
 | f+1,p,m,q,hb,h1,hs,hd,bl=>by
   have one:∀ p':Array Nat,p'.getD m 0=p'.getD (m+1 - 1) 0:=fun p'=>rfl
   refine ⟨hb _,hb _,RunP.ite (fun c=>RunP.ite (fun hq=>?_) (fun hq=>?_)) (fun c=>⟨hb _,hb _,RunP.ite (fun d=>?_) (fun d=>?_)⟩)⟩
   · have hm:m≤p.size:=by omega
     have ev:=bl.rev O hm
     have sz:(kas_rev p (m - (q+1)) m).size=p.size:=kas_rev_size _ _
     have out:(kas_rev p (m - (q+1)) m).getD m 0=p.getD m 0:=by rw [qbu hm,if_neg (by omega)]
     refine RunP.mono (fun r h=>?_) (qcq O f (kas_rev p (m - (q+1)) m) (m+1) 0 (hb.rev hm) (by omega) (by omega) (fun x hx=>?_) ⟨by omega,fun x h0 h2=>?_⟩)
     · exact ⟨h.1,h.2.1.trans (mirror_perm _ _ _ _),by rw [h.2.2.1,sz],by omega,by omega,h.2.2.2.2.2.1,h.2.2.2.2.2.2⟩
     · by_cases e:x+1=m
       · have e1:x=m - 1:=by omega
         subst e1
         rw [show m - 1+1=m by omega,out]
         exact (ev (m - 1) (by omega)).not O ⟨O.irr _,O.irr _⟩ (O.asy _ _ c)
       · exact hd.eqv O ev x (by omega)
     · have e:x=m:=by omega
       subst e
       exact ⟨O.irr _,O.irr _⟩
   · refine RunP.mono (fun r h=>?_) (qcq O f p (m+1) 0 hb (by omega) (by omega) (fun x hx=>?_) ⟨by omega,fun x h0 h2=>?_⟩)
     · exact ⟨h.1,h.2.1,h.2.2.1,by omega,by omega,h.2.2.2.2.2.1,h.2.2.2.2.2.2⟩
     · by_cases e:x+1=m
       · have e1:x=m - 1:=by omega
         subst e1
         rw [show m - 1+1=m by omega]
         exact O.asy _ _ c
       · exact hd x (by omega)
     · have e:x=m:=by omega
       subst e
       exact ⟨O.irr _,O.irr _⟩
   · exact ⟨hb,Array.Perm.refl _,rfl,Nat.le_refl _,(by show m≤m+(f+1); omega),hd,bl⟩
   · have c:lt (p.getD m 0) (p.getD (m - 1) 0)=false:=by simpa using c
     have d:lt (p.getD (m - 1) 0) (p.getD m 0)=false:=by simpa using d
     refine RunP.mono (fun r h=>?_) (qcq O f p (m+1) (q+1) hb (by omega) (by omega) (fun x hx=>?_) ⟨by have:=bl.1; omega,fun x h0 h2=>?_⟩)
     · exact ⟨h.1,h.2.1,h.2.2.1,by omega,by omega,h.2.2.2.2.2.1,h.2.2.2.2.2.2⟩
     · by_cases e:x+1=m
       · have e1:x=m - 1:=by omega
         subst e1
         rw [show m - 1+1=m by omega]
         exact d
       · exact hd x (by omega)
     · show Eqv lt (p.getD x 0) (p.getD m 0)
       by_cases e:x=m
       · rw [e]; exact ⟨O.irr _,O.irr _⟩
       · have:=bl.2 x (by omega) (by omega)
         exact ⟨O.tr _ _ _ d this.1,O.tr _ _ _ this.2 c⟩
theorem Dn.rev {p:Array Nat} {m:Nat} (h:Dn lt p m) (hm:m≤p.size):Up lt (kas_rev p 0 m) m:=fun x hx=>by
 rw [qbu hm,qbu hm,if_pos ⟨Nat.zero_le _,by omega⟩,if_pos ⟨Nat.zero_le _,by omega⟩]
 have:=h (m - 2 - x) (by omega)
 rw [show m - 2 - x+1=0+m - 1 - x by omega] at this
 rw [show 0+m - 1 - (x+1)=m - 2 - x by omega]
 exact this
def Cnt (lt:Nat->Nat->Bool) (n N:Nat) (p:Array Nat) (r:Nat×Array Nat):Prop:=Bd n r.2∧r.2.Perm p∧r.2.size=p.size∧1≤r.1∧r.1≤N∧Up lt r.2 r.1
theorem qdL {N m:Nat} {p:Array Nat} (hb:Bd n p) (h1:1≤m) (hm:m≤N) (hs:N≤p.size) (hd:Dn lt p m):RunP lt n (kas_tail3 m N p) (Cnt lt n N p):=by
 unfold kas_tail3
 refine RunP.bind (RunP.mono (fun r h=>?_) (qf7 (kas_rev p 0 m) (hb.rev (by omega)) (N - m) m h1 (hd.rev (by omega))))
 exact ⟨hb.rev (by omega),mirror_perm _ _ _ _,kas_rev_size _ _,by omega,by omega,h.2.2.1⟩
theorem qa4 (O:Ord lt) {N m:Nat} {p:Array Nat} (hb:Bd n p) (h1:1≤m) (hm:m < N) (hs:N≤p.size) (hd:Dn lt p (m+1)):RunP lt n (kas_descPart m N p) (Cnt lt n N p):=by
 unfold kas_descPart
 refine RunP.bind (RunP.mono (fun r h=>?_) (qcq O (N - (m+1)) p (m+1) 0 hb (by omega) (by omega) hd ⟨by omega,fun x h0 h2=>by
   have e:x=m:=by omega
   subst e
   exact ⟨O.irr _,O.irr _⟩⟩))
 obtain ⟨g1,g2,g3,g4,g5,g6,g7⟩:=h
 refine RunP.ite (fun hq=>?_) (fun hq=>?_)
 · have hm2:r.2.1≤r.1.size:=by omega
   refine RunP.mono (fun z hz=>?_) (qdL (g1.rev hm2) (by omega) (by omega) (by rw [kas_rev_size]; omega) (g6.eqv O (g7.rev O hm2)))
   exact ⟨hz.1,(hz.2.1.trans (mirror_perm _ _ _ _)).trans g2,by rw [hz.2.2.1,kas_rev_size,g3],hz.2.2.2⟩
 · refine RunP.mono (fun z hz=>?_) (qdL g1 (by omega) (by omega) (by omega) g6)
   exact ⟨hz.1,hz.2.1.trans g2,by rw [hz.2.2.1,g3],hz.2.2.2⟩
theorem qgO (O:Ord lt) {N:Nat} {p:Array Nat} (hb:Bd n p) (h2:1≤N) (hs:N≤p.size):RunP lt n (kas_count N p) (Cnt lt n N p):=by
 unfold kas_count
 refine RunP.bind (RunP.mono (fun m h=>?_) (qf7 p hb (N - 1) 1 (Nat.le_refl _) (fun x hx=>by omega)))
 obtain ⟨m1,mN,up,stop⟩:=h
 refine RunP.ite (fun c=>?_) (fun c=>?_)
 · exact ⟨hb,Array.Perm.refl _,rfl,m1,by omega,up⟩
 · have c:m≠N:=by simpa using c
   have st:=stop (by omega)
   refine RunP.ite (fun g=>⟨hb _,hb _,RunP.ite (fun e=>?_) (fun e=>?_)⟩) (fun g=>?_)
   · exact ⟨hb,Array.Perm.refl _,rfl,m1,by omega,up⟩
   · have e:lt (p.getD 0 0) (p.getD (m - 1) 0)=false:=by simpa using e
     -- all of the first m are alike
     have alike:∀ x,x < m->Eqv lt (p.getD x 0) (p.getD (m - 1) 0):=fun x hx=>by
       have a1:=up.le O (x:=x) (m - 1 - x) (by omega)
       rw [show x+(m - 1 - x)=m - 1 by omega] at a1
       have a2:=up.le O (x:=0) x (by omega)
       rw [Nat.zero_add] at a2
       exact ⟨O.tr _ _ _ e a2,a1⟩
     have hmp:m≤p.size:=by omega
     have blk:Blk lt p m (m - 1):=⟨by omega,fun x _ hx=>alike x hx⟩
     have ev:=blk.rev O hmp
     rw [show m - (m - 1+1)=0 by omega] at ev
     have dn0:Dn lt p m:=fun x hx=>O.tr _ _ _ (alike (x+1) hx).2 (alike x (by omega)).1
     have dn:Dn lt (kas_rev p 0 m) (m+1):=fun x hx=>by
       by_cases e1:x+1=m
       · have e2:x=m - 1:=by omega
         subst e2
         have out:(kas_rev p 0 m).getD (m - 1+1) 0=p.getD m 0:=by rw [qbu hmp,if_neg (by omega),show m - 1+1=m by omega]
         rw [out]
         exact (ev (m - 1) (by omega)).not O ⟨O.irr _,O.irr _⟩ (O.asy _ _ st)
       · exact dn0.eqv O ev x (by omega)
     refine RunP.mono (fun z hz=>?_) (qa4 O (hb.rev hmp) m1 (by omega) (by rw [kas_rev_size]; exact hs) dn)
     exact ⟨hz.1,hz.2.1.trans (mirror_perm _ _ _ _),by rw [hz.2.2.1,kas_rev_size],hz.2.2.2⟩
   · have e1:m=1:=by omega
     subst e1
     exact qa4 O hb (Nat.le_refl _) (by omega) hs (fun x hx=>by
       have:x=0:=by omega
       subst this
       exact O.asy _ _ st)
theorem qb4 (O:Ord lt) {p:Array Nat} {k:Nat} (hb:Bd n p) (up:Up lt p k):∀ (f l r:Nat),l≤r->r≤k->r - l≤f->(∀ x,x < l->lt (p.getD k 0) (p.getD x 0)=false)->(∀ x,r≤x->x < k->lt (p.getD k 0) (p.getD x 0)=true) ->
   RunP lt n (kas_place p k f l r) fun m=>m≤k∧(∀ x,x < m->lt (p.getD k 0) (p.getD x 0)=false)∧∀ x,m≤x->x < k->lt (p.getD k 0) (p.getD x 0)=true
 | 0,l,r,h1,h2,h3,a,b=>⟨by omega,a,fun x hx=>b x (by omega)⟩
 | f+1,l,r,h1,h2,h3,a,b=>by
   refine RunP.ite (fun c=>?_) (fun c=>⟨hb _,hb _,RunP.ite (fun d=>?_) (fun d=>?_)⟩)
   · exact ⟨by omega,a,fun x hx=>b x (by omega)⟩
   · refine qb4 O hb up f l ((l+r) / 2) (by omega) (by omega) (by omega) a fun x hx hk=>?_
     cases hz:lt (p.getD k 0) (p.getD x 0) with
     | true=>rfl
     | false =>
       have q:=up.le O (x:=(l+r) / 2) (x - (l+r) / 2) (by omega)
       rw [show (l+r) / 2+(x - (l+r) / 2)=x by omega] at q
       have:=O.tr _ _ _ q hz
       rw [d] at this
       cases this
   · have d:lt (p.getD k 0) (p.getD ((l+r) / 2) 0)=false:=by simpa using d
     refine qb4 O hb up f ((l+r) / 2+1) r (by omega) h2 (by omega) (fun x hx=>?_) b
     have q:=up.le O (x:=x) ((l+r) / 2 - x) (by omega)
     rw [show x+((l+r) / 2 - x)=(l+r) / 2 by omega] at q
     exact O.tr _ _ _ q d
theorem qhr (O:Ord lt):∀ (f:Nat) (p:Array Nat) (k:Nat),Bd n p->k+f≤p.size->Up lt p k->RunP lt n (kas_bin f p k) fun r=>r.Perm p∧Up lt r (k+f)
 | 0,p,k,hb,hs,up=>⟨Array.Perm.refl _,up⟩
 | f+1,p,k,hb,hs,up=>by
   refine RunP.bind (RunP.mono (fun l h=>?_) (qb4 O hb up k 0 k (Nat.zero_le _) (Nat.le_refl _) (by omega) (fun x hx=>absurd hx (by omega)) (fun x h1 h2=>absurd h1 (by omega))))
   obtain ⟨lk,lo,hi⟩:=h
   have hk:k < p.size:=by omega
   refine RunP.mono (fun r h=>⟨h.1.trans (bubble_perm _ _ _),by rw [show k+(f+1)=k+1+f by omega]; exact h.2⟩) (qhr O f (bubble p k (k - l)) (k+1) (hb.bub hk (by omega)) (by rw [bubble_size]; omega) (fun x hx=>?_))
   have e:k - (k - l)=l:=by omega
   rw [qf2 hk (by omega),qf2 hk (by omega),e]
   by_cases c1:x+1=l
   · rw [if_pos c1,if_neg (by omega),if_neg (by omega)]
     exact lo x (by omega)
   · rw [if_neg c1]
     by_cases c2:x=l
     · rw [if_pos c2,if_pos ⟨by omega,by omega⟩,show x+1 - 1=x by omega]
       exact O.asy _ _ (hi x (by omega) (by omega))
     · rw [if_neg c2]
       by_cases c3:l < x
       · rw [if_pos ⟨by omega,by omega⟩,if_pos ⟨c3,by omega⟩]
         have:=up (x - 1) (by omega)
         rw [show x - 1+1=x by omega] at this
         rw [show x+1 - 1=x by omega]
         exact this
       · rw [if_neg (by omega),if_neg (by omega)]
         exact up x (by omega)
theorem sort_ok (O:Ord lt) (h:1≤n):RunP lt n (kas_sort n) fun r=>r.Perm (List.toArray (List.range n))∧Up lt r n:=by
 have hb:Bd n (List.toArray (List.range n)):=fun x=>by
   simp only [Array.getD_eq_getD_getElem?,List.getElem?_toArray]
   by_cases hx:x < n
   · rw [List.getElem?_range hx]; exact hx
   · rw [List.getElem?_eq_none (by simp; omega)]; exact h
 have sz:(List.toArray (List.range n)).size=n:=by simp
 unfold kas_sort
 refine RunP.bind (RunP.mono (fun r hr=>?_) (qgO O hb h (by omega)))
 obtain ⟨g1,g2,g3,g4,g5,g6⟩:=hr
 refine RunP.ite (fun c=>?_) (fun c=>?_)
 · have e:max r.1 1=r.1:=by omega
   rw [e]
   refine RunP.mono (fun z hz=>⟨hz.1.trans g2,?_⟩) (qhr O (n - r.1) r.2 r.1 g1 (by omega) g6)
   have:=hz.2
   rw [show r.1+(n - r.1)=n by omega] at this
   exact this
 · have e:r.1=n:=by omega
   rw [e] at g6
   exact ⟨g2,g6⟩
end
end Srt
namespace L2
open PySem PySem.Spec PyProof.Rows
theorem ObjOk.lies {P:Program} {w:World} {H:Hp} {h:Heap} {a:Addr} {o:HO} (x:ObjOk P w H h a o):∃ ob,h.get? a=some ob:=by
 cases o with
 | lst xs=>obtain ⟨_,_,_,_,e⟩:=x; exact ⟨_,e⟩
 | tup xs=>obtain ⟨_,_,_,o,e,_⟩:=x; exact ⟨_,e⟩
 | dK kvs=>obtain ⟨_,_,_,_,o,_,_,e,_⟩:=x; exact ⟨_,e⟩
 | dT kvs=>obtain ⟨_,_,_,_,o,_,_,e,_⟩:=x; exact ⟨_,e⟩
 | set S n=>obtain ⟨o,_,_,_,e,_⟩:=x; exact ⟨_,e⟩
 | ins C dx fs=>obtain ⟨_,_,_,e,_⟩:=x; exact ⟨_,e⟩
 | own y=>obtain ⟨_,e⟩:=x; exact ⟨_,e⟩
 | xd fs=>obtain ⟨_,⟨_,_,_,e,_⟩,_⟩:=x; exact ⟨_,e⟩
 | rng lo hi=>obtain ⟨_,_,_,e⟩:=x; exact ⟨_,e⟩
 | frz ob u=>obtain ⟨e,_⟩:=x; exact ⟨_,e⟩
 | tbl ps=>exact ⟨_,(show h.get? a=some _ from x)⟩
 | met f y=>exact ⟨_,(show h.get? a=some _ from x)⟩
 | ext φ=>obtain ⟨_,⟨_,e⟩,_⟩:=x; exact ⟨_,e⟩
section
variable {X:Cx} {pins:List (Addr×Obj)} {σ:List (Option V)} {H:Hp} {s:Shared} {h':Heap}
theorem Inv.unlaid {a:Addr} (I:Inv X pins σ H s) (e:s.heap.get? a=none):H a=none:=by
 cases q:H a with
 | none=>rfl
 | some o =>
   obtain ⟨ob,z⟩:=(I.hok a o q).lies
   rw [e] at z; cases z
theorem Inv.laidL {a:Addr} {o:HO} {t':Nat} (I:Inv X pins σ H s) (k:∀ b u,b≠X.env.locals->s.heap.get? b=some u->h'.get? b=some u) (ns:∀ m,s.heap.Ns X.env.locals m->h'.Ns X.env.locals m)
   (hp:s.heap.get? a=none) (new:ObjOk X.prog X.w (upd H a o) h' a o):Inv X pins σ (upd H a o) { s with heap:=h',toks:=t' }:=by
 have hn:H a=none:=I.unlaid hp
 have nL:∀ b u,H b=some u->b≠X.env.locals:=fun b u e z=>by rw [z,I.free] at e; cases e
 have na:∀ b u,s.heap.get? b=some u->b≠a:=fun b u q z=>by rw [z,hp] at q; cases q
 refine I.step (g':=s.gens) (d':=s.drawn) (ch:=[]) (fun _ z=>nomatch z) (fun b o hb _ _ e _=>k b o hb e) (fun b o hb _ _ e _=>⟨o.slots,k b o hb e⟩) (fun b o _ e n=>by rw [qh (na b o e)]; exact n) (fun b o _ e=>?_)
   (fun b xs q=>by rw [qh (qi q hn)]; exact q) (fun b u xs q=>by rw [qh (qi q hn)]; exact q) (fun b ps q=>⟨#[],by rw [qh (qi q hn),q]; simp⟩) ns (fun b u e=>?_) I.bare
 · by_cases z:b=X.env.locals
   · obtain ⟨m,hm,_⟩:=I.loc
     obtain ⟨o',_,_,ho',_⟩:=ns m hm
     exact ⟨o',by rw [z]; exact ho'⟩
   · exact ⟨o,k b o z e⟩
 · by_cases z:b=a
   · subst z; rw [qd] at e; cases e; exact new
   · rw [qh z] at e
     refine (I.hok b u e).stay (fun c v hc q=>k c v ?_ q) (fun c q=>by rw [qh (qi q hn)]; exact q) fun c xs q=>by rw [qh (qi q hn)]; exact q
     rcases hc with z | z
     · rw [z]; exact nL b u e
     · exact nL c _ z
end
def qdJ (base h:Heap) (L:Addr):List (Addr×Obj):=(List.range h.objs.size).filterMap fun a=>if a=L then none else if (base.get? a).isSome then none else (h.get? a).map fun o=>(a,o)
theorem qeS (base h:Heap) (L:Addr):News base L h (qdJ base h L):=by
 intro p hp
 unfold qdJ at hp
 obtain ⟨a,_,e⟩:=List.mem_filterMap.mp hp
 by_cases c1:a=L
 · rw [if_pos c1] at e; cases e
 · rw [if_neg c1] at e
   by_cases c2:(base.get? a).isSome=true
   · rw [if_pos c2] at e; cases e
   · rw [if_neg c2] at e
     cases q:h.get? a with
     | none=>rw [q] at e; cases e
     | some o =>
       rw [q] at e
       cases e
       refine ⟨q,c1,?_⟩
       cases z:base.get? a with
       | none=>rfl
       | some _=>rw [z] at c2; exact absurd rfl c2
theorem qa7 {base h:Heap} {L b:Addr} {o:Obj} (e:h.get? b=some o) (ne:b≠L) (n:base.get? b=none):(b,o)∈qdJ base h L:=by
 unfold qdJ
 refine List.mem_filterMap.mpr ⟨b,List.mem_range.mpr (Heap.lt_size e),?_⟩
 rw [if_neg ne,n,e]
 rfl
theorem qix {h:Heap} {a:Addr} {m m':Str->Option Value} (x:h.Ns a m) (y:h.Ns a m'):m=m':=by
 obtain ⟨o,es,ep,ho,hd,_,f⟩:=x
 obtain ⟨o',es',ep',ho',hd',_,f'⟩:=y
 rw [ho] at ho'; cases ho'
 rw [hd] at hd'; cases hd'
 exact funext fun n=>(f n).symm.trans (f' n)
section
variable {X:Cx} {pins:List (Addr×Obj)} {σ:List (Option V)} {H:Hp} {s:Shared} {h':Heap}
theorem Inv.laidN {D:Addr} {m:Str->Option Value} {vs:List Value} {c:Nat} {ys:List V} (I:Inv X pins σ H s) (F:Fr X.base X.env.locals s.heap m) (F':Fr X.base X.env.locals h' m)
   (N':News X.base X.env.locals h' ((D,PySem.W.listOf vs.toArray c)::qdJ X.base s.heap X.env.locals)) (hD:∀ q∈qdJ X.base s.heap X.env.locals,q.1 < D) (r:Vals ys vs) (hz:ys.length≤sizeLine) :
   H D=none∧Inv X pins σ (upd H D (.lst ys)) { s with heap:=h' }:=by
 obtain ⟨e1,e2,e3⟩:=N' _ (.head _)
 have free:s.heap.get? D=none:=by
   cases q:s.heap.get? D with
   | none=>rfl
   | some o=>exact absurd (hD _ (qa7 q e2 e3)) (Nat.lt_irrefl _)
 have kp:∀ b u,b≠X.env.locals->s.heap.get? b=some u->h'.get? b=some u:=fun b u ne q=>by
   cases z:X.base.get? b with
   | some o =>
     have:=I.bk b o z
     rw [q] at this; cases this
     exact F'.keep b _ z
   | none=>exact (N' _ (List.mem_cons_of_mem _ (qa7 q ne z))).1
 refine ⟨I.unlaid free,I.laidL (t':=s.toks) kp (fun m' hm=>?_) free ⟨hz,vs,c,r,?_⟩⟩
 · rw [qix hm F.ns]; exact F'.ns
 · exact e1
end
end L2
namespace L2
open PySem PySem.Spec PyProof.Rows
def jt:List Int->List Int->Bool
 | a::as,b::bs=>if a=b then jt as bs else decide (a < b)
 | _,_=>false
theorem qc6:∀ as bs,jt as bs=true->jt bs as=false
 | [],_,h=>by simp [jt] at h
 | _::_,[],h=>by simp [jt] at h
 | a::as,b::bs,h=>by
   unfold jt at h ⊢
   by_cases e:a=b
   · rw [if_pos e] at h
     rw [if_pos e.symm]
     exact qc6 as bs h
   · rw [if_neg e] at h
     rw [if_neg fun z=>e z.symm]
     have:=of_decide_eq_true h
     exact decide_eq_false (by omega)
theorem qd8:∀ {as bs cs:List Int},as.length=bs.length->bs.length=cs.length->jt as bs=false->jt bs cs=false->jt as cs=false
 | [],_,_,_,_,_,_=>rfl
 | _::_,[],_,h,_,_,_=>by simp at h
 | _::_,_::_,[],_,h,_,_=>by simp at h
 | a::as,b::bs,c::cs,h1,h2,x,y=>by
   unfold jt at x y ⊢
   by_cases e1:a=b
   · subst e1
     rw [if_pos rfl] at x
     by_cases e2:a=c
     · subst e2
       rw [if_pos rfl] at y ⊢
       exact qd8 (by simpa using h1) (by simpa using h2) x y
     · rw [if_neg e2] at y ⊢
       exact y
   · rw [if_neg e1] at x
     have x':=of_decide_eq_false x
     by_cases e2:b=c
     · subst e2
       rw [if_neg e1]
       exact x
     · rw [if_neg e2] at y
       have y':=of_decide_eq_false y
       rw [if_neg (by omega)]
       exact decide_eq_false (by omega)
section
variable {prog:Program} {w:World} {A:Around} {s:Shared}
theorem qhe {b:Bool} {Q:Bool->Shared->Prop}:∀ {as bs:List Int} {us vs:List Value} {i:Nat},Vals (as.map V.int) us->Vals (bs.map V.int) vs->as.length=bs.length->Q (jt as bs) s->PySem.W.KatLex prog w A b false Q (us.zip vs) i s
 | [],[],_,_,_,.nil,.nil,_,h=>PySem.W.kat_nil h
 | [],_::_,_,_,_,_,_,e,_=>by simp at e
 | _::_,[],_,_,_,_,_,e,_=>by simp at e
 | a::as,c::cs,_,_,i,.cons r1 t1,.cons r2 t2,e,h=>by
   obtain ⟨x,rfl⟩:=(show ∃ t,_=Value.int a t from r1)
   obtain ⟨y,rfl⟩:=(show ∃ t,_=Value.int c t from r2)
   refine PySem.W.kat_cons (wpAny_eqBool_int ?_)
   unfold jt at h
   by_cases z:a=c
   · rw [if_pos z] at h
     rw [show (a == c)=true by rw [z]; exact beq_self_eq_true c]
     exact PySem.W.kat_yes (qhe t1 t2 (by simpa using e) h)
   · rw [if_neg z] at h
     rw [show (a == c)=false by exact beq_eq_false_iff_ne.mpr z]
     refine PySem.W.kat_no ?_
     cases (b && i == 0) with
     | true=>exact oneLt_int h
     | false=>exact PySem.W.kat_one _ _ (wpAny_lt_int h)
end
structure TupI (H:Hp) (zs:List V) (rs:List (List Int)):Prop where
 len:zs.length=rs.length
 at_:∀ (i:Nat) (z:V) (r:List Int),zs[i]?=some z->rs[i]?=some r->∃ t,z=.ref t∧H t=some (.tup (r.map V.int))
def ltI (k:Nat) (rs:List (List Int)) (i j:Nat):Bool:=jt (rs.getD i (List.replicate k 0)) (rs.getD j (List.replicate k 0))
theorem jJ {k:Nat} {rs:List (List Int)} (h:∀ r∈rs,r.length=k) (i:Nat):(rs.getD i (List.replicate k 0)).length=k:=by
 rw [List.getD_eq_getElem?_getD]
 cases e:rs[i]? with
 | none=>exact List.length_replicate
 | some r=>exact h r (List.mem_of_getElem? e)
theorem qfB {k:Nat} {rs:List (List Int)} (h:∀ r∈rs,r.length=k):Srt.Ord (ltI k rs) :=
 ⟨fun a b c x y=>qd8 ((jJ h c).trans (jJ h b).symm) ((jJ h b).trans (jJ h a).symm) y x,fun a b=>qc6 _ _⟩
section
variable {X:Cx} {pins:List (Addr×Obj)} {σ:List (Option V)} {H:Hp} {s:Shared}
theorem Inv.tupI {t:Addr} {r:List Int} (I:Inv X pins σ H s) (h:H t=some (.tup (r.map V.int))):∃ (o:Obj) (us:List Value) (n:Nat),Vals (r.map V.int) us∧s.heap.get? t=some o∧o.cls=.type "tuple"∧o.data=.seq us.toArray n:=by
 obtain ⟨_,its,rv,o,e,c,n,d⟩:=I.hok t _ h
 exact ⟨o,its,n,rv,e,c,d⟩
theorem Inv.kpN {h':Heap} {m:Str->Option Value} {x:Addr×Obj} (I:Inv X pins σ H s) (F':Fr X.base X.env.locals h' m) (N':News X.base X.env.locals h' (x::qdJ X.base s.heap X.env.locals)) :
   ∀ b u,b≠X.env.locals->s.heap.get? b=some u->h'.get? b=some u:=fun b u ne q=>by
 cases z:X.base.get? b with
 | some o =>
   have:=I.bk b o z
   rw [q] at this; cases this
   exact F'.keep b _ z
 | none=>exact (N' _ (List.mem_cons_of_mem _ (qa7 q ne z))).1
end
theorem TupI.tail {H:Hp} {z:V} {zs:List V} {r:List Int} {rs:List (List Int)} (h:TupI H (z::zs) (r::rs)):TupI H zs rs :=
 ⟨by have:=h.len; simpa using this,fun i z' r' e1 e2=>h.at_ (i+1) z' r' (by simpa using e1) (by simpa using e2)⟩
inductive qf8 (h:Heap) (v:Value) (r:List Int):Prop
 | mk (t:Addr) (o:Obj) (us:List Value) (n:Nat) (h1:v=.ref t) (h2:Vals (r.map V.int) us) (h3:h.get? t=some o) (h4:o.cls=.type "tuple") (h5:o.data=.seq us.toArray n):qf8 h v r
def qiR (h:Heap) (v:Value) (r:List Int):Prop:=qf8 h v r
theorem qdK {h:Heap}:∀ {vs:List Value} {rs:List (List Int)},Paired (qiR h) vs rs->(∀ r∈rs,0 < r.length)->∃ fs,PySem.W.KatTups h vs fs∧fs.length=vs.length∧∀ v∈fs,∃ i t,v=Value.int i t
 | _,_,.nil,_=>⟨[],.nil,rfl,fun _ z=>nomatch z⟩
 | _,r::rs,.cons ⟨t,o,us,n,e,rv,ho,hc,hd⟩ q,k=>by
   obtain ⟨fs,k1,k2,k3⟩:=qdK q fun r hr=>k r (List.mem_cons_of_mem _ hr)
   subst e
   have pos:=k r List.mem_cons_self
   match r,us,rv,pos with
   | a::r,_,.cons ra rt,_ =>
     obtain ⟨tk,rfl⟩:=(show ∃ t,_=Value.int a t from ra)
     refine ⟨_::fs,.cons ho hc hd (by simp; rfl) k1,by simp [k2],fun v hv=>?_⟩
     rcases List.mem_cons.mp hv with rfl | hv
     · exact ⟨_,_,rfl⟩
     · exact k3 v hv
theorem jH {α β:Type} {F:α->β->Prop}:∀ {xs:List α} {ys:List β} {i:Nat} {d:α} {e:β},Paired F xs ys->i < xs.length->F (xs.getD i d) (ys.getD i e)
 | _,_,_,_,_,.nil,h=>by simp at h
 | _,_,0,_,_,.cons r _,_=>by simpa using r
 | _,_,i+1,_,_,.cons _ t,h=>by
   simp only [List.getD_cons_succ]
   exact jH t (by simpa using h)
theorem qbz {α β:Type} {F:α->β->Prop} {xs:List α} {ys:List β} {d:α} {e:β} (r:Paired F xs ys):∀ {is:List Nat},(∀ i∈is,i < xs.length)->Paired F (is.map fun i=>xs.getD i d) (is.map fun i=>ys.getD i e)
 | [],_=>.nil
 | i::is,h=>.cons (jH r (h i List.mem_cons_self)) (qbz r fun j hj=>h j (List.mem_cons_of_mem _ hj))
theorem qbb {α:Type} (l:List α) (d:α):(List.range l.length).map (fun i=>l.getD i d)=l:=by
 apply List.ext_getElem
 · simp
 · intro i h1 h2
   simp [h2]
end L2
namespace L2
open PySem PySem.Spec PyProof.Rows
section
variable {prog:Program} {w:World} {A:Around} {E:Value->Shared->Prop} {s:Shared}
theorem qgl {a:Addr} {vs:List Value} {n:Nat} {P:PySem.Fin->Shared->Prop} (ho:s.heap.get? a=some (seqObj "list" vs.toArray n)) (h2:vs.length < 2)
   (h:∀ c h',(∀ b o,b≠a->s.heap.get? b=some o->h'.get? b=some o)->h'.get? a=some (seqObj "list" vs.toArray c)->P (.done (.ret .none)) { s with heap:=h' }) :
   wpAny (model prog w) A (Builtin.«list.sort» ⟨[.ref a],[]⟩) P E s:=by
 obtain ⟨e1,ho1⟩:∃ e1,(s.heap.update a (Obj.mapSeq fun _=>(#[]:Array Value))).get? a=some (seqObj "list" #[] e1):=⟨_,get?_update_seq ho fun _=>#[]⟩
 have s1:=Heap.SameBut.update s.heap a (Obj.mapSeq fun _=>(#[]:Array Value))
 rw [list_sort_plain]
 refine wpAny_bind (listItems_at ho rfl ?_)
 refine wpAny_bind (listUpdate_at ho rfl ?_ (by rw [List.size_toArray,sizeLine_eq]; omega) (Nat.zero_le _))
 refine wpAny_bind (seqEpoch_at ho1 rfl ?_)
 refine wpAny_bind (wpAny_newTuple ?_ (by show vs.length≤_; rw [sizeLine_eq]; omega))
 refine wpAny_bind (wpAny_newList ?_ (Nat.zero_le _))
 refine wpAny_holding ?_
 dsimp only
 have hn2:vs.toArray.size < 2:=by rw [List.size_toArray]; omega
 rw [if_pos hn2]
 refine wpAny_bind (wpAny_pure ?_)
 rw [if_pos hn2]
 refine wpAny_bind (wpAny_pure ?_)
 have ho2:(((s.heap.update a (Obj.mapSeq fun _=>(#[]:Array Value))).push (seqObj "tuple" vs.toArray 0)).push (seqObj "list" #[] 0)).get? a=some (seqObj "list" #[] e1):=Heap.get?_push_of_some _ (Heap.get?_push_of_some _ ho1)
 have hsnd:Array.map (fun x:Keyed=>x.snd) (arrOf (SortSt.mk' general' (vs.toArray.zip vs.toArray) #[] 7 none))=vs.toArray:=by
   show Array.map (fun x:Value×Value=>x.snd) (vs.toArray.zip vs.toArray)=vs.toArray
   apply Array.toList_inj.mp
   simp only [Array.toList_map,Array.toList_zip]
   exact List.map_snd_zip (Nat.le_refl _)
 refine wpAny_bind (seqEpoch_at ho2 rfl ?_)
 dsimp only
 rw [hsnd]
 refine wpAny_bind (listUpdate_at ho2 rfl ?_ (Nat.zero_le _) (by rw [List.size_toArray,sizeLine_eq]; omega))
 show wpAny (model prog w) A (if (e1 != e1)=true then _ else ret Value.none) P E _
 rw [if_neg (by simp)]
 refine wpAny_pure (h _ _ (fun b o hb q=>?_) (get?_update_seq ho2 fun _=>vs.toArray))
 rw [(Heap.SameBut.update _ a _).2 b hb]
 exact Heap.get?_push_of_some _ (Heap.get?_push_of_some _ ((s1.2 b hb).trans q))
theorem qeq {l:Addr} {vs:List Value} {Q:Value->Shared->Prop} (hl:s.heap.IsList l vs.toArray) (h2:vs.length < 2)
   (h:∀ D c h',s.heap.get? D=none->(∀ b o,s.heap.get? b=some o->h'.get? b=some o)->h'.get? D=some (seqObj "list" vs.toArray c)->Q (.ref D) { s with heap:=h' }) :
   wpAny (model prog w) A (call (.builtin "sorted") [.ref l]) Q E s:=by
 refine Calls.call_function_entry kind_sorted plain_sorted entry_sorted (args_sorted1 _) ?_
 unfold Builtin.«sorted»
 refine wpAny_bind (m:=checkCount "sorted" 1 1 _) (wpAny_pure ?_)
 refine wpAny_bind (collect_list hl ?_ (by rw [sizeLine_eq]; omega))
 refine wpAny_bind (wpAny_newList ?_ (by rw [sizeLine_eq]; omega))
 have hsz:((s.heap.push (seqObj "list" #[] 0)).update s.heap.objs.size (Obj.mapSeq (·++vs.toArray))).objs.size=s.heap.objs.size+1:=by
   rw [Heap.size_update,size_push']
 have hoL:(((s.heap.push (seqObj "list" #[] 0)).update s.heap.objs.size (Obj.mapSeq (·++vs.toArray))).push (seqObj "list" vs.toArray 0)).get? (s.heap.objs.size+1)=some (seqObj "list" vs.toArray 0):=by
   rw [← hsz]; exact Heap.get?_push_size _ rfl
 have keep:∀ b o,s.heap.get? b=some o->(((s.heap.push (seqObj "list" #[] 0)).update s.heap.objs.size (Obj.mapSeq (·++vs.toArray))).push (seqObj "list" vs.toArray 0)).get? b=some o:=fun b o q=>by
   have hlt:b < s.heap.objs.size:=Heap.lt_size q
   rw [Heap.get?_push_ne _ _ _ (by rw [hsz]; exact Nat.ne_of_lt (Nat.lt_succ_of_lt hlt)),Heap.get?_update_ne _ _ _ _ (Nat.ne_of_lt hlt),Heap.get?_push_ne _ _ _ (Nat.ne_of_lt hlt)]
   exact q
 show wpAny _ _ _ _ _ { s with heap:=((s.heap.push (seqObj "list" #[] 0)).update s.heap.objs.size (Obj.mapSeq (·++vs.toArray))).push (seqObj "list" vs.toArray 0) }
 rw [hsz]
 refine wpAny_bind (wpAny_holding (wpAny_call_entry slot_list_sort ⟨_,hoL,rfl⟩ entry_list_sort ?body (args_list_sort _)))
 case body =>
   refine qgl (s:={ s with heap:=((s.heap.push (seqObj "list" #[] 0)).update s.heap.objs.size (Obj.mapSeq (·++vs.toArray))).push (seqObj "list" vs.toArray 0) }) hoL h2 fun c h' k e=>?_
   exact ⟨_,rfl,wpAny_pure ⟨_,rfl,h (s.heap.objs.size+1) c h' (Heap.get?_none_of_le (Nat.le_succ _)) (fun b o q=>k b o (Nat.ne_of_lt (Nat.lt_succ_of_lt (Heap.lt_size q))) (keep b o q)) e⟩⟩
end
inductive qdZ (K:PySem.W.Frag) (xs:List V) (H:Hp) (Q:VK):Prop
 | mk (l:Addr) (zs:List V) (rs:List (List Int)) (k:Nat) (h1:xs=[.ref l]) (h2:SqL K H l zs) (h3:TupI H zs rs) (h4:(∀ r∈rs,r.length=k)) (h5:0 < k) (h6:zs.length < 64) (h7:∀ (p:Addr) (zs':List V) (rs':List (List Int)),H p=none->rs'.Perm rs->TupI H zs' rs'->rs'.Pairwise (fun a b=>jt b a=false)->Q (.ref p) (upd H p (.lst zs'))):qdZ K xs H Q
def qik (K:PySem.W.Frag):List V->Hp->VK->Prop:=fun xs H Q=>qdZ K xs H Q
theorem qe0 {X:Cx} {pins:List (Addr×Obj)} {σ:List (Option V)} {H:Hp} {s:Shared} {h':Heap} (I:Inv X pins σ H s) (kp:∀ b u,b≠X.env.locals->s.heap.get? b=some u->h'.get? b=some u) :
   ∀ {zs:List V} {rs:List (List Int)} {vs:List Value},TupI H zs rs->Vals zs vs->Paired (qiR h') vs rs
 | [],rs,_,h,.nil=>by
   have:rs=[]:=List.eq_nil_of_length_eq_zero h.len.symm
   subst this
   exact .nil
 | z::zs,[],_,h,_=>by have:=h.len; simp at this
 | z::zs,r::rs,_,h,.cons r1 t1=>by
   refine .cons ?_ (qe0 I kp h.tail t1)
   obtain ⟨t,rfl,ht⟩:=h.at_ 0 z r rfl rfl
   obtain ⟨o,us,n,rv,e,c,d⟩:=I.tupI ht
   exact ⟨t,o,us,n,r1,rv,kp t o (fun q=>by rw [q,I.free] at ht; cases ht) e,c,d⟩
theorem qeY {H:Hp} {zs:List V} {rs:List (List Int)} {d:V} {e:List Int} (h:TupI H zs rs) {is:List Nat} (hi:∀ i∈is,i < zs.length):TupI H (is.map fun i=>zs.getD i d) (is.map fun i=>rs.getD i e):=by
 refine ⟨by rw [List.length_map,List.length_map],fun j z r e1 e2=>?_⟩
 rw [List.getElem?_map] at e1 e2
 cases q:is[j]? with
 | none=>rw [q] at e1; cases e1
 | some i =>
   rw [q] at e1 e2
   have lt:=hi i (List.mem_of_getElem? q)
   have lt2:i < rs.length:=by rw [← h.len]; exact lt
   have z1:zs.getD i d=z:=Option.some.inj e1
   have r1:rs.getD i e=r:=Option.some.inj e2
   rw [List.getD_eq_getElem?_getD,List.getElem?_eq_getElem lt] at z1
   rw [List.getD_eq_getElem?_getD,List.getElem?_eq_getElem lt2] at r1
   exact h.at_ i z r (by rw [List.getElem?_eq_getElem lt]; exact congrArg some z1) (by rw [List.getElem?_eq_getElem lt2]; exact congrArg some r1)
section
variable {X:Cx}
theorem qbL:JB X (.builtin "sorted") (qik X.K):=by
 intro pins s σ H xs us Q I r h
 obtain ⟨l,zs,rs,k,rfl,hq,tp,hk,k0,h64,q⟩:=h
 obtain ⟨u,rfl,ru⟩:=qar r
 cases (show u=Value.ref l from ru)
 obtain ⟨its,rv,p,hz⟩:=I.list hq
 have hlen:=rv.length
 by_cases h2:its.length < 2
 · refine qeq p.isList h2 fun D c h' free kp e=>?_
   have I':Inv X pins σ (upd H D (.lst zs)) { s with heap:=h' }:=I.laidL (t':=s.toks) (fun b u _ z=>kp b u z) (fun m ⟨o,es,ep,ho,r⟩=>⟨o,es,ep,kp _ _ ho,r⟩) free ⟨hz,its,c,rv,e⟩
   refine ⟨.ref D,_,I',rfl,q D zs rs (I.unlaid free) (List.Perm.refl _) tp ?_⟩
   have l2:rs.length < 2:=by rw [← tp.len,hlen]; exact h2
   match rs,l2 with
   | [],_=>exact .nil
   | [r],_=>exact List.pairwise_singleton _ _
   | _::_::_,l2=>simp at l2; omega
 · obtain ⟨m,F⟩:=I.fr
   refine PySem.W.kat_sorted F (qeS X.base s.heap X.env.locals) p.isList (by omega) (by omega) fun D e1 h' F' N' hD=>?_
   have kp:=I.kpN F' N'
   have pa:=qe0 I kp tp rv
   obtain ⟨fs,t1,t2,t3⟩:=qdK pa fun r hr=>by rw [hk r hr]; exact k0
   refine PySem.W.kat_kind (T:=.type "int") t1 (by omega) (fun v hv=>?_) rfl ?_
   · obtain ⟨i,t,rfl⟩:=t3 v hv
     exact PySem.W.Looks.of_pure rfl
   refine Srt.RunP.wp (fun i j C hi hj hC=>?_) (fun a ha=>?_) (Srt.sort_ok (n:=its.length) (qfB hk) (by omega))
   · obtain ⟨x,ox,ux,nx,ex,rx,hx,cx,dx⟩:=jH (d:=Value.none) (e:=List.replicate k 0) pa hi
     obtain ⟨y,oy,uy,ny,ey,ry,hy,cy,dy⟩:=jH (d:=Value.none) (e:=List.replicate k 0) pa hj
     unfold PySem.W.kas_ask
     rw [ex,ey]
     refine PySem.W.kat_lt hx dx hy dy ?_
     have lx:=jJ hk i
     have ly:=jJ hk j
     have e1':=rx.length
     have e2':=ry.length
     rw [List.length_map] at e1' e2'
     rw [show decide (ux.toArray.size < uy.toArray.size)=false from decide_eq_false (by rw [List.size_toArray,List.size_toArray]; omega)]
     exact qhe rx ry (by omega) hC
   · obtain ⟨hp,up⟩:=ha
     have pl:a.toList.Perm (List.range its.length):=by
       have:=Array.perm_iff_toList_perm.mp hp
       simpa using this
     have inR:∀ i∈a.toList,i < zs.length:=fun i hi=>by rw [hlen]; exact List.mem_range.mp (pl.mem_iff.mp hi)
     refine PySem.W.KasFin.intro F' N' (.head fun q hq=>Nat.ne_of_lt (hD q hq)) fun h2 c F2 N2=>?_
     have rv2:Vals (a.toList.map fun i=>zs.getD i .non) (a.toList.map fun i=>its.getD i Value.none):=qbz rv inR
     obtain ⟨hn,I'⟩:=I.laidN F F2 N2 hD rv2 (by rw [List.length_map,pl.length_eq,List.length_range,← hlen]; exact hz)
     refine ⟨.ref D,_,I',rfl,q D _ (a.toList.map fun i=>rs.getD i (List.replicate k 0)) hn ?_ (qeY tp inR) ?_⟩
     · have:=pl.map fun i=>rs.getD i (List.replicate k 0)
       rw [← hlen,tp.len,qbb] at this
       exact this
     · have sz:a.size=its.length:=by
         have:=pl.length_eq
         rw [Array.length_toList,List.length_range] at this
         exact this
       refine List.pairwise_iff_getElem.mpr fun i j hi hj lt=>?_
       have hj':j < a.size:=by simpa using hj
       have hi':i < a.size:=by omega
       have:=Srt.Up.le (qfB hk) up (x:=i) (j - i) (by omega)
       rw [show i+(j - i)=j by omega] at this
       simp only [List.getElem_map,Array.getElem_toList]
       simp only [ltI,Array.getD_eq_getD_getElem?,Array.getElem?_eq_getElem hj',Array.getElem?_eq_getElem hi',Option.getD_some] at this
       exact this
end
end L2
namespace L2
open PySem PySem.Spec PyProof.Rows
section
variable {X:Cx} {pins:List (Addr×Obj)} {σ:List (Option V)} {H:Hp} {s:Shared} {h':Heap}
end
end L2
namespace L2
open PySem PySem.Spec PyProof.Rows
section
variable {X:Cx} {pins:List (Addr×Obj)} {σ:List (Option V)} {H:Hp} {s:Shared} {pos:Pos}
end
end L2
namespace L2
open PySem PySem.Spec PyProof.Rows
def qjt (i j:Int):Prop:=0 < j∧j < 340282366920938463463374607431768211456
theorem qgs {X:Cx}:OpR X (binaryOp .FloorDiv) (rI qjt fun i j=>.int (i / j)):=opI fun i j _ _ _ _ _ hc q=>by
 have h1:(0:Int) < j:=hc.1
 have h2:j < 340282366920938463463374607431768211456:=hc.2
 have h3:j.natAbs < 2 ^ 128:=by omega
 have h4:j.natAbs.log2 < 128:=(Nat.log2_lt (by omega)).mpr h3
 exact floordiv_int (by omega) (by rw [Int.fdiv_eq_ediv_of_nonneg i (by omega)]; exact q) (.inl (PyProof.noPylong_of_log2 (by omega)))
end L2
namespace L2
open PySem PySem.Spec PyProof.Rows
section
variable {M:Model} {A:Around} {E:Value->Shared->Prop} {s:Shared}
end
section
variable {X:Cx} {e:Expr} {pos:Pos}
end
end L2
namespace L2
open PySem PySem.Spec PyProof.Rows
section
variable {X:Cx}
end
end L2
namespace L2
open PySem PySem.Spec PyProof.Rows
section
variable {M:Model} {A:Around} {E:Value->Shared->Prop} {s:Shared}
end
section
variable {X:Cx}
end
end L2
namespace L2
open PySem PySem.Spec PyProof.Rows
section
variable {X:Cx} {e:Expr} {es:List Expr} {pos:Pos} {te:XTE} {ta:TE}
end
end L2
namespace L2
open PySem PySem.Spec PyProof.Rows
section
variable {prog:Program} {w:World} {A:Around} {E:Value->Shared->Prop} {s:Shared} {K:PySem.W.Frag} {C x dx:Addr} {ox:Obj} {name:Str} {v:Value} {mA:Str->Option Value} {ns:List Str}
end
section
variable {X:Cx} {o e value:Expr} {es:List Expr} {f x:Str} {p apos pos pos' tpos:Pos} {ta tv:TE} {t:TA} {C fa:Addr}
end
section
variable {P:Program} {w:World} {H:Hp} {h:Heap}
end
section
variable {X:Cx}
end
def qi6:Value->Option Addr
 | .ref a=>some a
 | _=>none
theorem qfh (D:Addr):∀ l:List Value,l.contains (.ref D)=(l.map qi6).contains (some D)
 | []=>rfl
 | v::l=>by
   rw [List.map_cons,List.contains_cons,List.contains_cons,qfh D l]
   congr 1
   cases v with
   | ref c =>
     show (Value.ref D == Value.ref c)=(some D == some c)
     by_cases e:D=c
     · subst e; simp
     · rw [beq_eq_false_iff_ne.mpr (fun z=>e (Value.ref.inj z)),beq_eq_false_iff_ne.mpr (fun z=>e (Option.some.inj z))]
   | _=>rfl
def XMro (K:PySem.W.Frag) (C:Addr) (l:List (Option Addr)):Prop:=∃ cd,PySem.W.clsIn K C=some cd∧cd.mro.map qi6=l
def qcf (l:List (Option Addr)) (o:Obj):Bool:=match o.data with
 | .cls cd=>cd.mro.map qi6 == l
 | _=>false
theorem XMro.of {K:PySem.W.Frag} {C:Addr} {o:Obj} {l:List (Option Addr)} (h:K.lookup C=some o) (q:qcf l o=true):XMro K C l:=by
 obtain ⟨oc,od,odt,osl⟩:=o
 unfold qcf at q
 cases odt with
 | cls cd =>
   refine ⟨cd,?_,eq_of_beq q⟩
   unfold PySem.W.clsIn
   rw [h]
 | _=>cases q
def qgS (K:PySem.W.Frag) (D:Addr):Prop:=PySem.W.isClsIn K D=true∧PySem.W.typeIn K (.ref D)=some (.type "type")
theorem qge {K:PySem.W.Frag} {C D:Addr} {l:List (Option Addr)} (m:XMro K C l) (hl:l≠[]) (d:qgS K D):qiS K C (.ref D)=some (l.contains (some D)):=by
 obtain ⟨cd,h1,h2⟩:=m
 refine qhv d.1 d.2 ?_
 show PySem.W.mroIn K C (.ref D)=_
 unfold PySem.W.mroIn
 rw [h1,Option.bind_some,if_neg,qfh,h2]
 intro z
 rw [List.isEmpty_iff] at z
 rw [z] at h2
 exact hl h2.symm
section
variable {X:Cx} {o e e2 value:Expr} {es:List Expr} {f g x:Str} {p apos pos pos' tpos:Pos} {ta tv:TE} {t:TA} {C fa:Addr}
end
end L2
namespace M04
open L2
def Mem (ws:List (Int×Int)) (n:Int):Prop:=∃ w∈ws,w.1≤n∧n≤w.2
def Zt (ws:List (Int×Int)):Prop:=(∀ w∈ws,w.1≤w.2)∧ws.Pairwise fun a b=>a.2+1 < b.1
def qan (acc:List (Int×Int)) (w:Int×Int):List (Int×Int):=match acc.getLast? with
 | some l=>if w.1≤l.2+1 then acc.set (acc.length - 1) (l.1,if w.2 > l.2 then w.2 else l.2) else acc++[w]
 | none=>[w]
theorem qch (xs ys:List (Int×Int)) (n:Int):Mem (xs++ys) n↔Mem xs n∨Mem ys n:=by
 constructor
 · rintro ⟨w,hw,h⟩
   rcases List.mem_append.mp hw with m | m
   · exact .inl ⟨w,m,h⟩
   · exact .inr ⟨w,m,h⟩
 · rintro (⟨w,hw,h⟩ | ⟨w,hw,h⟩)
   · exact ⟨w,List.mem_append.mpr (.inl hw),h⟩
   · exact ⟨w,List.mem_append.mpr (.inr hw),h⟩
theorem qaU (w:Int×Int) (n:Int):Mem [w] n↔w.1≤n∧n≤w.2:=by
 constructor
 · rintro ⟨x,hx,h⟩
   have e:x=w:=by simpa using hx
   rw [← e]
   exact h
 · intro h
   exact ⟨w,by simp,h⟩
theorem mem_cons (w:Int×Int) (ws:List (Int×Int)) (n:Int):Mem (w::ws) n↔(w.1≤n∧n≤w.2)∨Mem ws n:=by
 rw [show w::ws=[w]++ws from rfl,qch,qaU]
theorem qgE {acc:List (Int×Int)} {l:Int×Int} (h:acc.getLast?=some l):∃ init,acc=init++[l] :=
 ⟨acc.dropLast,by
   have ne:acc≠[]:=fun z=>by rw [z] at h; cases h
   have e:acc.getLast ne=l:=by rw [List.getLast?_eq_some_getLast ne] at h; exact Option.some.inj h
   rw [← e]; exact (List.dropLast_concat_getLast ne).symm⟩
theorem qgm (init:List (Int×Int)) (l x:Int×Int):(init++[l]).set ((init++[l]).length - 1) x=init++[x]:=by
 rw [List.length_append,show init.length+[l].length - 1=init.length by simp,List.set_append_right _ _ (Nat.le_refl _),Nat.sub_self]
 rfl
theorem canon_snoc {init:List (Int×Int)} {l:Int×Int}:Zt (init++[l])↔Zt init∧l.1≤l.2∧∀ a∈init,a.2+1 < l.1:=by
 unfold Zt
 constructor
 · rintro ⟨h1,h2⟩
   obtain ⟨p1,_,p3⟩:=List.pairwise_append.mp h2
   exact ⟨⟨fun w m=>h1 w (by simp [m]),p1⟩,h1 l (by simp),fun a m=>p3 a m l (by simp)⟩
 · rintro ⟨⟨h1,h2⟩,h3,h4⟩
   refine ⟨fun w m=>?_,List.pairwise_append.mpr ⟨h2,List.pairwise_singleton _ _,fun a ma b mb=>?_⟩⟩
   · rcases List.mem_append.mp m with m | m
     · exact h1 w m
     · have:w=l:=by simpa using m
       rw [this]; exact h3
   · have:b=l:=by simpa using mb
     rw [this]; exact h4 a ma
theorem qhD {acc:List (Int×Int)} {w:Int×Int} (c:Zt acc) (hw:w.1≤w.2) (hl:∀ l∈acc,l.1≤w.1) :
   Zt (qan acc w)∧(∀ n,Mem (qan acc w) n↔Mem acc n∨(w.1≤n∧n≤w.2))∧∀ l∈qan acc w,l.1≤w.1:=by
 cases e:acc.getLast? with
 | none =>
   have e0:acc=[]:=List.getLast?_eq_none_iff.mp e
   subst e0
   show Zt [w]∧(∀ n,Mem [w] n↔Mem [] n∨_)∧∀ l∈[w],l.1≤w.1
   refine ⟨⟨fun x m=>?_,List.pairwise_singleton _ _⟩,fun n=>?_,fun x m=>?_⟩
   · have:x=w:=by simpa using m
     rw [this]; exact hw
   · rw [qaU]
     exact ⟨.inr,fun h=>h.elim (fun ⟨_,z,_⟩=>nomatch z) id⟩
   · have:x=w:=by simpa using m
     rw [this]; exact Int.le_refl _
 | some l =>
   obtain ⟨init,rfl⟩:=qgE e
   obtain ⟨c1,c2,c3⟩:=canon_snoc.mp c
   have hl1:=hl l (by simp)
   unfold qan
   rw [e]
   dsimp only
   by_cases g:w.1≤l.2+1
   · rw [if_pos g,qgm]
     refine ⟨canon_snoc.mpr ⟨c1,by show l.1≤(if w.2 > l.2 then w.2 else l.2); split<;>omega,c3⟩,fun n=>?_,fun x m=>?_⟩
     · rw [qch,qch,qaU,qaU,or_assoc]
       show _∨(l.1≤n∧n≤(if w.2 > l.2 then w.2 else l.2))↔_
       have:(l.1≤n∧n≤(if w.2 > l.2 then w.2 else l.2))↔((l.1≤n∧n≤l.2)∨(w.1≤n∧n≤w.2)):=by
         split<;>omega
       rw [this]
     · rcases List.mem_append.mp m with m | m
       · exact hl x (by simp [m])
       · have:x=(l.1,if w.2 > l.2 then w.2 else l.2):=by simpa using m
         rw [this]; exact hl1
   · rw [if_neg g]
     refine ⟨canon_snoc.mpr ⟨c,hw,fun a m=>?_⟩,fun n=>by rw [qch _ [w],qaU],fun x m=>?_⟩
     · rcases List.mem_append.mp m with m | m
       · have:=c3 a m; omega
       · have:a=l:=by simpa using m
         rw [this]; omega
     · rcases List.mem_append.mp m with m | m
       · exact hl x m
       · have:x=w:=by simpa using m
         rw [this]; exact Int.le_refl _
theorem qdC:∀ (S acc:List (Int×Int)),Zt acc->(∀ w∈S,w.1≤w.2)->S.Pairwise (fun a b=>a.1≤b.1)->(∀ l∈acc,∀ w∈S,l.1≤w.1)->Zt (S.foldl qan acc)∧∀ n,Mem (S.foldl qan acc) n↔Mem acc n∨Mem S n
 | [],acc,c,_,_,_=>⟨c,fun n=>⟨.inl,fun h=>h.elim id fun ⟨_,z,_⟩=>nomatch z⟩⟩
 | w::S,acc,c,ok,hp,hl=>by
   obtain ⟨p1,p2⟩:=List.pairwise_cons.mp hp
   obtain ⟨s1,s2,s3⟩:=qhD c (ok w (by simp)) fun l m=>hl l m w (by simp)
   obtain ⟨f1,f2⟩:=qdC S (qan acc w) s1 (fun x m=>ok x (by simp [m])) p2 fun l m x mx=>Int.le_trans (s3 l m) (p1 x mx)
   refine ⟨f1,fun n=>?_⟩
   rw [List.foldl_cons,f2,s2,mem_cons,or_assoc]
theorem jL {w:Int×Int} {ws:List (Int×Int)} (c:Zt (w::ws)):Zt ws∧w.1≤w.2∧∀ n,Mem ws n->w.2+1 < n:=by
 obtain ⟨h1,h2⟩:=c
 obtain ⟨p1,p2⟩:=List.pairwise_cons.mp h2
 exact ⟨⟨fun x m=>h1 x (by simp [m]),p2⟩,h1 w (by simp),fun n ⟨x,m,a,b⟩=>by have:=p1 x m; omega⟩
theorem qa6:∀ {xs ys:List (Int×Int)},Zt xs->Zt ys->(∀ n,Mem xs n↔Mem ys n)->xs=ys
 | [],[],_,_,_=>rfl
 | [],y::ys,_,c,h=>by
   obtain ⟨_,k,_⟩:=jL c
   obtain ⟨_,z,_⟩:=(h y.1).mpr ((mem_cons _ _ _).mpr (.inl ⟨Int.le_refl _,k⟩))
   cases z
 | x::xs,[],c,_,h=>by
   obtain ⟨_,k,_⟩:=jL c
   obtain ⟨_,z,_⟩:=(h x.1).mp ((mem_cons _ _ _).mpr (.inl ⟨Int.le_refl _,k⟩))
   cases z
 | x::xs,y::ys,c,d,h=>by
   obtain ⟨c1,c2,c3⟩:=jL c
   obtain ⟨d1,d2,d3⟩:=jL d
   have h':∀ n,((x.1≤n∧n≤x.2)∨Mem xs n)↔((y.1≤n∧n≤y.2)∨Mem ys n):=fun n=>by rw [← mem_cons,← mem_cons]; exact h n
   have a1:y.1≤x.1:=by
     rcases (h' x.1).mp (.inl ⟨Int.le_refl _,c2⟩) with k | k
     · exact k.1
     · have:=d3 _ k; omega
   have a2:x.1≤y.1:=by
     rcases (h' y.1).mpr (.inl ⟨Int.le_refl _,d2⟩) with k | k
     · exact k.1
     · have:=c3 _ k; omega
   have b1:y.2≤x.2:=by
     rcases Int.lt_or_le x.2 y.2 with lt | le
     · rcases (h' (x.2+1)).mpr (.inl ⟨by omega,by omega⟩) with k | k
       · omega
       · have:=c3 _ k; omega
     · exact le
   have b2:x.2≤y.2:=by
     rcases Int.lt_or_le y.2 x.2 with lt | le
     · rcases (h' (y.2+1)).mp (.inl ⟨by omega,by omega⟩) with k | k
       · omega
       · have:=d3 _ k; omega
     · exact le
   have e:x=y:=Prod.ext (by omega) (by omega)
   subst e
   rw [qa6 c1 d1 fun n=>?_]
   constructor
   · intro k
     have:=c3 n k
     rcases (h' n).mp (.inr k) with z | z
     · omega
     · exact z
   · intro k
     have:=d3 n k
     rcases (h' n).mpr (.inr k) with z | z
     · omega
     · exact z
end M04
namespace L2
open PySem PySem.Spec PyProof.Rows
theorem qbN:∀ {xs:List V} {us:List Value},us.length=xs.length->(∀ (i:Nat) (x:V) (u:Value),xs[i]?=some x->us[i]?=some u->RelV x u)->Vals xs us
 | [],[],_,_=>.nil
 | [],_::_,h,_=>by cases h
 | _::_,[],h,_=>by cases h
 | x::xs,u::us,h,r=>.cons (r 0 x u rfl rfl) (qbN (Nat.succ.inj h) fun i y v e1 e2=>r (i+1) y v e1 e2)
theorem qcm {k:Key} {v:Value} (h:qdB k v=true):RelV (kV k) v:=by
 rcases zo h with ⟨i,t,rfl,rfl⟩ | ⟨x,t,rfl,rfl⟩
 · exact ⟨t,rfl⟩
 · exact ⟨t,rfl⟩
theorem qbF:∀ {kvs:List (Key×V)} {vs:List (Key×Value)},KV kvs vs->∀ {i:Nat} {k:Key} {x:Value},vs[i]?=some (k,x)->∃ y,kvs[i]?=some (k,y)∧RelV y x
 | _,_,.nil,i,k,x,e=>by cases e
 | _,_,.cons (a:=a) (b:=b) r t,i,k,x,e=>by
   cases i with
   | zero =>
     cases e
     exact ⟨a.2,by rw [List.getElem?_cons_zero]; obtain ⟨a1,a2⟩:=a; have:=r.1; simp at this; rw [this],r.2⟩
   | succ i=>exact qbF t e
theorem ZL:∀ {kvs:List (Key×V)} {vs:List (Key×Value)},KV kvs vs->vs.length=kvs.length
 | _,_,.nil=>rfl
 | _,_,.cons _ t=>by rw [List.length_cons,List.length_cons,ZL t]
section
variable {X:Cx}
def qg1:List V->Hp->VK->Prop:=fun xs H Q=>∃ a kvs,xs=[V.ref a]∧Rd H a (.dK kvs)∧∀ l,H l=none->Q (.ref l) (upd H l (.lst (kvs.map fun p=>kV p.1)))
theorem qeQ (hc:X.calm=true):JB X (.type "list") qg1:=by
 intro pins s σ H xs us Q I r h
 obtain ⟨a,kvs,rfl,hq,q⟩:=h
 obtain ⟨u,rfl,ru⟩:=qar r
 cases ru
 obtain ⟨hz,hS,vs,rel,o,es,ep,e,x,d,k,p,n⟩:=qal I.hok hq
 have D:s.heap.DictAt (qQ X.prog X.w) a vs ep:=⟨o,es,e,x,d,k,p,n⟩
 refine PySem.W.kdl_call (PySem.W.kdl_dict (knd:=qQ X.prog X.w) (kvs:=vs) (ep:=ep) hS) (I.ok.hd hc) D (by rw [ZL rel]; exact hz) fun h' tk acc' c' kp e' it=>?_
 obtain ⟨al,ag⟩:=it
 have rv:Vals (kvs.map fun p=>kV p.1) acc'.toList:=by
   refine qbN (by rw [Array.length_toList,al,List.length_map,ZL rel]) fun i y v e1 e2=>?_
   obtain ⟨k',x',e3,e4⟩:=ag i v (by rw [← Array.getElem?_toList]; exact e2)
   obtain ⟨y',e5,_⟩:=qbF rel e3
   rw [List.getElem?_map,e5] at e1
   cases e1
   exact qcm e4
 refine ⟨.ref s.heap.objs.size,_,I.laid (t':=tk) kp (Nat.le_refl _) (show ObjOk X.prog X.w _ h' _ (.lst _) from ⟨by rw [List.length_map]; exact hz,acc'.toList,c',rv,?_⟩),rfl,q _ (I.hok.fresh (Nat.le_refl _))⟩
 rw [Array.toArray_toList]; exact e'
theorem qdM:∀ {ss:List Str} {vs:List Value},Vals (ss.map V.str) vs->StrsAre vs ss
 | [],_,.nil=>.nil
 | n::ns,_,.cons r t=>by
   obtain ⟨tk,rfl⟩:=(show ∃ t,_=Value.str n t from r)
   exact .cons n tk (qdM t)
theorem qct:∀ {ss:List Str} {vs:List Value},StrsAre vs ss->Vals (ss.map V.str) vs
 | _,_,.nil=>.nil
 | _,_,.cons n t r=>.cons ⟨t,rfl⟩ (qct r)
def qd0:List V->Hp->VK->Prop:=fun xs H Q=>∃ (a:Addr) (kvs:List (Str×V)),xs=[V.ref a]∧Rd H a (.dK (kvs.map fun p=>(.inr p.1,p.2)))∧kvs.length < 64∧∀ (p:Addr) (ss':List Str),H p=none->ss'.Perm (kvs.map (·.1))->sortedS ss'=true->Q (.ref p) (upd H p (.lst (ss'.map V.str)))
theorem JU (hc:X.calm=true):JB X (.builtin "sorted") qd0:=by
 intro pins s σ H xs us Q I r h
 obtain ⟨a,kvs,rfl,hq,h64,q⟩:=h
 obtain ⟨u,rfl,ru⟩:=qar r
 cases ru
 obtain ⟨hz,hS,vs,rel,o,es,ep,e,x,d,k,p,n⟩:=qal I.hok hq
 have D:s.heap.DictAt (qQ X.prog X.w) a vs ep:=⟨o,es,e,x,d,k,p,n⟩
 have ln:vs.length=kvs.length:=by rw [ZL rel,List.length_map]
 refine Calls.call_function_entry kind_sorted plain_sorted entry_sorted (args_sorted1 _) ?_
 unfold Builtin.«sorted»
 refine wpAny_bind (m:=checkCount "sorted" 1 1 _) (wpAny_pure ?_)
 refine wpAny_bind (PySem.W.kdu_collect (A:=X.A.in1) (PySem.W.kdl_dict (knd:=qQ X.prog X.w) (kvs:=vs) (ep:=ep) hS) (I.ok.hd hc) D (by rw [ln,sizeLine_eq]; omega) fun h' tk acc hk it=>?_)
 obtain ⟨al,ag⟩:=it
 have rv:Vals ((kvs.map (·.1)).map V.str) acc.toList:=by
   refine qbN (by rw [Array.length_toList,al,List.length_map,List.length_map,ln]) fun i y v e1 e2=>?_
   obtain ⟨k',x',e3,e4⟩:=ag i v (by rw [← Array.getElem?_toList]; exact e2)
   obtain ⟨y',e5,_⟩:=qbF rel e3
   rw [List.getElem?_map] at e5
   rw [List.getElem?_map,List.getElem?_map] at e1
   cases z:kvs[i]? with
   | none=>rw [z] at e1; cases e1
   | some w' =>
     rw [z] at e1 e5
     cases e1
     cases e5
     exact qcm (k:=.inr w'.1) e4
 have hA:=qdM rv
 have hl:acc.toList.length < 64:=by rw [Array.length_toList,al,ln]; exact h64
 refine wpAny_bind (wpAny_newList ?_ (by rw [sizeLine_eq]; omega))
 have hoL:(h'.push (seqObj "list" acc.toList.toArray 0)).get? h'.objs.size=some (seqObj "list" acc.toList.toArray 0):=Heap.get?_push_size _ rfl
 refine wpAny_bind (wpAny_holding (wpAny_call_entry slot_list_sort ⟨_,hoL,rfl⟩ entry_list_sort (list_sort_treeK strKind_oneLt hoL hA.keysOf (fun v₁ v₂ rest e=>keyKind_strs (by rw [← e]; exact hA)) hl fun st' a1 a2=>⟨_,rfl,?_⟩) (args_list_sort _)))
 refine wpAny_pure ⟨_,rfl,?_⟩
 obtain ⟨ss',b1,b2,b3⟩:=sorted_out_str hA a1 a2
 obtain ⟨e',he⟩:=sortedHeap_at (out:=(arrOf st').map (·.2)) hoL
 have free:s.heap.get? h'.objs.size=none:=by
   cases z:s.heap.get? h'.objs.size with
   | none=>rfl
   | some o=>exact absurd (Heap.lt_size (hk _ _ z)) (Nat.lt_irrefl _)
 have kp:∀ b u,s.heap.get? b=some u->(sortedHeap (h'.push (seqObj "list" acc.toList.toArray 0)) h'.objs.size acc.toList ((arrOf st').map (·.2))).get? b=some u:=fun b u z=>by
   have z':=hk _ _ z
   have lt:=Heap.lt_size z'
   rw [sortedHeap_old (Nat.ne_of_lt lt) (Nat.lt_of_lt_of_eq (Nat.lt_succ_of_lt lt) (Heap.size_push ..).symm)]
   exact Heap.get?_push_of_some _ z'
 have I':Inv X pins σ (upd H h'.objs.size (.lst (ss'.map V.str))) { s with heap:=_,toks:=tk }:=I.laidL (t':=tk) (fun b u _ z=>kp b u z) (fun m ⟨o,es,ep,ho,r⟩=>⟨o,es,ep,kp _ _ ho,r⟩) free ⟨by rw [List.length_map,b2.length_eq,List.length_map,sizeLine_eq]; omega,_,e',qct b1,(by rw [Array.toArray_toList]; exact he)⟩
 exact ⟨.ref _,_,I',rfl,q _ ss' (I.unlaid free) b2 b3⟩
def qi9 (K:PySem.W.Frag):List V->Hp->VK->Prop:=fun xs H Q=>∃ x C t b,xs=[x,V.ref C]∧qdm K H x t∧PySem.W.kitOne K t (.ref C)=some b∧Q (.bl b) H
theorem qek:JB X (.builtin "isinstance") (qi9 X.K):=by
 intro pins s σ H xs us Q I r h
 obtain ⟨x,C,t,b,rfl,ht,hk,q⟩:=h
 obtain ⟨u,w',rfl,ru,rw'⟩:=qeV r
 cases (show w'=Value.ref C from rw')
 exact qda I ru ht hk fun tk=>⟨.bl _,H,I.tok tk,rfl,q⟩
theorem qaX {K:PySem.W.Frag} {C D:Addr} {l:List (Option Addr)} (m:XMro K C l) (hl:l.head?=some (some C)) (d:qgS K D):PySem.W.kitOne K (.ref C) (.ref D)=some (l.contains (some D)):=by
 have e:=qge m (by intro z; rw [z] at hl; cases hl) d
 unfold PySem.W.kitOne
 split
 · rename_i z
   have z':C=D:=Value.ref.inj (eq_of_beq z)
   subst z'
   congr 1
   cases l with
   | nil=>cases hl
   | cons x r=>rw [List.head?_cons] at hl; cases hl; simp
 · obtain ⟨cd,h1,h2⟩:=m
   unfold PySem.W.kitCls
   have d1:(PySem.W.clsIn K D).isSome=true:=d.1
   simp only [d.2,d1]
   simp only [qiS,d.2,d1] at e
   simpa using e
theorem PE.or {e:Expr} {t u:TE} (h:PE X e t) (h':PE X e u):PE X e (fun σ H Q=>t σ H Q∨u σ H Q):=fun pins s σ H Q I q=>q.elim (h pins s σ H Q I) (h' pins s σ H Q I)
def qj6:R2:=fun x y H Q=>∃ a o,y=.ref a∧qbM H a x o∧Q (.bl o.isSome) H
theorem qhc (hu:X.A.units+1 < cLine):OpR X (compareOp .In) qj6:=by
 intro pins s σ H x y v u Q I rx ry h
 obtain ⟨a,o,rfl,g,q⟩:=h
 cases ry
 exact qke hu I g rx fun s' I'=>⟨.bl _,H,I',rfl,q⟩
def qhJ:R2:=fun x y H Q=>∃ a o,y=.ref a∧qbM H a x o∧Q (.bl (!o.isSome)) H
theorem qaN (hu:X.A.units+1 < cLine):OpR X (compareOp .NotIn) qhJ:=by
 intro pins s σ H x y v u Q I rx ry h
 obtain ⟨a,o,rfl,g,q⟩:=h
 cases ry
 exact qh0 hu I g rx fun s' I'=>⟨.bl _,H,I',rfl,q⟩
def qj2 (t:TS):TS:=fun D σ H=>t D σ H∨∃ a kvs,H a=some (.dK kvs)∧∀ ob,t D σ (upd H a (.frz ob (.dK kvs)))
theorem PS.frz {st:Stmt} {t:TS} (h:PS X st t):PS X st (qj2 t):=by
 intro pins s σ H D I q
 rcases q with q | ⟨a,kvs,e,q⟩
 · exact h pins s σ H D I q
 · obtain ⟨hz,hS,vs,rel,o,es,ep,e1,r⟩:=qal I.hok (.inl e)
   have I':Inv X pins σ (upd H a (.frz o (.dK kvs))) { s with heap:=s.heap,toks:=s.toks }:=I.write (x:=a) (e:=a) (by rw [e]; exact True.intro) (.inl rfl) (fun b u _ z=>z) ⟨_,e1⟩ ⟨e1,hz,hS,vs,rel,o,es,ep,e1,r⟩
   exact h pins s σ _ D I' (q o)
end
def Itd (a:Addr) (ob:Obj) (kvs:List (Key×V)):It :=
 ⟨fun i H=>H a=some (.frz ob (.dK kvs))∧i < kvs.length,fun i H x H'=>H'=H∧∃ k y,kvs[i]?=some (k,y)∧x=kV k,fun i H=>H a=some (.frz ob (.dK kvs))∧kvs.length≤i⟩
theorem qhl {P:Program} {w:World} {H:Hp} {h:Heap} {a:Addr} {ob:Obj} {kvs:List (Key×V)} {es:Array DictEntry} {ep:Nat} (ok:HOk P w H h) (e:H a=some (.frz ob (.dK kvs))) (hd:ob.data=.dict es ep) :
   (a == sysModules)=false∧∃ vs,KV kvs vs∧h.DictAt (qQ P w) a vs ep:=by
 obtain ⟨g,hz,hS,vs,rel,o,es',ep',e1,x,d,r⟩:=(show ObjOk P w H h a (.frz ob (.dK kvs)) from ok a _ e)
 rw [g] at e1
 cases e1
 rw [hd] at d
 cases d
 exact ⟨hS,vs,rel,_,_,g,x,hd,r⟩
theorem qen {P:Program} {w:World} {K:PySem.W.Frag} {tg:Expr} (a it:Addr) (ob:Obj) (kvs:List (Key×V)) {es:Array DictEntry} {ep:Nat} (hd:ob.data=.dict es ep):qht P w K tg (Itd a ob kvs) [it] it (fun i h=>h.IsKeyIter it a i kvs.length ep) where
 mem:=by simp
 obj:=fun i h st b hb=>by
   have e:b=it:=by simpa using hb
   subst e
   obtain ⟨o,e,c,d⟩:=st
   exact ⟨o,e,fun v z=>by rw [d] at z; cases z⟩
 keep:=fun i h h' st k=>by
   obtain ⟨o,e,r⟩:=st
   exact ⟨o,k it (by simp) o e,r⟩
 item:=by
   intro X hP hw hK hc i pins s σ H E I hf st hg
   subst hP hw hK
   obtain ⟨e,hi⟩:=hg
   obtain ⟨hS,vs,rel,D⟩:=qhl I.hok e hd
   obtain ⟨f0,f1,f2,f3,f4,f5⟩:=hf it (by simp)
   have ln:=ZL rel
   obtain ⟨⟨k,y⟩,hy⟩:∃ p,vs[i]?=some p:=⟨vs[i]'(by omega),by rw [List.getElem?_eq_getElem]⟩
   obtain ⟨y',hy',_⟩:=qbF rel hy
   rw [← ln] at st
   refine wpAny_pyNext_dict_item st D hy fun key h' hkey st' sb=>?_
   have I1:Inv X pins σ H { s with heap:=h' }:=I.turned (t':=s.toks) (fun b o hb e=>(sb.2 b hb).trans e) f0 f1 f3 f4 f5
   obtain ⟨o,e',c,d⟩:=id st'
   rw [ln] at st'
   exact ⟨key,rfl,qgK (s:={ s with heap:=h' }) e' c d (by decide) ⟨kV k,H,I1,qcm hkey,⟨rfl,k,y',hy',rfl⟩,st',fun b hb=>(hf b hb).1⟩⟩
 done:=by
   intro X hP hw hK hc i pins s σ H E I hf st hg
   subst hP hw hK
   obtain ⟨e,hi⟩:=hg
   obtain ⟨hS,vs,rel,D⟩:=qhl I.hok e hd
   obtain ⟨f0,f1,f2,f3,f4,f5⟩:=hf it (by simp)
   have ln:=ZL rel
   rw [← ln] at st
   exact wpAny_pyNext_dict_end (I.ok.hd hc) st D (List.getElem?_eq_none (by omega)) fun h' eb=>⟨rfl,I.turned (t':=s.toks) (fun b o hb e=>eb b o hb e) f0 f1 f3 f4 f5⟩
 self:=fun _ _ _ _ _ st h=>wpAny_pyIter_keyiter st h
section
variable {X:Cx} {tg:Expr}
def qjj (tl:TE):TI:=fun σ H R=>tl σ H fun x H1=>∃ a ob kvs,x=.ref a∧H1 a=some (.frz ob (.dK kvs))∧R (Itd a ob kvs) H1
theorem qhN {l:Expr} {tl:TE} (hl:PE X l tl):PI X tg l (qjj tl):=by
 intro pins s σ H R I h
 refine thn (hl pins s σ H _ I h) fun v s1 zz_=>?_
 obtain ⟨x,H1,I1,r1,q1⟩:=zz_
 obtain ⟨a,ob,kvs,e,hq,q⟩:=q1
 subst e
 cases r1
 obtain ⟨g,hz,hS,vs,rel,o,es,ep,e1,x,d,r⟩:=(show ObjOk X.prog X.w H1 s1.heap a (.frz ob (.dK kvs)) from I1.hok a _ hq)
 rw [g] at e1
 cases e1
 have D:s1.heap.DictAt (qQ X.prog X.w) a vs ep:=⟨_,_,g,x,d,r⟩
 refine wpAny_pyIter_dict hS D ?_
 refine ⟨s1.heap.objs.size,[s1.heap.objs.size],_,_,H1,rfl,I1.kept (t':=s1.toks) fun b o e=>Heap.get?_push_of_some _ e,qen a _ ob kvs d,(by rw [← ZL rel]; exact ⟨_,Heap.get?_push_size _ rfl,rfl,rfl⟩),fun b hb=>?_,q⟩
 have e:b=s1.heap.objs.size:=by simpa using hb
 subst e
 exact I1.fpOk (Nat.le_refl _) (I1.hok.fresh (Nat.le_refl _))
theorem qgN {a:Addr} {ob:Obj} {kvs:List (Key×V)} {g:TG} {tb:TS} {D:qgd} {σ:St} {H:Hp} (Pv:Nat->St->Hp->Prop) (h0:Pv 0 σ H) (hl:∀ i σ H,i≤kvs.length->Pv i σ H->H a=some (.frz ob (.dK kvs)))
   (hs:∀ i k y σ H,kvs[i]?=some (k,y)->Pv i σ H->g (kV k) σ H fun σ2 H2=>tb { D with nx:=Pv (i+1),ct:=Pv (i+1),bk:=D.nx } σ2 H2) (hd:∀ σ H,Pv kvs.length σ H->D.nx σ H) :
   ∃ W:Nat->Nat->St->Hp->Prop,(∃ m,W 0 m σ H)∧∀ i m σ H,W i m σ H ->
     ((Itd a ob kvs).stop i H∧D.nx σ H)∨((Itd a ob kvs).go i H∧∃ N:St->Hp->Prop,(∀ σ' H',N σ' H'->∃ m',m' < m∧W (i+1) m' σ' H')∧∀ x H',(Itd a ob kvs).yld i H x H'->g x σ H' fun σ2 H2=>tb { D with nx:=N,ct:=N,bk:=D.nx } σ2 H2):=by
 refine ⟨fun i m σ H=>m=kvs.length - i∧i≤kvs.length∧Pv i σ H,⟨kvs.length,by simp,Nat.zero_le _,h0⟩,?_⟩
 rintro i m σ H ⟨rfl,hi,p⟩
 have q:=hl i σ H hi p
 by_cases hlt:i < kvs.length
 · refine .inr ⟨⟨q,hlt⟩,Pv (i+1),fun σ' H' p'=>⟨kvs.length - (i+1),by omega,rfl,hlt,p'⟩,fun x H' y=>?_⟩
   obtain ⟨e,k,y,hk,ex⟩:=y
   subst e
   subst ex
   exact hs i k y σ _ hk p
 · have e:i=kvs.length:=by omega
   subst e
   exact .inl ⟨⟨q,Nat.le_refl _⟩,hd σ H p⟩
structure InsF (K:PySem.W.Frag) (C:Addr):Prop where
 cl:Cls K C
 ha:PySem.W.findIn K (.ref C) "__class__"=some (some (.builtin "object.__class__"))
 hn:PySem.W.specialIn K (.builtin "object.__class__") "__get__"=some (some (.builtin "getset_descriptor.__get__"))
 htk:PySem.W.takesIn K (.builtin "object.__class__")=some true
 hm:PySem.W.mroIn K C (.type "object")=some true
theorem InsF.ty {K:PySem.W.Frag} {H:Hp} {a C dx:Addr} {fs:List (Str×V)} (i:InsF K C) (e:H a=some (.ins C dx fs)):qdm K H (.ref a) (.ref C):=.ins e i.cl i.ha i.hn i.htk i.hm
end
end L2
namespace L2
open PySem PySem.Spec PyProof.Rows
section
variable {prog:Program} {w:World} {A:Around} {E:Value->Shared->Prop} {s:Shared}
end
section
variable {prog:Program} {w:World} {A:Around} {R:Result->Shared->Prop} {I:Addr} {fp wr:List Addr} {n:Nat} {P:Nat->Value->Prop} {St:Nat->Heap->Prop}
end
section
variable {prog:Program} {w:World} {A:Around} {E:Value->Shared->Prop} {s:Shared}
end
section
variable {X:Cx} {pins:List (Addr×Obj)} {σ:St} {H:Hp} {s:Shared}
end
end L2
namespace L2
open PySem PySem.Spec PyProof.Rows
section
variable {prog:Program} {w:World} {A:Around} {E:Value->Shared->Prop} {s:Shared} {K:PySem.W.Frag} {C x:Addr} {ox:Obj} {od:Option Obj}
end
section
variable {X:Cx}
end
end L2
namespace L2
open PySem PySem.Spec PyProof.Rows
theorem qcQ:∀ (r:List Str) (x:Str),risingS x r=true->(x::r).Pairwise fun a b=>a.cps.toList≤b.cps.toList
 | [],x,_=>List.pairwise_singleton _ _
 | y::r,x,h=>by
   have h':ltCps y.cps.toList x.cps.toList=false∧risingS y r=true:=by simpa [risingS] using h
   have hxy:x.cps.toList≤y.cps.toList:=fun z=>by
     have:=h'.1
     rw [ltCps_eq] at this
     exact (of_decide_eq_false this) z
   have ih:=qcQ r y h'.2
   refine List.pairwise_cons.mpr ⟨fun z m=>?_,ih⟩
   rcases List.mem_cons.mp m with rfl | m
   · exact hxy
   · exact List.le_trans hxy ((List.pairwise_cons.mp ih).1 z m)
theorem qbs {l:List Str} (h:sortedS l=true):l.Pairwise fun a b=>a.cps.toList≤b.cps.toList:=by
 cases l with
 | nil=>exact List.Pairwise.nil
 | cons x r=>exact qcQ r x h
theorem j8 {l l':List Str} (p:l.Perm l') (h:sortedS l=true) (h':sortedS l'=true):l=l' :=
 List.Perm.eq_of_pairwise (fun a b _ _ h1 h2=>qhC (List.le_antisymm h1 h2)) (qbs h) (qbs h') p
theorem qa3 {H:Hp}:∀ (ns:List Str),DVs H (ns.map V.str) (ns.map PyData.str)
 | []=>.nil
 | n::r=>.cons (.str n) (qa3 r)
theorem qci:∀ (ns:List Str),(∀ x∈ns,PyData.strOk x=true)->PyData.canLayAll0 (ns.map PyData.str)=true∧PyData.depthAll (ns.map PyData.str)≤1
 | [],_=>⟨rfl,by simp [PyData.depthAll]⟩
 | n::r,h=>by
   obtain ⟨h1,h2⟩:=qci r fun x m=>h x (List.mem_cons_of_mem _ m)
   refine ⟨by simp [PyData.canLayAll0,PyData.canLay0,h1,h n List.mem_cons_self],?_⟩
   simp only [List.map_cons,PyData.depthAll,PyData.depth]; omega
end L2
namespace L2
open PySem PySem.Spec PyProof.Rows
theorem qbD:∀ {as:List Addr} {kvs:List (Key×V)} {j:Nat} {b:Addr} {q:Key×V},as.Nodup->as[j]?=some b->kvs[j]?=some q->(as.zip kvs).lookup b=some q
 | [],_,_,_,_,_,h,_=>by cases h
 | _::_,[],_,_,_,_,_,h=>by cases h
 | a::as,k::kvs,0,b,q,nd,h1,h2=>by
   cases h1; cases h2
   rw [List.zip_cons_cons,List.lookup_cons]; simp
 | a::as,k::kvs,j+1,b,q,nd,h1,h2=>by
   rw [List.nodup_cons] at nd
   have h1':as[j]?=some b:=h1
   have n:¬ b=a:=fun e=>nd.1 (e▸List.mem_of_getElem? h1')
   rw [List.zip_cons_cons,List.lookup_cons,show (b == a)=false by simpa using n]
   exact qbD nd.2 h1' h2
theorem Jw:∀ {as:List Addr} {kvs:List (Key×V)} {b:Addr} {q:Key×V},(as.zip kvs).lookup b=some q->∃ j:Nat,as[j]?=some b∧kvs[j]?=some q
 | [],_,_,_,h=>by cases h
 | _::_,[],_,_,h=>by cases h
 | a::as,k::kvs,b,q,h=>by
   rw [List.zip_cons_cons,List.lookup_cons] at h
   by_cases e:b=a
   · rw [show (b == a)=true by simpa using e] at h
     cases h
     exact ⟨0,by rw [e]; rfl,rfl⟩
   · rw [show (b == a)=false by simpa using e] at h
     obtain ⟨j,h1,h2⟩:=Jw h
     exact ⟨j+1,h1,h2⟩
theorem qdY:∀ as:List Addr,Vals (as.map V.ref) (as.map Value.ref)
 | []=>.nil
 | a::r=>.cons rfl (qdY r)
section
variable {X:Cx} {o:Expr} {to:TE} {p apos cpos pos:Pos}
theorem qef {pins:List (Addr×Obj)} {σ:St} {H:Hp} {s:Shared} {a:Addr} {kvs:List (Key×V)} (I:Inv X pins σ H s) (h:Rd H a (.dK kvs)):s.TypeIs (.ref a) "dict"∧∀ b,Value.ref a=.ref b->∃ ob,s.heap.get? b=some ob∧ob.dict=none:=by
 obtain ⟨h1,h2,_⟩:=qiG I (.inl ⟨kvs,h⟩)
 exact ⟨h1,h2⟩
def qhA (to:TE):TE:=fun σ H Q=>to σ H fun x H1=>∃ a kvs,x=.ref a∧Rd H1 a (.dK kvs)∧∀ (l:Addr) (zs:List V) (H':Hp),H1 l=none->Same H1 H'->H' l=some (.lst zs)->TupL (fun q:Key×V=>[kV q.1,q.2]) H' zs kvs->Q (.ref l) H'
def qgj (to:TE):TE:=fun σ H Q=>to σ H fun x H1=>∃ a kvs,x=.ref a∧Rd H1 a (.dK kvs)∧∀ l,H1 l=none->Q (.ref l) (upd H1 l (.lst (kvs.map (·.2))))
theorem qew (hc:X.calm=true) (hgl:Gl X "list") (hml:X.mg "list"=none) (ho:PE X o to)
   (hbase:attributeBase o "values" X.env (eval o X.env)=eval o X.env:=by rfl) (hline:(apos.endLine == cpos.line)=true:=by rfl) :
   PE X (.Call (.Name "list" p) [.Call (.Attribute o "values" apos) [] [] cpos] [] pos) (qgj to):=by
 intro pins s σ H Q I h
 refine wpAny_Call_Name_kw (qae I hgl hml zw ?_)
 refine PyProof.Rows.callWith_type1 ?_ (by rfl) (by rfl)
 show wpAny _ _ (spliced ((false,eval (.Call (.Attribute o "values" apos) [] [] cpos) X.env)::backTo pos (starEach [] X.env))) _ _ s
 refine Calls.spliced_cons ?_
 refine wpAny_Call_method0_late hbase hline (thn (ho pins s σ H _ I h) fun v s1 zz_=>?_)
 obtain ⟨x,H1,I1,r1,a,kvs,ex,rd,q⟩:=zz_
 subst ex
 cases (show v=Value.ref a from r1)
 obtain ⟨h1,h2⟩:=qef I1 rd
 obtain ⟨hz,hS,vs,rel,D⟩:=qal I1.hok rd
 refine ⟨"dict","dict.values",PySem.F.plainAttrs_dict,F.slot_dict_values,F.type_dict_values,h1,h2,Calls.callWith_builtin rfl (PySem.evalArgs_none ?_)⟩
 refine call_meetsIn F.slot_dict_values h1 F.entry_dict_values (F.args_dict_values_1 _) (meets_dict_values (qQ X.prog X.w) a hS) ⟨⟨vs,D⟩,?_⟩
 refine Calls.spliced_nil ?_
 obtain ⟨ob,es,ep,e1,e2,e3,e4,e5,e6⟩:=D
 have D1:(s1.heap.push { cls:=.type "dict_values",data:=.fields #[.ref a] }).DictAt (qQ X.prog X.w) a vs ep:=⟨ob,es,Heap.get?_push_of_some _ e1,e2,e3,e4,e5,e6⟩
 have V1:(s1.heap.push { cls:=.type "dict_values",data:=.fields #[.ref a] }).IsValuesView s1.heap.objs.size a:=⟨_,Heap.get?_push_size _ rfl,rfl,rfl⟩
 have I2:Inv X pins σ H1 { s1 with heap:=s1.heap.push { cls:=.type "dict_values",data:=.fields #[.ref a] } }:=I1.kept (t':=s1.toks) fun b o e=>Heap.get?_push_of_some _ e
 refine PySem.W.kdl_call (s:={ s1 with heap:=s1.heap.push { cls:=.type "dict_values",data:=.fields #[.ref a] } }) (PySem.W.kdl_values (knd:=qQ X.prog X.w) (kvs:=vs) (ep:=ep)) (I1.ok.hd hc) ⟨V1,D1⟩ (by rw [ZL rel]; exact hz) fun h' tk acc' c' kp e' it=>?_
 obtain ⟨al,ag⟩:=it
 have rv:Vals (kvs.map (·.2)) acc'.toList:=by
   refine qbN (by rw [Array.length_toList,al,List.length_map,ZL rel]) fun i y v e1 e2=>?_
   obtain ⟨k',e3⟩:=ag i v (by rw [← Array.getElem?_toList]; exact e2)
   obtain ⟨y',e5,r5⟩:=qbF rel e3
   rw [List.getElem?_map,e5] at e1
   cases e1
   exact r5
 refine ⟨.ref (s1.heap.push { cls:=.type "dict_values",data:=.fields #[.ref a] }).objs.size,_,I2.laid (t':=tk) kp (Nat.le_refl _) (show ObjOk X.prog X.w _ h' _ (.lst _) from ⟨by rw [List.length_map]; exact hz,acc'.toList,c',rv,?_⟩),rfl,q _ (I2.hok.fresh (Nat.le_refl _))⟩
 rw [Array.toArray_toList]; exact e'
def lay (L:Addr->Option HO) (H:Hp):Hp:=fun c=>match L c with
 | some o=>some o
 | none=>H c
theorem qcj {L:Addr->Option HO} {H:Hp} {c:Addr} {o:HO} (h:L c=some o):lay L H c=some o:=by unfold lay; rw [h]
theorem qck {L:Addr->Option HO} {H:Hp} {c:Addr} (h:L c=none):lay L H c=H c:=by unfold lay; rw [h]
theorem Inv.laidM {pins:List (Addr×Obj)} {σ:St} {H:Hp} {s:Shared} {h':Heap} {t':Nat} {L:Addr->Option HO} (I:Inv X pins σ H s) (k:∀ b u,s.heap.get? b=some u->h'.get? b=some u) (hp:∀ a o,L a=some o->s.heap.objs.size≤a) (new:∀ a o,L a=some o->ObjOk X.prog X.w (lay L H) h' a o) :
   Inv X pins σ (lay L H) { s with heap:=h',toks:=t' }:=by
 have old:∀ b,b < s.heap.objs.size->lay L H b=H b:=fun b hb=>qck (by
   cases e:L b with
   | none=>rfl
   | some o=>exact absurd (hp b o e) (Nat.not_le_of_lt hb))
 have oldH:∀ b o,H b=some o->lay L H b=some o:=fun b o e=>(old b (I.hok.lt e)).trans e
 refine I.un ⟨fun b u q _ _ _=>k b u q,fun b u q _ _ _=>⟨u.slots,k b u q⟩,fun b u q n _=>(old b (Heap.lt_size q)).trans n,fun b u q _=>⟨u,k b u q⟩,fun b xs q=>oldH b _ q,fun b u xs q=>oldH b _ q,fun b ps q=>⟨#[],by rw [oldH b _ q]; simp⟩⟩ fun b u e=>?_
 cases hL:L b with
 | some o =>
   rw [qcj hL] at e
   cases e
   exact new b _ hL
 | none =>
   rw [qck hL] at e
   exact (I.hok b u e).stay (fun c v _ q=>k c v q) (fun c q=>oldH c _ q) fun c xs q=>oldH c _ q
theorem qcU (hc:X.calm=true) (hgl:Gl X "list") (hml:X.mg "list"=none) (ho:PE X o to)
   (hbase:attributeBase o "items" X.env (eval o X.env)=eval o X.env:=by rfl) (hline:(apos.endLine == cpos.line)=true:=by rfl) :
   PE X (.Call (.Name "list" p) [.Call (.Attribute o "items" apos) [] [] cpos] [] pos) (qhA to):=by
 intro pins s σ H Q I h
 refine wpAny_Call_Name_kw (qae I hgl hml zw ?_)
 refine PyProof.Rows.callWith_type1 ?_ (by rfl) (by rfl)
 show wpAny _ _ (spliced ((false,eval (.Call (.Attribute o "items" apos) [] [] cpos) X.env)::backTo pos (starEach [] X.env))) _ _ s
 refine Calls.spliced_cons ?_
 refine wpAny_Call_method0_late hbase hline (thn (ho pins s σ H _ I h) fun v s1 zz_=>?_)
 obtain ⟨x,H1,I1,r1,a,kvs,ex,rd,q⟩:=zz_
 subst ex
 cases (show v=Value.ref a from r1)
 obtain ⟨h1,h2⟩:=qef I1 rd
 obtain ⟨hz,hS,vs,rel,D⟩:=qal I1.hok rd
 refine ⟨"dict","dict.items",PySem.F.plainAttrs_dict,F.slot_dict_items,F.type_dict_items,h1,h2,Calls.callWith_builtin rfl (PySem.evalArgs_none ?_)⟩
 refine call_meetsIn F.slot_dict_items h1 F.entry_dict_items (F.args_dict_items_1 _) (meets_dict_items (qQ X.prog X.w) a hS) ⟨⟨vs,D⟩,?_⟩
 refine Calls.spliced_nil ?_
 obtain ⟨ob,es,ep,e1,e2,e3,e4,e5,e6⟩:=D
 have I2:Inv X pins σ H1 { s1 with heap:=s1.heap.push { cls:=.type "dict_items",data:=.fields #[.ref a] } }:=I1.kept (t':=s1.toks) fun b o e=>Heap.get?_push_of_some _ e
 have V2:(s1.heap.push { cls:=.type "dict_items",data:=.fields #[.ref a] }).IsItemsView s1.heap.objs.size a:=⟨_,Heap.get?_push_size _ rfl,rfl,rfl⟩
 have D2:(s1.heap.push { cls:=.type "dict_items",data:=.fields #[.ref a] }).DictAt (qQ X.prog X.w) a vs ep:=⟨ob,es,Heap.get?_push_of_some _ e1,e2,e3,e4,e5,e6⟩
 have hsz:(s1.heap.push { cls:=.type "dict_items",data:=.fields #[.ref a] }).objs.size=s1.heap.objs.size+1:=Heap.size_push ..
 have halt:a < s1.heap.objs.size:=Heap.lt_size e1
 generalize s1.heap.push { cls:=.type "dict_items",data:=.fields #[.ref a] }=hp2 at I2 V2 D2 hsz ⊢
 refine callType_codes (s:={ s1 with heap:=hp2 }) (Q₁:=fun obj s₁=>obj=.ref hp2.objs.size∧s₁={ s1 with heap:=hp2.push { cls:=.type "list",data:=.seq #[] } }) F.called_list (F.typeCall_list_1 _) F.entry_list_init
   (code_list_new _ ⟨rfl,rfl⟩) fun obj s₁ h₁=>?_
 obtain ⟨rfl,rfl⟩:=h₁
 have hSS:(hp2.push { cls:=.type "list",data:=.seq #[] }).get? hp2.objs.size=some { cls:=.type "list",data:=.seq #[] }:=Heap.get?_push_size _ rfl
 obtain ⟨o2,v1,v2,v3⟩:=V2
 obtain ⟨ob',es',d1,d2⟩:=D2
 refine ⟨⟨_,hSS,rfl⟩,F.args_list_init_2 _ _,PySem.W.kdx_init (A:=X.A.in1) (s:={ s1 with heap:=hp2.push { cls:=.type "list",data:=.seq #[] } }) (knd:=qQ X.prog X.w) (kvs:=vs) (ep:=ep) (by simpa using I1.ok.hd hc) ⟨o2,Heap.get?_push_of_some _ v1,v2,v3⟩ ⟨ob',es',Heap.get?_push_of_some _ d1,d2⟩ hp2.objs.size (Nat.ne_of_gt (by rw [hsz]; exact Nat.lt_succ_self _)) (Nat.ne_of_lt (by rw [hsz]; exact Nat.lt_succ_of_lt halt)) hSS (fun h' tk acc c as kp eS las G eacc=>⟨rfl,?_⟩) (by rw [ZL rel]; exact hz)⟩
 have kp2:∀ b u,hp2.get? b=some u->h'.get? b=some u:=fun b u e=>kp b u (Nat.ne_of_lt (Heap.lt_size e)) (Heap.get?_push_of_some _ e)
 obtain ⟨rise,above,at_⟩:=G
 have ndas:as.Nodup:=rise.imp fun h=>Nat.ne_of_lt h
 -- the objects that are new
 let L:Addr->Option HO:=fun b=>if b=hp2.objs.size then some (.lst (as.map V.ref)) else (as.zip kvs).lookup b |>.map fun q=>HO.tup [kV q.1,q.2]
 have Lj:∀ (j:Nat) (b:Addr),as[j]?=some b->∃ q,kvs[j]?=some q∧L b=some (.tup [kV q.1,q.2]):=by
   intro j b e
   have hj:j < as.length:=(List.getElem?_eq_some_iff.mp e).1
   obtain ⟨q,hq⟩:∃ q,kvs[j]?=some q:=⟨_,List.getElem?_eq_getElem (by rw [← ZL rel]; omega)⟩
   refine ⟨q,hq,?_⟩
   have nb:b≠hp2.objs.size:=Nat.ne_of_gt (above b (List.mem_of_getElem? e))
   show (if b=hp2.objs.size then _ else _)=_
   rw [if_neg nb]
   have:(as.zip kvs).lookup b=some q:=qbD ndas e hq
   rw [this]; rfl
 have La:∀ b o,L b=some o->b=hp2.objs.size∧o=.lst (as.map V.ref)∨∃ (j:Nat) (q:Key×V),as[j]?=some b∧kvs[j]?=some q∧o=.tup [kV q.1,q.2]:=by
   intro b o e
   by_cases hb:b=hp2.objs.size
   · have:L b=some (.lst (as.map V.ref)):=if_pos hb
     rw [this] at e; cases e
     exact .inl ⟨hb,rfl⟩
   · have:L b=((as.zip kvs).lookup b).map fun q=>HO.tup [kV q.1,q.2]:=if_neg hb
     rw [this] at e
     obtain ⟨q,hq,rfl⟩:=Option.map_eq_some_iff.mp e
     obtain ⟨j,h1,h2⟩:=Jw hq
     exact .inr ⟨j,q,h1,h2,rfl⟩
 have hpL:∀ b o,L b=some o->hp2.objs.size≤b:=by
   intro b o e
   rcases La b o e with ⟨rfl,_⟩ | ⟨j,q,h1,_⟩
   · exact Nat.le_refl _
   · exact Nat.le_of_lt (above b (List.mem_of_getElem? h1))
 have I3:=I2.laidM (t':=tk) (L:=L) kp2 hpL (fun b o e=>?_)
 · refine ⟨.ref hp2.objs.size,_,I3,rfl,q hp2.objs.size (as.map V.ref) _ (I2.hok.fresh (Nat.le_refl _)) (fun b o e=>?_) (qcj (if_pos rfl)) ⟨?_,fun j z p e1 e2=>?_⟩⟩
   · rw [qck]
     · exact e
     · cases hL:L b with
       | none=>rfl
       | some o'=>exact absurd (I2.hok.lt e) (Nat.not_lt_of_le (hpL b o' hL))
   · rw [List.length_map,las,ZL rel]
   · rw [List.getElem?_map] at e1
     obtain ⟨b,hb,rfl⟩:=Option.map_eq_some_iff.mp e1
     obtain ⟨q',hq',e3⟩:=Lj j b hb
     rw [e2] at hq'
     cases hq'
     exact ⟨b,rfl,qcj e3⟩
 · rcases La b o e with ⟨rfl,rfl⟩ | ⟨j,q',h1,h2,rfl⟩
   · refine ⟨by rw [List.length_map,las,ZL rel]; exact hz,acc.toList,c,?_,?_⟩
     · rw [eacc]
       exact qdY as
     · rw [Array.toArray_toList]; exact eS
   · obtain ⟨key,k',x',e1',e2',e3'⟩:=at_ j b h1
     obtain ⟨y',e5,r5⟩:=qbF rel e1'
     rw [h2] at e5
     cases e5
     have hkr:RelV (kV k') key:=qcm e2'
     exact ⟨Nat.le_of_ble_eq_true rfl,[key,x'],.cons hkr (.cons r5 .nil),_,e3',rfl,_,rfl⟩
def qj4:R2:=fun x y H Q=>∃ a b,x=.ref a∧y=.ref b∧H a=some (.dK [])∧H b=some (.dK [])∧Q (.bl false) H
theorem qis (hu:X.A.units+64 < cLine):OpR X (compareOp .NotEq) qj4:=by
 intro pins s σ H x y v u Q I rx ry h
 obtain ⟨a,b,rfl,rfl,ha,hb,q⟩:=h
 cases (show v=Value.ref a from rx)
 cases (show u=Value.ref b from ry)
 obtain ⟨_,hs,vs,kv,d⟩:=(show ObjOk X.prog X.w H s.heap a (.dK []) from I.hok a _ ha)
 obtain ⟨_,hs2,vs2,kv2,d2⟩:=(show ObjOk X.prog X.w H s.heap b (.dK []) from I.hok b _ hb)
 cases kv
 cases kv2
 exact PySem.W.keq_ne (r:=true) hs hs2 d d2 (by omega) (fun _=>.nil) ⟨.bl false,H,I,rfl,q⟩
end
end L2
namespace K35
open PySem L2 PySem.NumText PyProof.Rows KC M04
def top (i:Nat):Stmt:=PySem.Challenge.pw_foldlog_k35_deeds_told_back.main.body.getD i (.Pass ⟨0,0,0,0⟩)
abbrev QA:Stmt:=top 19
theorem qcG:qp ["thing"] ["thing"] (qe QA):=⟨rfl,rfl,rfl,by decide +kernel,rfl,by decide +kernel,by decide +kernel⟩
abbrev Q1:Stmt:=top 20
theorem qdp:qp ["thing","low","high"] ["thing","low","high"] (qe Q1):=⟨rfl,rfl,rfl,by decide +kernel,rfl,by decide +kernel,by decide +kernel⟩
abbrev QB:Stmt:=top 21
theorem qcH:qp ["thing"] ["thing"] (qe QB):=⟨rfl,rfl,rfl,by decide +kernel,rfl,by decide +kernel,by decide +kernel⟩
abbrev Qf:Stmt:=top 22
theorem qbT:qp ["thing"] ["thing"] (qe Qf):=⟨rfl,rfl,rfl,by decide +kernel,rfl,by decide +kernel,by decide +kernel⟩
abbrev Qg:Stmt:=top 23
theorem qbU:qp ["thing"] ["thing"] (qe Qg):=⟨rfl,rfl,rfl,by decide +kernel,rfl,by decide +kernel,by decide +kernel⟩
abbrev ZD:Stmt:=top 24
theorem qes:qp ["thing"] ["thing"] (qe ZD):=⟨rfl,rfl,rfl,by decide +kernel,rfl,by decide +kernel,by decide +kernel⟩
abbrev Qe:Stmt:=top 26
theorem qbS:qp ["thing"] ["thing"] (qe Qe):=⟨rfl,rfl,rfl,by decide +kernel,rfl,by decide +kernel,by decide +kernel⟩
abbrev q9:Stmt:=top 27
theorem sc_check_stretches:qp ["stretches","place","stretch"] ["stretches"] (qe q9):=⟨rfl,rfl,rfl,by decide +kernel,rfl,by decide +kernel,by decide +kernel⟩
abbrev Q0:Stmt:=top 28
theorem sc_spans_of:qp ["stretches","told","low","high"] ["stretches"] (qe Q0):=⟨rfl,rfl,rfl,by decide +kernel,rfl,by decide +kernel,by decide +kernel⟩
abbrev Qi:Stmt:=top 30
theorem qbV:qp ["thing"] ["thing"] (qe Qi):=⟨rfl,rfl,rfl,by decide +kernel,rfl,by decide +kernel,by decide +kernel⟩
abbrev zD:Stmt:=top 31
theorem qaD:qp ["thing"] ["thing"] (qe zD):=⟨rfl,rfl,rfl,by decide +kernel,rfl,by decide +kernel,by decide +kernel⟩
abbrev zq:Stmt:=top 32
theorem qag:qp ["thing"] ["thing"] (qe zq):=⟨rfl,rfl,rfl,by decide +kernel,rfl,by decide +kernel,by decide +kernel⟩
abbrev jA:Stmt:=top 42
theorem qfd:qp ["thing","keyed"] ["thing","keyed"] (qe jA):=⟨rfl,rfl,rfl,by decide +kernel,rfl,by decide +kernel,by decide +kernel⟩
abbrev jz:Stmt:=top 45
theorem qfc:qp ["thing","widest"] ["thing","widest"] (qe jz):=⟨rfl,rfl,rfl,by decide +kernel,rfl,by decide +kernel,by decide +kernel⟩
abbrev Qz:Stmt:=top 46
theorem qcF:qp ["rows","place"] ["rows","place"] (qe Qz):=⟨rfl,rfl,rfl,by decide +kernel,rfl,by decide +kernel,by decide +kernel⟩
abbrev Qh:Stmt:=top 47
theorem sc_check_rows:qp ["rows","most","widest","place","row"] ["rows","most","widest"] (qe Qh):=⟨rfl,rfl,rfl,by decide +kernel,rfl,by decide +kernel,by decide +kernel⟩
abbrev Qy:Stmt:=top 48
theorem qcE:qp ["rows","moment"] ["rows","moment"] (qe Qy):=⟨rfl,rfl,rfl,by decide +kernel,rfl,by decide +kernel,by decide +kernel⟩
abbrev JQ:Stmt:=top 53
theorem qgn:qp ["_law_script","_law_k"] ["_law_script","_law_k"] (qe JQ):=⟨rfl,rfl,rfl,by decide +kernel,rfl,by decide +kernel,by decide +kernel⟩
abbrev qbt:Stmt:=top 54
theorem sc_Lmix:qp ["_law_cell_here","_law_k","_law_number"] ["_law_cell_here","_law_k"] (qe qbt):=⟨rfl,rfl,rfl,by decide +kernel,rfl,by decide +kernel,by decide +kernel⟩
abbrev jF:Stmt:=top 55
theorem qff:qp ["_law_cell_here"] ["_law_cell_here"] (qe jF):=⟨rfl,rfl,rfl,by decide +kernel,rfl,by decide +kernel,by decide +kernel⟩
abbrev JM:Stmt:=top 56
theorem sc_Lpull:qp ["_law_state","_law_many","_law_digit","_law_high","_law_low"] ["_law_state","_law_many"] (qe JM):=⟨rfl,rfl,rfl,by decide +kernel,rfl,by decide +kernel,by decide +kernel⟩
abbrev jE:Stmt:=top 57
theorem sc_Lnames:qp ["_law_state","_law_many","_law_letters","_law_size","_law_at","_law_base","_law_first","_law_step","_law_names_here","_law_k","_law_behind","_law_sign"] ["_law_state","_law_many"] (qe jE):=⟨rfl,rfl,rfl,by decide +kernel,rfl,by decide +kernel,by decide +kernel⟩
abbrev jD:Stmt:=top 58
theorem sc_Lshift:qp ["_law_state","_law_way"] ["_law_state"] (qe jD):=⟨rfl,rfl,rfl,by decide +kernel,rfl,by decide +kernel,by decide +kernel⟩
abbrev JL:Stmt:=top 59
theorem sc_Lrows:qp ["_law_state","_law_unit","_law_rows_here","_law_k"] ["_law_state"] (qe JL):=⟨rfl,rfl,rfl,by decide +kernel,rfl,by decide +kernel,by decide +kernel⟩
abbrev ZE:Stmt:=top 60
theorem sc_Lpieces:qp ["_law_rows_here","_law_ends"] ["_law_rows_here"] (qe ZE):=⟨rfl,rfl,rfl,by decide +kernel,rfl,by decide +kernel,by decide +kernel⟩
abbrev ZG:Stmt:=top 61
theorem sc_Ljoined:qp ["_law_stretches","_law_found","_law_low","_law_high"] ["_law_stretches"] (qe ZG):=⟨rfl,rfl,rfl,by decide +kernel,rfl,by decide +kernel,by decide +kernel⟩
abbrev jC:Stmt:=top 62
theorem qfe:qp ["_law_rows_here","_law_low","_law_high"] ["_law_rows_here","_law_low","_law_high"] (qe jC):=⟨rfl,rfl,rfl,by decide +kernel,rfl,by decide +kernel,by decide +kernel⟩
abbrev Qm:Stmt:=top 63
theorem qbZ:qp ["_law_found","_law_due"] ["_law_found","_law_due"] (qe Qm):=⟨rfl,rfl,rfl,by decide +kernel,rfl,by decide +kernel,by decide +kernel⟩
abbrev JK:Stmt:=top 64
theorem sc_Lsame:qp ["_law_found","_law_due","_law_part"] ["_law_found","_law_due"] (qe JK):=⟨rfl,rfl,rfl,by decide +kernel,rfl,by decide +kernel,by decide +kernel⟩
abbrev JN:Stmt:=top 65
theorem sc_Lnear:qp ["_law_state","_law_rows_here","_law_low","_law_high","_law_shift_here","_law_ends"] ["_law_state","_law_rows_here"] (qe JN):=⟨rfl,rfl,rfl,by decide +kernel,rfl,by decide +kernel,by decide +kernel⟩
abbrev JJ:Stmt:=top 66
theorem sc_Lspec:qp ["_law_state","_law_name","_law_places","_law_tables","_law_word","_law_place","_law_rows_here","_law_low","_law_high"] ["_law_state","_law_name","_law_places","_law_tables"] (qe JJ):=⟨rfl,rfl,rfl,by decide +kernel,rfl,by decide +kernel,by decide +kernel⟩
abbrev JO:Stmt:=top 67
theorem sc_Lmade:qp ["_law_spec_here","_law_word","_law_name","_law_place","_law_low","_law_high"] ["_law_spec_here"] (qe JO):=⟨rfl,rfl,rfl,by decide +kernel,rfl,by decide +kernel,by decide +kernel⟩
abbrev jB:Stmt:=top 68
theorem sc_Lspans:qp ["_law_spec_here","_law_tables","_law_word","_law_name","_law_place","_law_low","_law_high"] ["_law_spec_here","_law_tables"] (qe jB):=⟨rfl,rfl,rfl,by decide +kernel,rfl,by decide +kernel,by decide +kernel⟩
abbrev Q4:Stmt:=top 70
theorem sc_Lminutes:qp ["_law_state","_law_way"] ["_law_state"] (qe Q4):=⟨rfl,rfl,rfl,by decide +kernel,rfl,by decide +kernel,by decide +kernel⟩
abbrev zQ:Stmt:=top 71
theorem sc_Lmany_names:qp ["_law_state","_law_many","_law_letters","_law_word","_law_first","_law_step","_law_found","_law_k","_law_code","_law_ahead"] ["_law_state","_law_many"] (qe zQ):=⟨rfl,rfl,rfl,by decide +kernel,rfl,by decide +kernel,by decide +kernel⟩
abbrev zR:Stmt:=top 72
theorem sc_Lbegun_with:qp ["_law_state","_law_places","_law_kept","_law_place","_law_many","_law_name","_law_low","_law_bonds","_law_k","_law_one","_law_other"] ["_law_state"] (qe zR):=⟨rfl,rfl,rfl,by decide +kernel,rfl,by decide +kernel,by decide +kernel⟩
abbrev JP:Stmt:=top 73
theorem sc_Ldone:qp ["_law_log","_law_kept","_law_place","_law_spec_here","_law_number","_law_later","_law_earlier","_law_minutes_here"] ["_law_log","_law_kept"] (qe JP):=⟨rfl,rfl,rfl,by decide +kernel,rfl,by decide +kernel,by decide +kernel⟩
abbrev ZH:Stmt:=top 74
theorem sc_Lclocks:qp ["_law_log","_law_kept","_law_moment","_law_due","_law_place","_law_reading","_law_found"] ["_law_log","_law_kept","_law_moment"] (qe ZH):=⟨rfl,rfl,rfl,by decide +kernel,rfl,by decide +kernel,by decide +kernel⟩
abbrev JI:Stmt:=top 75
theorem sc_Ltold:qp ["_law_log","_law_kept","_law_names_here","_law_turn","_law_told_here","_law_one","_law_spec_here","_law_entry","_law_found"] ["_law_log","_law_kept"] (qe JI):=⟨rfl,rfl,rfl,by decide +kernel,rfl,by decide +kernel,by decide +kernel⟩
abbrev qev:Stmt:=top 76
theorem sc_law:qp ["_law_script","_law_k","_law_state","_law_kept","_law_logs","_law_j","_law_moments","_law_rows_here","_law_moment"] ["_law_script"] (qe qev):=⟨rfl,rfl,rfl,by decide +kernel,rfl,by decide +kernel,by decide +kernel⟩
abbrev Qo:Stmt:=qM (top 33) 0
theorem qb1:qp ["self","name"] ["self","name"] (qe Qo):=⟨rfl,rfl,rfl,by decide +kernel,rfl,by decide +kernel,by decide +kernel⟩
abbrev Qn:Stmt:=qM (top 33) 1
theorem qb0:qp ["self"] ["self"] (qe Qn):=⟨rfl,rfl,rfl,by decide +kernel,rfl,by decide +kernel,by decide +kernel⟩
abbrev zH:Stmt:=qM (top 33) 2
theorem qaF:qp ["self"] ["self"] (qe zH):=⟨rfl,rfl,rfl,by decide +kernel,rfl,by decide +kernel,by decide +kernel⟩
abbrev zS:Stmt:=qM (top 33) 3
theorem qba:qp ["self","tables"] ["self","tables"] (qe zS):=⟨rfl,rfl,rfl,by decide +kernel,rfl,by decide +kernel,by decide +kernel⟩
abbrev zP:Stmt:=qM (top 34) 0
theorem qa9:qp ["self","name","low","high"] ["self","name","low","high"] (qe zP):=⟨rfl,rfl,rfl,by decide +kernel,rfl,by decide +kernel,by decide +kernel⟩
abbrev zO:Stmt:=qM (top 34) 1
theorem qa8:qp ["self"] ["self"] (qe zO):=⟨rfl,rfl,rfl,by decide +kernel,rfl,by decide +kernel,by decide +kernel⟩
abbrev zE:Stmt:=qM (top 34) 2
theorem qaE:qp ["self","tables"] ["self","tables"] (qe zE):=⟨rfl,rfl,rfl,by decide +kernel,rfl,by decide +kernel,by decide +kernel⟩
abbrev ZJ:Stmt:=qM (top 35) 0
theorem qeu:qp ["self","name","moment"] ["self","name","moment"] (qe ZJ):=⟨rfl,rfl,rfl,by decide +kernel,rfl,by decide +kernel,by decide +kernel⟩
abbrev ZI:Stmt:=qM (top 35) 1
theorem qet:qp ["self"] ["self"] (qe ZI):=⟨rfl,rfl,rfl,by decide +kernel,rfl,by decide +kernel,by decide +kernel⟩
abbrev zJ:Stmt:=qM (top 36) 0
theorem qaH:qp ["self","name","place","low","high"] ["self","name","place","low","high"] (qe zJ):=⟨rfl,rfl,rfl,by decide +kernel,rfl,by decide +kernel,by decide +kernel⟩
abbrev zI:Stmt:=qM (top 36) 1
theorem qaG:qp ["self"] ["self"] (qe zI):=⟨rfl,rfl,rfl,by decide +kernel,rfl,by decide +kernel,by decide +kernel⟩
abbrev zl:Stmt:=qM (top 36) 2
theorem JH:qp ["self"] ["self"] (qe zl):=⟨rfl,rfl,rfl,by decide +kernel,rfl,by decide +kernel,by decide +kernel⟩
abbrev zu:Stmt:=qM (top 36) 3
theorem qai:qp ["self","tables"] ["self","tables"] (qe zu):=⟨rfl,rfl,rfl,by decide +kernel,rfl,by decide +kernel,by decide +kernel⟩
abbrev QD:Stmt:=qM (top 37) 0
theorem qcJ:qp ["self","name","place","reading"] ["self","name","place","reading"] (qe QD):=⟨rfl,rfl,rfl,by decide +kernel,rfl,by decide +kernel,by decide +kernel⟩
abbrev QC:Stmt:=qM (top 37) 1
theorem qcI:qp ["self"] ["self"] (qe QC):=⟨rfl,rfl,rfl,by decide +kernel,rfl,by decide +kernel,by decide +kernel⟩
abbrev Q2:Stmt:=qM (top 43) 0
theorem qdq:qp ["self"] ["self"] (qe Q2):=⟨rfl,rfl,rfl,by decide +kernel,rfl,by decide +kernel,by decide +kernel⟩
abbrev QI:Stmt:=qM (top 43) 1
theorem qcO:qp ["self","place","table"] ["self","place","table"] (qe QI):=⟨rfl,rfl,rfl,by decide +kernel,rfl,by decide +kernel,by decide +kernel⟩
abbrev ZF:Stmt:=qM (top 43) 2
theorem sc_Log_put:qp ["self","entry","place"] ["self","entry"] (qe ZF):=⟨rfl,rfl,rfl,by decide +kernel,rfl,by decide +kernel,by decide +kernel⟩
abbrev Q3:Stmt:=qM (top 43) 3
theorem qdr:qp ["self","later","earlier","minutes"] ["self","later","earlier","minutes"] (qe Q3):=⟨rfl,rfl,rfl,by decide +kernel,rfl,by decide +kernel,by decide +kernel⟩
abbrev za:Stmt:=qM (top 43) 6
theorem Jp:qp ["self","name"] ["self","name"] (qe za):=⟨rfl,rfl,rfl,by decide +kernel,rfl,by decide +kernel,by decide +kernel⟩
abbrev QG:Stmt:=qM (top 43) 8
theorem qcM:qp ["self"] ["self"] (qe QG):=⟨rfl,rfl,rfl,by decide +kernel,rfl,by decide +kernel,by decide +kernel⟩
abbrev QH:Stmt:=qM (top 43) 9
theorem qcN:qp ["self","name"] ["self","name"] (qe QH):=⟨rfl,rfl,rfl,by decide +kernel,rfl,by decide +kernel,by decide +kernel⟩
abbrev QF:Stmt:=qM (top 43) 10
theorem qcL:qp ["self","name"] ["self","name"] (qe QF):=⟨rfl,rfl,rfl,by decide +kernel,rfl,by decide +kernel,by decide +kernel⟩
abbrev QJ:Stmt:=qM (top 43) 11
theorem qcP:qp ["self"] ["self"] (qe QJ):=⟨rfl,rfl,rfl,by decide +kernel,rfl,by decide +kernel,by decide +kernel⟩
abbrev Ql:Stmt:=qM (top 43) 12
theorem qbY:qp ["self"] ["self"] (qe Ql):=⟨rfl,rfl,rfl,by decide +kernel,rfl,by decide +kernel,by decide +kernel⟩
abbrev QE:Stmt:=qM (top 43) 13
theorem qcK:qp ["self","place"] ["self","place"] (qe QE):=⟨rfl,rfl,rfl,by decide +kernel,rfl,by decide +kernel,by decide +kernel⟩
abbrev zG:Stmt:=qM (top 43) 14
theorem sc_Log_readings:qp ["self","moment","told","place"] ["self","moment"] (qe zG):=⟨rfl,rfl,rfl,by decide +kernel,rfl,by decide +kernel,by decide +kernel⟩
abbrev Qk:Stmt:=qM (top 51) 0
theorem qbX:qp ["self","rows"] ["self","rows"] (qe Qk):=⟨rfl,rfl,rfl,by decide +kernel,rfl,by decide +kernel,by decide +kernel⟩
abbrev Qj:Stmt:=qM (top 51) 1
theorem qbW:qp ["self"] ["self"] (qe Qj):=⟨rfl,rfl,rfl,by decide +kernel,rfl,by decide +kernel,by decide +kernel⟩
abbrev zF:Stmt:=qM (top 51) 2
theorem sc_Table_pieces:qp ["self","ends"] ["self"] (qe zF):=⟨rfl,rfl,rfl,by decide +kernel,rfl,by decide +kernel,by decide +kernel⟩
abbrev zh:Stmt:=qM (top 51) 3
theorem JG:qp ["self","moment"] ["self","moment"] (qe zh):=⟨rfl,rfl,rfl,by decide +kernel,rfl,by decide +kernel,by decide +kernel⟩
abbrev zt:Stmt:=qM (top 51) 4
theorem qah:qp ["self","moment"] ["self","moment"] (qe zt):=⟨rfl,rfl,rfl,by decide +kernel,rfl,by decide +kernel,by decide +kernel⟩
abbrev qL:Stmt:=qM (top 51) 6
theorem ZC:qp ["self","low","high"] ["self","low","high"] (qe qL):=⟨rfl,rfl,rfl,by decide +kernel,rfl,by decide +kernel,by decide +kernel⟩
abbrev zN:Stmt:=qM (top 2) 0
set_option genInjectivity false in
structure Ad where
 c_LogError:Addr
 c_NoSpans:Addr
 c_NoTable:Addr
 c_TooMany:Addr
 c_NoMoment:Addr
 c_NoReading:Addr
 c_NoName:Addr
 c_NoPlace:Addr
 c_NoEntry:Addr
 c_Taken:Addr
 c_NoMinutes:Addr
 c_Entry:Addr
 c_Within:Addr
 c_At:Addr
 c_Between:Addr
 c_Read:Addr
 c_Log:Addr
 c_Table:Addr
 f_h:Addr
 fd_h:FuncData
 f_b:Addr
 fd_b:FuncData
 f_c:Addr
 fd_c:FuncData
 f_i:Addr
 fd_i:FuncData
 f_L:Addr
 fd_L:FuncData
 f_o:Addr
 fd_o:FuncData
 f_M:Addr
 fd_M:FuncData
 f_N:Addr
 fd_N:FuncData
 f_p:Addr
 fd_p:FuncData
 f_r:Addr
 fd_r:FuncData
 f_C:Addr
 fd_C:FuncData
 f_D:Addr
 fd_D:FuncData
 f_s:Addr
 fd_s:FuncData
 f_O:Addr
 fd_O:FuncData
 f_P:Addr
 fd_P:FuncData
 f_Q:Addr
 fd_Q:FuncData
 f_R:Addr
 fd_R:FuncData
 f_S:Addr
 fd_S:FuncData
 f_E:Addr
 fd_E:FuncData
 f_T:Addr
 fd_T:FuncData
 f_a:Addr
 fd_a:FuncData
 f_U:Addr
 fd_U:FuncData
 f_F:Addr
 fd_F:FuncData
 f_V:Addr
 fd_V:FuncData
 f_u:Addr
 fd_u:FuncData
 f_v:Addr
 fd_v:FuncData
 f_W:Addr
 fd_W:FuncData
 f_X:Addr
 fd_X:FuncData
 f_n:Addr
 fd_n:FuncData
 f_Y:Addr
 fd_Y:FuncData
 f_Z:Addr
 fd_Z:FuncData
 f_0:Addr
 fd_0:FuncData
 f_G:Addr
 fd_G:FuncData
 f_1:Addr
 fd_1:FuncData
 f_2:Addr
 fd_2:FuncData
 f_H:Addr
 fd_H:FuncData
 f_3:Addr
 fd_3:FuncData
 f_4:Addr
 fd_4:FuncData
 f_5:Addr
 fd_5:FuncData
 f_an:Addr
 fd_an:FuncData
 f_j:Addr
 fd_j:FuncData
 f_6:Addr
 fd_6:FuncData
 f_e:Addr
 fd_e:FuncData
 f_I:Addr
 fd_I:FuncData
 f_w:Addr
 fd_w:FuncData
 f_7:Addr
 fd_7:FuncData
 f_x:Addr
 fd_x:FuncData
 f_8:Addr
 fd_8:FuncData
 f_9:Addr
 fd_9:FuncData
 f_y:Addr
 fd_y:FuncData
 f_aa:Addr
 fd_aa:FuncData
 f_g:Addr
 fd_g:FuncData
 f_z:Addr
 fd_z:FuncData
 f_ab:Addr
 fd_ab:FuncData
 f_ac:Addr
 fd_ac:FuncData
 f_K:Addr
 fd_K:FuncData
 f_ad:Addr
 fd_ad:FuncData
 f_ae:Addr
 fd_ae:FuncData
 f_af:Addr
 fd_af:FuncData
 f_k:Addr
 fd_k:FuncData
 f_A:Addr
 fd_A:FuncData
 f_d:Addr
 fd_d:FuncData
 f_J:Addr
 fd_J:FuncData
 f_B:Addr
 fd_B:FuncData
 f_f:Addr
 fd_f:FuncData
 f_ag:Addr
 fd_ag:FuncData
 f_m:Addr
 fd_m:FuncData
 f_ah:Addr
 fd_ah:FuncData
 f_ai:Addr
 fd_ai:FuncData
 f_aj:Addr
 fd_aj:FuncData
 f_ak:Addr
 fd_ak:FuncData
 f_al:Addr
 fd_al:FuncData
 f_am:Addr
 fd_am:FuncData
 f_ao:Addr
 fd_ao:FuncData
structure DfM (K:PySem.W.Frag) (C:Addr) (x q:Str) (st:Stmt) (ps:List Str) (f:Addr) (fd:FuncData):Prop where
 F:Fun K x q st f fd
 b:Binds K fd ps []
 mt:qgR K C x f
structure Txt (K:PySem.W.Frag) (mg:Str->Option Value) (a:Ad):Prop where
 d_h:Df K mg "is_number" QA ["thing"] a.f_h a.fd_h
 d_b:Df K mg "is_whole" Q1 ["thing","low","high"] a.f_b a.fd_b
 d_c:Df K mg "is_moment" QB ["thing"] a.f_c a.fd_c
 d_i:Df K mg "is_reading" Qf ["thing"] a.f_i a.fd_i
 d_L:Df K mg "is_minutes" Qg ["thing"] a.f_L a.fd_L
 d_o:Df K mg "is_name" ZD ["thing"] a.f_o a.fd_o
 d_M:Df K mg "is_stretch" Qe ["thing"] a.f_M a.fd_M
 d_N:Df K mg "check_stretches" q9 ["stretches"] a.f_N a.fd_N
 d_p:Df K mg "spans_of" Q0 ["stretches"] a.f_p a.fd_p
 d_r:Df K mg "check_name" Qi ["thing"] a.f_r a.fd_r
 d_C:Df K mg "check_moment" zD ["thing"] a.f_C a.fd_C
 d_D:Df K mg "check_reading" zq ["thing"] a.f_D a.fd_D
 d_s:Df K mg "is_key" jA ["thing","keyed"] a.f_s a.fd_s
 d_O:Df K mg "is_row" jz ["thing","widest"] a.f_O a.fd_O
 d_P:Df K mg "may_stand" Qz ["rows","place"] a.f_P a.fd_P
 d_Q:Df K mg "check_rows" Qh ["rows","most","widest"] a.f_Q a.fd_Q
 d_R:Df K mg "number_at" Qy ["rows","moment"] a.f_R a.fd_R
 d_S:Df K mg "_law_cell" JQ ["_law_script","_law_k"] a.f_S a.fd_S
 d_E:Df K mg "_law_mix" qbt ["_law_cell_here","_law_k"] a.f_E a.fd_E
 d_T:Df K mg "_law_begun" jF ["_law_cell_here"] a.f_T a.fd_T
 d_a:Df K mg "_law_pull" JM ["_law_state","_law_many"] a.f_a a.fd_a
 d_U:Df K mg "_law_names" jE ["_law_state","_law_many"] a.f_U a.fd_U
 d_F:Df K mg "_law_shift" jD ["_law_state"] a.f_F a.fd_F
 d_V:Df K mg "_law_rows" JL ["_law_state"] a.f_V a.fd_V
 d_u:Df K mg "_law_pieces" ZE ["_law_rows_here"] a.f_u a.fd_u
 d_v:Df K mg "_law_joined" ZG ["_law_stretches"] a.f_v a.fd_v
 d_W:Df K mg "_law_shown" jC ["_law_rows_here","_law_low","_law_high"] a.f_W a.fd_W
 d_X:Df K mg "_law_is_number" Qm ["_law_found","_law_due"] a.f_X a.fd_X
 d_n:Df K mg "_law_same" JK ["_law_found","_law_due"] a.f_n a.fd_n
 d_Y:Df K mg "_law_near" JN ["_law_state","_law_rows_here"] a.f_Y a.fd_Y
 d_Z:Df K mg "_law_spec" JJ ["_law_state","_law_name","_law_places","_law_tables"] a.f_Z a.fd_Z
 d_0:Df K mg "_law_made" JO ["_law_spec_here"] a.f_0 a.fd_0
 d_G:Df K mg "_law_spans" jB ["_law_spec_here","_law_tables"] a.f_G a.fd_G
 d_1:Df K mg "_law_minutes" Q4 ["_law_state"] a.f_1 a.fd_1
 d_2:Df K mg "_law_many_names" zQ ["_law_state","_law_many"] a.f_2 a.fd_2
 d_H:Df K mg "_law_begun_with" zR ["_law_state"] a.f_H a.fd_H
 d_3:Df K mg "_law_done" JP ["_law_log","_law_kept"] a.f_3 a.fd_3
 d_4:Df K mg "_law_clocks" ZH ["_law_log","_law_kept","_law_moment"] a.f_4 a.fd_4
 d_5:Df K mg "_law_told" JI ["_law_log","_law_kept"] a.f_5 a.fd_5
 d_an:Df K mg "law" qev ["_law_script"] a.f_an a.fd_an
 d_j:DfM K a.c_Entry "__init__" "Entry.__init__" Qo ["self","name"] a.f_j a.fd_j
 d_6:DfM K a.c_Entry "word" "Entry.word" Qn ["self"] a.f_6 a.fd_6
 d_e:DfM K a.c_Entry "places" "Entry.places" zH ["self"] a.f_e a.fd_e
 d_I:DfM K a.c_Entry "spans" "Entry.spans" zS ["self","tables"] a.f_I a.fd_I
 d_w:DfM K a.c_Within "__init__" "Within.__init__" zP ["self","name","low","high"] a.f_w a.fd_w
 d_7:DfM K a.c_Within "word" "Within.word" zO ["self"] a.f_7 a.fd_7
 d_x:DfM K a.c_Within "spans" "Within.spans" zE ["self","tables"] a.f_x a.fd_x
 d_8:DfM K a.c_At "__init__" "At.__init__" ZJ ["self","name","moment"] a.f_8 a.fd_8
 d_9:DfM K a.c_At "word" "At.word" ZI ["self"] a.f_9 a.fd_9
 d_y:DfM K a.c_Between "__init__" "Between.__init__" zJ ["self","name","place","low","high"] a.f_y a.fd_y
 d_aa:DfM K a.c_Between "word" "Between.word" zI ["self"] a.f_aa a.fd_aa
 d_g:DfM K a.c_Between "places" "Between.places" zl ["self"] a.f_g a.fd_g
 d_z:DfM K a.c_Between "spans" "Between.spans" zu ["self","tables"] a.f_z a.fd_z
 d_ab:DfM K a.c_Read "__init__" "Read.__init__" QD ["self","name","place","reading"] a.f_ab a.fd_ab
 d_ac:DfM K a.c_Read "word" "Read.word" QC ["self"] a.f_ac a.fd_ac
 d_K:DfM K a.c_Log "__init__" "Log.__init__" Q2 ["self"] a.f_K a.fd_K
 d_ad:DfM K a.c_Log "clock" "Log.clock" QI ["self","place","table"] a.f_ad a.fd_ad
 d_ae:DfM K a.c_Log "put" "Log.put" ZF ["self","entry"] a.f_ae a.fd_ae
 d_af:DfM K a.c_Log "bind" "Log.bind" Q3 ["self","later","earlier","minutes"] a.f_af a.fd_af
 d_k:DfM K a.c_Log "check_entry" "Log.check_entry" za ["self","name"] a.f_k a.fd_k
 d_A:DfM K a.c_Log "names" "Log.names" QG ["self"] a.f_A a.fd_A
 d_d:DfM K a.c_Log "entry" "Log.entry" QH ["self","name"] a.f_d a.fd_d
 d_J:DfM K a.c_Log "spans" "Log.spans" QF ["self","name"] a.f_J a.fd_J
 d_B:DfM K a.c_Log "bonds" "Log.bonds" QJ ["self"] a.f_B a.fd_B
 d_f:DfM K a.c_Log "places" "Log.places" Ql ["self"] a.f_f a.fd_f
 d_ag:DfM K a.c_Log "table" "Log.table" QE ["self","place"] a.f_ag a.fd_ag
 d_m:DfM K a.c_Log "readings" "Log.readings" zG ["self","moment"] a.f_m a.fd_m
 d_ah:DfM K a.c_Table "__init__" "Table.__init__" Qk ["self","rows"] a.f_ah a.fd_ah
 d_ai:DfM K a.c_Table "rows" "Table.rows" Qj ["self"] a.f_ai a.fd_ai
 d_aj:DfM K a.c_Table "pieces" "Table.pieces" zF ["self"] a.f_aj a.fd_aj
 d_ak:DfM K a.c_Table "shift_at" "Table.shift_at" zh ["self","moment"] a.f_ak a.fd_ak
 d_al:DfM K a.c_Table "reading" "Table.reading" zt ["self","moment"] a.f_al a.fd_al
 d_am:DfM K a.c_Table "moments_between" "Table.moments_between" qL ["self","low","high"] a.f_am a.fd_am
 d_ao:DfM K a.c_LogError "__init__" "LogError.__init__" zN ["self","text"] a.f_ao a.fd_ao
 g_Entry:mg "Entry"=some (.ref a.c_Entry)
 cl_Entry:Cls K a.c_Entry
 M_Entry:Mk K a.c_Entry a.f_j
 n_Entry_name:NoAttr K a.c_Entry "name"
 g_Within:mg "Within"=some (.ref a.c_Within)
 cl_Within:Cls K a.c_Within
 M_Within:Mk K a.c_Within a.f_w
 n_Within_low:NoAttr K a.c_Within "low"
 n_Within_high:NoAttr K a.c_Within "high"
 n_Within_name:NoAttr K a.c_Within "name"
 g_At:mg "At"=some (.ref a.c_At)
 cl_At:Cls K a.c_At
 M_At:Mk K a.c_At a.f_8
 n_At_low:NoAttr K a.c_At "low"
 n_At_high:NoAttr K a.c_At "high"
 n_At_name:NoAttr K a.c_At "name"
 g_Between:mg "Between"=some (.ref a.c_Between)
 cl_Between:Cls K a.c_Between
 M_Between:Mk K a.c_Between a.f_y
 n_Between_place:NoAttr K a.c_Between "place"
 n_Between_low:NoAttr K a.c_Between "low"
 n_Between_high:NoAttr K a.c_Between "high"
 n_Between_name:NoAttr K a.c_Between "name"
 g_Read:mg "Read"=some (.ref a.c_Read)
 cl_Read:Cls K a.c_Read
 M_Read:Mk K a.c_Read a.f_ab
 n_Read_place:NoAttr K a.c_Read "place"
 n_Read_low:NoAttr K a.c_Read "low"
 n_Read_high:NoAttr K a.c_Read "high"
 n_Read_name:NoAttr K a.c_Read "name"
 g_Log:mg "Log"=some (.ref a.c_Log)
 cl_Log:Cls K a.c_Log
 M_Log:Mk K a.c_Log a.f_K
 n_Log_tables:NoAttr K a.c_Log "tables"
 n_Log_entries:NoAttr K a.c_Log "entries"
 n_Log_bound:NoAttr K a.c_Log "bound"
 g_Table:mg "Table"=some (.ref a.c_Table)
 cl_Table:Cls K a.c_Table
 M_Table:Mk K a.c_Table a.f_ah
 n_Table_kept:NoAttr K a.c_Table "kept"
 n_len:mg "len"=none
 n_max:mg "max"=none
 n_min:mg "min"=none
 n_isinstance:mg "isinstance"=none
 n_range:mg "range"=none
 n_enumerate:mg "enumerate"=none
 n_int:mg "int"=none
 n_bool:mg "bool"=none
 n_str:mg "str"=none
 n_list:mg "list"=none
 n_tuple:mg "tuple"=none
 n_dict:mg "dict"=none
 n_sorted:mg "sorted"=none
 n_zip:mg "zip"=none
 n_all:mg "all"=none
 g_LAST:∃ t,mg "LAST"=some (.int 1000000000 t)
 g_WIDEST_READING:∃ t,mg "WIDEST_READING"=some (.int 10000000000 t)
 g_MOST_MINUTES:∃ t,mg "MOST_MINUTES"=some (.int 2000000001 t)
 g_LONGEST_NAME:∃ t,mg "LONGEST_NAME"=some (.int 8 t)
 g_MOST_PLACES:∃ t,mg "MOST_PLACES"=some (.int 6 t)
 g_MOST_ENTRIES:∃ t,mg "MOST_ENTRIES"=some (.int 60 t)
 g_MOST_BONDS:∃ t,mg "MOST_BONDS"=some (.int 100 t)
 g_MOST_ROWS:∃ t,mg "MOST_ROWS"=some (.int 21 t)
 g_WIDEST_SHIFT:∃ t,mg "WIDEST_SHIFT"=some (.int 2880 t)
 n_ValueError:mg "ValueError"=none
 g_LogError:mg "LogError"=some (.ref a.c_LogError)
 g_NoSpans:mg "NoSpans"=some (.ref a.c_NoSpans)
 g_NoTable:mg "NoTable"=some (.ref a.c_NoTable)
 g_TooMany:mg "TooMany"=some (.ref a.c_TooMany)
 g_NoMoment:mg "NoMoment"=some (.ref a.c_NoMoment)
 g_NoReading:mg "NoReading"=some (.ref a.c_NoReading)
 g_NoName:mg "NoName"=some (.ref a.c_NoName)
 g_NoPlace:mg "NoPlace"=some (.ref a.c_NoPlace)
 g_NoEntry:mg "NoEntry"=some (.ref a.c_NoEntry)
 g_Taken:mg "Taken"=some (.ref a.c_Taken)
 g_NoMinutes:mg "NoMinutes"=some (.ref a.c_NoMinutes)
 xl_LogError:xIn K a.c_LogError=true
 ci_LogError:qga K a.c_LogError a.f_ao
 i_Within_places:qgR K a.c_Within "places" a.f_e
 i_At_places:qgR K a.c_At "places" a.f_e
 i_At_spans:qgR K a.c_At "spans" a.f_x
 i_Read_places:qgR K a.c_Read "places" a.f_g
 i_Read_spans:qgR K a.c_Read "spans" a.f_z
 ci_Entry:qga K a.c_Entry a.f_j
 ci_Within:qga K a.c_Within a.f_w
 ci_Between:qga K a.c_Between a.f_y
 mr_Entry:XMro K a.c_Entry [some a.c_Entry,none]
 io_Entry:InsF K a.c_Entry
 mr_Within:XMro K a.c_Within [some a.c_Within,some a.c_Entry,none]
 io_Within:InsF K a.c_Within
 mr_At:XMro K a.c_At [some a.c_At,some a.c_Within,some a.c_Entry,none]
 io_At:InsF K a.c_At
 mr_Between:XMro K a.c_Between [some a.c_Between,some a.c_Entry,none]
 io_Between:InsF K a.c_Between
 mr_Read:XMro K a.c_Read [some a.c_Read,some a.c_Between,some a.c_Entry,none]
 io_Read:InsF K a.c_Read
 mr_Log:XMro K a.c_Log [some a.c_Log,none]
 io_Log:InsF K a.c_Log
 mr_Table:XMro K a.c_Table [some a.c_Table,none]
 io_Table:InsF K a.c_Table
 t_Entry:qgS K a.c_Entry
 t_Within:qgS K a.c_Within
 t_At:qgS K a.c_At
 t_Between:qgS K a.c_Between
 t_Read:qgS K a.c_Read
 t_Log:qgS K a.c_Log
 t_Table:qgS K a.c_Table
 ndc:([a.c_Entry,a.c_Within,a.c_At,a.c_Between,a.c_Read,a.c_Log,a.c_Table]:List Addr).Nodup
theorem qdA {α β:Type} {f:α->β} {xs:List α} {i:Nat} {y:β} (h:(xs.map f)[i]?=some y):∃ x,xs[i]?=some x∧y=f x:=by
 rw [List.getElem?_map] at h
 cases e:xs[i]? with
 | none=>rw [e] at h; cases h
 | some x=>rw [e] at h; exact ⟨x,rfl,(Option.some.inj h).symm⟩
def Asc (rows:List (Int×Int)):Prop:=rows.Pairwise fun a b=>a.1 < b.1
def g2 (p:Int×Int):List Int:=[p.1,p.2]
abbrev pr:Int×Int->List V:=fun p=>(g2 p).map V.int
structure Good (rows:List (Int×Int)):Prop where
 few:rows.length≤21
 fst:∃ n,rows.head?=some (0,n)
 asc:Asc rows
 ok:∀ r∈rows,0≤r.1∧r.1≤1000000000∧-2880≤r.2∧r.2≤2880
structure Pa (rows:List (Int×Int)) (mo:Int):Prop where
 fst:(rows=[]∧mo=0)∨∃ n,rows.head?=some (0,n)
 asc:Asc rows
 top:∀ r∈rows,r.1≤mo
 ok:∀ r∈rows,0≤r.1∧-2880≤r.2∧r.2≤2880
theorem Pa.nil:Pa [] 0:=⟨.inl ⟨rfl,rfl⟩,List.Pairwise.nil,(fun r m=>nomatch m),(fun r m=>nomatch m)⟩
theorem Pa.snoc {rows:List (Int×Int)} {mo m s:Int} (h:Pa rows mo) (h0:rows=[]->m=0) (h1:rows≠[]->mo < m) (m0:0≤m) (s0:-2880≤s) (s1:s≤2880):Pa (rows++[(m,s)]) m:=by
 have lt:∀ r∈rows,r.1 < m:=fun r mr=>by
   have:=h.top r mr
   have:=h1 (fun e=>by rw [e] at mr; cases mr)
   omega
 refine ⟨.inr ?_,List.pairwise_append.mpr ⟨h.asc,List.pairwise_singleton _ _,fun r mr b mb=>?_⟩,fun r mr=>?_,fun r mr=>?_⟩
 · cases rows with
   | nil=>exact ⟨s,by rw [h0 rfl]; rfl⟩
   | cons r rs =>
     rcases h.fst with z | ⟨n,hn⟩
     · cases z.1
     · exact ⟨n,by simpa using hn⟩
 · have e:b=(m,s):=by simpa using mb
   rw [e]; exact lt r mr
 · rcases List.mem_append.mp mr with mr | mr
   · exact Int.le_of_lt (lt r mr)
   · have e:r=(m,s):=by simpa using mr
     rw [e]; exact Int.le_refl _
 · rcases List.mem_append.mp mr with mr | mr
   · exact h.ok r mr
   · have e:r=(m,s):=by simpa using mr
     rw [e]; exact ⟨m0,s0,s1⟩
theorem Pa.good {rows:List (Int×Int)} {mo:Int} (h:Pa rows mo) (hm:mo≤1000000000) (h0:0 < rows.length) (h1:rows.length≤21):Good rows:=by
 refine ⟨h1,?_,h.asc,fun r m=>?_⟩
 · rcases h.fst with z | z
   · rw [z.1] at h0; simp at h0
   · exact z
 · have:=h.ok r m
   have:=h.top r m
   omega
theorem Pa.far {rows:List (Int×Int)} {mo:Int} {l:Int×Int} (h:Pa rows mo) (hm:mo≤1000000000) (h0:1 < rows.length) (h1:rows.length≤21) (el:rows.getLast?=some l):Good (rows.set (rows.length - 1) (1000000000,l.2)):=by
 obtain ⟨ys,rfl⟩:=List.getLast?_eq_some_iff.mp el
 have ey:(ys++[l]).set ((ys++[l]).length - 1) (1000000000,l.2)=ys++[(1000000000,l.2)]:=by
   rw [List.length_append]
   show (ys++[l]).set (ys.length+1 - 1) _=_
   rw [Nat.add_sub_cancel,List.set_append_right _ _ (Nat.le_refl _),Nat.sub_self]
   rfl
 rw [ey]
 have hl:ys.length+1≤21:=by rw [List.length_append] at h1; exact h1
 have pos:0 < ys.length:=by rw [List.length_append] at h0; simp at h0; omega
 have okl:=h.ok l (by simp)
 have lt:∀ r∈ys,r.1 < 1000000000:=fun r mr=>by
   have h2:=(List.pairwise_append.mp h.asc).2.2 r mr l (by simp)
   have h3:=h.top l (by simp)
   have h4:r.1 < l.1:=h2
   omega
 refine ⟨by rw [List.length_append]; exact hl,?_,List.pairwise_append.mpr ⟨(List.pairwise_append.mp h.asc).1,List.pairwise_singleton _ _,fun r mr b mb=>?_⟩,fun r mr=>?_⟩
 · rcases h.fst with z | ⟨n,hn⟩
   · simp at z
   · cases ys with
     | nil=>simp at pos
     | cons r rs=>exact ⟨n,by simpa using hn⟩
 · have e:b=(1000000000,l.2):=by simpa using mb
   rw [e]; exact lt r mr
 · rcases List.mem_append.mp mr with mr | mr
   · have:=h.ok r (List.mem_append_left _ mr)
     have:=lt r mr
     omega
   · have e:r=(1000000000,l.2):=by simpa using mr
     rw [e]
     exact ⟨(by show (0:Int)≤1000000000; decide),(by show (1000000000:Int)≤1000000000; decide),okl.2.1,okl.2.2⟩
theorem Zp {α:Type} {xs:List α} {x:α} (h:xs.getLast?=some x):atI xs (-1)=some x:=by
 have hne:0 < xs.length:=List.length_pos_iff.mpr (fun z=>by rw [z] at h; cases h)
 unfold atI ixN
 rw [if_neg (by decide),if_pos (by omega)]
 show xs[((-1:Int)+(xs.length:Int)).toNat]?=_
 rw [tn_ xs.length,← List.getLast?_eq_getElem?]
 exact h
theorem qaq {n:Nat} (h:0 < n):ixN n (-1)=some (n - 1):=by
 unfold ixN
 rw [if_neg (by decide),if_pos (by omega)]
 rw [tn_ n]
theorem TupL.last {H:Hp} {zs:List V} {ps:List (Int×Int)} {p:Int×Int} (h:TupL pr H zs ps) (e:ps.getLast?=some p):∃ t,zs.getLast?=some (.ref t)∧H t=some (.tup (pr p)):=by
 rw [List.getLast?_eq_getElem?] at e
 obtain ⟨t,h1,h2⟩:=h.at_ e
 exact ⟨t,by rw [List.getLast?_eq_getElem?,h.1]; exact h1,h2⟩
theorem TupL.set {H:Hp} {zs:List V} {ps:List (Int×Int)} {i:Nat} {t:Addr} {p:Int×Int} (h:TupL pr H zs ps) (e:H t=some (.tup (pr p))):TupL pr H (zs.set i (.ref t)) (ps.set i p):=⟨by rw [List.length_set,List.length_set,h.1],fun j z y e1 e2=>by
 rw [List.getElem?_set] at e1 e2
 by_cases hj:i=j
 · rw [if_pos hj] at e1 e2
   split at e1
   · split at e2
     · cases e1; cases e2; exact ⟨t,rfl,e⟩
     · cases e2
   · cases e1
 · rw [if_neg hj] at e1 e2
   exact h.2 j z y e1 e2⟩
inductive qjR (H:Hp) (q:Addr) (rows:List (Int×Int)):Prop
 | mk (zs:_) (h1:H q=some (.lst zs)) (h2:TupL pr H zs rows):qjR H q rows
def Rs (H:Hp) (q:Addr) (rows:List (Int×Int)):Prop:=qjR H q rows
inductive qbq (K:PySem.W.Frag) (vs:List V) (H:Hp) (Q:VK):Prop
 | mk (a:Addr) (ns:List Int) (k:Int) (h1:vs=[.ref a,.int k]) (h2:SqL K H a (ns.map V.int)) (h3:0≤k) (h4:∀ c,Q (.int c) H):qbq K vs H Q
def qdV (K:PySem.W.Frag):Sp:=fun vs H Q _=>qbq K vs H Q
inductive qcA (vs:List V) (H:Hp) (Q:VK):Prop
 | mk (c k:Int) (h1:vs=[.int c,.int k]) (h2:∀ n:Int,0≤n->n < 268435456->Q (.int n) H):qcA vs H Q
def qfa:Sp:=fun vs H Q _=>qcA vs H Q
inductive qaC (vs:List V) (H:Hp) (Q:VK):Prop
 | mk (c:Int) (h1:vs=[.int c]) (h2:∀ (p:Addr) (A B:Int),H p=none->0≤A->Q (.ref p) (upd H p (.lst [.int A,.int B,.int 0]))):qaC vs H Q
def qcB:Sp:=fun vs H Q _=>qaC vs H Q
inductive qbk (vs:List V) (H:Hp) (Q:VK):Prop
 | mk (p:Addr) (many:Int) (h1:vs=[.ref p,.int many]) (h2:PenAt H p) (h3:0 < many) (h4:many < 340282366920938463463374607431768211456) (h5:∀ (d:Int) (H':Hp),0≤d->d < many->But p H H'->PenAt H' p->Q (.int d) H'):qbk vs H Q
def QM:Sp:=fun vs H Q _=>qbk vs H Q
inductive qaw (vs:List V) (H:Hp) (Q:VK):Prop
 | mk (p:Addr) (h1:vs=[.ref p]) (h2:PenAt H p) (h3:∀ (d:Int) (H':Hp),-2880≤d->d≤2880->But p H H'->PenAt H' p->Q (.int d) H'):qaw vs H Q
def qcx:Sp:=fun vs H Q _=>qaw vs H Q
inductive qbj (vs:List V) (H:Hp) (Q:VK):Prop
 | mk (p:Addr) (h1:vs=[.ref p]) (h2:PenAt H p) (h3:∀ (q:Addr) (rows:List (Int×Int)) (H':Hp),H q=none->But p H H'->PenAt H' p->Rs H' q rows->Good rows->Q (.ref q) H'):qbj vs H Q
def qdR:Sp:=fun vs H Q _=>qbj vs H Q
section
variable {P:Program} {w:World} {K:PySem.W.Frag} {mg:Str->Option Value} {base:Heap}
end
theorem But.up {p:Addr} {H:Hp} (o:HO):But p H (upd H p o):=(But.refl p H).put o
section
variable {P:Program} {w:World} {K:PySem.W.Frag} {mg:Str->Option Value} {base:Heap}
theorem qhQ {a:Ad} (T:Txt K mg a):qC P w K mg base CX0 1 a.f_E a.fd_E ["_law_cell_here","_law_k"] qfa:=by
 refine T.d_E.F.ok sc_Lmix (fun vs H Q E h=>?_) (fun cdv A outer s H vs Q E hr h=>?_)
 · obtain ⟨c,k,rfl,kk⟩:=h
   rfl
 · obtain ⟨c,k,rfl,kk⟩:=h
   have hu:=qK hr
   have hU:=hr.units
   refine ⟨_,(qf (qF (i:=2) sc_Lmix.nd rfl (Or.inl rfl) (qw Z1 (qw Zu (qw Zu (pv 0) (qw QP qc (pv 1))) qc) qc))
     (qf (qF (i:=2) sc_Lmix.nd rfl (Or.inl rfl) (qw Z1 (qw QP (qw Z1 (qw QP (pv 2) (pv 2)) qc) qc) qc))
     (qg (qu (qw qdt (qw Z1 (qw QP (pv 2) (qw Zu (pv 2) qc)) qc) qc))))),?_⟩
   try dsimp only [zx,Cx.nox]
   refine ⟨_,rfl,_,rfl,_,_,rfl,rfl,.inl ⟨by decide,by decide⟩,.inl ⟨_,_,rfl,rfl,.inl ⟨_,_,rfl,rfl,_,_,rfl,rfl,(by show (0:Int) < _; decide),?_⟩⟩⟩
   try dsimp only
   generalize hn:(c+7919 * k+12345) % 2147483629=n
   have n0:0≤n:=by omega
   have n1:n < 2147483629:=by omega
   refine ⟨_,rfl,_,rfl,_,_,rfl,rfl,.inl ⟨by omega,by omega⟩,_,_,rfl,rfl,(by show (0:Int) < _; decide),_,_,rfl,rfl,.inr ⟨by decide,by decide⟩,_,_,rfl,rfl,(by show (0:Int) < _; decide),?_⟩
   try dsimp only
   generalize hm:n * n % 2147483587 * 48271 % 2147483549=m
   have m0:0≤m:=by rw [← hm]; exact Int.emod_nonneg _ (by decide)
   have m1:m < 2147483549:=by rw [← hm]; exact Int.emod_lt_of_pos _ (by decide)
   refine ⟨_,rfl,_,rfl,.inl ⟨_,_,rfl,rfl,_,_,rfl,rfl,.inl ⟨by omega,by omega⟩,_,_,rfl,rfl,(by show (0:Int) < _; decide),_,_,rfl,rfl,⟨by decide,by decide⟩,?_⟩⟩
   try dsimp only
   generalize hz:m * (m+31) % 2147483543=z
   have z0:0≤z:=by rw [← hz]; exact Int.emod_nonneg _ (by decide)
   have z1:z < 2147483543:=by rw [← hz]; exact Int.emod_lt_of_pos _ (by decide)
   exact kk _ (by omega) (by omega)
theorem qfw {a:Ad} (T:Txt K mg a):qC P w K mg base CX0 1 a.f_T a.fd_T ["_law_cell_here"] qcB:=by
 refine T.d_T.F.ok qff (fun vs H Q E h=>?_) (fun cdv A outer s H vs Q E hr h=>?_)
 · obtain ⟨c,rfl,kk⟩:=h
   rfl
 · obtain ⟨c,rfl,kk⟩:=h
   have hu:=qK hr
   have hU:=hr.units
   refine ⟨_,(qg (qu (qN (qa (qq (Qw rfl) (by rfl) T.n_max Qx (qa qc (qa (qw zY (pv 0) (qw zL qc qc)) qb))) (qa (qw Z1 (pv 0) qc) (qa qc qb)))))),?_⟩
   try dsimp only [zx,Cx.nox]
   refine ⟨_,rfl,_,_,rfl,rfl,⟨by decide,by decide,by decide⟩,_,_,rfl,rfl,_,_,rfl,?_⟩
   refine ⟨_,rfl,_,_,rfl,rfl,(by show (0:Int) < _; decide),qk (Nat.le_of_ble_eq_true rfl),fun p fp=>?_⟩
   exact kk p _ _ fp (by split<;>omega)
theorem QW {a:Ad} (T:Txt K mg a):qC P w K mg base CX0 2 a.f_a a.fd_a ["_law_state","_law_many"] QM:=by
 have G_E:qC P w K mg base CX0 1 a.f_E a.fd_E ["_law_cell_here","_law_k"] qfa:=qhQ T
 refine T.d_a.F.ok sc_Lpull (fun vs H Q E h=>?_) (fun cdv A outer s H vs Q E hr h=>?_)
 · obtain ⟨p,many,rfl,⟨c,x,y,c0,hp⟩,m0,m1,kk⟩:=h
   rfl
 · obtain ⟨p,many,rfl,⟨c,x,y,c0,hp⟩,m0,m1,kk⟩:=h
   have hu:=qK hr
   have hU:=hr.units
   have h_E:Room (1) _:=hr.mono (by decide)
   refine ⟨_,(qf (qO (qA qfp (qD (r:=rIx K) qr (pv 0) qc (fun _ _=>rfl)) qc (qG _))
       (qf (qF (i:=2) sc_Lpull.nd rfl (Or.inl rfl) (qw Z1 (qD (r:=rIx K) qr (pv 0) qc (fun _ _=>rfl)) (pv 1)))
       (qf (Jq (qw qgs (qD (r:=rIx K) qr (pv 0) qc (fun _ _=>rfl)) (pv 1)) (qbx (pv 0) qc jy))
       (qg (qu (pv 2)))))
       qv)
     (qf (Jq (qw Zu (qD (r:=rIx K) qr (pv 0) qc (fun _ _=>rfl)) qc) (qbx (pv 0) qc jy))
     (qf (qF (i:=3) sc_Lpull.nd rfl (Or.inl rfl) (qj G_E h_E rfl T.d_E.m T.d_E.k T.d_E.b .nil ql (qa (qD (r:=rIx K) qr (pv 0) qc (fun _ _=>rfl)) (qa (qw QP qc (qD (r:=rIx K) qr (pv 0) qc (fun _ _=>rfl))) qb))))
     (qf (qF (i:=4) sc_Lpull.nd rfl (Or.inl rfl) (qj G_E h_E rfl T.d_E.m T.d_E.k T.d_E.b .nil ql (qa (qD (r:=rIx K) qr (pv 0) qc (fun _ _=>rfl)) (qa (qw Zu (qw QP qc (qD (r:=rIx K) qr (pv 0) qc (fun _ _=>rfl))) qc) qb))))
     (qg (qu (qw Z1 (qw Zu (qw QP (pv 3) qc) (pv 4)) (pv 1)))))))),?_⟩
   try dsimp only [zx,Cx.nox]
   refine ⟨_,rfl,.inl ⟨p,_,_,_,rfl,rfl,SqL.of hp,rfl,_,_,rfl,rfl,_,rfl,?_⟩⟩
   refine Zh (fun hL=>?_) (fun hL=>?_)
   · refine ⟨_,rfl,.inl ⟨p,_,_,_,rfl,rfl,SqL.of hp,rfl,_,rfl,_,_,rfl,rfl,m0,?_⟩⟩
     refine ⟨_,rfl,.inl ⟨p,_,_,_,rfl,rfl,SqL.of hp,rfl,_,rfl,_,_,rfl,rfl,⟨m0,m1⟩,_,rfl,p,_,_,0,rfl,rfl,hp,rfl,?_⟩⟩
     refine ⟨_,rfl,?_⟩
     exact kk _ _ (Int.emod_nonneg _ (by omega)) (Int.emod_lt_of_pos _ m0) (But.up _) ⟨_,x,y,Int.ediv_nonneg c0 (by omega),qd⟩
   · refine ⟨_,rfl,.inl ⟨p,_,_,_,rfl,rfl,SqL.of hp,rfl,.inl ⟨_,_,rfl,rfl,_,rfl,p,_,_,2,rfl,rfl,hp,rfl,?_⟩⟩⟩
     have h1:(upd H p (.lst ([.int c,.int x,.int y].set 2 (.int (y+1))))) p=some (.lst [.int c,.int x,.int (y+1)]):=qd
     have B:But p H (upd H p (.lst ([.int c,.int x,.int y].set 2 (.int (y+1))))):=But.up _
     try dsimp only
     generalize upd H p (.lst ([.int c,.int x,.int y].set 2 (.int (y+1))))=G at h1 B ⊢
     refine ⟨_,rfl,.inl ⟨p,_,_,_,rfl,rfl,SqL.of h1,rfl,_,rfl,.inl ⟨p,_,_,_,rfl,rfl,SqL.of h1,rfl,_,_,rfl,rfl,.inl ⟨by decide,by decide⟩,_,_,rfl,fun n n0 n1=>?_⟩⟩⟩
     refine ⟨_,rfl,.inl ⟨p,_,_,_,rfl,rfl,SqL.of h1,rfl,_,rfl,.inl ⟨p,_,_,_,rfl,rfl,SqL.of h1,rfl,_,_,rfl,rfl,.inl ⟨by decide,by decide⟩,.inl ⟨_,_,rfl,rfl,_,_,rfl,fun k k0 k1=>?_⟩⟩⟩⟩
     refine ⟨_,rfl,_,_,rfl,rfl,.inr ⟨by decide,by decide⟩,_,rfl,.inl ⟨_,_,rfl,rfl,_,rfl,_,_,rfl,rfl,m0,?_⟩⟩
     exact kk _ _ (Int.emod_nonneg _ (by omega)) (Int.emod_lt_of_pos _ m0) B ⟨c,x,y+1,c0,h1⟩
theorem qft {a:Ad} (T:Txt K mg a):qC P w K mg base CX0 3 a.f_F a.fd_F ["_law_state"] qcx:=by
 have G_a:qC P w K mg base CX0 2 a.f_a a.fd_a ["_law_state","_law_many"] QM:=QW T
 refine T.d_F.F.ok sc_Lshift (fun vs H Q E h=>?_) (fun cdv A outer s H vs Q E hr h=>?_)
 · obtain ⟨p,rfl,hp,kk⟩:=h
   rfl
 · obtain ⟨p,rfl,hp,kk⟩:=h
   have hu:=qK hr
   have hU:=hr.units
   have h_a:Room (2) _:=hr.mono (by decide)
   refine ⟨_,(qf (qF (i:=1) sc_Lshift.nd rfl (Or.inl rfl) (qj G_a h_a rfl T.d_a.m T.d_a.k T.d_a.b .nil ql (qa (pv 0) (qa qc qb))))
     (qf (qO (qA (uEq hU) (pv 1) qc (qG _))
       (qg (qu (qw QP qc (qw zY (qj G_a h_a rfl T.d_a.m T.d_a.k T.d_a.b .nil ql (qa (pv 0) (qa qc qb))) qc))))
       qv)
     (qf (qO (qA (uEq hU) (pv 1) qc (qG _))
       (qg (qu (qw zY (qj G_a h_a rfl T.d_a.m T.d_a.k T.d_a.b .nil ql (qa (pv 0) (qa qc qb))) qc)))
       qv)
     (qg (qu (qw zY (qj G_a h_a rfl T.d_a.m T.d_a.k T.d_a.b .nil ql (qa (pv 0) (qa qc qb))) qc)))))),?_⟩
   try dsimp only [zx,Cx.nox]
   refine ⟨_,rfl,p,_,rfl,hp,by decide,by decide,fun w G1 w0 w1 B_G1 p_G1=>?_⟩
   refine ⟨_,rfl,.inl ⟨rfl,_,rfl,?_⟩⟩
   refine Zh (fun g=>?_) (fun g=>?_)
   · refine ⟨_,rfl,p,_,rfl,p_G1,by decide,by decide,fun d G2 d0 d1 B_G2 p_G2=>?_⟩
     refine ⟨_,_,rfl,rfl,_,_,rfl,rfl,.inl ⟨by decide,by decide⟩,?_⟩
     exact kk _ _ (by omega) (by omega) (B_G1.trans B_G2) p_G2
   refine ⟨_,rfl,.inl ⟨rfl,_,rfl,?_⟩⟩
   refine Zh (fun g=>?_) (fun g=>?_)
   · refine ⟨_,rfl,p,_,rfl,p_G1,by decide,by decide,fun d G2 d0 d1 B_G2 p_G2=>?_⟩
     refine ⟨_,_,rfl,rfl,?_⟩
     exact kk _ _ (by omega) (by omega) (B_G1.trans B_G2) p_G2
   · refine ⟨_,rfl,p,_,rfl,p_G1,by decide,by decide,fun d G2 d0 d1 B_G2 p_G2=>?_⟩
     refine ⟨_,_,rfl,rfl,?_⟩
     exact kk _ _ (by omega) (by omega) (B_G1.trans B_G2) p_G2
end
end K35
namespace K35
open PySem L2 PySem.NumText PyProof.Rows KC M04
section
variable {P:Program} {w:World} {K:PySem.W.Frag} {mg:Str->Option Value} {base:Heap}
end
theorem TupL.pen {H H':Hp} {p:Addr} {zs:List V} {ps:List (Int×Int)} (h:TupL pr H zs ps) (hp:PenAt H p) (b:But p H H'):TupL pr H' zs ps:=⟨h.1,fun j z y e1 e2=>by
 obtain ⟨t,e,ht⟩:=h.2 j z y e1 e2
 obtain ⟨c,x,y',_,hq⟩:=hp
 exact ⟨t,e,b _ _ ht (qJ ht hq (by intro z; cases z))⟩⟩
section
variable {P:Program} {w:World} {K:PySem.W.Frag} {mg:Str->Option Value} {base:Heap}
theorem qgw {a:Ad} (T:Txt K mg a):qC P w K mg base CX0 4 a.f_V a.fd_V ["_law_state"] qdR:=by
 have G_a:qC P w K mg base CX0 2 a.f_a a.fd_a ["_law_state","_law_many"] QM:=QW T
 have G_F:qC P w K mg base CX0 3 a.f_F a.fd_F ["_law_state"] qcx:=qft T
 refine T.d_V.F.ok sc_Lrows (fun vs H Q E h=>?_) (fun cdv A outer s H vs Q E hr h=>?_)
 · obtain ⟨p,rfl,hp,kk⟩:=h
   rfl
 · obtain ⟨p,rfl,hp,kk⟩:=h
   have hu:=qK hr
   have hU:=hr.units
   have h_a:Room (2) _:=hr.mono (by decide)
   have h_F:Room (3) _:=hr.mono (by decide)
   refine ⟨_,(@qf _ _ _ _ _ (by exact (@qF _ _ 1 _ _ _ _ (by exact sc_Lrows.nd) (by rfl) (by exact (Or.inl rfl)) (by exact (@qD _ _ _ _ _ _ (rIx K) (by exact qr) (by exact (@qN _ _ _ _ (by exact (@qa _ _ _ _ _ (by exact qc) (by exact (@qa _ _ _ _ _ (by exact qc) (by exact (@qa _ _ _ _ _ (by exact qc) (by exact (@qa _ _ _ _ _ (by exact qc) (by exact (@qa _ _ _ _ _ (by exact (qw zL qc qc)) (by exact (@qb _)) (by rfl))) (by rfl))) (by rfl))) (by rfl))) (by rfl))))) (by exact (qj G_a h_a rfl T.d_a.m T.d_a.k T.d_a.b .nil ql (qa (pv 0) (qa qc qb)))) (by exact fun _ _=>rfl))) (by rfl) (by exact .inl rfl)))
     (by exact (@qf _ _ _ _ _ (by exact (qF (i:=2) sc_Lrows.nd rfl (Or.inl rfl) (qN (qa (zC (qa qc (qa (qj G_F h_F rfl T.d_F.m T.d_F.k T.d_F.b .nil ql (qa (pv 0) qb)) qb))) qb))))
     (by exact (@qf _ _ _ _ _ (by exact (@zK _ _ _ _ _ _ _ _ (by exact PassesOwn.never) (by rfl) (by exact (z3 rfl T.n_range (qa (qj G_a h_a rfl T.d_a.m T.d_a.k T.d_a.b .nil ql (qa (pv 0) (qa (qD (r:=rIx K) qr (qN (qa qc (qa qc (qa qc (qa qc qb))))) (qj G_a h_a rfl T.d_a.m T.d_a.k T.d_a.b .nil ql (qa (pv 0) (qa qc qb))) (fun _ _=>rfl)) qb))) qb))) (by exact (qt (i:=3) (sc_Lrows.nd) rfl (Or.inl rfl)))
       (by exact (qg (qU (Ja PySem.F.plainAttrs_list PySem.F.slot_list_append PySem.F.type_list_append zn (pv 2) (qa (zC (qa (qw Zu (qw Zu (qD (r:=rIx K) qr (qD (r:=rIx K) qr (pv 2) (ZQ Qq qc) (fun _ _=>rfl)) qc (fun _ _=>rfl)) qc) (qj G_a h_a rfl T.d_a.m T.d_a.k T.d_a.b .nil ql (qa (pv 0) (qa (qw QP qc (pv 1)) qb)))) (qa (qj G_F h_F rfl T.d_F.m T.d_F.k T.d_F.b .nil ql (qa (pv 0) qb)) qb))) qb))))) (by intro _; rfl)))
     (by exact (qf (qO (PW.pt (qcS (qA qfp (qq zp (by rfl) T.n_len qS (qa (pv 2) qb)) qc (qG _)) (qb2 (qA (uEq hU) (qj G_a h_a rfl T.d_a.m T.d_a.k T.d_a.b .nil ql (qa (pv 0) (qa qc qb))) qc (qG _)))))
       (qg (Jq (zC (qa (qw zL qc qc) (qa (qD (r:=rIx K) qr (qD (r:=rIx K) qr (pv 2) (ZQ Qq qc) (fun _ _=>rfl)) qc (fun _ _=>rfl)) qb))) (qbx (pv 2) (ZQ Qq qc) jy)))
       qv)
     (qg (qu (pv 2)))))))))),?_⟩
   try dsimp only [zx,Cx.nox]
   have p0:PenAt H p:=hp
   have t0:But p H H:=But.refl p H
   refine ⟨_,_,rfl,rfl,⟨by decide,by decide,by decide⟩,(qk (Nat.le_of_ble_eq_true rfl)),fun l1 f_l1=>?_⟩
   have n_l1:l1≠p:=p0.ne f_l1
   have e_l1:(upd H l1 (.lst [.int 1,.int 4,.int 60,.int 1440,.int (10 ^ (7:Int).toNat)])) l1=some (.lst [.int 1,.int 4,.int 60,.int 1440,.int (10 ^ (7:Int).toNat)]):=qd
   have p1:PenAt (upd H l1 (.lst [.int 1,.int 4,.int 60,.int 1440,.int (10 ^ (7:Int).toNat)])) p:=p0.upd n_l1 _
   have u1:Same H (upd H l1 (.lst [.int 1,.int 4,.int 60,.int 1440,.int (10 ^ (7:Int).toNat)])):=Same.new _ f_l1
   have t1:=t0.same u1
   try dsimp only
   generalize upd H l1 (.lst [.int 1,.int 4,.int 60,.int 1440,.int (10 ^ (7:Int).toNat)])=G1 at e_l1 p1 u1 t1 ⊢
   refine ⟨_,rfl,p,_,rfl,p1,by decide,by decide,fun da G2 da0 da1 u2 p2=>?_⟩
   have t2:=t1.trans u2
   obtain ⟨v,hv,mv⟩:=jv (xs:=([.int 1,.int 4,.int 60,.int 1440,.int (10 ^ (7:Int).toNat)]:List V)) da0 da1
   obtain ⟨u,rfl,ub0,ub1⟩:∃ u:Int,v=.int u∧1≤u∧u≤10000000:=by
     simp only [List.mem_cons,List.not_mem_nil,or_false] at mv
     rcases mv with rfl | rfl | rfl | rfl | rfl<;>exact ⟨_,rfl,by decide,by decide⟩
   refine .inl ⟨l1,_,_,_,rfl,rfl,SqL.of (u2 _ _ e_l1 n_l1),hv,?_⟩
   refine ⟨_,rfl,p,rfl,p2,fun sh G3 sh0 sh1 u3 p3=>?_⟩
   have t3:=t2.trans u3
   refine ⟨(qk (Nat.le_of_ble_eq_true rfl)),fun t f_t=>?_⟩
   have n_t:t≠p:=p3.ne f_t
   have e_t:(upd G3 t (.tup [.int 0,.int sh])) t=some (.tup [.int 0,.int sh]):=qd
   have p4:PenAt (upd G3 t (.tup [.int 0,.int sh])) p:=p3.upd n_t _
   have u4:Same G3 (upd G3 t (.tup [.int 0,.int sh])):=Same.new _ f_t
   have t4:=t3.same u4
   try dsimp only
   generalize upd G3 t (.tup [.int 0,.int sh])=G4 at e_t p4 u4 t4 ⊢
   refine ⟨(qk (Nat.le_of_ble_eq_true rfl)),fun q f_q=>?_⟩
   have n_q:q≠p:=p4.ne f_q
   have e_q:(upd G4 q (.lst [.ref t])) q=some (.lst [.ref t]):=qd
   have p5:PenAt (upd G4 q (.lst [.ref t])) p:=p4.upd n_q _
   have u5:Same G4 (upd G4 q (.lst [.ref t])):=Same.new _ f_q
   have t5:=t4.same u5
   try dsimp only
   generalize upd G4 q (.lst [.ref t])=G5 at e_q p5 u5 t5 ⊢
   have fqH:H q=none:=(t4).none f_q n_q
   have T0:TupL pr G5 [.ref t] [(0,sh)]:=by
     refine ⟨rfl,fun j z y e1 e2=>?_⟩
     cases j with
     | zero=>cases e1; cases e2; exact ⟨t,rfl,(u5 _ _ e_t)⟩
     | succ j=>cases e1
   have P0:Pa [(0,sh)] 0:=Pa.nil.snoc (fun _=>rfl) (fun z=>absurd rfl z) (by decide) (by omega) (by omega)
   clear u1 u2 u3 u4 u5 p0 p1 p2 p3 p4 t0 t1 t2 t3 t4 e_l1 e_t hv
   try unfold zm
   try dsimp only
   refine zc (t:=qe7 _ _ _) (fun σ' H'=>∃ (s3:Option V) (zs:List V) (rows:List (Int×Int)) (mo:Int),σ'=[some (.ref p),some (.int u),some (.ref q),s3]∧But p H H'∧PenAt H' p∧H' q=some (.lst zs)∧TupL pr H' zs rows∧0 < rows.length∧rows.length≤21∧Pa rows mo∧mo≤900000000) (fun N hN=>?_) ?_
   have t5':=t5
   · have p0:PenAt G5 p:=p5
     have t0:But p G5 G5:=But.refl p G5
     refine ⟨_,rfl,(qk (Nat.le_of_ble_eq_true rfl)),fun l3 f_l3=>?_⟩
     have n_l3:l3≠p:=p0.ne f_l3
     have e_l3:(upd G5 l3 (.lst [.int 4,.int 4,.int 4,.int 21])) l3=some (.lst [.int 4,.int 4,.int 4,.int 21]):=qd
     have p1:PenAt (upd G5 l3 (.lst [.int 4,.int 4,.int 4,.int 21])) p:=p0.upd n_l3 _
     have u1:Same G5 (upd G5 l3 (.lst [.int 4,.int 4,.int 4,.int 21])):=Same.new _ f_l3
     have t1:=t0.same u1
     try dsimp only
     generalize upd G5 l3 (.lst [.int 4,.int 4,.int 4,.int 21])=G1 at e_l3 p1 u1 t1 ⊢
     refine ⟨_,rfl,p,_,rfl,p1,by decide,by decide,fun db G2 db0 db1 u2 p2=>?_⟩
     have t2:=t1.trans u2
     obtain ⟨v,hv,mv⟩:=jv (xs:=([.int 4,.int 4,.int 4,.int 21]:List V)) db0 db1
     obtain ⟨m,rfl,m0,m1⟩:∃ u:Int,v=.int u∧0 < u∧u≤21:=by
       simp only [List.mem_cons,List.not_mem_nil,or_false] at mv
       rcases mv with rfl | rfl | rfl | rfl<;>exact ⟨_,rfl,by decide,by decide⟩
     refine .inl ⟨l3,_,_,_,rfl,rfl,SqL.of (u2 _ _ e_l3 n_l3),hv,?_⟩
     refine ⟨p,_,rfl,p2,m0,by omega,fun dn G3 dn0 dn1 u3 p3=>?_⟩
     have t3:=t2.trans u3
     have B0:But p H G3:=t5'.trans t3
     have hq0:=(u3 _ _ (u2 _ _ (u1 _ _ e_q) n_q) n_q)
     have T1:=(TupL.pen (TupL.pen (L2.TupL.same T0 u1) p1 u2) p2 u3)
     refine ⟨_,rfl,by omega,by omega,QQ (lo:=0) (D:={ nx:=N,rt:=Q }) (fun i σ H2=>∃ (s3:Option V) (zs:List V) (rows:List (Int×Int)) (mo:Int),σ=[some (.ref p),some (.int u),some (.ref q),s3]∧But p H H2∧PenAt H2 p∧H2 q=some (.lst zs)∧TupL pr H2 zs rows∧rows.length=i+1∧Pa rows mo∧0≤mo∧mo≤30000000 * (i:Int)∧∃ s,rows.getLast?=some (mo,s)) ⟨_,_,_,0,rfl,B0,p3,hq0,T1,rfl,P0,Int.le_refl _,(by omega),sh,rfl⟩ ?_ ?_⟩
     · rintro i σ H2 hi ⟨s3,zs,rows,mo,rfl,B,pB,hq,tz,lr,pa,mo0,mo1,s,el⟩
       obtain ⟨t0,hz0,ht0⟩:=TupL.last tz el
       have hi2:i < 21:=by omega
       refine ⟨_,rfl,.inl ⟨rfl,_,SqL.of hq⟩,?_⟩
       refine ⟨_,rfl,_,rfl,.inl ⟨q,_,_,_,rfl,rfl,SqL.of hq,Zp hz0,.inr (.inl ⟨t0,_,_,_,rfl,rfl,SqT.of ht0,rfl,.inl ⟨_,_,rfl,rfl,?_⟩⟩)⟩⟩
       refine ⟨_,rfl,_,rfl,_,_,rfl,rfl,.inl ⟨by decide,by decide⟩,p,_,rfl,pB,by omega,by omega,fun d H3 d0 d1 B3 p3=>?_⟩
       refine .inl ⟨_,_,rfl,rfl,_,rfl,p,rfl,p3,fun s2 H4 s20 s21 B4 p4=>?_⟩
       have hq4:=B4 _ _ (B3 _ _ hq (n_q)) (n_q)
       have tz4:=TupL.pen (TupL.pen tz pB B3) p3 B4
       refine ⟨qk (Nat.le_of_ble_eq_true rfl),fun tt ft=>?_⟩
       have ntp:tt≠p:=p4.ne ft
       have St:=Same.new (.tup [.int (mo+1+d),.int s2]) ft
       have hq5:=St _ _ hq4
       refine ⟨q,_,_,rfl,rfl,hq5,qE (by rw [tz.1]; omega),?_⟩
       refine ⟨_,zs++[.ref tt],rows++[(mo+1+d,s2)],mo+1+d,rfl,?_,?_,qd,((tz4.same St).snoc (p:=(mo+1+d,s2)) qd).put hq5,by rw [List.length_append,lr]; rfl,pa.snoc (fun z=>by rw [z] at lr; simp at lr) (fun _=>by omega) (by omega) (by omega) (by omega),by omega,by push_cast; omega,s2,by simp⟩
       · intro b o z nb
         have:=(B.trans (B3.trans B4)) b o z nb
         rw [qh (qi z fqH),qh (qi this ft)]; exact this
       · exact (p4.upd ntp _).upd n_q _
     · rintro σ H2 ⟨s3,zs,rows,mo,rfl,B,pB,hq,tz,lr,pa,mo0,mo1,s,el⟩
       exact hN _ _ ⟨s3,zs,rows,mo,rfl,B,pB,hq,tz,by omega,by omega,pa,by omega⟩
   rintro _ H2 ⟨s3,zs,rows,mo,rfl,B,pB,hq,tz,r0,r1,pa,mo1⟩
   have e9:(10:Int) ^ (9:Int).toNat=1000000000:=by decide
   refine zc (t:=qh5 _ _ _) (fun σ' H'=>∃ rows':List (Int×Int),σ'=[some (.ref p),some (.int u),some (.ref q),s3]∧But p H H'∧PenAt H' p∧Rs H' q rows'∧Good rows') (fun N hN=>?_) ?_
   · refine ⟨_,rfl,_,_,rfl,.inl ⟨_,SqL.of hq,rfl⟩,_,_,rfl,rfl,_,rfl,Zh (fun g1=>?_) (fun g1=>qcr (hN _ _ ⟨rows,rfl,B,pB,⟨zs,hq,tz⟩,pa.good (by omega) r0 r1⟩))⟩
     have g3:1 < rows.length:=by have:=tz.1; omega
     refine ⟨_,rfl,p,_,rfl,pB,by decide,by decide,fun d H3 d0 d1 B3 p3=>?_⟩
     have hq3:=B3 _ _ hq n_q
     have tz3:=TupL.pen tz pB B3
     refine .inl ⟨rfl,_,rfl,Zh (fun g2=>?_) (fun g2=>hN _ _ ⟨rows,rfl,B.trans B3,p3,⟨zs,hq3,tz3⟩,pa.good (by omega) r0 r1⟩)⟩
     cases el:rows.getLast? with
     | none =>
       rw [List.getLast?_eq_none_iff.mp el] at g3
       simp at g3
     | some l =>
       obtain ⟨t0,hz0,ht0⟩:=TupL.last tz3 el
       refine ⟨_,_,rfl,rfl,⟨by decide,by decide,by decide⟩,_,rfl,_,rfl,.inl ⟨q,_,_,_,rfl,rfl,SqL.of hq3,Zp hz0,.inr (.inl ⟨t0,_,_,_,rfl,rfl,SqT.of ht0,rfl,qk (Nat.le_of_ble_eq_true rfl),fun tt ft=>?_⟩)⟩⟩
       try dsimp only
       rw [e9]
       have St:=Same.new (.tup [.int 1000000000,.int l.2]) ft
       have ntp:tt≠p:=p3.ne ft
       refine ⟨_,rfl,_,rfl,q,_,_,zs.length - 1,rfl,rfl,St _ _ hq3,qaq (by rw [tz.1]; omega),?_⟩
       refine hN _ _ ⟨_,rfl,?_,(p3.upd ntp _).upd n_q _,⟨_,qd,(TupL.set (tz3.same St) (i:=zs.length - 1) (p:=(1000000000,l.2)) qd).put (St _ _ hq3)⟩,?_⟩
       · intro b o z nb
         have:=(B.trans B3) b o z nb
         rw [qh (qi z fqH),qh (qi this ft)]; exact this
       · rw [tz.1]
         exact pa.far (by omega) g3 r1 el
   rintro _ G6 ⟨rows',rfl,B6,p6,R6,good6⟩
   exact ⟨_,rfl,kk q rows' G6 fqH B6 p6 R6 good6⟩
end
end K35
namespace K35
open PySem L2 PySem.NumText PyProof.Rows KC M04
section
variable {P:Program} {w:World} {K:PySem.W.Frag} {mg:Str->Option Value} {base:Heap}
end
def sgn (c:Nat):Bool:=(!decide ((⟨#[c]⟩:Str).cps.toList < ("a":Str).cps.toList)) && (!decide (("z":Str).cps.toList < (⟨#[c]⟩:Str).cps.toList))
def zU:V->Bool
 | .str x=>decide (1≤x.length) && decide (x.length≤8) && x.cps.toList.all sgn
 | _=>false
theorem qe1 {l:List Nat} {i c:Nat} (h:l[i]?=some c):l.take (i+1)=l.take i++[c]:=by
 rw [List.take_add_one,h]; rfl
theorem qhF {n:Nat} (h:n≤2000):n≤sizeLine:=Nat.le_trans h (by decide)
inductive jO (vs:List V) (H:Hp) (Q:VK):Prop
 | mk (i:_) (h1:vs=[.int i]) (h2:Q (.bl true) H):jO vs H Q
def Z7:Sp:=fun vs H Q _=>jO vs H Q
inductive Jf (vs:List V) (H:Hp) (Q:VK):Prop
 | mk (i lo hi:Int) (h1:vs=[.int i,.int lo,.int hi]) (h2:lo≤i) (h3:i≤hi) (h4:Q (.bl true) H):Jf vs H Q
def Q5:Sp:=fun vs H Q _=>Jf vs H Q
inductive jP (vs:List V) (H:Hp) (Q:VK):Prop
 | mk (i:Int) (h1:vs=[.int i]) (h2:0≤i) (h3:i≤1000000000) (h4:Q (.bl true) H):jP vs H Q
def QO:Sp:=fun vs H Q _=>jP vs H Q
inductive Z6 (vs:List V) (H:Hp) (Q:VK):Prop
 | mk (i:Int) (h1:vs=[.int i]) (h2:-10000000000≤i) (h3:i≤10000000000) (h4:Q (.bl true) H):Z6 vs H Q
def ZN:Sp:=fun vs H Q _=>Z6 vs H Q
inductive JZ (vs:List V) (H:Hp) (Q:VK):Prop
 | mk (x:Str) (h1:vs=[.str x]) (h2:zU (.str x)=true) (h3:∀ H',Same H H'->Q (.bl true) H'):JZ vs H Q
def JC:Sp:=fun vs H Q _=>JZ vs H Q
inductive ja (vs:List V) (H:Hp) (Q:VK):Prop
 | mk (x:Str) (h1:vs=[.str x]) (h2:zU (.str x)=true) (h3:∀ H',Same H H'->Q .non H'):ja vs H Q
def ZO:Sp:=fun vs H Q _=>ja vs H Q
inductive Zv (vs:List V) (H:Hp) (Q:VK):Prop
 | mk (i:Int) (h1:vs=[.int i]) (h2:0≤i) (h3:i≤1000000000) (h4:Q .non H):Zv vs H Q
def jb:Sp:=fun vs H Q _=>Zv vs H Q
inductive Zj (vs:List V) (H:Hp) (Q:VK):Prop
 | mk (i:Int) (h1:vs=[.int i]) (h2:-10000000000≤i) (h3:i≤10000000000) (h4:Q .non H):Zj vs H Q
def ZV:Sp:=fun vs H Q _=>Zj vs H Q
inductive jn (K:PySem.W.Frag) (vs:List V) (H:Hp) (Q:VK):Prop
 | mk (x C dx:Addr) (nm:Str) (h1:vs=[.ref x,.str nm]) (h2:H x=some (.ins C dx [])) (h3:zU (.str nm)=true) (h4:Cls K C) (h5:NoAttr K C "name") (h6:∀ H',But x H H'->H' x=some (.ins C dx [("name",.str nm)])->Q .non H'):jn K vs H Q
def QV (K:PySem.W.Frag):Sp:=fun vs H Q _=>jn K vs H Q
inductive ZW (K:PySem.W.Frag) (vs:List V) (H:Hp) (Q:VK):Prop
 | mk (x C dx:Addr) (nm:Str) (lo hi:Int) (h1:vs=[.ref x,.str nm,.int lo,.int hi]) (h2:H x=some (.ins C dx [])) (h3:zU (.str nm)=true) (h4:(0≤lo∧lo≤1000000000)) (h5:(0≤hi∧hi≤1000000000)) (h6:Cls K C) (h7:NoAttr K C "name") (h8:NoAttr K C "low") (h9:NoAttr K C "high") (h10:∀ H',But x H H'->H' x=some (.ins C dx [("name",.str nm),("low",.int lo),("high",.int hi)])->Q .non H'):ZW K vs H Q
def Zr (K:PySem.W.Frag):Sp:=fun vs H Q _=>ZW K vs H Q
inductive J9 (a:Ad) (vs:List V) (H:Hp) (Q:VK):Prop
 | mk (x dx:Addr) (nm:Str) (m:Int) (h1:vs=[.ref x,.str nm,.int m]) (h2:H x=some (.ins a.c_At dx [])) (h3:zU (.str nm)=true) (h4:(0≤m∧m≤1000000000)) (h5:∀ H',But x H H'->H' x=some (.ins a.c_At dx [("name",.str nm),("low",.int m),("high",.int m)])->Q .non H'):J9 a vs H Q
def qbr (a:Ad):Sp:=fun vs H Q _=>J9 a vs H Q
inductive ZB (K:PySem.W.Frag) (vs:List V) (H:Hp) (Q:VK):Prop
 | mk (x C dx:Addr) (nm pl:Str) (lo hi:Int) (h1:vs=[.ref x,.str nm,.str pl,.int lo,.int hi]) (h2:H x=some (.ins C dx [])) (h3:zU (.str nm)=true) (h4:zU (.str pl)=true) (h5:(-10000000000≤lo∧lo≤10000000000)) (h6:(-10000000000≤hi∧hi≤10000000000)) (h7:Cls K C) (h8:NoAttr K C "name") (h9:NoAttr K C "place") (h10:NoAttr K C "low") (h11:NoAttr K C "high") (h12:∀ H',But x H H'->H' x=some (.ins C dx [("name",.str nm),("place",.str pl),("low",.int lo),("high",.int hi)])->Q .non H'):ZB K vs H Q
def Za (K:PySem.W.Frag):Sp:=fun vs H Q _=>ZB K vs H Q
inductive jQ (a:Ad) (vs:List V) (H:Hp) (Q:VK):Prop
 | mk (x dx:Addr) (nm pl:Str) (m:Int) (h1:vs=[.ref x,.str nm,.str pl,.int m]) (h2:H x=some (.ins a.c_Read dx [])) (h3:zU (.str nm)=true) (h4:zU (.str pl)=true) (h5:(-10000000000≤m∧m≤10000000000)) (h6:∀ H',But x H H'->H' x=some (.ins a.c_Read dx [("name",.str nm),("place",.str pl),("low",.int m),("high",.int m)])->Q .non H'):jQ a vs H Q
def J0 (a:Ad):Sp:=fun vs H Q _=>jQ a vs H Q
def qcC (w:Str):Sp:=fun vs H Q _=>∃ v:V,vs=[v]∧Q (.str w) H
abbrev ZP:Sp:=qcC "any"
abbrev Zq:Sp:=qcC "within"
abbrev JF:Sp:=qcC "at"
abbrev Q8:Sp:=qcC "between"
abbrev jg:Sp:=qcC "read"
inductive ZA (vs:List V) (H:Hp) (Q:VK):Prop
 | mk (v:V) (h1:vs=[v]) (h2:∀ l,H l=none->Q (.ref l) (upd H l (.lst []))):ZA vs H Q
def qV:Sp:=fun vs H Q _=>ZA vs H Q
section
variable {P:Program} {w:World} {K:PySem.W.Frag} {mg:Str->Option Value} {base:Heap}
theorem qaa {a:Ad} (T:Txt K mg a):qC P w K mg base CX0 1 a.f_h a.fd_h ["thing"] Z7:=by
 refine T.d_h.F.ok qcG (fun vs H Q E h=>?_) (fun cdv A outer s H vs Q E hr h=>?_)
 · obtain ⟨i,rfl,kk⟩:=h
   rfl
 · obtain ⟨i,rfl,kk⟩:=h
   have hu:=qK hr
   have hU:=hr.units
   refine ⟨_,(qg (qu (Js (qq zA (by rfl) T.n_isinstance qx (qa (pv 0) (qa (Qc (v:=.ty "int") rfl T.n_int ZM rfl) qb))) (qby (qg8 (qq zA (by rfl) T.n_isinstance qx (qa (pv 0) (qa (Qc (v:=.ty "bool") rfl T.n_bool JV rfl) qb)))))))),?_⟩
   try dsimp only [zx,Cx.nox]
   refine ⟨_,rfl,_,_,_,rfl,(by decide),rfl,true,rfl,qeJ ?_⟩
   exact ⟨_,rfl,_,_,_,rfl,(by decide),rfl,false,rfl,kk⟩
theorem ZR {a:Ad} (T:Txt K mg a):qC P w K mg base CX0 2 a.f_b a.fd_b ["thing","low","high"] Q5:=by
 have G_h:qC P w K mg base CX0 1 a.f_h a.fd_h ["thing"] Z7:=qaa T
 refine T.d_b.F.ok qdp (fun vs H Q E h=>?_) (fun cdv A outer s H vs Q E hr h=>?_)
 · obtain ⟨i,lo,hi,rfl,h1,h2,kk⟩:=h
   rfl
 · obtain ⟨i,lo,hi,rfl,h1,h2,kk⟩:=h
   have hu:=qK hr
   have hU:=hr.units
   have h_h:Room (1) _:=hr.mono (by decide)
   refine ⟨_,(qg (qu (Js (qj G_h h_h rfl T.d_h.m T.d_h.k T.d_h.b .nil ql (qa (pv 0) qb)) (qby (qd4 qaO qaO (pv 1) (pv 0) (pv 2)))))),?_⟩
   try dsimp only [zx,Cx.nox]
   refine ⟨_,rfl,i,rfl,true,rfl,qeJ ?_⟩
   refine ⟨_,rfl,_,rfl,_,_,rfl,rfl,_,rfl,Zh (fun _=>?_) (fun g=>absurd h1 g)⟩
   refine ⟨_,rfl,_,_,rfl,rfl,?_⟩
   show Q (.bl (decide (i≤hi))) H
   rw [decide_eq_true h2]
   exact kk
theorem Zm {a:Ad} (T:Txt K mg a):qC P w K mg base CX0 3 a.f_c a.fd_c ["thing"] QO:=by
 have G_b:qC P w K mg base CX0 2 a.f_b a.fd_b ["thing","low","high"] Q5:=ZR T
 refine T.d_c.F.ok qcH (fun vs H Q E h=>?_) (fun cdv A outer s H vs Q E hr h=>?_)
 · obtain ⟨i,rfl,h1,h2,kk⟩:=h
   rfl
 · obtain ⟨i,rfl,h1,h2,kk⟩:=h
   have hu:=qK hr
   have hU:=hr.units
   have h_b:Room (2) _:=hr.mono (by decide)
   obtain ⟨t_LAST,c_LAST⟩:=T.g_LAST
   refine ⟨_,(qg (qu (qj G_b h_b rfl T.d_b.m T.d_b.k T.d_b.b .nil ql (qa (pv 0) (qa qc (qa (Qb (v:=.int 1000000000) rfl c_LAST ⟨_,rfl⟩) qb)))))),?_⟩
   try dsimp only [zx,Cx.nox]
   exact ⟨_,rfl,i,0,1000000000,rfl,h1,h2,kk⟩
theorem Jt {a:Ad} (T:Txt K mg a):qC P w K mg base CX0 3 a.f_i a.fd_i ["thing"] ZN:=by
 have G_b:qC P w K mg base CX0 2 a.f_b a.fd_b ["thing","low","high"] Q5:=ZR T
 refine T.d_i.F.ok qbT (fun vs H Q E h=>?_) (fun cdv A outer s H vs Q E hr h=>?_)
 · obtain ⟨i,rfl,h1,h2,kk⟩:=h
   rfl
 · obtain ⟨i,rfl,h1,h2,kk⟩:=h
   have hu:=qK hr
   have hU:=hr.units
   have h_b:Room (2) _:=hr.mono (by decide)
   obtain ⟨t_WIDEST_READING,c_WIDEST_READING⟩:=T.g_WIDEST_READING
   refine ⟨_,(qg (qu (qj G_b h_b rfl T.d_b.m T.d_b.k T.d_b.b .nil ql (qa (pv 0) (qa (ZQ Qq (Qb (v:=.int 10000000000) rfl c_WIDEST_READING ⟨_,rfl⟩)) (qa (Qb (v:=.int 10000000000) rfl c_WIDEST_READING ⟨_,rfl⟩) qb)))))),?_⟩
   try dsimp only [zx,Cx.nox]
   exact ⟨_,rfl,_,rfl,i,-10000000000,10000000000,rfl,h1,h2,kk⟩
theorem qbA {a:Ad} (T:Txt K mg a):qC P w K mg base CX0 1 a.f_o a.fd_o ["thing"] JC:=by
 refine T.d_o.F.ok qes (fun vs H Q E h=>?_) (fun cdv A outer s H vs Q E hr h=>?_)
 · obtain ⟨x,rfl,ok,k⟩:=h
   rfl
 · obtain ⟨x,rfl,ok,k⟩:=h
   have hu:=qK hr
   have hU:=hr.units
   obtain ⟨t_LONGEST_NAME,c_LONGEST_NAME⟩:=T.g_LONGEST_NAME
   refine ⟨_,(qf (qO (PW.pt (qaJ (qZ (qY (qq zA (by rfl) T.n_isinstance qx (qa (pv 0) (qa (Qc (v:=.ty "str") rfl T.n_str qdf rfl) qb))))) (jZ (qZ (qgq qaO qaO qc (qq zp (by rfl) T.n_len qS (qa (pv 0) qb)) (Qb (v:=.int 8) rfl c_LONGEST_NAME ⟨_,rfl⟩))))))
       (qg (qu Zg))
       qv)
     (qg (qu (qq (qf1 rfl) (by rfl) T.n_all qf5 (qa (Qt rfl (CompOk.def ["sign"] [none]) (qiq (pv 0)) (fun _ _ _ _ _=>(qt (i:=0) (show List.Nodup (["sign"]:List Str) by decide +kernel) rfl (Or.inl rfl))) (fun _ _ _ _ _=>Zb) (fun _ _ _ _ _=>(qd4 qcV qcV qB (pv 0) qB))) qb))))),?_⟩
   try dsimp only [zx,Cx.nox]
   obtain ⟨⟨l1,l8⟩,al⟩:(1≤x.length∧x.length≤8)∧x.cps.toList.all sgn=true:=by
     simp only [zU,Bool.and_eq_true,decide_eq_true_eq] at ok
     exact ok
   have hx:x.length=x.cps.size:=rfl
   refine ⟨_,rfl,_,_,_,rfl,(by decide),rfl,true,rfl,zy rfl ?_⟩
   refine ⟨_,rfl,_,_,rfl,⟨qhF (by omega),rfl⟩,_,_,rfl,rfl,_,rfl,?_⟩
   refine Zh (fun h2=>?_) (fun h2=>absurd (by omega) h2)
   refine ⟨_,_,rfl,rfl,_,rfl,?_⟩
   refine qeK (fun h3=>absurd (by omega) h3) (fun h3=>?_)
   refine ⟨_,rfl,x,rfl,fun D fD=>?_⟩
   refine qgQ (x:=x) (D:=D) (fun i σ H2=>∃ (s0:Option V) (bs:List Bool),σ=[s0]∧Same H H2∧H2 D=some (.lst (bs.map V.bl))∧bs=(x.cps.toList.take i).map sgn) ⟨none,[],rfl,Same.new _ fD,qd,rfl⟩ ?_ ?_
   · rintro i c σ H2 hc ⟨s0,bs,rfl,s2,hD,hb⟩
     obtain ⟨hi,_⟩:=Array.getElem?_eq_some_iff.mp hc
     have hcl:x.cps.toList[i]?=some c:=by simpa using hc
     have hbl:bs.length≤i:=by rw [hb,List.length_map,List.length_take]; omega
     refine ⟨_,rfl,_,_,rfl,rfl,_,rfl,?_⟩
     have fin:∀ v:Bool,v=sgn c->∃ ys,H2 D=some (.lst ys)∧ys.length < sizeLine∧∃ (s0:Option V) (bs:List Bool),[some (V.str ⟨#[c]⟩)]=[s0]∧Same H (upd H2 D (.lst (ys++[.bl v])))∧(upd H2 D (.lst (ys++[.bl v]))) D=some (.lst (bs.map V.bl))∧bs=(x.cps.toList.take (i+1)).map sgn:=fun v e =>
       ⟨_,hD,qE (by rw [List.length_map]; omega),_,bs++[v],rfl,(fun b o z=>by rw [qh (qi z fD)]; exact s2 b o z),by rw [qd,List.map_append]; rfl,by rw [qe1 hcl,List.map_append,← hb,e]; rfl⟩
     refine qjf (fun h4=>?_) (fun h4=>?_)
     · refine ⟨_,_,rfl,rfl,fin _ ?_⟩
       unfold sgn
       rw [h4,Bool.true_and]
     · refine fin _ ?_
       unfold sgn
       rw [h4,Bool.false_and]
   · rintro σ H2 ⟨s0,bs,rfl,s2,hD,hb⟩
     refine ⟨D,bs,rfl,SqL.of hD,?_⟩
     have e:bs.all id=true:=by
       rw [hb,List.all_map]
       refine List.all_eq_true.mpr fun c m=>?_
       exact List.all_eq_true.mp al c (List.mem_of_mem_take m)
     first
       | (rw [e]; exact k H2 s2)
       | (have:=k H2 s2; simpa [e] using this)
theorem Jv {a:Ad} (T:Txt K mg a):qC P w K mg base CX0 2 a.f_r a.fd_r ["thing"] ZO:=by
 have G_o:qC P w K mg base CX0 1 a.f_o a.fd_o ["thing"] JC:=qbA T
 refine T.d_r.F.ok qbV (fun vs H Q E h=>?_) (fun cdv A outer s H vs Q E hr h=>?_)
 · obtain ⟨x,rfl,ok,k⟩:=h
   rfl
 · obtain ⟨x,rfl,ok,k⟩:=h
   have hu:=qK hr
   have hU:=hr.units
   have h_o:Room (1) _:=hr.mono (by decide)
   refine ⟨_,(qg (qO (qZ (qY (qj G_o h_o rfl T.d_o.m T.d_o.k T.d_o.b .nil ql (qa (pv 0) qb))))
       (qg qP)
       qv)),?_⟩
   try dsimp only [zx,Cx.nox]
   exact ⟨_,rfl,x,rfl,ok,fun H1 S1=>⟨true,rfl,zy rfl (k H1 S1)⟩⟩
theorem qaQ {a:Ad} (T:Txt K mg a):qC P w K mg base CX0 4 a.f_C a.fd_C ["thing"] jb:=by
 have G_c:qC P w K mg base CX0 3 a.f_c a.fd_c ["thing"] QO:=Zm T
 refine T.d_C.F.ok qaD (fun vs H Q E h=>?_) (fun cdv A outer s H vs Q E hr h=>?_)
 · obtain ⟨i,rfl,h1,h2,k⟩:=h
   rfl
 · obtain ⟨i,rfl,h1,h2,k⟩:=h
   have hu:=qK hr
   have hU:=hr.units
   have h_c:Room (3) _:=hr.mono (by decide)
   refine ⟨_,(qg (qO (qZ (qY (qj G_c h_c rfl T.d_c.m T.d_c.k T.d_c.b .nil ql (qa (pv 0) qb))))
       (qg qP)
       qv)),?_⟩
   try dsimp only [zx,Cx.nox]
   exact ⟨_,rfl,i,rfl,h1,h2,true,rfl,zy rfl k⟩
theorem qaj {a:Ad} (T:Txt K mg a):qC P w K mg base CX0 4 a.f_D a.fd_D ["thing"] ZV:=by
 have G_i:qC P w K mg base CX0 3 a.f_i a.fd_i ["thing"] ZN:=Jt T
 refine T.d_D.F.ok qag (fun vs H Q E h=>?_) (fun cdv A outer s H vs Q E hr h=>?_)
 · obtain ⟨i,rfl,h1,h2,k⟩:=h
   rfl
 · obtain ⟨i,rfl,h1,h2,k⟩:=h
   have hu:=qK hr
   have hU:=hr.units
   have h_i:Room (3) _:=hr.mono (by decide)
   refine ⟨_,(qg (qO (qZ (qY (qj G_i h_i rfl T.d_i.m T.d_i.k T.d_i.b .nil ql (qa (pv 0) qb))))
       (qg qP)
       qv)),?_⟩
   try dsimp only [zx,Cx.nox]
   exact ⟨_,rfl,i,rfl,h1,h2,true,rfl,zy rfl k⟩
theorem ZS {a:Ad} (T:Txt K mg a):qC P w K mg base CX0 3 a.f_j a.fd_j ["self","name"] (QV K):=by
 have G_r:qC P w K mg base CX0 2 a.f_r a.fd_r ["thing"] ZO:=Jv T
 refine T.d_j.F.ok qb1 (fun vs H Q E h=>?_) (fun cdv A outer s H vs Q E hr h=>?_)
 · obtain ⟨x,C,dx,nm,rfl,hx,ok,cl,na,k⟩:=h
   rfl
 · obtain ⟨x,C,dx,nm,rfl,hx,ok,cl,na,k⟩:=h
   have hu:=qK hr
   have hU:=hr.units
   have h_r:Room (2) _:=hr.mono (by decide)
   refine ⟨_,(qf (qU (qj G_r h_r rfl T.d_r.m T.d_r.k T.d_r.b .nil ql (qa (pv 1) qb)))
     (qg (j4 (pv 0) (pv 1) rfl))),?_⟩
   try dsimp only [zx,Cx.nox]
   refine ⟨_,rfl,nm,rfl,ok,fun H1 S1=>?_⟩
   exact ⟨_,rfl,_,rfl,x,C,dx,_,rfl,S1 _ _ hx,cl,na,(by decide),k _ (fun b o z nb=>by rw [qh nb]; exact S1 b o z) qd⟩
theorem j5 {a:Ad} (T:Txt K mg a):qC P w K mg base CX0 5 a.f_w a.fd_w ["self","name","low","high"] (Zr K):=by
 have G_j:qC P w K mg base CX0 3 a.f_j a.fd_j ["self","name"] (QV K):=ZS T
 have G_C:qC P w K mg base CX0 4 a.f_C a.fd_C ["thing"] jb:=qaQ T
 refine T.d_w.F.ok qa9 (fun vs H Q E h=>?_) (fun cdv A outer s H vs Q E hr h=>?_)
 · obtain ⟨x,C,dx,nm,lo,hi,rfl,hx,ok,hlo,hhi,cl,n1,n2,n3,k⟩:=h
   rfl
 · obtain ⟨x,C,dx,nm,lo,hi,rfl,hx,ok,hlo,hhi,cl,n1,n2,n3,k⟩:=h
   have hu:=qK hr
   have hU:=hr.units
   have h_j:Room (3+1) _:=hr.mono (by decide)
   have h_C:Room (4) _:=hr.mono (by decide)
   refine ⟨_,(qf (qU (qap T.ci_Entry G_j (h_j.mono (by decide)) T.d_j.b rfl T.g_Entry (qa (pv 0) (qa (pv 1) qb))))
     (qf (qU (qj G_C h_C rfl T.d_C.m T.d_C.k T.d_C.b .nil ql (qa (pv 2) qb)))
     (qf (qU (qj G_C h_C rfl T.d_C.m T.d_C.k T.d_C.b .nil ql (qa (pv 3) qb)))
     (qf (j4 (pv 0) (pv 2) rfl)
     (qg (j4 (pv 0) (pv 3) rfl)))))),?_⟩
   try dsimp only [zx,Cx.nox]
   refine ⟨_,rfl,_,rfl,x,C,dx,nm,rfl,hx,ok,cl,n1,fun H1 B1 h1=>?_⟩
   refine ⟨_,rfl,lo,rfl,hlo.1,hlo.2,?_⟩
   refine ⟨_,rfl,hi,rfl,hhi.1,hhi.2,?_⟩
   refine ⟨_,rfl,_,rfl,x,C,dx,_,rfl,h1,cl,n2,(by simp),?_⟩
   refine ⟨_,rfl,_,rfl,x,C,dx,_,rfl,qd,cl,n3,(Nat.le_of_ble_eq_true rfl),?_⟩
   exact k _ ((B1.put _).put _) (by rw [qd]; rfl)
theorem qeC {a:Ad} (T:Txt K mg a):qC P w K mg base CX0 7 a.f_8 a.fd_8 ["self","name","moment"] (qbr a):=by
 have G_w:qC P w K mg base CX0 5 a.f_w a.fd_w ["self","name","low","high"] (Zr K):=j5 T
 refine T.d_8.F.ok qeu (fun vs H Q E h=>?_) (fun cdv A outer s H vs Q E hr h=>?_)
 · obtain ⟨x,dx,nm,m,rfl,hx,ok,hm,k⟩:=h
   rfl
 · obtain ⟨x,dx,nm,m,rfl,hx,ok,hm,k⟩:=h
   have hu:=qK hr
   have hU:=hr.units
   have h_w:Room (5+1) _:=hr.mono (by decide)
   refine ⟨_,(qg (qU (qap T.ci_Within G_w (h_w.mono (by decide)) T.d_w.b rfl T.g_Within (qa (pv 0) (qa (pv 1) (qa (pv 2) (qa (pv 2) qb))))))),?_⟩
   try dsimp only [zx,Cx.nox]
   exact ⟨_,rfl,_,rfl,_,rfl,_,rfl,x,a.c_At,dx,nm,m,m,rfl,hx,ok,hm,hm,T.cl_At,T.n_At_name,T.n_At_low,T.n_At_high,fun H1 B1 h1=>k H1 B1 h1⟩
theorem jr {a:Ad} (T:Txt K mg a):qC P w K mg base CX0 5 a.f_y a.fd_y ["self","name","place","low","high"] (Za K):=by
 have G_j:qC P w K mg base CX0 3 a.f_j a.fd_j ["self","name"] (QV K):=ZS T
 have G_r:qC P w K mg base CX0 2 a.f_r a.fd_r ["thing"] ZO:=Jv T
 have G_D:qC P w K mg base CX0 4 a.f_D a.fd_D ["thing"] ZV:=qaj T
 refine T.d_y.F.ok qaH (fun vs H Q E h=>?_) (fun cdv A outer s H vs Q E hr h=>?_)
 · obtain ⟨x,C,dx,nm,pl,lo,hi,rfl,hx,ok,okp,hlo,hhi,cl,n1,n2,n3,n4,k⟩:=h
   rfl
 · obtain ⟨x,C,dx,nm,pl,lo,hi,rfl,hx,ok,okp,hlo,hhi,cl,n1,n2,n3,n4,k⟩:=h
   have hu:=qK hr
   have hU:=hr.units
   have h_j:Room (3+1) _:=hr.mono (by decide)
   have h_r:Room (2) _:=hr.mono (by decide)
   have h_D:Room (4) _:=hr.mono (by decide)
   refine ⟨_,(qf (qU (qap T.ci_Entry G_j (h_j.mono (by decide)) T.d_j.b rfl T.g_Entry (qa (pv 0) (qa (pv 1) qb))))
     (qf (qU (qj G_r h_r rfl T.d_r.m T.d_r.k T.d_r.b .nil ql (qa (pv 2) qb)))
     (qf (qU (qj G_D h_D rfl T.d_D.m T.d_D.k T.d_D.b .nil ql (qa (pv 3) qb)))
     (qf (qU (qj G_D h_D rfl T.d_D.m T.d_D.k T.d_D.b .nil ql (qa (pv 4) qb)))
     (qf (j4 (pv 0) (pv 2) rfl)
     (qf (j4 (pv 0) (pv 3) rfl)
     (qg (j4 (pv 0) (pv 4) rfl)))))))),?_⟩
   try dsimp only [zx,Cx.nox]
   refine ⟨_,rfl,_,rfl,x,C,dx,nm,rfl,hx,ok,cl,n1,fun H1 B1 h1=>?_⟩
   refine ⟨_,rfl,pl,rfl,okp,fun H2 S2=>?_⟩
   refine ⟨_,rfl,lo,rfl,hlo.1,hlo.2,?_⟩
   refine ⟨_,rfl,hi,rfl,hhi.1,hhi.2,?_⟩
   refine ⟨_,rfl,_,rfl,x,C,dx,_,rfl,S2 _ _ h1,cl,n2,(by simp),?_⟩
   refine ⟨_,rfl,_,rfl,x,C,dx,_,rfl,qd,cl,n3,(Nat.le_of_ble_eq_true rfl),?_⟩
   refine ⟨_,rfl,_,rfl,x,C,dx,_,rfl,qd,cl,n4,(Nat.le_of_ble_eq_true rfl),?_⟩
   exact k _ ((((B1.same S2).put _).put _).put _) (by rw [qd]; rfl)
theorem qc1 {a:Ad} (T:Txt K mg a):qC P w K mg base CX0 7 a.f_ab a.fd_ab ["self","name","place","reading"] (J0 a):=by
 have G_y:qC P w K mg base CX0 5 a.f_y a.fd_y ["self","name","place","low","high"] (Za K):=jr T
 refine T.d_ab.F.ok qcJ (fun vs H Q E h=>?_) (fun cdv A outer s H vs Q E hr h=>?_)
 · obtain ⟨x,dx,nm,pl,m,rfl,hx,ok,okp,hm,k⟩:=h
   rfl
 · obtain ⟨x,dx,nm,pl,m,rfl,hx,ok,okp,hm,k⟩:=h
   have hu:=qK hr
   have hU:=hr.units
   have h_y:Room (5+1) _:=hr.mono (by decide)
   refine ⟨_,(qg (qU (qap T.ci_Between G_y (h_y.mono (by decide)) T.d_y.b rfl T.g_Between (qa (pv 0) (qa (pv 1) (qa (pv 2) (qa (pv 3) (qa (pv 3) qb)))))))),?_⟩
   try dsimp only [zx,Cx.nox]
   exact ⟨_,rfl,_,rfl,_,rfl,_,rfl,_,rfl,x,a.c_Read,dx,nm,pl,m,m,rfl,hx,ok,okp,hm,hm,T.cl_Read,T.n_Read_name,T.n_Read_place,T.n_Read_low,T.n_Read_high,fun H1 B1 h1=>k H1 B1 h1⟩
theorem qcb {a:Ad} (T:Txt K mg a):qC P w K mg base CX0 1 a.f_6 a.fd_6 ["self"] ZP:=by
 refine T.d_6.F.ok qb0 (fun vs H Q E h=>?_) (fun cdv A outer s H vs Q E hr h=>?_)
 · obtain ⟨v,rfl,k⟩:=h
   rfl
 · obtain ⟨v,rfl,k⟩:=h
   have hu:=qK hr
   have hU:=hr.units
   refine ⟨_,(qg (qu qB)),?_⟩
   try dsimp only [zx,Cx.nox]
   exact k
theorem qbc {a:Ad} (T:Txt K mg a):qC P w K mg base CX0 1 a.f_7 a.fd_7 ["self"] Zq:=by
 refine T.d_7.F.ok qa8 (fun vs H Q E h=>?_) (fun cdv A outer s H vs Q E hr h=>?_)
 · obtain ⟨v,rfl,k⟩:=h
   rfl
 · obtain ⟨v,rfl,k⟩:=h
   have hu:=qK hr
   have hU:=hr.units
   refine ⟨_,(qg (qu qB)),?_⟩
   try dsimp only [zx,Cx.nox]
   exact k
theorem qeB {a:Ad} (T:Txt K mg a):qC P w K mg base CX0 1 a.f_9 a.fd_9 ["self"] JF:=by
 refine T.d_9.F.ok qet (fun vs H Q E h=>?_) (fun cdv A outer s H vs Q E hr h=>?_)
 · obtain ⟨v,rfl,k⟩:=h
   rfl
 · obtain ⟨v,rfl,k⟩:=h
   have hu:=qK hr
   have hU:=hr.units
   refine ⟨_,(qg (qu qB)),?_⟩
   try dsimp only [zx,Cx.nox]
   exact k
theorem qaS {a:Ad} (T:Txt K mg a):qC P w K mg base CX0 1 a.f_aa a.fd_aa ["self"] Q8:=by
 refine T.d_aa.F.ok qaG (fun vs H Q E h=>?_) (fun cdv A outer s H vs Q E hr h=>?_)
 · obtain ⟨v,rfl,k⟩:=h
   rfl
 · obtain ⟨v,rfl,k⟩:=h
   have hu:=qK hr
   have hU:=hr.units
   refine ⟨_,(qg (qu qB)),?_⟩
   try dsimp only [zx,Cx.nox]
   exact k
theorem qc0 {a:Ad} (T:Txt K mg a):qC P w K mg base CX0 1 a.f_ac a.fd_ac ["self"] jg:=by
 refine T.d_ac.F.ok qcI (fun vs H Q E h=>?_) (fun cdv A outer s H vs Q E hr h=>?_)
 · obtain ⟨v,rfl,k⟩:=h
   rfl
 · obtain ⟨v,rfl,k⟩:=h
   have hu:=qK hr
   have hU:=hr.units
   refine ⟨_,(qg (qu qB)),?_⟩
   try dsimp only [zx,Cx.nox]
   exact k
theorem Qv {a:Ad} (T:Txt K mg a):qC P w K mg base CX0 1 a.f_e a.fd_e ["self"] qV:=by
 refine T.d_e.F.ok qaF (fun vs H Q E h=>?_) (fun cdv A outer s H vs Q E hr h=>?_)
 · obtain ⟨v,rfl,k⟩:=h
   rfl
 · obtain ⟨v,rfl,k⟩:=h
   have hu:=qK hr
   have hU:=hr.units
   refine ⟨_,(qg (qu (qN qb))),?_⟩
   try dsimp only [zx,Cx.nox]
   exact ⟨Nat.zero_le _,fun l f=>k l f⟩
end
end K35
namespace K35
open PySem L2 PySem.NumText PyProof.Rows KC M04
section
variable {P:Program} {w:World} {K:PySem.W.Frag} {mg:Str->Option Value} {base:Heap}
end
inductive Spc:Str->Str->Str->Int->Int->Prop
 | any {nm:Str}:zU (.str nm)=true->Spc "any" nm "" 0 1000000000
 | within {nm:Str} {lo hi:Int}:zU (.str nm)=true->(0≤lo∧lo≤1000000000)->(0≤hi∧hi≤1000000000)->Spc "within" nm "" lo hi
 | at_ {nm:Str} {m:Int}:zU (.str nm)=true->(0≤m∧m≤1000000000)->Spc "at" nm "" m m
 | between {nm pl:Str} {lo hi:Int}:zU (.str nm)=true->zU (.str pl)=true->(-10000000000≤lo∧lo≤10000000000)->(-10000000000≤hi∧hi≤10000000000)->Spc "between" nm pl lo hi
 | read {nm pl:Str} {m:Int}:zU (.str nm)=true->zU (.str pl)=true->(-10000000000≤m∧m≤10000000000)->Spc "read" nm pl m m
inductive En (a:Ad) (H:Hp) (x:Addr):Str->Str->Str->Int->Int->Prop
 | any {dx:Addr} {nm:Str}:H x=some (.ins a.c_Entry dx [("name",.str nm)])->En a H x "any" nm "" 0 1000000000
 | within {dx:Addr} {nm:Str} {lo hi:Int}:H x=some (.ins a.c_Within dx [("name",.str nm),("low",.int lo),("high",.int hi)])->En a H x "within" nm "" lo hi
 | at_ {dx:Addr} {nm:Str} {m:Int}:H x=some (.ins a.c_At dx [("name",.str nm),("low",.int m),("high",.int m)])->En a H x "at" nm "" m m
 | between {dx:Addr} {nm pl:Str} {lo hi:Int}:H x=some (.ins a.c_Between dx [("name",.str nm),("place",.str pl),("low",.int lo),("high",.int hi)])->En a H x "between" nm pl lo hi
 | read {dx:Addr} {nm pl:Str} {m:Int}:H x=some (.ins a.c_Read dx [("name",.str nm),("place",.str pl),("low",.int m),("high",.int m)])->En a H x "read" nm pl m m
theorem En.same {a:Ad} {H H':Hp} (s:Same H H') {x:Addr} {wd nm pl:Str} {lo hi:Int} (h:En a H x wd nm pl lo hi):En a H' x wd nm pl lo hi:=by
 cases h with
 | any e=>exact .any (s _ _ e)
 | within e=>exact .within (s _ _ e)
 | at_ e=>exact .at_ (s _ _ e)
 | between e=>exact .between (s _ _ e)
 | read e=>exact .read (s _ _ e)
def qiT (wd nm pl:Str) (lo hi:Int):List V:=[.str wd,.str nm,.str pl,.int lo,.int hi]
inductive qbn (a:Ad) (vs:List V) (H:Hp) (Q:VK):Prop
 | mk (s:Addr) (wd nm pl:Str) (lo hi:Int) (h1:vs=[.ref s]) (h2:H s=some (.tup (qiT wd nm pl lo hi))) (h3:Spc wd nm pl lo hi) (h4:∀ (x:Addr) (H':Hp),Same H H'->En a H' x wd nm pl lo hi->Q (.ref x) H'):qbn a vs H Q
def qdT (a:Ad):Sp:=fun vs H Q _=>qbn a vs H Q
theorem Zc {H H':Hp} {x dx C:Addr} (h1:H x=none) (h2:H dx=none) (b:But x (upd (upd H dx (.own x)) x (.ins C dx [])) H'):Same H H':=fun c o e=>by
 have n1:=qi e h1
 have n2:=qi e h2
 exact b c o (by rw [qh n1,qh n2]; exact e) n1
section
variable {P:Program} {w:World} {K:PySem.W.Frag} {mg:Str->Option Value} {base:Heap}
theorem qgy {a:Ad} (T:Txt K mg a):qC P w K mg base CX0 9 a.f_0 a.fd_0 ["_law_spec_here"] (qdT a):=by
 have G_ab:qC P w K mg base CX0 7 a.f_ab a.fd_ab ["self","name","place","reading"] (J0 a):=qc1 T
 have G_j:qC P w K mg base CX0 3 a.f_j a.fd_j ["self","name"] (QV K):=ZS T
 have G_w:qC P w K mg base CX0 5 a.f_w a.fd_w ["self","name","low","high"] (Zr K):=j5 T
 have G_8:qC P w K mg base CX0 7 a.f_8 a.fd_8 ["self","name","moment"] (qbr a):=qeC T
 have G_y:qC P w K mg base CX0 5 a.f_y a.fd_y ["self","name","place","low","high"] (Za K):=jr T
 refine T.d_0.F.ok sc_Lmade (fun vs H Q E h=>?_) (fun cdv A outer s H vs Q E hr h=>?_)
 · obtain ⟨s,wd,nm,pl,lo,hi,rfl,hs,sp,kk⟩:=h
   rfl
 · obtain ⟨s,wd,nm,pl,lo,hi,rfl,hs,sp,kk⟩:=h
   have hu:=qK hr
   have hU:=hr.units
   have h_ab:Room (7+1) _:=hr.mono (by decide)
   have h_j:Room (3+1) _:=hr.mono (by decide)
   have h_w:Room (5+1) _:=hr.mono (by decide)
   have h_8:Room (7+1) _:=hr.mono (by decide)
   have h_y:Room (5+1) _:=hr.mono (by decide)
   refine ⟨_,(qf (Jq (pv 0) (QU rfl (qz (qt (i:=1) (sc_Lmade.nd) rfl (Or.inl rfl)) (qz (qt (i:=2) (sc_Lmade.nd) rfl (Or.inl rfl)) (qz (qt (i:=3) (sc_Lmade.nd) rfl (Or.inl rfl)) (qz (qt (i:=4) (sc_Lmade.nd) rfl (Or.inl rfl)) (qz (qt (i:=5) (sc_Lmade.nd) rfl (Or.inl rfl)) zZ)))))))
     (qf (qO (qA (uEq hU) (pv 1) qB (qG _))
       (qg (qu (JS T.M_Entry G_j h_j rfl T.g_Entry T.d_j.b .nil ql (qa (pv 2) qb))))
       qv)
     (qf (qO (qA (uEq hU) (pv 1) qB (qG _))
       (qg (qu (JS T.M_Within G_w h_w rfl T.g_Within T.d_w.b .nil ql (qa (pv 2) (qa (pv 4) (qa (pv 5) qb))))))
       qv)
     (qf (qO (qA (uEq hU) (pv 1) qB (qG _))
       (qg (qu (JS T.M_At G_8 h_8 rfl T.g_At T.d_8.b .nil ql (qa (pv 2) (qa (pv 4) qb)))))
       qv)
     (qf (qO (qA (uEq hU) (pv 1) qB (qG _))
       (qg (qu (JS T.M_Between G_y h_y rfl T.g_Between T.d_y.b .nil ql (qa (pv 2) (qa (pv 3) (qa (pv 4) (qa (pv 5) qb)))))))
       qv)
     (qg (qu (JS T.M_Read G_ab h_ab rfl T.g_Read T.d_ab.b .nil ql (qa (pv 2) (qa (pv 3) (qa (pv 4) qb))))))))))),?_⟩
   try dsimp only [zx,Cx.nox]
   refine ⟨_,rfl,s,_,rfl,SqT.of hs,rfl,_,_,rfl,_,_,rfl,_,_,rfl,_,_,rfl,_,_,rfl,rfl,?_⟩
   cases sp with
   | any ok =>
     refine ⟨_,rfl,.inl ⟨rfl,_,rfl,Zh (fun _=>?_) (fun g=>absurd rfl g)⟩⟩
     exact ⟨_,rfl,fun x dx f1 f2 ne=>⟨x,_,dx,nm,rfl,qd,ok,T.cl_Entry,T.n_Entry_name,fun H1 B1 h1=>⟨rfl,kk x H1 (Zc f1 f2 B1) (.any h1)⟩⟩⟩
   | within ok hlo hhi =>
     refine ⟨_,rfl,.inl ⟨rfl,_,rfl,Zh (fun g=>absurd g (by decide)) (fun _=>?_)⟩⟩
     refine ⟨_,rfl,.inl ⟨rfl,_,rfl,Zh (fun _=>?_) (fun g=>absurd rfl g)⟩⟩
     exact ⟨_,rfl,_,rfl,_,rfl,fun x dx f1 f2 ne=>⟨x,_,dx,nm,_,_,rfl,qd,ok,hlo,hhi,T.cl_Within,T.n_Within_name,T.n_Within_low,T.n_Within_high,fun H1 B1 h1=>⟨rfl,kk x H1 (Zc f1 f2 B1) (.within h1)⟩⟩⟩
   | at_ ok hm =>
     refine ⟨_,rfl,.inl ⟨rfl,_,rfl,Zh (fun g=>absurd g (by decide)) (fun _=>?_)⟩⟩
     refine ⟨_,rfl,.inl ⟨rfl,_,rfl,Zh (fun g=>absurd g (by decide)) (fun _=>?_)⟩⟩
     refine ⟨_,rfl,.inl ⟨rfl,_,rfl,Zh (fun _=>?_) (fun g=>absurd rfl g)⟩⟩
     exact ⟨_,rfl,_,rfl,fun x dx f1 f2 ne=>⟨x,dx,nm,_,rfl,qd,ok,hm,fun H1 B1 h1=>⟨rfl,kk x H1 (Zc f1 f2 B1) (.at_ h1)⟩⟩⟩
   | between ok okp hlo hhi =>
     refine ⟨_,rfl,.inl ⟨rfl,_,rfl,Zh (fun g=>absurd g (by decide)) (fun _=>?_)⟩⟩
     refine ⟨_,rfl,.inl ⟨rfl,_,rfl,Zh (fun g=>absurd g (by decide)) (fun _=>?_)⟩⟩
     refine ⟨_,rfl,.inl ⟨rfl,_,rfl,Zh (fun g=>absurd g (by decide)) (fun _=>?_)⟩⟩
     refine ⟨_,rfl,.inl ⟨rfl,_,rfl,Zh (fun _=>?_) (fun g=>absurd rfl g)⟩⟩
     exact ⟨_,rfl,_,rfl,_,rfl,_,rfl,fun x dx f1 f2 ne=>⟨x,_,dx,nm,pl,_,_,rfl,qd,ok,okp,hlo,hhi,T.cl_Between,T.n_Between_name,T.n_Between_place,T.n_Between_low,T.n_Between_high,fun H1 B1 h1=>⟨rfl,kk x H1 (Zc f1 f2 B1) (.between h1)⟩⟩⟩
   | read ok okp hm =>
     refine ⟨_,rfl,.inl ⟨rfl,_,rfl,Zh (fun g=>absurd g (by decide)) (fun _=>?_)⟩⟩
     refine ⟨_,rfl,.inl ⟨rfl,_,rfl,Zh (fun g=>absurd g (by decide)) (fun _=>?_)⟩⟩
     refine ⟨_,rfl,.inl ⟨rfl,_,rfl,Zh (fun g=>absurd g (by decide)) (fun _=>?_)⟩⟩
     refine ⟨_,rfl,.inl ⟨rfl,_,rfl,Zh (fun g=>absurd g (by decide)) (fun _=>?_)⟩⟩
     exact ⟨_,rfl,_,rfl,_,rfl,fun x dx f1 f2 ne=>⟨x,dx,nm,pl,_,rfl,qd,ok,okp,hm,fun H1 B1 h1=>⟨rfl,kk x H1 (Zc f1 f2 B1) (.read h1)⟩⟩⟩
end
end K35
namespace K35
open PySem L2 PySem.NumText PyProof.Rows KC M04
section
variable {P:Program} {w:World} {K:PySem.W.Frag} {mg:Str->Option Value} {base:Heap}
end
theorem qgP {K:PySem.W.Frag} {a:Addr} {xs:List V} {g:TG} {tt:TT} {te:TE} {D:Addr} {Q:VK} {σ:L2.St} {H:Hp} (Pv:Nat->L2.St->Hp->Prop) (h0:Pv 0 σ H) (hl:∀ i σ H,i≤xs.length->Pv i σ H->SqT K H a xs)
   (hs:∀ i x σ H,xs[i]?=some x->Pv i σ H->g x σ H fun σ3 H3=>tt σ3 H3 fun ok H4=>if ok=true then te σ3 H4 fun y H5=>∃ ys,H5 D=some (.lst ys)∧ys.length < sizeLine∧Pv (i+1) σ3 (upd H5 D (.lst (ys++[y]))) else Pv (i+1) σ3 H4)
   (hd:∀ σ H,Pv xs.length σ H->Q (.ref D) H) :
   jK (Itt K a) g tt te D Q σ H:=by
 refine ⟨fun i m σ H=>m=xs.length - i∧i≤xs.length∧Pv i σ H,⟨xs.length,by simp,Nat.zero_le _,h0⟩,?_⟩
 rintro i m σ H ⟨rfl,hi,p⟩
 have q:=hl i σ H hi p
 by_cases hlt:i < xs.length
 · refine .inr ⟨⟨xs,xs[i],q,by simp [hlt]⟩,Pv (i+1),fun σ' H' p'=>⟨xs.length - (i+1),by omega,rfl,hlt,p'⟩,fun v H' y=>?_⟩
   obtain ⟨e,y⟩:=y
   subst e
   exact hs i v σ _ (y xs q) p
 · have e:i=xs.length:=by omega
   subst e
   exact .inl ⟨⟨xs,q,Nat.le_refl _⟩,hd σ H p⟩
inductive jm (vs:List V) (H:Hp) (Q:VK):Prop
 | mk (i:Int) (h1:vs=[.int i,.int i]) (h2:Q (.bl true) H):jm vs H Q
def Jo:Sp:=fun vs H Q _=>jm vs H Q
section
variable {P:Program} {w:World} {K:PySem.W.Frag} {mg:Str->Option Value} {base:Heap}
theorem qca {a:Ad} (T:Txt K mg a):qC P w K mg base CX0 1 a.f_X a.fd_X ["_law_found","_law_due"] Jo:=by
 refine T.d_X.F.ok qbZ (fun vs H Q E h=>?_) (fun cdv A outer s H vs Q E hr h=>?_)
 · obtain ⟨i,rfl,kk⟩:=h
   rfl
 · obtain ⟨i,rfl,kk⟩:=h
   have hu:=qK hr
   have hU:=hr.units
   refine ⟨_,(qg (qu (Js (qq zA (by rfl) T.n_isinstance qx (qa (pv 0) (qa (Qc (v:=.ty "int") rfl T.n_int ZM rfl) qb))) (Js (qg8 (qq zA (by rfl) T.n_isinstance qx (qa (pv 0) (qa (Qc (v:=.ty "bool") rfl T.n_bool JV rfl) qb)))) (qby (Zs (uEq hU) (pv 0) (pv 1) (qG _))))))),?_⟩
   try dsimp only [zx,Cx.nox]
   refine ⟨_,rfl,_,_,_,rfl,(by decide),rfl,true,rfl,qeJ ?_⟩
   refine ⟨_,rfl,_,_,_,rfl,(by decide),rfl,false,rfl,true,rfl,qeJ ?_⟩
   refine ⟨_,rfl,_,rfl,.inl ⟨rfl,?_⟩⟩
   show Q (.bl (decide (V.int i=V.int i))) H
   rw [decide_eq_true rfl]
   exact kk
end
end K35
namespace K35
open PySem L2 PySem.NumText PyProof.Rows KC M04
section
variable {P:Program} {w:World} {K:PySem.W.Frag} {mg:Str->Option Value} {base:Heap}
end
theorem QR:bootBuiltins "sorted"=some (.builtin "sorted"):=by decide +kernel
theorem Rs.same {H H':Hp} {q:Addr} {rows:List (Int×Int)} (h:Rs H q rows) (s:Same H H'):Rs H' q rows:=by
 obtain ⟨zs,h1,h2⟩:=h
 exact ⟨zs,s _ _ h1,h2.same s⟩
abbrev okw (w:Int×Int):Bool:=decide (w.1≤w.2)
theorem qeZ {H:Hp} {zs:List V} {ws:List (Int×Int)} (h:TupL pr H zs ws):TupI H zs (ws.map g2):=by
 refine ⟨by rw [List.length_map]; exact h.1,fun i z r e1 e2=>?_⟩
 obtain ⟨p,hp,rfl⟩:=qdA e2
 exact h.2 i z p e1 hp
theorem qfx {H:Hp} {zs:List V} {ws:List (Int×Int)} (h:TupI H zs (ws.map g2)):TupL pr H zs ws :=
 ⟨by have:=h.len; rwa [List.length_map] at this,fun i z p e1 e2=>h.at_ i z (g2 p) e1 (by rw [List.getElem?_map,e2]; rfl)⟩
theorem qd2 {rs:List (List Int)} {fs:List (Int×Int)} (h:rs.Perm (fs.map g2)):∃ ss:List (Int×Int),rs=ss.map g2∧ss.Perm fs:=by
 refine ⟨rs.map fun r=>(r.getD 0 0,r.getD 1 0),?_,?_⟩
 · rw [List.map_map]
   refine (List.map_id rs).symm.trans (List.map_congr_left fun r hr=>?_)
   obtain ⟨p,_,rfl⟩:=List.mem_map.mp (h.mem_iff.mp hr)
   rfl
 · have:=h.map fun r=>(r.getD 0 0,r.getD 1 0)
   rw [List.map_map] at this
   rwa [show (fs.map ((fun r:List Int=>(r.getD 0 0,r.getD 1 0)) ∘ g2))=fs from (List.map_congr_left fun p _=>rfl).trans (List.map_id fs)] at this
theorem qhb {ss:List (Int×Int)} (h:(ss.map g2).Pairwise fun a b=>jt b a=false):ss.Pairwise fun a b=>a.1≤b.1:=by
 refine (List.pairwise_map.mp h).imp fun {a b} g=>?_
 have g':jt [b.1,b.2] [a.1,a.2]=false:=g
 unfold jt at g'
 by_cases e:b.1=a.1
 · omega
 · rw [if_neg e] at g'
   have:=of_decide_eq_false g'
   omega
theorem qhd (ws:List (Int×Int)) (n:Int):Mem (ws.filter okw) n↔Mem ws n:=by
 constructor
 · rintro ⟨w,hw,h⟩
   exact ⟨w,(List.mem_filter.mp hw).1,h⟩
 · rintro ⟨w,hw,h⟩
   exact ⟨w,List.mem_filter.mpr ⟨hw,decide_eq_true (by omega)⟩,h⟩
theorem qd7 {ss fs:List (Int×Int)} (h:ss.Perm fs) (n:Int):Mem ss n↔Mem fs n :=
 ⟨fun ⟨w,hw,k⟩=>⟨w,h.mem_iff.mp hw,k⟩,fun ⟨w,hw,k⟩=>⟨w,h.mem_iff.mpr hw,k⟩⟩
theorem qdb {acc:List (Int×Int)} {l w:Int×Int} (h:acc.getLast?=some l) (e:w.1≤l.2+1):qan acc w=acc.set (acc.length - 1) (l.1,if w.2 > l.2 then w.2 else l.2):=by
 unfold qan; rw [h]; exact if_pos e
theorem qeb {acc:List (Int×Int)} {l w:Int×Int} (h:acc.getLast?=some l) (e:¬ w.1≤l.2+1):qan acc w=acc++[w]:=by
 unfold qan; rw [h]; exact if_neg e
theorem qgJ (acc:List (Int×Int)) (w:Int×Int):(qan acc w).length≤acc.length+1:=by
 unfold qan
 split
 · split
   · rw [List.length_set]; omega
   · rw [List.length_append]; exact Nat.le_refl _
 · simp
theorem qec {ws:List (Int×Int)} {i:Nat} {w:Int×Int} (h:ws[i]?=some w):(ws.take (i+1)).foldl qan []=qan ((ws.take i).foldl qan []) w:=by
 rw [List.take_add_one,h,List.foldl_append]; rfl
theorem ju (ws:List (Int×Int)):∀ i,((ws.take i).foldl qan []).length≤i
 | 0=>by simp
 | i+1=>by
   cases h:ws[i]? with
   | none =>
     have:=ju ws i
     rw [List.take_add_one,h]
     simp only [Option.toList,List.append_nil]
     omega
   | some w =>
     have:=ju ws i
     have:=qgJ ((ws.take i).foldl qan []) w
     rw [qec h]; omega
inductive Z5 (vs:List V) (H:Hp) (Q:VK):Prop
 | mk (t:Addr) (r:Int×Int) (h1:vs=[.ref t]) (h2:H t=some (.tup (pr r))) (h3:Q (.bl true) H):Z5 vs H Q
def Jg:Sp:=fun vs H Q _=>Z5 vs H Q
inductive QS (vs:List V) (H:Hp) (Q:VK):Prop
 | mk (q:Addr) (ws:List (Int×Int)) (h1:vs=[.ref q]) (h2:Rs H q ws) (h3:∀ H',Same H H'->Q .non H'):QS vs H Q
def Zi:Sp:=fun vs H Q _=>QS vs H Q
inductive Je (vs:List V) (H:Hp) (Q:VK):Prop
 | mk (q:Addr) (ws:List (Int×Int)) (h1:vs=[.ref q]) (h2:Rs H q ws) (h3:ws.length < 64) (h4:∀ (d:Addr) (r:List (Int×Int)) (H':Hp),H d=none->Same H H'->Rs H' d r->Zt r->r.length≤ws.length->(∀ n,Mem r n↔Mem ws n)->Q (.ref d) H'):Je vs H Q
def j7:Sp:=fun vs H Q _=>Je vs H Q
section
variable {P:Program} {w:World} {K:PySem.W.Frag} {mg:Str->Option Value} {base:Heap}
theorem qb5 {a:Ad} (T:Txt K mg a):qC P w K mg base CX0 2 a.f_M a.fd_M ["thing"] Jg:=by
 have G_h:qC P w K mg base CX0 1 a.f_h a.fd_h ["thing"] Z7:=qaa T
 refine T.d_M.F.ok qbS (fun vs H Q E h=>?_) (fun cdv A outer s H vs Q E hr h=>?_)
 · obtain ⟨t,r,rfl,ht,kk⟩:=h
   rfl
 · obtain ⟨t,r,rfl,ht,kk⟩:=h
   have hu:=qK hr
   have hU:=hr.units
   have h_h:Room (1) _:=hr.mono (by decide)
   refine ⟨_,(qg (qu (Js (qq zA (by rfl) T.n_isinstance qx (qa (pv 0) (qa (Qc (v:=.ty "tuple") rfl T.n_tuple Jd rfl) qb))) (Js (Zs (uEq hU) (qq zp (by rfl) T.n_len qS (qa (pv 0) qb)) qc (qG _)) (Js (qj G_h h_h rfl T.d_h.m T.d_h.k T.d_h.b .nil ql (qa (qD (r:=rIx K) qr (pv 0) qc (fun _ _=>rfl)) qb)) (qby (qj G_h h_h rfl T.d_h.m T.d_h.k T.d_h.b .nil ql (qa (qD (r:=rIx K) qr (pv 0) qc (fun _ _=>rfl)) qb)))))))),?_⟩
   try dsimp only [zx,Cx.nox]
   have ty:tyN H (.ref t)=some "tuple":=by simp only [tyN]; rw [ht]
   refine ⟨_,rfl,_,_,_,rfl,(by decide),ty,_,rfl,qfH rfl ?_⟩
   refine ⟨_,rfl,_,_,rfl,.inr ⟨_,SqT.of ht,rfl⟩,.inl ⟨rfl,_,rfl,qfH (decide_eq_true rfl) ?_⟩⟩
   refine ⟨_,rfl,.inr (.inl ⟨t,_,_,_,rfl,rfl,SqT.of ht,rfl,_,rfl,true,rfl,qeJ ?_⟩)⟩
   exact ⟨_,rfl,.inr (.inl ⟨t,_,_,_,rfl,rfl,SqT.of ht,rfl,_,rfl,kk⟩)⟩
theorem Ju {a:Ad} (T:Txt K mg a):qC P w K mg base CX0 3 a.f_N a.fd_N ["stretches"] Zi:=by
 have G_M:qC P w K mg base CX0 2 a.f_M a.fd_M ["thing"] Jg:=qb5 T
 refine T.d_N.F.ok sc_check_stretches (fun vs H Q E h=>?_) (fun cdv A outer s H vs Q E hr h=>?_)
 · obtain ⟨q,ws,rfl,hrs,kk⟩:=h
   rfl
 · obtain ⟨q,ws,rfl,hrs,kk⟩:=h
   have hu:=qK hr
   have hU:=hr.units
   have h_M:Room (2) _:=hr.mono (by decide)
   refine ⟨_,(qf (qO (qZ (qY (qq zA (by rfl) T.n_isinstance qx (qa (pv 0) (qa (Qc (v:=.ty "list") rfl T.n_list zw rfl) qb)))))
       (qg qP)
       qv)
     (qg (zK PassesOwn.never rfl (qds rfl T.n_enumerate (qa (pv 0) qb)) (QU rfl (qz (qt (i:=1) (sc_check_stretches.nd) rfl (Or.inl rfl)) (qz (qt (i:=2) (sc_check_stretches.nd) rfl (Or.inl rfl)) zZ)))
       (qg (qO (qZ (qY (qj G_M h_M rfl T.d_M.m T.d_M.k T.d_M.b .nil ql (qa (pv 2) qb))))
         (qg qP)
         qv))))),?_⟩
   try dsimp only [zx,Cx.nox]
   obtain ⟨zs,hq,tp⟩:=id hrs
   have ty:tyN H (.ref q)=some "list":=by simp only [tyN]; rw [hq]
   refine ⟨_,rfl,_,_,_,rfl,(by decide),ty,true,rfl,zy rfl ?_⟩
   refine ⟨_,rfl,q,rfl,⟨zs,SqL.of hq⟩,qcp (K:=K) (a:=q) (xs:=zs) (fun i σ H2=>∃ s1 s2:Option V,σ=[some (.ref q),s1,s2]∧Same H H2) ⟨none,none,rfl,Same.refl H⟩ (fun i σ H2 _ ⟨_,_,_,S⟩=>SqL.of (S _ _ hq)) ?_ ?_⟩
   · rintro i x σ H2 p hx ⟨s1,s2,rfl,S⟩ hn
     have S2:Same H (upd H2 p (.tup [.int i,x])):=S.then _ hn
     obtain ⟨r,t,hr',rfl,ht⟩:=tp.of hx
     refine ⟨p,_,rfl,SqT.of qd,rfl,_,_,rfl,_,_,rfl,rfl,?_⟩
     exact ⟨_,rfl,t,r,rfl,S2 _ _ ht,_,rfl,zy rfl ⟨_,_,rfl,S2⟩⟩
   · rintro σ H2 ⟨s1,s2,rfl,S⟩
     exact kk H2 S
theorem qaP {a:Ad} (T:Txt K mg a):qC P w K mg base CX0 4 a.f_p a.fd_p ["stretches"] j7:=by
 have G_N:qC P w K mg base CX0 3 a.f_N a.fd_N ["stretches"] Zi:=Ju T
 refine T.d_p.F.ok sc_spans_of (fun vs H Q E h=>?_) (fun cdv A outer s H vs Q E hr h=>?_)
 · obtain ⟨q,ws,rfl,hrs,few,kk⟩:=h
   rfl
 · obtain ⟨q,ws,rfl,hrs,few,kk⟩:=h
   have hu:=qK hr
   have hU:=hr.units
   have h_N:Room (3) _:=hr.mono (by decide)
   refine ⟨_,(qf (qU (qj G_N h_N rfl T.d_N.m T.d_N.k T.d_N.b .nil ql (qa (pv 0) qb)))
     (qf (qF (i:=1) sc_spans_of.nd rfl (Or.inl rfl) (qN qb))
     (qf (zK PassesOwn.never rfl (ze (qq qbL (by rfl) T.n_sorted QR (qa (Qt rfl (CompOk.def ["stretch"] [none]) (ze (pv 0)) (fun _ _ _ _ _=>(qt (i:=0) (show List.Nodup (["stretch"]:List Str) by decide +kernel) rfl (Or.inl rfl))) (fun _ _ _ _ _=>(qaK (qA qaO (qD (r:=rIx K) qr (pv 0) qc (fun _ _=>rfl)) (qD (r:=rIx K) qr (pv 0) qc (fun _ _=>rfl)) (qG _)))) (fun _ _ _ _ _=>(pv 0))) qb))) (QU rfl (qz (qt (i:=2) (sc_spans_of.nd) rfl (Or.inl rfl)) (qz (qt (i:=3) (sc_spans_of.nd) rfl (Or.inl rfl)) zZ)))
       (qg (qO (PW.pt (qcS (qgp (pv 1) (fun _=>rfl)) (qb2 (qA qaO (pv 2) (qw Zu (qD (r:=rIx K) qr (qD (r:=rIx K) qr (pv 1) (ZQ Qq qc) (fun _ _=>rfl)) qc (fun _ _=>rfl)) qc) (qG _)))))
         (qg (Jq (zC (qa (qD (r:=rIx K) qr (qD (r:=rIx K) qr (pv 1) (ZQ Qq qc) (fun _ _=>rfl)) qc (fun _ _=>rfl)) (qa (qq (Qw rfl) (by rfl) T.n_max Qx (qa (qD (r:=rIx K) qr (qD (r:=rIx K) qr (pv 1) (ZQ Qq qc) (fun _ _=>rfl)) qc (fun _ _=>rfl)) (qa (pv 3) qb))) qb))) (qbx (pv 1) (ZQ Qq qc) jy)))
         (qg (qU (Ja PySem.F.plainAttrs_list PySem.F.slot_list_append PySem.F.type_list_append zn (pv 1) (qa (zC (qa (pv 2) (qa (pv 3) qb))) qb)))))))
     (qg (qu (pv 1)))))),?_⟩
   try dsimp only [zx,Cx.nox]
   refine ⟨_,rfl,q,ws,rfl,hrs,fun G0 S0=>?_⟩
   refine ⟨qk (Nat.le_of_ble_eq_true rfl),fun D fD=>?_⟩
   have SD:=Same.new (.lst []) fD
   have hD0:(upd G0 D (.lst [])) D=some (.lst []):=qd
   obtain ⟨zs,hq,tp⟩:=(hrs.same S0).same SD
   try unfold zm
   try dsimp only
   generalize upd G0 D (.lst [])=G at SD hD0 hq tp ⊢
   have hl:zs.length=ws.length:=tp.1
   refine ⟨_,rfl,q,rfl,⟨_,SqL.of hq⟩,fun C fC=>?_⟩
   refine z9 (K:=K) (a:=q) (xs:=zs) (D:=C) (fun i σ H2=>∃ (c0:Option V) (cs:List V),σ=[c0]∧Same G H2∧H2 C=some (.lst cs)∧TupL pr H2 cs ((ws.take i).filter okw)) ⟨none,[],rfl,Same.new _ fC,qd,.nil⟩ (fun i σ H2 _ ⟨_,_,_,S,_⟩=>SqL.of (S _ _ hq)) ?_ ?_
   · rintro i z σ H2 hz ⟨c0,cs,rfl,S,hC,tc⟩
     obtain ⟨r,t,hr',rfl,ht⟩:=tp.of hz
     have ht2:=S _ _ ht
     have et:ws.take (i+1)=ws.take i++[r]:=by rw [List.take_add_one,hr']; rfl
     have lc:cs.length≤64:=by
       rw [tc.1]
       refine Nat.le_trans (List.length_filter_le _ _) ?_
       rw [List.length_take]; omega
     refine ⟨_,rfl,.inr (.inl ⟨t,_,_,_,rfl,rfl,SqT.of ht2,rfl,_,rfl,.inr (.inl ⟨t,_,_,_,rfl,rfl,SqT.of ht2,rfl,_,_,rfl,rfl,_,rfl,Zh (fun g=>?_) (fun g=>?_)⟩)⟩)⟩
     · refine ⟨_,rfl,_,hC,qE (by omega),_,cs++[.ref t],rfl,S.put fC _,qd,?_⟩
       rw [et,List.filter_append,show List.filter okw [r]=[r] by simp [okw,g]]
       exact (tc.snoc (p:=r) ht2).put hC
     · refine ⟨_,cs,rfl,S,hC,?_⟩
       rw [et,List.filter_append,show List.filter okw [r]=[] by simp [okw,g],List.append_nil]
       exact tc
   rintro σ H2 ⟨c0,cs,rfl,S,hC,tc⟩
   rw [hl,List.take_length] at tc
   have okf:∀ w∈ws.filter okw,w.1≤w.2:=fun w hw=>of_decide_eq_true (List.mem_filter.mp hw).2
   have lf:(ws.filter okw).length≤ws.length:=List.length_filter_le _ _
   have mok:=qhd ws
   generalize ws.filter okw=fs at tc okf lf mok
   refine ⟨C,cs,fs.map g2,2,rfl,SqL.of hC,qeZ tc,(fun r hr=>by obtain ⟨w,_,rfl⟩:=List.mem_map.mp hr; rfl),(by decide),(by rw [tc.1]; omega),fun p zs' rs' fp hp tI ho=>?_⟩
   obtain ⟨ss,rfl,hss⟩:=qd2 hp
   have ord:=qhb ho
   have oks:∀ w∈ss,w.1≤w.2:=fun w m=>okf w (hss.mem_iff.mp m)
   have lss:ss.length≤ws.length:=by rw [hss.length_eq]; exact lf
   have tz0:TupL pr H2 zs' ss:=qfx tI
   have Sp:=Same.new (.lst zs') fp
   have tz:=tz0.same Sp
   have hp1:(upd H2 p (.lst zs')) p=some (.lst zs'):=qd
   have hD1:=Sp _ _ (S _ _ hD0)
   have npD:p≠D:=fun e=>by rw [e,S _ _ hD0] at fp; cases fp
   have SG:=SD.trans (S.trans Sp)
   try dsimp only
   generalize upd H2 p (.lst zs')=G1 at tz hp1 hD1 SG ⊢
   refine ⟨p,rfl,⟨_,SqL.of hp1⟩,Qa (D:={ nx:=qgb (qhy 1) { nx:=fun _ H'=>Q .non H',rt:=Q },rt:=Q }) (K:=K) (a:=p) (xs:=zs') (fun i σ H3=>∃ (s2 s3:Option V) (ys:List V),σ=[some (.ref q),some (.ref D),s2,s3]∧But D G1 H3∧H3 D=some (.lst ys)∧TupL pr H3 ys ((ss.take i).foldl qan [])) ⟨none,none,[],rfl,(fun c o e _=>e),hD1,.nil⟩ (fun i σ H3 _ ⟨_,_,_,_,B,_⟩=>SqL.of (B _ _ hp1 npD)) ?_ ?_⟩
   · rintro i z σ H3 hz ⟨s2,s3,ys,rfl,B,hD,ty⟩
     obtain ⟨wv,t,hw,rfl,ht⟩:=tz.of hz
     have ntD:t≠D:=qJ ht hD1 (by intro z; cases z)
     have ht3:=B _ _ ht ntD
     have okv:=oks wv (List.mem_of_getElem? hw)
     have ly:ys.length≤64:=by
       have:=ju ss i
       have lti:i < ss.length:=(List.getElem?_eq_some_iff.mp hw).1
       rw [ty.1]; omega
     refine ⟨t,_,rfl,SqT.of ht3,rfl,_,_,rfl,_,_,rfl,rfl,?_⟩
     rw [qec hw]
     generalize (ss.take i).foldl qan []=acc at ty ⊢
     cases ea:acc.getLast? with
     | none =>
       have e0:acc=[]:=List.getLast?_eq_none_iff.mp ea
       subst e0
       have ey:ys=[]:=List.eq_nil_of_length_eq_zero ty.1
       subst ey
       refine ⟨_,rfl,false,.inl ⟨_,SqL.of hD,rfl⟩,qcr (qcr ?_)⟩
       refine ⟨_,rfl,.inl ⟨rfl,_,SqL.of hD⟩,_,rfl,_,rfl,qk (Nat.le_of_ble_eq_true rfl),fun tt ft=>?_⟩
       have St:=Same.new (.tup [.int wv.1,.int wv.2]) ft
       refine ⟨D,_,_,rfl,rfl,St _ _ hD,qE (by omega),?_⟩
       refine ⟨_,_,[]++[.ref tt],rfl,(fun c o e n=>?_),qd,?_⟩
       · rw [qh n]; exact St _ _ (B c o e n)
       · exact ((TupL.nil (f:=pr)).snoc (p:=wv) qd).put (St _ _ hD)
     | some l =>
       obtain ⟨tl,hzl,htl⟩:=TupL.last ty ea
       have ey:true=!ys.isEmpty:=by
         cases ys with
         | nil=>cases hzl
         | cons y ys=>rfl
       refine ⟨_,rfl,true,.inl ⟨_,SqL.of hD,ey⟩,qeJ ?_⟩
       refine ⟨_,rfl,_,rfl,_,rfl,.inl ⟨D,_,_,_,rfl,rfl,SqL.of hD,Zp hzl,.inr (.inl ⟨tl,_,_,_,rfl,rfl,SqT.of htl,rfl,.inl ⟨_,_,rfl,rfl,_,_,rfl,rfl,_,rfl,Zh (fun g=>?_) (fun g=>?_)⟩⟩)⟩⟩
       · have g':wv.1≤l.2+1:=g
         refine ⟨_,rfl,_,rfl,.inl ⟨D,_,_,_,rfl,rfl,SqL.of hD,Zp hzl,.inr (.inl ⟨tl,_,_,_,rfl,rfl,SqT.of htl,rfl,_,rfl,_,rfl,.inl ⟨D,_,_,_,rfl,rfl,SqL.of hD,Zp hzl,.inr (.inl ⟨tl,_,_,_,rfl,rfl,SqT.of htl,rfl,_,rfl,_,_,rfl,qk (Nat.le_of_ble_eq_true rfl),fun tt ft=>?_⟩)⟩⟩)⟩⟩
         have St:=Same.new (.tup [.int l.1,.int (if wv.2 > l.2 then wv.2 else l.2)]) ft
         refine ⟨_,rfl,_,rfl,D,_,_,ys.length - 1,rfl,rfl,St _ _ hD,qaq (by cases ys with | nil=>cases hzl | cons y ys=>simp),?_⟩
         refine ⟨_,_,ys.set (ys.length - 1) (.ref tt),rfl,(fun c o e n=>?_),qd,?_⟩
         · rw [qh n]; exact St _ _ (B c o e n)
         · rw [qdb ea g',← ty.1]
           exact (TupL.set (ty.same St) (i:=ys.length - 1) (p:=(l.1,if wv.2 > l.2 then wv.2 else l.2)) qd).put (St _ _ hD)
       · have g':¬ wv.1≤l.2+1:=g
         refine ⟨_,rfl,.inl ⟨rfl,_,SqL.of hD⟩,_,rfl,_,rfl,qk (Nat.le_of_ble_eq_true rfl),fun tt ft=>?_⟩
         have St:=Same.new (.tup [.int wv.1,.int wv.2]) ft
         refine ⟨D,_,_,rfl,rfl,St _ _ hD,qE (by omega),?_⟩
         refine ⟨_,_,ys++[.ref tt],rfl,(fun c o e n=>?_),qd,?_⟩
         · rw [qh n]; exact St _ _ (B c o e n)
         · rw [qeb ea g']
           exact ((ty.same St).snoc (p:=wv) qd).put (St _ _ hD)
   · rintro σ H3 ⟨s2,s3,ys,rfl,B,hD,ty⟩
     have glen:=ju ss ss.length
     rw [tz.1] at ty
     rw [List.take_length] at ty glen
     obtain ⟨f1,f2⟩:=qdC ss [] ⟨fun _ z=>(nomatch z),List.Pairwise.nil⟩ oks ord fun _ z=>nomatch z
     refine ⟨_,rfl,kk D _ H3 (S0.none fD) (fun c o e=>?_) ⟨ys,hD,ty⟩ f1 (by omega) fun n=>?_⟩
     · have n:c≠D:=qi (S0 _ _ e) fD
       exact B _ _ (SG _ _ (S0 _ _ e)) n
     · rw [f2,qd7 hss,mok]
       exact ⟨fun h=>h.elim (fun ⟨_,z,_⟩=>nomatch z) id,.inr⟩
end
end K35
namespace K35
open PySem L2 PySem.NumText PyProof.Rows KC M04
section
variable {P:Program} {w:World} {K:PySem.W.Frag} {mg:Str->Option Value} {base:Heap}
end
abbrev rD (r:Int×Int):PyData:=.tuple [.int r.1,.int r.2]
theorem qfg {H:Hp}:∀ {rows:List (Int×Int)} {zs:List V},TupL pr H zs rows->DVs H zs (rows.map rD)∧PyData.canLayAll0 (rows.map rD)=true∧PyData.depthAll (rows.map rD)≤2
 | [],zs,h=>by
   have:zs=[]:=List.eq_nil_of_length_eq_zero h.1
   subst this
   exact ⟨.nil,rfl,by simp [PyData.depthAll]⟩
 | r::rows,zs,h=>by
   cases zs with
   | nil=>have:=h.1; simp at this
   | cons z zs =>
     obtain ⟨t,rfl,ht⟩:=h.2 0 z r rfl rfl
     obtain ⟨h1,h2,h3⟩:=qfg (rows:=rows) (zs:=zs) ⟨by have:=h.1; simpa using this,fun i z p e1 e2=>h.2 (i+1) z p (by simpa using e1) (by simpa using e2)⟩
     refine ⟨.cons (.tup (.inl ht) (.cons (.int _) (.cons (.int _) .nil))) h1,?_,?_⟩
     · rw [List.map_cons]
       simp only [PyData.canLayAll0,PyData.canLay0,h2]
       rfl
     · rw [List.map_cons]
       simp only [PyData.depthAll,PyData.depth]
       omega
theorem qhI {rows:List (Int×Int)} (h1:PyData.canLayAll0 (rows.map rD)=true) (h2:PyData.depthAll (rows.map rD)≤2):PyData.canLay0 (.list (rows.map rD))=true∧SeqAt.shaped (.list (rows.map rD))=true:=by
 have cl:PyData.canLay0 (.list (rows.map rD))=true:=by simp only [PyData.canLay0,h1]
 refine ⟨cl,?_⟩
 unfold SeqAt.shaped
 rw [cl,Bool.true_and]
 refine decide_eq_true ?_
 simp only [PyData.depth]
 omega
theorem qiy {H:Hp} {a b:Addr} {ws:List (Int×Int)} {Q:VK} (h1:Rs H a ws) (h2:H b=some (.lst [])) (q:Q (.bl (!ws.isEmpty)) H):qiU (.ref a) (.ref b) H Q:=by
 obtain ⟨zs,ha,ta⟩:=h1
 obtain ⟨d1,d2,d3⟩:=qfg ta
 obtain ⟨cl,sh⟩:=qhI d2 d3
 refine .inr ⟨_,_,.lst (.inl ha) d1,.lst (.inl h2) .nil,sh,rfl,?_⟩
 cases ws with
 | nil=>exact q
 | cons w ws=>exact q
abbrev jf (ss:List (Int×Int)) (i:Nat):List (Int×Int):=((ss.take i).filter okw).foldl qan []
theorem qiD {ss:List (Int×Int)} {i:Nat} {w:Int×Int} (h:ss[i]?=some w) (g:w.1≤w.2):jf ss (i+1)=qan (jf ss i) w:=by
 unfold jf
 rw [List.take_add_one,h,List.filter_append,List.foldl_append]
 show List.foldl qan _ (List.filter okw [w])=_
 rw [show List.filter okw [w]=[w] by simp [g]]; rfl
theorem qje {ss:List (Int×Int)} {i:Nat} {w:Int×Int} (h:ss[i]?=some w) (g:¬ w.1≤w.2):jf ss (i+1)=jf ss i:=by
 unfold jf
 rw [List.take_add_one,h,List.filter_append,List.foldl_append]
 show List.foldl qan _ (List.filter okw [w])=_
 rw [show List.filter okw [w]=[] by simp [g]]; rfl
theorem qhf (ss:List (Int×Int)) (i:Nat):(jf ss i).length≤ss.length:=by
 have:=ju ((ss.take i).filter okw) ((ss.take i).filter okw).length
 rw [List.take_length] at this
 refine Nat.le_trans this (Nat.le_trans (List.length_filter_le _ _) (List.length_take_le' _ _))
inductive J7 (vs:List V) (H:Hp) (Q:VK):Prop
 | mk (q:Addr) (ws:List (Int×Int)) (h1:vs=[.ref q]) (h2:Rs H q ws) (h3:ws.length < 64) (h4:∀ (d:Addr) (r:List (Int×Int)) (H':Hp),H d=none->Same H H'->Rs H' d r->Zt r->r.length≤ws.length->(∀ n,Mem r n↔Mem ws n)->Q (.ref d) H'):J7 vs H Q
def JE:Sp:=fun vs H Q _=>J7 vs H Q
section
variable {P:Program} {w:World} {K:PySem.W.Frag} {mg:Str->Option Value} {base:Heap}
theorem qbC {a:Ad} (T:Txt K mg a):qC P w K mg base CX0 1 a.f_v a.fd_v ["_law_stretches"] JE:=by
 refine T.d_v.F.ok sc_Ljoined (fun vs H Q E h=>?_) (fun cdv A outer s H vs Q E hr h=>?_)
 · obtain ⟨q,ws,rfl,hrs,few,kk⟩:=h
   rfl
 · obtain ⟨q,ws,rfl,hrs,few,kk⟩:=h
   have hu:=qK hr
   have hU:=hr.units
   refine ⟨_,(qf (qF (i:=1) sc_Ljoined.nd rfl (Or.inl rfl) (qN qb))
     (qf (zK PassesOwn.never rfl (ze (qq qbL (by rfl) T.n_sorted QR (qa (pv 0) qb))) (QU rfl (qz (qt (i:=2) (sc_Ljoined.nd) rfl (Or.inl rfl)) (qz (qt (i:=3) (sc_Ljoined.nd) rfl (Or.inl rfl)) zZ)))
       (qg (qO (PW.pt (qcS (qA qaO (pv 2) (pv 3) (qG _)) (qcS (qA (uNe hU) (pv 1) (qN qb) (qG _)) (qb2 (qA qaO (pv 2) (qw Zu (qD (r:=rIx K) qr (qD (r:=rIx K) qr (pv 1) (ZQ Qq qc) (fun _ _=>rfl)) qc (fun _ _=>rfl)) qc) (qG _))))))
         (qg (Jq (zC (qa (qD (r:=rIx K) qr (qD (r:=rIx K) qr (pv 1) (ZQ Qq qc) (fun _ _=>rfl)) qc (fun _ _=>rfl)) (qa (qq (Qw rfl) (by rfl) T.n_max Qx (qa (qD (r:=rIx K) qr (qD (r:=rIx K) qr (pv 1) (ZQ Qq qc) (fun _ _=>rfl)) qc (fun _ _=>rfl)) (qa (pv 3) qb))) qb))) (qbx (pv 1) (ZQ Qq qc) jy)))
         (qg (qO (qA qaO (pv 2) (pv 3) (qG _))
           (qg (qU (Ja PySem.F.plainAttrs_list PySem.F.slot_list_append PySem.F.type_list_append zn (pv 1) (qa (zC (qa (pv 2) (qa (pv 3) qb))) qb))))
           qv)))))
     (qg (qu (pv 1))))),?_⟩
   try dsimp only [zx,Cx.nox]
   refine ⟨qk (Nat.le_of_ble_eq_true rfl),fun D fD=>?_⟩
   have SD:=Same.new (.lst []) fD
   have hD0:(upd H D (.lst [])) D=some (.lst []):=qd
   obtain ⟨zs,hq,tp⟩:=hrs.same SD
   try unfold zm
   try dsimp only
   generalize upd H D (.lst [])=G at SD hD0 hq tp ⊢
   have hl:zs.length=ws.length:=tp.1
   refine ⟨_,rfl,q,zs,ws.map g2,2,rfl,SqL.of hq,qeZ tp,(fun r hr=>by obtain ⟨w,_,rfl⟩:=List.mem_map.mp hr; rfl),(by decide),(by omega),fun p zs' rs' fp hp tI ho=>?_⟩
   obtain ⟨ss,rfl,hss⟩:=qd2 hp
   have ord:=qhb ho
   have lss:ss.length=ws.length:=hss.length_eq
   have tz0:TupL pr G zs' ss:=qfx tI
   have Sp:=Same.new (.lst zs') fp
   have tz:=tz0.same Sp
   have hp1:(upd G p (.lst zs')) p=some (.lst zs'):=qd
   have hD1:=Sp _ _ hD0
   have npD:p≠D:=fun e=>by rw [e,hD0] at fp; cases fp
   have SG:=SD.trans Sp
   try dsimp only
   generalize upd G p (.lst zs')=G1 at tz hp1 hD1 SG ⊢
   refine ⟨p,rfl,⟨_,SqL.of hp1⟩,Qa (D:={ nx:=qgb (qhy 1) { nx:=fun _ H'=>Q .non H',rt:=Q },rt:=Q }) (K:=K) (a:=p) (xs:=zs') (fun i σ H3=>∃ (s2 s3:Option V) (ys:List V),σ=[some (.ref q),some (.ref D),s2,s3]∧But D G1 H3∧H3 D=some (.lst ys)∧TupL pr H3 ys (jf ss i)) ⟨none,none,[],rfl,(fun c o e _=>e),hD1,.nil⟩ (fun i σ H3 _ ⟨_,_,_,_,B,_⟩=>SqL.of (B _ _ hp1 npD)) ?_ ?_⟩
   · rintro i z σ H3 hz ⟨s2,s3,ys,rfl,B,hD,ty⟩
     obtain ⟨wv,t,hw,rfl,ht⟩:=tz.of hz
     have ntD:t≠D:=qJ ht hD1 (by intro z; cases z)
     have ht3:=B _ _ ht ntD
     have ly:ys.length≤64:=by
       have:=qhf ss i
       rw [ty.1]; omega
     refine ⟨t,_,rfl,SqT.of ht3,rfl,_,_,rfl,_,_,rfl,rfl,?_⟩
     refine ⟨_,rfl,_,rfl,_,_,rfl,rfl,_,rfl,Zh (fun g=>?_) (fun g=>qcr ?_)⟩
     · have g0:wv.1≤wv.2:=g
       rw [qiD hw g0]
       generalize jf ss i=acc at ty ⊢
       refine ⟨_,rfl,qk (Nat.le_of_ble_eq_true rfl),fun nl fnl=>?_⟩
       have Sn:=Same.new (.lst []) fnl
       have B1:But D G1 (upd H3 nl (.lst [])):=B.same Sn
       have hD2:=Sn _ _ hD
       have ty2:=ty.same Sn
       have enl:(upd H3 nl (.lst [])) nl=some (.lst []):=qd
       try dsimp only
       generalize upd H3 nl (.lst [])=H4 at B1 hD2 ty2 enl ⊢
       refine qiy (ws:=acc) ⟨ys,hD2,ty2⟩ enl ?_
       cases ea:acc.getLast? with
       | none =>
         have e0:acc=[]:=List.getLast?_eq_none_iff.mp ea
         subst e0
         have ey:ys=[]:=List.eq_nil_of_length_eq_zero ty.1
         subst ey
         refine ⟨_,rfl,qcr (qcr ?_)⟩
         refine ⟨_,rfl,_,rfl,_,_,rfl,rfl,_,rfl,Zh (fun _=>?_) (fun g2=>absurd g g2)⟩
         refine ⟨_,rfl,.inl ⟨rfl,_,SqL.of hD2⟩,_,rfl,_,rfl,qk (Nat.le_of_ble_eq_true rfl),fun tt ft=>?_⟩
         have St:=Same.new (.tup [.int wv.1,.int wv.2]) ft
         refine ⟨D,_,_,rfl,rfl,St _ _ hD2,qE (by omega),?_⟩
         refine ⟨_,_,[]++[.ref tt],rfl,(fun c o e n=>?_),qd,?_⟩
         · rw [qh n]; exact St _ _ (B1 c o e n)
         · exact ((TupL.nil (f:=pr)).snoc (p:=wv) qd).put (St _ _ hD2)
       | some l =>
         obtain ⟨tl,hzl,htl⟩:=TupL.last ty2 ea
         have ie:(!acc.isEmpty)=true:=by
           cases acc with
           | nil=>cases ea
           | cons y ys=>rfl
         rw [ie]
         refine ⟨_,rfl,qeJ ?_⟩
         refine ⟨_,rfl,_,rfl,_,rfl,.inl ⟨D,_,_,_,rfl,rfl,SqL.of hD2,Zp hzl,.inr (.inl ⟨tl,_,_,_,rfl,rfl,SqT.of htl,rfl,.inl ⟨_,_,rfl,rfl,_,_,rfl,rfl,_,rfl,Zh (fun g=>?_) (fun g=>?_)⟩⟩)⟩⟩
         · have g':wv.1≤l.2+1:=g
           refine ⟨_,rfl,_,rfl,.inl ⟨D,_,_,_,rfl,rfl,SqL.of hD2,Zp hzl,.inr (.inl ⟨tl,_,_,_,rfl,rfl,SqT.of htl,rfl,_,rfl,_,rfl,.inl ⟨D,_,_,_,rfl,rfl,SqL.of hD2,Zp hzl,.inr (.inl ⟨tl,_,_,_,rfl,rfl,SqT.of htl,rfl,_,rfl,_,_,rfl,qk (Nat.le_of_ble_eq_true rfl),fun tt ft=>?_⟩)⟩⟩)⟩⟩
           have St:=Same.new (.tup [.int l.1,.int (if wv.2 > l.2 then wv.2 else l.2)]) ft
           refine ⟨_,rfl,_,rfl,D,_,_,ys.length - 1,rfl,rfl,St _ _ hD2,qaq (by cases ys with | nil=>cases hzl | cons y ys=>simp),?_⟩
           refine ⟨_,_,ys.set (ys.length - 1) (.ref tt),rfl,(fun c o e n=>?_),qd,?_⟩
           · rw [qh n]; exact St _ _ (B1 c o e n)
           · rw [qdb ea g',← ty2.1]
             exact (TupL.set (ty2.same St) (i:=ys.length - 1) (p:=(l.1,if wv.2 > l.2 then wv.2 else l.2)) qd).put (St _ _ hD2)
         · have g':¬ wv.1≤l.2+1:=g
           refine ⟨_,rfl,_,rfl,_,_,rfl,rfl,_,rfl,Zh (fun _=>?_) (fun g2=>absurd g0 g2)⟩
           refine ⟨_,rfl,.inl ⟨rfl,_,SqL.of hD2⟩,_,rfl,_,rfl,qk (Nat.le_of_ble_eq_true rfl),fun tt ft=>?_⟩
           have St:=Same.new (.tup [.int wv.1,.int wv.2]) ft
           refine ⟨D,_,_,rfl,rfl,St _ _ hD2,qE (by omega),?_⟩
           refine ⟨_,_,ys++[.ref tt],rfl,(fun c o e n=>?_),qd,?_⟩
           · rw [qh n]; exact St _ _ (B1 c o e n)
           · rw [qeb ea g']
             exact ((ty2.same St).snoc (p:=wv) qd).put (St _ _ hD2)
     · have g0:¬ wv.1≤wv.2:=g
       rw [qje hw g0]
       refine ⟨_,rfl,_,rfl,_,_,rfl,rfl,_,rfl,Zh (fun g2=>absurd g2 g) (fun _=>?_)⟩
       exact ⟨_,_,ys,rfl,B,hD,ty⟩
   · rintro σ H3 ⟨s2,s3,ys,rfl,B,hD,ty⟩
     rw [tz.1] at ty
     unfold jf at ty
     rw [List.take_length] at ty
     have oks:∀ w∈ss.filter okw,w.1≤w.2:=fun w hw=>of_decide_eq_true (List.mem_filter.mp hw).2
     obtain ⟨f1,f2⟩:=qdC (ss.filter okw) [] ⟨fun _ z=>(nomatch z),List.Pairwise.nil⟩ oks (ord.filter _) fun _ z=>nomatch z
     have glen:=qhf ss ss.length
     unfold jf at glen
     rw [List.take_length] at glen
     refine ⟨_,rfl,kk D _ H3 fD (fun c o e=>?_) ⟨ys,hD,ty⟩ f1 (by omega) fun n=>?_⟩
     · have n:c≠D:=qi e fD
       exact B _ _ (SG _ _ e) n
     · rw [f2,qhd,qd7 hss]
       exact ⟨fun h=>h.elim (fun ⟨_,z,_⟩=>nomatch z) id,.inr⟩
end
end K35
namespace K35
open PySem L2 PySem.NumText PyProof.Rows KC M04
section
variable {P:Program} {w:World} {K:PySem.W.Frag} {mg:Str->Option Value} {base:Heap}
end
abbrev pr3:Int×Int×Int->List V:=fun p=>[.int p.1,.int p.2.1,.int p.2.2]
def qeN (rows:List (Int×Int)):List Int:=(rows.drop 1).map (fun r=>r.1 - 1)++[1000000000]
def nxt:List (Int×Int)->Int
 | []=>1000000000
 | r::_=>r.1 - 1
def pcs:List (Int×Int)->List (Int×Int×Int)
 | []=>[]
 | r::rs=>(r.1,nxt rs,r.2)::pcs rs
theorem jo:∀ rows:List (Int×Int),(pcs rows).length=rows.length
 | []=>rfl
 | r::rs=>by show (pcs rs).length+1=rs.length+1; rw [jo rs]
theorem qed {rows:List (Int×Int)} (h:0 < rows.length):(qeN rows).length=rows.length:=by
 unfold qeN
 rw [List.length_append,List.length_map,List.length_drop]
 show rows.length - 1+1=rows.length
 omega
theorem qdd (r r':Int×Int) (rs:List (Int×Int)):qeN (r::r'::rs)=(r'.1 - 1)::qeN (r'::rs):=rfl
theorem qfn:∀ (rows:List (Int×Int)) (i:Nat) (r:Int×Int) (e:Int),rows[i]?=some r->(qeN rows)[i]?=some e->(pcs rows)[i]?=some (r.1,e,r.2)
 | [],i,r,e,h,_=>by simp at h
 | [r0],i,r,e,h,h'=>by
   cases i with
   | zero=>cases h; cases h'; rfl
   | succ i=>simp at h
 | r0::r1::rs,i,r,e,h,h'=>by
   cases i with
   | zero =>
     cases h
     rw [qdd] at h'
     cases h'
     rfl
   | succ i =>
     rw [qdd] at h'
     exact qfn (r1::rs) i r e h h'
theorem qjO (zs:List V) (h:0 < zs.length):qgc zs (some 1) none=zs.drop 1:=by
 unfold qgc
 rw [show HT.sIx zs.length 0 (some 1)=min 1 zs.length from HT.sIx_nat _ _ 1,HT.sIx_none,Nat.min_eq_left h]
 rw [List.take_of_length_le (by rw [List.length_drop]; exact Nat.le_refl _)]
theorem QY {rows:List (Int×Int)} (h:Good rows):0 < rows.length:=by
 obtain ⟨n,hn⟩:=h.fst
 cases rows with
 | nil=>cases hn
 | cons r rs=>exact Nat.succ_pos _
inductive J2 (vs:List V) (H:Hp) (Q:VK):Prop
 | mk (q:Addr) (rows:List (Int×Int)) (h1:vs=[.ref q]) (h2:Rs H q rows) (h3:Good rows) (h4:∀ (d:Addr) (zs:List V) (H':Hp),H d=none->Same H H'->H' d=some (.lst zs)->TupL pr3 H' zs (pcs rows)->Q (.ref d) H'):J2 vs H Q
def JD:Sp:=fun vs H Q _=>J2 vs H Q
section
variable {P:Program} {w:World} {K:PySem.W.Frag} {mg:Str->Option Value} {base:Heap}
theorem qbB {a:Ad} (T:Txt K mg a):qC P w K mg base CX0 1 a.f_u a.fd_u ["_law_rows_here"] JD:=by
 refine T.d_u.F.ok sc_Lpieces (fun vs H Q E h=>?_) (fun cdv A outer s H vs Q E hr h=>?_)
 · obtain ⟨k,rows,rfl,⟨zs,hk,tp⟩,good,kk⟩:=h
   rfl
 · obtain ⟨k,rows,rfl,⟨zs,hk,tp⟩,good,kk⟩:=h
   have hu:=qK hr
   have hU:=hr.units
   refine ⟨_,(qf (qF (i:=1) sc_Lpieces.nd rfl (Or.inl rfl) (qw Zu (Qt rfl (CompOk.def ["_law_row"] [none]) (ze (jG uSl (pv 0) (j9 qc) qaM)) (fun _ _ _ _ _=>(qt (i:=0) (show List.Nodup (["_law_row"]:List Str) by decide +kernel) rfl (Or.inl rfl))) (fun _ _ _ _ _=>Zb) (fun _ _ _ _ _=>(qw zY (qD (r:=rIx K) qr (pv 0) qc (fun _ _=>rfl)) qc))) (qN (qa (qw zL qc qc) qb))))
     (qg (qu (Qt rfl (CompOk.def ["_law_row","_law_end"] [none,none]) (qg7 rfl T.n_zip (qa (pv 0) (qa (pv 1) qb))) (fun _ _ _ _ _=>(show PG _ _ (qhk K 2 _) from (QU rfl (qz (qt (i:=0) (show List.Nodup (["_law_row","_law_end"]:List Str) by decide +kernel) rfl (Or.inl rfl)) (qz (qt (i:=1) (show List.Nodup (["_law_row","_law_end"]:List Str) by decide +kernel) rfl (Or.inl rfl)) zZ))))) (fun _ _ _ _ _=>Zb) (fun _ _ _ _ _=>(zC (qa (qD (r:=rIx K) qr (pv 0) qc (fun _ _=>rfl)) (qa (pv 1) (qa (qD (r:=rIx K) qr (pv 0) qc (fun _ _=>rfl)) qb))))))))),?_⟩
   try dsimp only [zx,Cx.nox]
   have hl:zs.length=rows.length:=tp.1
   have pos:=QY good
   have few:=good.few
   refine ⟨_,rfl,_,rfl,.inl ⟨k,_,rfl,SqL.of hk,fun sl fsl=>?_⟩⟩
   rw [qjO zs (by omega)]
   have B1:=Same.new (.lst (zs.drop 1)) fsl
   refine ⟨sl,rfl,⟨_,SqL.of qd⟩,fun D fD=>?_⟩
   have B2:=B1.then (.lst []) fD
   refine z9 (K:=K) (a:=sl) (xs:=zs.drop 1) (D:=D) (fun i σ H2=>∃ c0:Option V,σ=[c0]∧Same (upd H sl (.lst (zs.drop 1))) H2∧H2 D=some (.lst (((rows.drop 1).take i).map fun r=>V.int (r.1 - 1)))) ⟨none,rfl,Same.new _ fD,qd⟩ (fun i σ H2 _ ⟨_,_,S,_⟩=>SqL.of (S _ _ qd)) ?_ ?_
   · rintro i z σ H2 hz ⟨c0,rfl,S,hD⟩
     have hz':zs[i+1]?=some z:=by rw [List.getElem?_drop] at hz; rw [Nat.add_comm]; exact hz
     have hi:i+1 < rows.length:=by rw [← hl]; exact (List.getElem?_eq_some_iff.mp hz').1
     obtain ⟨r,hr'⟩:∃ r,rows[i+1]?=some r:=⟨_,List.getElem?_eq_getElem hi⟩
     obtain ⟨u,rfl,hu'⟩:=tp.2 (i+1) z r hz' hr'
     have hu2:=S _ _ (B1 _ _ hu')
     have hrd:(rows.drop 1)[i]?=some r:=by rw [List.getElem?_drop,Nat.add_comm]; exact hr'
     have et:(rows.drop 1).take (i+1)=(rows.drop 1).take i++[r]:=by rw [List.take_add_one,hrd]; rfl
     refine ⟨_,rfl,.inr (.inl ⟨u,_,_,_,rfl,rfl,SqT.of hu2,rfl,_,_,rfl,rfl,_,hD,qE ?_,_,rfl,S.put fD _,?_⟩)⟩
     · rw [List.length_map,List.length_take,List.length_drop]; omega
     · rw [qd,et,List.map_append]; rfl
   rintro σ H2 ⟨c0,rfl,S,hD⟩
   rw [List.length_drop,hl,show rows.length - 1=(rows.drop 1).length by rw [List.length_drop],List.take_length] at hD
   refine ⟨_,_,rfl,rfl,⟨by decide,by decide,by decide⟩,qk (Nat.le_of_ble_eq_true rfl),fun l1 fl1=>?_⟩
   rw [show (10:Int) ^ (9:Int).toNat=1000000000 by decide] at *
   have C1:=Same.new (.lst [.int 1000000000]) fl1
   refine .inr (.inl ⟨D,l1,_,_,rfl,rfl,C1 _ _ hD,qd,qE (by rw [List.length_map,List.length_drop]; omega),fun e fe=>?_⟩)
   have he:(upd (upd H2 l1 (.lst [.int 1000000000])) e (.lst (((rows.drop 1).map fun r=>V.int (r.1 - 1))++[.int 1000000000]))) e=some (.lst ((qeN rows).map V.int)):=by
     rw [qd]
     unfold qeN
     rw [List.map_append,List.map_map]
     rfl
   have C2:=Same.new (.lst (((rows.drop 1).map fun r=>V.int (r.1 - 1))++[.int 1000000000])) fe
   have SS:=((B1.trans S).trans C1).trans C2
   try dsimp only
   generalize upd (upd H2 l1 (.lst [.int 1000000000])) e (.lst (((rows.drop 1).map fun r=>V.int (r.1 - 1))++[.int 1000000000]))=G at he SS ⊢
   have hkG:=SS _ _ hk
   have tpG:=tp.same SS
   refine ⟨_,rfl,_,rfl,false,k,e,rfl,⟨_,SqL.of hkG⟩,⟨_,SqL.of he⟩,fun D2 fD2=>?_⟩
   have el:zs.length=((qeN rows).map V.int).length:=by rw [List.length_map,qed pos,hl]
   refine qeh (K:=K) (t:=false) (a:=k) (b:=e) (xs:=zs) (ys:=(qeN rows).map V.int) (D:=D2) (fun i σ H3=>∃ (c0 c1:Option V) (ws:List V),σ=[c0,c1]∧Same G H3∧H3 D2=some (.lst ws)∧TupL pr3 H3 ws ((pcs rows).take i)) el ⟨none,none,[],rfl,Same.new _ fD2,qd,.nil⟩ (fun i σ H3 _ ⟨_,_,_,_,S3,_⟩=>⟨SqL.of (S3 _ _ hkG),SqL.of (S3 _ _ he)⟩) ?_ ?_
   · rintro i z y σ H3 p hz hy ⟨c0,c1,ws,rfl,S3,hD2,tw⟩ fp
     obtain ⟨ey,hey,rfl⟩:=qdA hy
     obtain ⟨r,u,hr',rfl,hu'⟩:=tpG.of hz
     have hpc:=qfn rows i r ey hr' hey
     have P1:=Same.new (.tup [.ref u,.int ey]) fp
     have S4:=S3.trans P1
     have hu2:=S4 _ _ hu'
     have et:(pcs rows).take (i+1)=(pcs rows).take i++[(r.1,ey,r.2)]:=by rw [List.take_add_one,hpc]; rfl
     refine ⟨p,_,rfl,SqT.of qd,rfl,_,_,rfl,_,_,rfl,rfl,?_⟩
     refine ⟨_,rfl,.inr (.inl ⟨u,_,_,_,rfl,rfl,SqT.of hu2,rfl,_,rfl,_,rfl,.inr (.inl ⟨u,_,_,_,rfl,rfl,SqT.of hu2,rfl,qk (Nat.le_of_ble_eq_true rfl),fun tt ft=>?_⟩)⟩)⟩
     have P2:=Same.new (.tup [.int r.1,.int ey,.int r.2]) ft
     have hD3:=P2 _ _ (P1 _ _ hD2)
     have lw:ws.length≤21:=by rw [tw.1,List.length_take,jo]; omega
     refine ⟨_,hD3,qE (by omega),_,_,ws++[.ref tt],rfl,(S4.trans P2).put fD2 _,qd,?_⟩
     rw [et]
     exact (((tw.same P1).same P2).snoc (p:=(r.1,ey,r.2)) qd).put hD3
   · rintro σ H3 ⟨c0,c1,ws,rfl,S3,hD2,tw⟩
     rw [hl,show rows.length=(pcs rows).length by rw [jo],List.take_length] at tw
     exact kk D2 ws H3 (SS.none fD2) (SS.trans S3) hD2 tw
end
end K35
namespace K35
open PySem L2 PySem.NumText PyProof.Rows KC M04
section
variable {P:Program} {w:World} {K:PySem.W.Frag} {mg:Str->Option Value} {base:Heap}
end
def mp (lo hi:Int) (p:Int×Int×Int):Int×Int:=(if lo - p.2.2 > p.1 then lo - p.2.2 else p.1,if hi - p.2.2 < p.2.1 then hi - p.2.2 else p.2.1)
def shw (rows:List (Int×Int)) (lo hi:Int):List (Int×Int):=(pcs rows).map (mp lo hi)
inductive qav (vs:List V) (H:Hp) (Q:VK):Prop
 | mk (q:Addr) (rows:List (Int×Int)) (lo hi:Int) (h1:vs=[.ref q,.int lo,.int hi]) (h2:Rs H q rows) (h3:Good rows) (h4:∀ (d:Addr) (r:List (Int×Int)) (H':Hp),H d=none->Same H H'->Rs H' d r->Zt r->r.length≤21->(∀ n,Mem r n↔Mem (shw rows lo hi) n)->Q (.ref d) H'):qav vs H Q
def qcw:Sp:=fun vs H Q _=>qav vs H Q
section
variable {P:Program} {w:World} {K:PySem.W.Frag} {mg:Str->Option Value} {base:Heap}
theorem qfs {a:Ad} (T:Txt K mg a):qC P w K mg base CX0 2 a.f_W a.fd_W ["_law_rows_here","_law_low","_law_high"] qcw:=by
 have G_v:qC P w K mg base CX0 1 a.f_v a.fd_v ["_law_stretches"] JE:=qbC T
 have G_u:qC P w K mg base CX0 1 a.f_u a.fd_u ["_law_rows_here"] JD:=qbB T
 refine T.d_W.F.ok qfe (fun vs H Q E h=>?_) (fun cdv A outer s H vs Q E hr h=>?_)
 · obtain ⟨q,rows,lo,hi,rfl,hrs,good,kk⟩:=h
   rfl
 · obtain ⟨q,rows,lo,hi,rfl,hrs,good,kk⟩:=h
   have hu:=qK hr
   have hU:=hr.units
   have h_v:Room (1) _:=hr.mono (by decide)
   have h_u:Room (1) _:=hr.mono (by decide)
   refine ⟨_,(qg (qu (qj G_v h_v rfl T.d_v.m T.d_v.k T.d_v.b .nil ql (qa (Qt rfl (CompOk.def ["_law_a","_law_b","_law_shift_here","_law_low","_law_high"] [none,none,none,some 1,some 2]) (ze (qj G_u h_u rfl T.d_u.m T.d_u.k T.d_u.b .nil ql (qa (pv 0) qb))) (fun _ _ _ _ _=>(show PG _ _ (qhk K 3 _) from (QU rfl (qz (qt (i:=0) (show List.Nodup (["_law_a","_law_b","_law_shift_here","_law_low","_law_high"]:List Str) by decide +kernel) rfl (Or.inl rfl)) (qz (qt (i:=1) (show List.Nodup (["_law_a","_law_b","_law_shift_here","_law_low","_law_high"]:List Str) by decide +kernel) rfl (Or.inl rfl)) (qz (qt (i:=2) (show List.Nodup (["_law_a","_law_b","_law_shift_here","_law_low","_law_high"]:List Str) by decide +kernel) rfl (Or.inl rfl)) zZ)))))) (fun _ _ _ _ _=>Zb) (fun _ _ _ _ _=>(zC (qa (qq (Qw rfl) (by rfl) T.n_max Qx (qa (pv 0) (qa (qw zY (pv 3) (pv 2)) qb))) (qa (qq (Ze rfl) (by rfl) T.n_min Zf (qa (pv 1) (qa (qw zY (pv 4) (pv 2)) qb))) qb))))) qb)))),?_⟩
   try dsimp only [zx,Cx.nox]
   have lp:=jo rows
   have few:=good.few
   refine ⟨_,rfl,q,rows,rfl,hrs,good,fun d zs H1 fd S1 hd tz=>⟨d,rfl,⟨_,SqL.of hd⟩,fun C fC=>?_⟩⟩
   refine z9 (K:=K) (a:=d) (xs:=zs) (D:=C) (fun i σ H2=>∃ (c0 c1 c2:Option V) (cs:List V),σ=[c0,c1,c2,some (.int lo),some (.int hi)]∧Same H1 H2∧H2 C=some (.lst cs)∧TupL pr H2 cs (((pcs rows).take i).map (mp lo hi))) ⟨none,none,none,[],rfl,Same.new _ fC,qd,.nil⟩ (fun i σ H2 _ ⟨_,_,_,_,_,S,_⟩=>SqL.of (S _ _ hd)) ?_ ?_
   · rintro i z σ H2 hz ⟨c0,c1,c2,cs,rfl,S,hC,tc⟩
     obtain ⟨r,u,hr',rfl,hu'⟩:=tz.of hz
     have hu2:=S _ _ hu'
     have et:(pcs rows).take (i+1)=(pcs rows).take i++[r]:=by rw [List.take_add_one,hr']; rfl
     have lc:cs.length≤21:=by rw [tc.1,List.length_map,List.length_take]; omega
     refine ⟨u,_,rfl,SqT.of hu2,rfl,_,_,rfl,_,_,rfl,_,_,rfl,rfl,?_⟩
     refine ⟨_,rfl,_,rfl,_,rfl,_,_,rfl,rfl,_,_,rfl,_,rfl,_,rfl,_,rfl,_,_,rfl,rfl,_,_,rfl,qk (Nat.le_of_ble_eq_true rfl),fun tt ft=>?_⟩
     have St:=Same.new (.tup (pr (mp lo hi r))) ft
     have hC2:=St _ _ hC
     refine ⟨_,hC2,qE (by omega),_,_,_,cs++[.ref tt],rfl,(S.trans St).put fC _,qd,?_⟩
     rw [et,List.map_append]
     exact ((tc.same St).snoc (p:=mp lo hi r) qd).put hC2
   rintro σ H2 ⟨c0,c1,c2,cs,rfl,S,hC,tc⟩
   rw [tz.1,List.take_length] at tc
   refine ⟨C,(pcs rows).map (mp lo hi),rfl,⟨cs,hC,tc⟩,(by rw [List.length_map]; omega),fun e r H3 fe S3 R can lr mem=>?_⟩
   rw [List.length_map] at lr
   exact kk e r H3 ((S1.trans S).none fe) ((S1.trans S).trans S3) R can (by omega) mem
end
end K35
namespace K35
open PySem L2 PySem.NumText PyProof.Rows KC M04
section
variable {P:Program} {w:World} {K:PySem.W.Frag} {mg:Str->Option Value} {base:Heap}
end
def qiI (k:Addr):List (Str×V):=qcT "kept" (.ref k) []
theorem Jy (k:Addr):(qiI k).lookup ("kept":Str)=some (.ref k):=by
 unfold qiI
 rw [ZU,if_pos rfl]
theorem qa2 (k:Addr) {m:Str} (h1:¬ m="kept"):(qiI k).lookup m=none:=by
 unfold qiI
 rw [ZU,if_neg h1]
 rfl
inductive qjQ (a:Ad) (H:Hp) (x:Addr) (rows:List (Int×Int)):Prop
 | mk (k dx:Addr) (zs:List V) (h1:H x=some (.ins a.c_Table dx (qiI k))) (h2:H k=some (.lst zs)) (h3:TupL pr H zs rows):qjQ a H x rows
def Tb (a:Ad) (H:Hp) (x:Addr) (rows:List (Int×Int)):Prop:=qjQ a H x rows
inductive Zy (a:Ad) (vs:List V) (H:Hp) (Q:VK):Prop
 | mk (x:Addr) (rows:List (Int×Int)) (h1:vs=[.ref x]) (h2:Tb a H x rows) (h3:Good rows) (h4:∀ (d:Addr) (zs:List V) (H':Hp),H d=none->Same H H'->H' d=some (.lst zs)->TupL pr3 H' zs (pcs rows)->Q (.ref d) H'):Zy a vs H Q
def jd (a:Ad):Sp:=fun vs H Q _=>Zy a vs H Q
inductive zX (a:Ad) (vs:List V) (H:Hp) (Q:VK):Prop
 | mk (x:Addr) (rows:List (Int×Int)) (lo hi:Int) (h1:vs=[.ref x,.int lo,.int hi]) (h2:Tb a H x rows) (h3:Good rows) (h4:(-10000000000≤lo∧lo≤10000000000)) (h5:(-10000000000≤hi∧hi≤10000000000)) (h6:∀ (d:Addr) (r:List (Int×Int)) (H':Hp),H d=none->Same H H'->Rs H' d r->Zt r->r.length≤21->(∀ n,Mem r n↔Mem (shw rows lo hi) n)->Q (.ref d) H'):zX a vs H Q
def Qd (a:Ad):Sp:=fun vs H Q _=>zX a vs H Q
section
variable {P:Program} {w:World} {K:PySem.W.Frag} {mg:Str->Option Value} {base:Heap}
theorem qaR {a:Ad} (T:Txt K mg a):qC P w K mg base CX0 1 a.f_aj a.fd_aj ["self"] (jd a):=by
 refine T.d_aj.F.ok sc_Table_pieces (fun vs H Q E h=>?_) (fun cdv A outer s H vs Q E hr h=>?_)
 · obtain ⟨x,rows,rfl,⟨k,dx,zs,hx,hk,tp⟩,good,kk⟩:=h
   rfl
 · obtain ⟨x,rows,rfl,⟨k,dx,zs,hx,hk,tp⟩,good,kk⟩:=h
   have hu:=qK hr
   have hU:=hr.units
   obtain ⟨t_LAST,c_LAST⟩:=T.g_LAST
   refine ⟨_,(qf (qF (i:=1) sc_Table_pieces.nd rfl (Or.inl rfl) (qw Zu (Qt rfl (CompOk.def ["moment","shift"] [none,none]) (ze (jG uSl (qR (pv 0) rfl) (j9 qc) qaM)) (fun _ _ _ _ _=>(show PG _ _ (qhk K 2 _) from (QU rfl (qz (qt (i:=0) (show List.Nodup (["moment","shift"]:List Str) by decide +kernel) rfl (Or.inl rfl)) (qz (qt (i:=1) (show List.Nodup (["moment","shift"]:List Str) by decide +kernel) rfl (Or.inl rfl)) zZ))))) (fun _ _ _ _ _=>Zb) (fun _ _ _ _ _=>(qw zY (pv 0) qc))) (qN (qa (Qb (v:=.int 1000000000) rfl c_LAST ⟨_,rfl⟩) qb))))
     (qg (qu (Qt rfl (CompOk.def ["row","end"] [none,none]) (qg7 rfl T.n_zip (qa (qR (pv 0) rfl) (qa (pv 1) qb))) (fun _ _ _ _ _=>(show PG _ _ (qhk K 2 _) from (QU rfl (qz (qt (i:=0) (show List.Nodup (["row","end"]:List Str) by decide +kernel) rfl (Or.inl rfl)) (qz (qt (i:=1) (show List.Nodup (["row","end"]:List Str) by decide +kernel) rfl (Or.inl rfl)) zZ))))) (fun _ _ _ _ _=>Zb) (fun _ _ _ _ _=>(zC (qa (qD (r:=rIx K) qr (pv 0) qc (fun _ _=>rfl)) (qa (pv 1) (qa (qD (r:=rIx K) qr (pv 0) qc (fun _ _=>rfl)) qb))))))))),?_⟩
   try dsimp only [zx,Cx.nox]
   have hl:zs.length=rows.length:=tp.1
   have pos:=QY good
   have few:=good.few
   refine ⟨_,rfl,x,_,dx,_,_,rfl,hx,T.cl_Table,T.n_Table_kept,Jy _,_,rfl,.inl ⟨k,_,rfl,SqL.of hk,fun sl fsl=>?_⟩⟩
   rw [qjO zs (by omega)]
   have B1:=Same.new (.lst (zs.drop 1)) fsl
   refine ⟨sl,rfl,⟨_,SqL.of qd⟩,fun D fD=>?_⟩
   have B2:=B1.then (.lst []) fD
   refine z9 (K:=K) (a:=sl) (xs:=zs.drop 1) (D:=D) (fun i σ H2=>∃ c0 c1:Option V,σ=[c0,c1]∧Same (upd H sl (.lst (zs.drop 1))) H2∧H2 D=some (.lst (((rows.drop 1).take i).map fun r=>V.int (r.1 - 1)))) ⟨none,none,rfl,Same.new _ fD,qd⟩ (fun i σ H2 _ ⟨_,_,_,S,_⟩=>SqL.of (S _ _ qd)) ?_ ?_
   · rintro i z σ H2 hz ⟨c0,c1,rfl,S,hD⟩
     have hz':zs[i+1]?=some z:=by rw [List.getElem?_drop] at hz; rw [Nat.add_comm]; exact hz
     have hi:i+1 < rows.length:=by rw [← hl]; exact (List.getElem?_eq_some_iff.mp hz').1
     obtain ⟨r,hr'⟩:∃ r,rows[i+1]?=some r:=⟨_,List.getElem?_eq_getElem hi⟩
     obtain ⟨u,rfl,hu'⟩:=tp.2 (i+1) z r hz' hr'
     have hu2:=S _ _ (B1 _ _ hu')
     have hrd:(rows.drop 1)[i]?=some r:=by rw [List.getElem?_drop,Nat.add_comm]; exact hr'
     have et:(rows.drop 1).take (i+1)=(rows.drop 1).take i++[r]:=by rw [List.take_add_one,hrd]; rfl
     refine ⟨u,_,rfl,SqT.of hu2,rfl,_,_,rfl,_,_,rfl,rfl,?_⟩
     refine ⟨_,rfl,_,_,rfl,rfl,_,hD,qE ?_,_,_,rfl,S.put fD _,?_⟩
     · rw [List.length_map,List.length_take,List.length_drop]; omega
     · rw [qd,et,List.map_append]; rfl
   rintro σ H2 ⟨c0,c1,rfl,S,hD⟩
   rw [List.length_drop,hl,show rows.length - 1=(rows.drop 1).length by rw [List.length_drop],List.take_length] at hD
   refine ⟨qk (Nat.le_of_ble_eq_true rfl),fun l1 fl1=>?_⟩
   have C1:=Same.new (.lst [.int 1000000000]) fl1
   refine .inr (.inl ⟨D,l1,_,_,rfl,rfl,C1 _ _ hD,qd,qE (by rw [List.length_map,List.length_drop]; omega),fun e fe=>?_⟩)
   have he:(upd (upd H2 l1 (.lst [.int 1000000000])) e (.lst (((rows.drop 1).map fun r=>V.int (r.1 - 1))++[.int 1000000000]))) e=some (.lst ((qeN rows).map V.int)):=by
     rw [qd]
     unfold qeN
     rw [List.map_append,List.map_map]
     rfl
   have C2:=Same.new (.lst (((rows.drop 1).map fun r=>V.int (r.1 - 1))++[.int 1000000000])) fe
   have SS:=((B1.trans S).trans C1).trans C2
   try dsimp only
   generalize upd (upd H2 l1 (.lst [.int 1000000000])) e (.lst (((rows.drop 1).map fun r=>V.int (r.1 - 1))++[.int 1000000000]))=G at he SS ⊢
   have hkG:=SS _ _ hk
   have tpG:=tp.same SS
   refine ⟨_,rfl,x,_,dx,_,_,rfl,(SS _ _ hx),T.cl_Table,T.n_Table_kept,Jy _,_,rfl,false,k,e,rfl,⟨_,SqL.of hkG⟩,⟨_,SqL.of he⟩,fun D2 fD2=>?_⟩
   have el:zs.length=((qeN rows).map V.int).length:=by rw [List.length_map,qed pos,hl]
   refine qeh (K:=K) (t:=false) (a:=k) (b:=e) (xs:=zs) (ys:=(qeN rows).map V.int) (D:=D2) (fun i σ H3=>∃ (c0 c1:Option V) (ws:List V),σ=[c0,c1]∧Same G H3∧H3 D2=some (.lst ws)∧TupL pr3 H3 ws ((pcs rows).take i)) el ⟨none,none,[],rfl,Same.new _ fD2,qd,.nil⟩ (fun i σ H3 _ ⟨_,_,_,_,S3,_⟩=>⟨SqL.of (S3 _ _ hkG),SqL.of (S3 _ _ he)⟩) ?_ ?_
   · rintro i z y σ H3 p hz hy ⟨c0,c1,ws,rfl,S3,hD2,tw⟩ fp
     obtain ⟨ey,hey,rfl⟩:=qdA hy
     obtain ⟨r,u,hr',rfl,hu'⟩:=tpG.of hz
     have hpc:=qfn rows i r ey hr' hey
     have P1:=Same.new (.tup [.ref u,.int ey]) fp
     have S4:=S3.trans P1
     have hu2:=S4 _ _ hu'
     have et:(pcs rows).take (i+1)=(pcs rows).take i++[(r.1,ey,r.2)]:=by rw [List.take_add_one,hpc]; rfl
     refine ⟨p,_,rfl,SqT.of qd,rfl,_,_,rfl,_,_,rfl,rfl,?_⟩
     refine ⟨_,rfl,.inr (.inl ⟨u,_,_,_,rfl,rfl,SqT.of hu2,rfl,_,rfl,_,rfl,.inr (.inl ⟨u,_,_,_,rfl,rfl,SqT.of hu2,rfl,qk (Nat.le_of_ble_eq_true rfl),fun tt ft=>?_⟩)⟩)⟩
     have P2:=Same.new (.tup [.int r.1,.int ey,.int r.2]) ft
     have hD3:=P2 _ _ (P1 _ _ hD2)
     have lw:ws.length≤21:=by rw [tw.1,List.length_take,jo]; omega
     refine ⟨_,hD3,qE (by omega),_,_,ws++[.ref tt],rfl,(S4.trans P2).put fD2 _,qd,?_⟩
     rw [et]
     exact (((tw.same P1).same P2).snoc (p:=(r.1,ey,r.2)) qd).put hD3
   · rintro σ H3 ⟨c0,c1,ws,rfl,S3,hD2,tw⟩
     rw [hl,show rows.length=(pcs rows).length by rw [jo],List.take_length] at tw
     exact kk D2 ws H3 (SS.none fD2) (SS.trans S3) hD2 tw
theorem ZK {a:Ad} (T:Txt K mg a):qC P w K mg base CX0 5 a.f_am a.fd_am ["self","low","high"] (Qd a):=by
 have G_p:qC P w K mg base CX0 4 a.f_p a.fd_p ["stretches"] j7:=qaP T
 have G_i:qC P w K mg base CX0 3 a.f_i a.fd_i ["thing"] ZN:=Jt T
 have G_aj:qC P w K mg base CX0 1 a.f_aj a.fd_aj ["self"] (jd a):=qaR T
 refine T.d_am.F.ok ZC (fun vs H Q E h=>?_) (fun cdv A outer s H vs Q E hr h=>?_)
 · obtain ⟨x,rows,lo,hi,rfl,tb,good,hlo,hhi,kk⟩:=h
   rfl
 · obtain ⟨x,rows,lo,hi,rfl,tb,good,hlo,hhi,kk⟩:=h
   have hu:=qK hr
   have hU:=hr.units
   have h_p:Room (4) _:=hr.mono (by decide)
   have h_i:Room (3) _:=hr.mono (by decide)
   have h_aj:Room (1) _:=hr.mono (by decide)
   refine ⟨_,(qf (qO (qZ (qY (qj G_i h_i rfl T.d_i.m T.d_i.k T.d_i.b .nil ql (qa (pv 1) qb))))
       (qg qP)
       qv)
     (qf (qO (qZ (qY (qj G_i h_i rfl T.d_i.m T.d_i.k T.d_i.b .nil ql (qa (pv 2) qb))))
       (qg qP)
       qv)
     (qg (qu (qj G_p h_p rfl T.d_p.m T.d_p.k T.d_p.b .nil ql (qa (Qt rfl (CompOk.def ["start","end","shift","low","high"] [none,none,none,some 1,some 2]) (ze (qX (pv 0) T.cl_Table T.d_aj.mt G_aj h_aj T.d_aj.b .nil ql)) (fun _ _ _ _ _=>(show PG _ _ (qhk K 3 _) from (QU rfl (qz (qt (i:=0) (show List.Nodup (["start","end","shift","low","high"]:List Str) by decide +kernel) rfl (Or.inl rfl)) (qz (qt (i:=1) (show List.Nodup (["start","end","shift","low","high"]:List Str) by decide +kernel) rfl (Or.inl rfl)) (qz (qt (i:=2) (show List.Nodup (["start","end","shift","low","high"]:List Str) by decide +kernel) rfl (Or.inl rfl)) zZ)))))) (fun _ _ _ _ _=>Zb) (fun _ _ _ _ _=>(zC (qa (qq (Qw rfl) (by rfl) T.n_max Qx (qa (pv 0) (qa (qw zY (pv 3) (pv 2)) qb))) (qa (qq (Ze rfl) (by rfl) T.n_min Zf (qa (pv 1) (qa (qw zY (pv 4) (pv 2)) qb))) qb))))) qb)))))),?_⟩
   try dsimp only [zx,Cx.nox]
   have lp:=jo rows
   have few:=good.few
   obtain ⟨k0,dx,zs0,hx,hk0,tp0⟩:=id tb
   refine ⟨_,rfl,lo,rfl,hlo.1,hlo.2,true,rfl,zy rfl ?_⟩
   refine ⟨_,rfl,hi,rfl,hhi.1,hhi.2,true,rfl,zy rfl ?_⟩
   refine ⟨_,rfl,x,dx,_,rfl,hx,qa2 _ (by decide),x,rows,rfl,tb,good,fun d zs H1 fd S1 hd tz=>⟨d,rfl,⟨_,SqL.of hd⟩,fun C fC=>?_⟩⟩
   refine z9 (K:=K) (a:=d) (xs:=zs) (D:=C) (fun i σ H2=>∃ (c0 c1 c2:Option V) (cs:List V),σ=[c0,c1,c2,some (.int lo),some (.int hi)]∧Same H1 H2∧H2 C=some (.lst cs)∧TupL pr H2 cs (((pcs rows).take i).map (mp lo hi))) ⟨none,none,none,[],rfl,Same.new _ fC,qd,.nil⟩ (fun i σ H2 _ ⟨_,_,_,_,_,S,_⟩=>SqL.of (S _ _ hd)) ?_ ?_
   · rintro i z σ H2 hz ⟨c0,c1,c2,cs,rfl,S,hC,tc⟩
     obtain ⟨r,u,hr',rfl,hu'⟩:=tz.of hz
     have hu2:=S _ _ hu'
     have et:(pcs rows).take (i+1)=(pcs rows).take i++[r]:=by rw [List.take_add_one,hr']; rfl
     have lc:cs.length≤21:=by rw [tc.1,List.length_map,List.length_take]; omega
     refine ⟨u,_,rfl,SqT.of hu2,rfl,_,_,rfl,_,_,rfl,_,_,rfl,rfl,?_⟩
     refine ⟨_,rfl,_,rfl,_,rfl,_,_,rfl,rfl,_,_,rfl,_,rfl,_,rfl,_,rfl,_,_,rfl,rfl,_,_,rfl,qk (Nat.le_of_ble_eq_true rfl),fun tt ft=>?_⟩
     have St:=Same.new (.tup (pr (mp lo hi r))) ft
     have hC2:=St _ _ hC
     refine ⟨_,hC2,qE (by omega),_,_,_,cs++[.ref tt],rfl,(S.trans St).put fC _,qd,?_⟩
     rw [et,List.map_append]
     exact ((tc.same St).snoc (p:=mp lo hi r) qd).put hC2
   rintro σ H2 ⟨c0,c1,c2,cs,rfl,S,hC,tc⟩
   rw [tz.1,List.take_length] at tc
   refine ⟨C,(pcs rows).map (mp lo hi),rfl,⟨cs,hC,tc⟩,(by rw [List.length_map]; omega),fun e r H3 fe S3 R can lr mem=>?_⟩
   rw [List.length_map] at lr
   exact kk e r H3 ((S1.trans S).none fe) ((S1.trans S).trans S3) R can (by omega) mem
end
end K35
namespace K35
open PySem L2 PySem.NumText PyProof.Rows KC M04
section
variable {P:Program} {w:World} {K:PySem.W.Frag} {mg:Str->Option Value} {base:Heap}
end
abbrev fsW (nm:Str) (lo hi:Int):List (Str×V):=[("name",.str nm),("low",.int lo),("high",.int hi)]
abbrev fsB (nm pl:Str) (lo hi:Int):List (Str×V):=[("name",.str nm),("place",.str pl),("low",.int lo),("high",.int hi)]
inductive Z0 (vs:List V) (H:Hp) (Q:VK):Prop
 | mk (v u:V) (h1:vs=[v,u]) (h2:∀ (d:Addr) (H':Hp),H d=none->Same H H'->Rs H' d [(0,1000000000)]->Q (.ref d) H'):Z0 vs H Q
def QN:Sp:=fun vs H Q _=>Z0 vs H Q
inductive Zw (K:PySem.W.Frag) (vs:List V) (H:Hp) (Q:VK):Prop
 | mk (x C dx:Addr) (nm:Str) (lo hi:Int) (u:V) (h1:vs=[.ref x,u]) (h2:H x=some (.ins C dx (fsW nm lo hi))) (h3:Cls K C) (h4:NoAttr K C "low") (h5:NoAttr K C "high") (h6:∀ (d:Addr) (r:List (Int×Int)) (H':Hp),H d=none->Same H H'->Rs H' d r->Zt r->r.length≤1->(∀ n,Mem r n↔Mem [(lo,hi)] n)->Q (.ref d) H'):Zw K vs H Q
def zM (K:PySem.W.Frag):Sp:=fun vs H Q _=>Zw K vs H Q
inductive Q9 (K:PySem.W.Frag) (vs:List V) (H:Hp) (Q:VK):Prop
 | mk (x C dx:Addr) (nm pl:Str) (lo hi:Int) (h1:vs=[.ref x]) (h2:H x=some (.ins C dx (fsB nm pl lo hi))) (h3:Cls K C) (h4:NoAttr K C "place") (h5:∀ l,H l=none->Q (.ref l) (upd H l (.lst [.str pl]))):Q9 K vs H Q
def qT (K:PySem.W.Frag):Sp:=fun vs H Q _=>Q9 K vs H Q
theorem qfq {H:Hp} {t d:Addr} {w:Int×Int} (h1:H t=some (.tup (pr w))) (h2:H d=some (.lst [.ref t])):Rs H d [w]:=by
 refine ⟨_,h2,rfl,fun j z y e1 e2=>?_⟩
 cases j with
 | zero=>cases e1; cases e2; exact ⟨t,rfl,h1⟩
 | succ j=>cases e1
section
variable {P:Program} {w:World} {K:PySem.W.Frag} {mg:Str->Option Value} {base:Heap}
theorem j6 {a:Ad} (T:Txt K mg a):qC P w K mg base CX0 1 a.f_I a.fd_I ["self","tables"] QN:=by
 refine T.d_I.F.ok qba (fun vs H Q E h=>?_) (fun cdv A outer s H vs Q E hr h=>?_)
 · obtain ⟨v,u,rfl,kk⟩:=h
   rfl
 · obtain ⟨v,u,rfl,kk⟩:=h
   have hu:=qK hr
   have hU:=hr.units
   obtain ⟨t_LAST,c_LAST⟩:=T.g_LAST
   refine ⟨_,(qg (qu (qN (qa (zC (qa qc (qa (Qb (v:=.int 1000000000) rfl c_LAST ⟨_,rfl⟩) qb))) qb)))),?_⟩
   try dsimp only [zx,Cx.nox]
   refine ⟨qk (Nat.le_of_ble_eq_true rfl),fun t ft=>⟨qk (Nat.le_of_ble_eq_true rfl),fun d fd=>?_⟩⟩
   have S1:=Same.new (.tup [.int 0,.int 1000000000]) ft
   have S2:=Same.new (.lst [.ref t]) fd
   exact kk d _ (S1.none fd) (S1.trans S2) (qfq (w:=(0,1000000000)) (S2 _ _ qd) qd)
theorem jp {a:Ad} (T:Txt K mg a):qC P w K mg base CX0 5 a.f_x a.fd_x ["self","tables"] (zM K):=by
 have G_p:qC P w K mg base CX0 4 a.f_p a.fd_p ["stretches"] j7:=qaP T
 refine T.d_x.F.ok qaE (fun vs H Q E h=>?_) (fun cdv A outer s H vs Q E hr h=>?_)
 · obtain ⟨x,C,dx,nm,lo,hi,u,rfl,hx,cl,n1,n2,kk⟩:=h
   rfl
 · obtain ⟨x,C,dx,nm,lo,hi,u,rfl,hx,cl,n1,n2,kk⟩:=h
   have hu:=qK hr
   have hU:=hr.units
   have h_p:Room (4) _:=hr.mono (by decide)
   refine ⟨_,(qg (qu (qj G_p h_p rfl T.d_p.m T.d_p.k T.d_p.b .nil ql (qa (qN (qa (zC (qa (qR (pv 0) rfl) (qa (qR (pv 0) rfl) qb))) qb)) qb)))),?_⟩
   try dsimp only [zx,Cx.nox]
   refine ⟨_,rfl,x,_,dx,_,_,rfl,hx,cl,n1,rfl,_,rfl,x,_,dx,_,_,rfl,hx,cl,n2,rfl,qk (Nat.le_of_ble_eq_true rfl),fun t ft=>⟨qk (Nat.le_of_ble_eq_true rfl),fun d fd=>?_⟩⟩
   have S1:=Same.new (.tup [.int lo,.int hi]) ft
   have S2:=Same.new (.lst [.ref t]) fd
   refine ⟨d,[(lo,hi)],rfl,qfq (w:=(lo,hi)) (S2 _ _ qd) qd,Nat.le_of_ble_eq_true rfl,fun e r H3 fe S3 R can lr mem=>?_⟩
   exact kk e r H3 ((S1.trans S2).none fe) ((S1.trans S2).trans S3) R can lr mem
theorem zT {a:Ad} (T:Txt K mg a):qC P w K mg base CX0 1 a.f_g a.fd_g ["self"] (qT K):=by
 refine T.d_g.F.ok JH (fun vs H Q E h=>?_) (fun cdv A outer s H vs Q E hr h=>?_)
 · obtain ⟨x,C,dx,nm,pl,lo,hi,rfl,hx,cl,n1,kk⟩:=h
   rfl
 · obtain ⟨x,C,dx,nm,pl,lo,hi,rfl,hx,cl,n1,kk⟩:=h
   have hu:=qK hr
   have hU:=hr.units
   refine ⟨_,(qg (qu (qN (qa (qR (pv 0) rfl) qb)))),?_⟩
   try dsimp only [zx,Cx.nox]
   exact ⟨_,rfl,x,_,dx,_,_,rfl,hx,cl,n1,rfl,qk (Nat.le_of_ble_eq_true rfl),fun l fl=>kk l fl⟩
end
end K35
namespace K35
open PySem L2 PySem.NumText PyProof.Rows KC M04
section
variable {P:Program} {w:World} {K:PySem.W.Frag} {mg:Str->Option Value} {base:Heap}
end
theorem Good.ne {rows:List (Int×Int)} (h:Good rows):0 < rows.length:=QY h
inductive qas (vs:List V) (H:Hp) (Q:VK):Prop
 | mk (t:Addr) (r:Int×Int) (w:Int) (h1:vs=[.ref t,.int w]) (h2:H t=some (.tup (pr r))) (h3:0≤r.1) (h4:r.1≤1000000000) (h5:-w≤r.2) (h6:r.2≤w) (h7:Q (.bl true) H):qas vs H Q
def qcv:Sp:=fun vs H Q _=>qas vs H Q
inductive jN (vs:List V) (H:Hp) (Q:VK):Prop
 | mk (q:Addr) (i:Nat) (rows:List (Int×Int)) (h1:vs=[.ref q,.int i]) (h2:Rs H q rows) (h3:Good rows) (h4:i < rows.length) (h5:Q (.bl true) H):jN vs H Q
def JY:Sp:=fun vs H Q _=>jN vs H Q
inductive Z9 (vs:List V) (H:Hp) (Q:VK):Prop
 | mk (q:Addr) (rows:List (Int×Int)) (h1:vs=[.ref q,.int 21,.int 2880]) (h2:Rs H q rows) (h3:Good rows) (h4:∀ H',Same H H'->Q .non H'):Z9 vs H Q
def Ji:Sp:=fun vs H Q _=>Z9 vs H Q
inductive je (a:Ad) (vs:List V) (H:Hp) (Q:VK):Prop
 | mk (x dx q:Addr) (rows:List (Int×Int)) (h1:vs=[.ref x,.ref q]) (h2:H x=some (.ins a.c_Table dx [])) (h3:Rs H q rows) (h4:Good rows) (h5:∀ H',But x H H'->Tb a H' x rows->Q .non H'):je a vs H Q
def Jk (a:Ad):Sp:=fun vs H Q _=>je a vs H Q
section
variable {P:Program} {w:World} {K:PySem.W.Frag} {mg:Str->Option Value} {base:Heap}
theorem qfr {a:Ad} (T:Txt K mg a):qC P w K mg base CX0 4 a.f_O a.fd_O ["thing","widest"] qcv:=by
 have G_c:qC P w K mg base CX0 3 a.f_c a.fd_c ["thing"] QO:=Zm T
 have G_b:qC P w K mg base CX0 2 a.f_b a.fd_b ["thing","low","high"] Q5:=ZR T
 refine T.d_O.F.ok qfc (fun vs H Q E h=>?_) (fun cdv A outer s H vs Q E hr h=>?_)
 · obtain ⟨t,r,w,rfl,ht,h1,h2,h3,h4,kk⟩:=h
   rfl
 · obtain ⟨t,r,w,rfl,ht,h1,h2,h3,h4,kk⟩:=h
   have hu:=qK hr
   have hU:=hr.units
   have h_c:Room (3) _:=hr.mono (by decide)
   have h_b:Room (2) _:=hr.mono (by decide)
   refine ⟨_,(qf (qO (PW.pt (qaJ (qZ (qY (qq zA (by rfl) T.n_isinstance qx (qa (pv 0) (qa (Qc (v:=.ty "tuple") rfl T.n_tuple Jd rfl) qb))))) (jZ (qA (uNe hU) (qq zp (by rfl) T.n_len qS (qa (pv 0) qb)) qc (qG _)))))
       (qg (qu Zg))
       qv)
     (qg (qu (Js (qj G_c h_c rfl T.d_c.m T.d_c.k T.d_c.b .nil ql (qa (qD (r:=rIx K) qr (pv 0) qc (fun _ _=>rfl)) qb)) (qby (qj G_b h_b rfl T.d_b.m T.d_b.k T.d_b.b .nil ql (qa (qD (r:=rIx K) qr (pv 0) qc (fun _ _=>rfl)) (qa (ZQ Qq (pv 1)) (qa (pv 1) qb))))))))),?_⟩
   try dsimp only [zx,Cx.nox]
   have ty:tyN H (.ref t)=some "tuple":=by simp only [tyN]; rw [ht]
   refine ⟨_,rfl,_,_,_,rfl,(by decide),ty,true,rfl,zy rfl ?_⟩
   refine ⟨_,rfl,_,_,rfl,.inr ⟨_,SqT.of ht,rfl⟩,.inl ⟨rfl,_,rfl,qeK (fun g=>absurd rfl g) (fun _=>?_)⟩⟩
   refine ⟨_,rfl,.inr (.inl ⟨t,_,_,_,rfl,rfl,SqT.of ht,rfl,r.1,rfl,h1,h2,true,rfl,qeJ ?_⟩)⟩
   exact ⟨_,rfl,.inr (.inl ⟨t,_,_,_,rfl,rfl,SqT.of ht,rfl,_,rfl,_,rfl,_,rfl,r.2,-w,w,rfl,h3,h4,kk⟩)⟩
theorem qcY {a:Ad} (T:Txt K mg a):qC P w K mg base CX0 1 a.f_P a.fd_P ["rows","place"] JY:=by
 refine T.d_P.F.ok qcF (fun vs H Q E h=>?_) (fun cdv A outer s H vs Q E hr h=>?_)
 · obtain ⟨q,i,rows,rfl,⟨zs,hq,tp⟩,good,hi,kk⟩:=h
   rfl
 · obtain ⟨q,i,rows,rfl,⟨zs,hq,tp⟩,good,hi,kk⟩:=h
   have hu:=qK hr
   have hU:=hr.units
   refine ⟨_,(qf (qO (qA (uEq hU) (pv 1) qc (qG _))
       (qg (qu (Zs (uEq hU) (qD (r:=rIx K) qr (qD (r:=rIx K) qr (pv 0) qc (fun _ _=>rfl)) qc (fun _ _=>rfl)) qc (qG _))))
       qv)
     (qg (qu (Zs qfp (qD (r:=rIx K) qr (qD (r:=rIx K) qr (pv 0) (pv 1) (fun _ _=>rfl)) qc (fun _ _=>rfl)) (qD (r:=rIx K) qr (qD (r:=rIx K) qr (pv 0) (qw zY (pv 1) qc) (fun _ _=>rfl)) qc (fun _ _=>rfl)) (qG _))))),?_⟩
   try dsimp only [zx,Cx.nox]
   refine ⟨_,rfl,.inl ⟨rfl,_,rfl,?_⟩⟩
   obtain ⟨r,hr'⟩:∃ r,rows[i]?=some r:=⟨_,List.getElem?_eq_getElem hi⟩
   obtain ⟨t,hz,ht⟩:=tp.at_ hr'
   refine Zh (fun g=>?_) (fun g=>?_)
   · have g0:i=0:=by injection g with g; omega
     subst g0
     obtain ⟨n,hn⟩:=good.fst
     have e:r=(0,n):=by
       rw [List.head?_eq_getElem?,hr'] at hn
       exact Option.some.inj hn
     subst e
     refine ⟨_,rfl,.inl ⟨q,_,_,_,rfl,rfl,SqL.of hq,QL hz,.inr (.inl ⟨t,_,_,_,rfl,rfl,SqT.of ht,rfl,.inl ⟨rfl,?_⟩⟩)⟩⟩
     exact kk
   · have g1:0 < i:=by
       refine Nat.pos_of_ne_zero fun z=>g ?_
       rw [z]; rfl
     obtain ⟨r0,hr0⟩:∃ r,rows[i - 1]?=some r:=⟨_,List.getElem?_eq_getElem (by omega)⟩
     obtain ⟨t0,hz0,ht0⟩:=tp.at_ hr0
     have lt:r0.1 < r.1:=by
       obtain ⟨l1,e1⟩:=List.getElem?_eq_some_iff.mp hr0
       obtain ⟨l2,e2⟩:=List.getElem?_eq_some_iff.mp hr'
       have:=List.pairwise_iff_getElem.mp good.asc (i - 1) i l1 l2 (by omega)
       rw [e1,e2] at this
       exact this
     refine ⟨_,rfl,_,rfl,.inl ⟨q,_,_,_,rfl,rfl,SqL.of hq,QL hz,.inr (.inl ⟨t,_,_,_,rfl,rfl,SqT.of ht,rfl,_,rfl,_,rfl,_,_,rfl,rfl,.inl ⟨q,_,_,_,rfl,rfl,SqL.of hq,(by show atI zs ((i:Int) - 1)=_; rw [show (i:Int) - 1=((i - 1:Nat):Int) by omega]; exact QL hz0),.inr (.inl ⟨t0,_,_,_,rfl,rfl,SqT.of ht0,rfl,_,_,rfl,rfl,?_⟩)⟩⟩)⟩⟩
     show Q (.bl (decide (r0.1 < r.1))) H
     rw [decide_eq_true lt]
     exact kk
theorem qb7 {a:Ad} (T:Txt K mg a):qC P w K mg base CX0 5 a.f_Q a.fd_Q ["rows","most","widest"] Ji:=by
 have G_O:qC P w K mg base CX0 4 a.f_O a.fd_O ["thing","widest"] qcv:=qfr T
 have G_P:qC P w K mg base CX0 1 a.f_P a.fd_P ["rows","place"] JY:=qcY T
 refine T.d_Q.F.ok sc_check_rows (fun vs H Q E h=>?_) (fun cdv A outer s H vs Q E hr h=>?_)
 · obtain ⟨q,rows,rfl,⟨zs,hq,tp⟩,good,kk⟩:=h
   rfl
 · obtain ⟨q,rows,rfl,⟨zs,hq,tp⟩,good,kk⟩:=h
   have hu:=qK hr
   have hU:=hr.units
   have h_O:Room (4) _:=hr.mono (by decide)
   have h_P:Room (1) _:=hr.mono (by decide)
   refine ⟨_,(qf (qO (PW.pt (qaJ (qZ (qY (qq zA (by rfl) T.n_isinstance qx (qa (pv 0) (qa (Qc (v:=.ty "list") rfl T.n_list zw rfl) qb))))) (jZ (qA (uEq hU) (qq zp (by rfl) T.n_len qS (qa (pv 0) qb)) qc (qG _)))))
       (qg qP)
       qv)
     (qf (qO (qA qfp (qq zp (by rfl) T.n_len qS (qa (pv 0) qb)) (pv 1) (qG _))
       (qg qP)
       qv)
     (qg (zK PassesOwn.never rfl (qds rfl T.n_enumerate (qa (pv 0) qb)) (QU rfl (qz (qt (i:=3) (sc_check_rows.nd) rfl (Or.inl rfl)) (qz (qt (i:=4) (sc_check_rows.nd) rfl (Or.inl rfl)) zZ)))
       (qg (qO (PW.pt (qaJ (qZ (qY (qj G_O h_O rfl T.d_O.m T.d_O.k T.d_O.b .nil ql (qa (pv 4) (qa (pv 2) qb))))) (jZ (qZ (qY (qj G_P h_P rfl T.d_P.m T.d_P.k T.d_P.b .nil ql (qa (pv 0) (qa (pv 3) qb))))))))
         (qg qP)
         qv)))))),?_⟩
   try dsimp only [zx,Cx.nox]
   have hl:zs.length=rows.length:=tp.1
   have few:=good.few
   have pos:=good.ne
   have ty:tyN H (.ref q)=some "list":=by simp only [tyN]; rw [hq]
   refine ⟨_,rfl,_,_,_,rfl,(by decide),ty,true,rfl,zy rfl ?_⟩
   refine ⟨_,rfl,_,_,rfl,.inl ⟨_,SqL.of hq,rfl⟩,.inl ⟨rfl,_,rfl,Zh (fun g=>?_) (fun _=>?_)⟩⟩
   · injection g with g; omega
   refine ⟨_,rfl,_,_,rfl,.inl ⟨_,SqL.of hq,rfl⟩,_,rfl,_,_,rfl,rfl,_,rfl,Zh (fun g=>?_) (fun _=>?_)⟩
   · omega
   refine ⟨_,rfl,q,rfl,⟨zs,SqL.of hq⟩,qcp (K:=K) (a:=q) (xs:=zs) (fun i σ H2=>∃ s3 s4:Option V,σ=[some (.ref q),some (.int 21),some (.int 2880),s3,s4]∧Same H H2) ⟨none,none,rfl,Same.refl H⟩ (fun i σ H2 _ ⟨_,_,_,S⟩=>SqL.of (S _ _ hq)) ?_ ?_⟩
   · rintro i x σ H2 p hx ⟨s3,s4,rfl,S⟩ hn
     have S2:Same H (upd H2 p (.tup [.int i,x])):=S.then _ hn
     have hi:i < rows.length:=by rw [← hl]; exact (List.getElem?_eq_some_iff.mp hx).1
     obtain ⟨r,hr'⟩:∃ r,rows[i]?=some r:=⟨_,List.getElem?_eq_getElem hi⟩
     obtain ⟨t,rfl,ht⟩:=tp.2 i x r hx hr'
     have ok:=good.ok r (List.mem_of_getElem? hr')
     refine ⟨p,_,rfl,SqT.of qd,rfl,_,_,rfl,_,_,rfl,rfl,?_⟩
     refine ⟨_,rfl,_,rfl,t,r,2880,rfl,S2 _ _ ht,ok.1,ok.2.1,ok.2.2.1,ok.2.2.2,true,rfl,zy rfl ?_⟩
     exact ⟨_,rfl,_,rfl,q,i,rows,rfl,⟨zs,S2 _ _ hq,tp.same S2⟩,good,hi,true,rfl,zy rfl ⟨_,_,rfl,S2⟩⟩
   · rintro σ H2 ⟨s3,s4,rfl,S⟩
     exact kk H2 S
theorem qb9 {a:Ad} (T:Txt K mg a):qC P w K mg base CX0 6 a.f_ah a.fd_ah ["self","rows"] (Jk a):=by
 have G_Q:qC P w K mg base CX0 5 a.f_Q a.fd_Q ["rows","most","widest"] Ji:=qb7 T
 refine T.d_ah.F.ok qbX (fun vs H Q E h=>?_) (fun cdv A outer s H vs Q E hr h=>?_)
 · obtain ⟨x,dx,q,rows,rfl,hx,hrs,good,kk⟩:=h
   rfl
 · obtain ⟨x,dx,q,rows,rfl,hx,hrs,good,kk⟩:=h
   have hu:=qK hr
   have hU:=hr.units
   have h_Q:Room (5) _:=hr.mono (by decide)
   obtain ⟨t_MOST_ROWS,c_MOST_ROWS⟩:=T.g_MOST_ROWS
   obtain ⟨t_WIDEST_SHIFT,c_WIDEST_SHIFT⟩:=T.g_WIDEST_SHIFT
   refine ⟨_,(qf (qU (qj G_Q h_Q rfl T.d_Q.m T.d_Q.k T.d_Q.b .nil ql (qa (pv 1) (qa (Qb (v:=.int 21) rfl c_MOST_ROWS ⟨_,rfl⟩) (qa (Qb (v:=.int 2880) rfl c_WIDEST_SHIFT ⟨_,rfl⟩) qb)))))
     (qg (j4 (pv 0) (Qu (r:=qiV K) Zo (by rfl) T.n_list zw (qa (pv 1) qb)) rfl))),?_⟩
   try dsimp only [zx,Cx.nox]
   refine ⟨_,rfl,q,rows,rfl,hrs,good,fun G1 S1=>?_⟩
   obtain ⟨zs,hq,tp⟩:=hrs.same S1
   have hx1:=S1 _ _ hx
   refine ⟨_,rfl,q,zs,rfl,.inl (SqL.of hq),fun k fk=>?_⟩
   have nkx:x≠k:=qi hx1 fk
   refine ⟨_,rfl,x,_,dx,[],rfl,(qh nkx).trans hx1,T.cl_Table,T.n_Table_kept,(by show 0 < 1000; decide),?_⟩
   have fkH:H k=none:=S1.none fk
   refine kk _ (fun c o e n=>?_) ⟨k,dx,zs,qd,(qh nkx.symm).trans qd,⟨tp.1,fun i z p e1 e2=>?_⟩⟩
   · rw [qh n,qh (qi e fkH)]
     exact S1 _ _ e
   · obtain ⟨t,et,ht⟩:=tp.2 i z p e1 e2
     refine ⟨t,et,?_⟩
     rw [qh (qJ ht hx1 (by intro z; cases z)),qh (qi ht fk)]
     exact ht
end
end K35
namespace K35
open PySem L2 PySem.NumText PyProof.Rows KC M04
section
variable {P:Program} {w:World} {K:PySem.W.Frag} {mg:Str->Option Value} {base:Heap}
end
abbrev abc:Str:="abcdefghijklmnopqrstuvwxyz"
abbrev ch (c:Nat):Str:=⟨#[c]⟩
abbrev chs (cs:List Nat):List Str:=cs.map ch
def Ltr (c:Nat):Prop:=97≤c∧c < 123
theorem qdl {i:Int} (h0:0≤i) (h1:i < 26):atI abc.cps.toList i=some (97+i.toNat):=by
 have:∀ n:Fin 26,atI abc.cps.toList ((n.1:Nat):Int)=some (97+n.1):=by decide +kernel
 have:=this ⟨i.toNat,by omega⟩
 rwa [Int.toNat_of_nonneg h0] at this
theorem qhG {c:Nat} (h:Ltr c):sgn c=true:=by
 have:∀ n:Fin 26,sgn (97+n.1)=true:=by decide +kernel
 have:=this ⟨c - 97,by have:=h.1; have:=h.2; omega⟩
 rwa [show 97+(c - 97)=c by have:=h.1; omega] at this
theorem qeI:∀ cs:List Nat,(Txt.join "" (chs cs)).cps.toList=cs
 | []=>rfl
 | [c]=>rfl
 | c::d::r=>by
   have ih:=qeI (d::r)
   have g:∀ ys:List Str,Txt.join "" ys=Str.join "" ys:=fun ys=>StrLaws.glued_eq_join _ _
   rw [g] at ih ⊢
   show (ch c++("":Str)++Str.join "" (chs (d::r))).cps.toList=_
   have e:∀ x y:Str,(x++y).cps.toList=x.cps.toList++y.cps.toList:=fun x y=>Array.toList_append
   rw [e,e,ih]; rfl
theorem JW (x y:Str):(x++y).cps.toList=x.cps.toList++y.cps.toList:=Array.toList_append
theorem Jc (x:Str):x.length=x.cps.toList.length:=Array.length_toList.symm
theorem qaZ (cs:List Nat):(Txt.join "" (chs cs)).length=cs.length:=by rw [Jc,qeI]
theorem qdG (cs:List Nat):((chs cs).map (·.length)).sum+(chs cs).length * ("":Str).length=cs.length:=by
 have e:((chs cs).map (·.length)).sum=cs.length:=by
   induction cs with
   | nil=>rfl
   | cons c r ih =>
     show (ch c).length+((chs r).map (·.length)).sum=_
     rw [ih]; show 1+_=_; rw [List.length_cons]; omega
 rw [e]; rfl
theorem qd6 {x:Str} {cs:List Nat} (e:x.cps.toList=cs) (h1:1≤cs.length) (h8:cs.length≤8) (hl:∀ c∈cs,Ltr c):zU (.str x)=true:=by
 have:x.length=cs.length:=by rw [Jc,e]
 simp only [zU,Bool.and_eq_true,decide_eq_true_eq]
 rw [this,e]
 exact ⟨⟨h1,h8⟩,List.all_eq_true.mpr fun c m=>qhG (hl c m)⟩
abbrev odds:List Int:=[1,3,5,7,9,11,15,17,19,21,23,25]
theorem qgB {s f:Int} {j k:Nat} (h:s∈odds) (hj:j < 26) (hk:k < 26) (e:(f+s * (j:Int)) % 26=(f+s * (k:Int)) % 26):j=k:=by
 simp only [List.mem_cons,List.not_mem_nil,or_false] at h
 rcases h with rfl | rfl | rfl | rfl | rfl | rfl | rfl | rfl | rfl | rfl | rfl | rfl<;>omega
structure Nms (ns:List Str):Prop where
 nm:∀ x∈ns,zU (.str x)=true
 nd:ns.Nodup
def NmsI (pre:List Nat) (f s:Int) (xs:List Str):Prop:=∀ (j:Nat) (x:Str),xs[j]?=some x->zU (.str x)=true∧∃ suf,x.cps.toList=pre++(97+((f+s * (j:Int)) % 26).toNat)::suf
theorem NmsI.nil {pre:List Nat} {f s:Int}:NmsI pre f s []:=fun j x e=>by cases e
theorem NmsI.snoc {pre:List Nat} {f s:Int} {xs:List Str} {x:Str} (h:NmsI pre f s xs) (h1:zU (.str x)=true) {suf:List Nat} (h2:x.cps.toList=pre++(97+((f+s * (xs.length:Int)) % 26).toNat)::suf):NmsI pre f s (xs++[x]):=fun j y e=>by
 by_cases hj:j < xs.length
 · rw [List.getElem?_append_left hj] at e
   exact h j y e
 · rw [List.getElem?_append_right (by omega)] at e
   have hj2:j=xs.length:=by
     have:=(List.getElem?_eq_some_iff.mp e).1
     simp at this; omega
   subst hj2
   rw [Nat.sub_self] at e
   cases e
   exact ⟨h1,suf,h2⟩
theorem NmsI.end_ {pre:List Nat} {f s:Int} {xs:List Str} (h:NmsI pre f s xs) (hs:s∈odds) (hl:xs.length≤26):Nms xs:=by
 refine ⟨fun x m=>?_,?_⟩
 · obtain ⟨j,hj⟩:=List.getElem?_of_mem m
   exact (h j x hj).1
 · rw [List.Nodup,List.pairwise_iff_getElem]
   intro i j hi hj hij e
   obtain ⟨_,s1,e1⟩:=h i _ (List.getElem?_eq_getElem hi)
   obtain ⟨_,s2,e2⟩:=h j _ (List.getElem?_eq_getElem hj)
   rw [e,e2] at e1
   have e3:=List.append_cancel_left e1
   injection e3 with e4 _
   have:=qgB (f:=f) (j:=i) (k:=j) hs (by omega) (by omega) (by omega)
   omega
theorem qh2 (cs:List Nat) (lo hi:Option Int):∃ ds:List Nat,qgc ((chs cs).map V.str) lo hi=(chs ds).map V.str∧ds=(cs.drop (HT.sIx cs.length 0 lo)).take (HT.sIx cs.length cs.length hi - HT.sIx cs.length 0 lo):=by
 refine ⟨_,?_,rfl⟩
 unfold qgc
 simp only [chs,List.length_map,List.map_take,List.map_drop]
inductive qaA (vs:List V) (H:Hp) (Q:VK):Prop
 | mk (p:Addr) (many:Int) (h1:vs=[.ref p,.int many]) (h2:PenAt H p) (h3:0≤many) (h4:many≤26) (h5:∀ (q:Addr) (ns:List Str) (H':Hp),H q=none->But p H H'->PenAt H' p->H' q=some (.lst (ns.map V.str))->(ns.length:Int)=many->Nms ns->Q (.ref q) H'):qaA vs H Q
def qcz:Sp:=fun vs H Q _=>qaA vs H Q
section
variable {P:Program} {w:World} {K:PySem.W.Frag} {mg:Str->Option Value} {base:Heap}
theorem qfv {a:Ad} (T:Txt K mg a):qC P w K mg base CX0 3 a.f_U a.fd_U ["_law_state","_law_many"] qcz:=by
 have G_a:qC P w K mg base CX0 2 a.f_a a.fd_a ["_law_state","_law_many"] QM:=QW T
 refine T.d_U.F.ok sc_Lnames (fun vs H Q E h=>?_) (fun cdv A outer s H vs Q E hr h=>?_)
 · obtain ⟨p,many,rfl,hp,many0,many1,kk⟩:=h
   rfl
 · obtain ⟨p,many,rfl,hp,many0,many1,kk⟩:=h
   have hu:=qK hr
   have hU:=hr.units
   have h_a:Room (2) _:=hr.mono (by decide)
   refine ⟨_,(@qf _ _ _ _ _ (by exact (qF (i:=2) sc_Lnames.nd rfl (Or.inr rfl) qB))
     (by exact (@qf _ _ _ _ _ (by exact (qF (i:=3) sc_Lnames.nd rfl (Or.inl rfl) (qw Zu qc (qj G_a h_a rfl T.d_a.m T.d_a.k T.d_a.b .nil ql (qa (pv 0) (qa qc qb))))))
     (by exact (@qf _ _ _ _ _ (by exact (qF (i:=4) sc_Lnames.nd rfl (Or.inl rfl) (qj G_a h_a rfl T.d_a.m T.d_a.k T.d_a.b .nil ql (qa (pv 0) (qa (pv 3) qb)))))
     (by exact (@qf _ _ _ _ _ (by exact (qfk (i:=5) sc_Lnames.nd rfl (Or.inl rfl) rfl (CompOk.def ["_law_k","_law_letters","_law_state"] [none,some 2,some 0]) (z3 rfl T.n_range (qa (pv 3) qb)) (fun _ _ _ _ _=>(qt (i:=0) (show List.Nodup (["_law_k","_law_letters","_law_state"]:List Str) by decide +kernel) rfl (Or.inl rfl))) (fun _ _ _ _ _=>Zb) (fun _ _ _ _ _=>(qD (r:=rIx K) qr (pv 1) (qj G_a h_a rfl T.d_a.m T.d_a.k T.d_a.b .nil ql (qa (pv 2) (qa qc qb))) (fun _ _=>rfl)))))
     (by exact (@qf _ _ _ _ _ (by exact (qF (i:=6) sc_Lnames.nd rfl (Or.inl rfl) (qj G_a h_a rfl T.d_a.m T.d_a.k T.d_a.b .nil ql (qa (pv 0) (qa qc qb)))))
     (by exact (@qf _ _ _ _ _ (by exact (@qF _ _ 7 _ _ _ _ (by exact sc_Lnames.nd) (by rfl) (by exact (Or.inl rfl)) (by exact (@qD _ _ _ _ _ _ (rIx K) (by exact qr) (by exact (@qN _ _ _ _ (by exact (@qa _ _ _ _ _ (by exact qc) (by exact (@qa _ _ _ _ _ (by exact qc) (by exact (@qa _ _ _ _ _ (by exact qc) (by exact (@qa _ _ _ _ _ (by exact qc) (by exact (@qa _ _ _ _ _ (by exact qc) (by exact (@qa _ _ _ _ _ (by exact qc) (by exact (@qa _ _ _ _ _ (by exact qc) (by exact (@qa _ _ _ _ _ (by exact qc) (by exact (@qa _ _ _ _ _ (by exact qc) (by exact (@qa _ _ _ _ _ (by exact qc) (by exact (@qa _ _ _ _ _ (by exact qc) (by exact (@qa _ _ _ _ _ (by exact qc) (by exact (@qb _)) (by rfl))) (by rfl))) (by rfl))) (by rfl))) (by rfl))) (by rfl))) (by rfl))) (by rfl))) (by rfl))) (by rfl))) (by rfl))) (by rfl))))) (by exact (qj G_a h_a rfl T.d_a.m T.d_a.k T.d_a.b .nil ql (qa (pv 0) (qa qc qb)))) (by exact fun _ _=>rfl))) (by rfl) (by exact .inl rfl)))
     (by exact (qf (qF (i:=8) sc_Lnames.nd rfl (Or.inl rfl) (qN qb))
     (qf (zK PassesOwn.never rfl (z3 rfl T.n_range (qa (pv 1) qb)) (qt (i:=9) (sc_Lnames.nd) rfl (Or.inl rfl))
       (qf (qF (i:=10) sc_Lnames.nd rfl (Or.inl rfl) (jG uSl (pv 5) (j9 (qw Zu (pv 4) qc)) (j9 (qw Zu (qw Zu (pv 4) qc) (qj G_a h_a rfl T.d_a.m T.d_a.k T.d_a.b .nil ql (qa (pv 0) (qa (qw zY (pv 3) (pv 4)) qb)))))))
       (qf (qF (i:=11) sc_Lnames.nd rfl (Or.inl rfl) (qD (r:=rIx K) qr (pv 2) (qw Z1 (qw Zu (pv 6) (qw QP (pv 7) (pv 9))) qc) (fun _ _=>rfl)))
       (qg (qU (Ja PySem.F.plainAttrs_list PySem.F.slot_list_append PySem.F.type_list_append zn (pv 8) (qa (qw Zu (qw Zu (Ja PySem.F.plainAttrs_str PySem.F.slot_str_join PySem.F.type_str_join qdx qB (qa (jG uSl (pv 5) qaM (j9 (pv 4))) qb)) (pv 11)) (Ja PySem.F.plainAttrs_str PySem.F.slot_str_join PySem.F.type_str_join qdx qB (qa (pv 10) qb))) qb)))))))
     (qg (qu (pv 8))))))))))))))))),?_⟩
   try dsimp only [zx,Cx.nox]
   have p0:PenAt H p:=hp
   have t0:But p H H:=But.refl p H
   refine ⟨_,rfl,p,_,rfl,p0,by decide,by decide,fun dz G1 dz0 dz1 u1 p1=>?_⟩
   have t1:=t0.trans u1
   refine .inl ⟨_,_,rfl,rfl,?_⟩
   try unfold zm
   try dsimp only
   obtain ⟨z,hz⟩:∃ z:Int,z=1+dz:=⟨_,rfl⟩
   rw [← hz]
   refine ⟨_,rfl,_,rfl,p,_,rfl,p1,by omega,by omega,fun at_ G2 at_0 at_1 u2 p2=>?_⟩
   have t2:=t1.trans u2
   refine ⟨_,rfl,_,rfl,by omega,by omega,fun D fD=>?_⟩
   have nD:D≠p:=p2.ne fD
   refine qbI (lo:=0) (n:=z.toNat) (D:=D) (fun i σ H2=>∃ (s0:Option V) (cs:List Nat),σ=[s0,some (.str abc),some (.ref p)]∧But p G2 H2∧PenAt H2 p∧H2 D=some (.lst ((chs cs).map V.str))∧cs.length=i∧∀ c∈cs,Ltr c)
     ⟨none,[],rfl,fun b o z n=>by rw [qh (qi z fD)]; exact z,p2.upd nD _,qd,rfl,fun y hy=>nomatch hy⟩ ?_ ?_
   · rintro i σ H2 hi ⟨s0,cs,rfl,t2,p2,hD,hl,hc⟩
     refine ⟨_,rfl,_,rfl,p,_,rfl,p2,by decide,by decide,fun d H3 d0 d1 B3 p3=>?_⟩
     refine .inr (.inr ⟨_,_,_,rfl,rfl,qk (by decide +kernel),qdl d0 d1,?_⟩)
     refine ⟨_,B3 _ _ hD nD,qE (by rw [List.length_map,List.length_map]; omega),?_⟩
     refine ⟨_,cs++[97+d.toNat],rfl,?_,p3.upd nD _,?_,?_,?_⟩
     · intro b o z n
       rw [qh (qi z fD)]
       exact B3 b o (t2 b o z n) n
     · rw [qd]; simp only [chs,List.map_append]; rfl
     · rw [List.length_append,hl]; rfl
     · intro c hm
       rcases List.mem_append.mp hm with z | z
       · exact hc c z
       · rw [show c=97+d.toNat by simpa using z]
         exact ⟨by omega,by omega⟩
   rintro σ H2 ⟨s0,cs,rfl,tC,pC,hD,hl,hc⟩
   have fD0:H D=none:=t2.none fD nD
   have T2:But p H H2:=t2.trans tC
   clear tC
   have p0:PenAt H2 p:=pC
   have t0:But p H2 H2:=But.refl p H2
   refine ⟨_,rfl,p,_,rfl,p0,by decide,by decide,fun fi G1 fi0 fi1 u1 p1=>?_⟩
   have t1:=t0.trans u1
   refine ⟨(qk (Nat.le_of_ble_eq_true rfl)),fun ol f_ol=>?_⟩
   have n_ol:ol≠p:=p1.ne f_ol
   have e_ol:(upd G1 ol (.lst [.int 1,.int 3,.int 5,.int 7,.int 9,.int 11,.int 15,.int 17,.int 19,.int 21,.int 23,.int 25])) ol=some (.lst [.int 1,.int 3,.int 5,.int 7,.int 9,.int 11,.int 15,.int 17,.int 19,.int 21,.int 23,.int 25]):=qd
   have p2:PenAt (upd G1 ol (.lst [.int 1,.int 3,.int 5,.int 7,.int 9,.int 11,.int 15,.int 17,.int 19,.int 21,.int 23,.int 25])) p:=p1.upd n_ol _
   have u2:Same G1 (upd G1 ol (.lst [.int 1,.int 3,.int 5,.int 7,.int 9,.int 11,.int 15,.int 17,.int 19,.int 21,.int 23,.int 25])):=Same.new _ f_ol
   have t2:=t1.same u2
   try dsimp only
   generalize upd G1 ol (.lst [.int 1,.int 3,.int 5,.int 7,.int 9,.int 11,.int 15,.int 17,.int 19,.int 21,.int 23,.int 25])=G2 at e_ol p2 u2 t2 ⊢
   refine ⟨_,rfl,p,_,rfl,p2,by decide,by decide,fun ds G3 ds0 ds1 u3 p3=>?_⟩
   have t3:=t2.trans u3
   obtain ⟨v,hv,mv⟩:=jv (xs:=odds.map V.int) ds0 ds1
   obtain ⟨st,ho,rfl⟩:=List.mem_map.mp mv
   refine .inl ⟨ol,_,_,_,rfl,rfl,SqL.of (u3 _ _ e_ol n_ol),hv,?_⟩
   have st0:1≤st∧st≤25:=by
     simp only [List.mem_cons,List.not_mem_nil,or_false] at ho
     rcases ho with rfl | rfl | rfl | rfl | rfl | rfl | rfl | rfl | rfl | rfl | rfl | rfl<;>decide
   refine ⟨(qk (Nat.le_of_ble_eq_true rfl)),fun q f_q=>?_⟩
   have n_q:q≠p:=p3.ne f_q
   have e_q:(upd G3 q (.lst [])) q=some (.lst []):=qd
   have p4:PenAt (upd G3 q (.lst [])) p:=p3.upd n_q _
   have u4:Same G3 (upd G3 q (.lst [])):=Same.new _ f_q
   have t4:=t3.same u4
   try dsimp only
   generalize upd G3 q (.lst [])=G4 at e_q p4 u4 t4 ⊢
   have fq0:H q=none:=T2.none ((t3).none f_q n_q) n_q
   have hD0:=(u4 _ _ (u3 _ _ (u2 _ _ (u1 _ _ hD nD)) nD))
   have B0:But p H G4:=T2.trans t4
   have nDq:D≠q:=qJ hD0 e_q (by
     intro z
     injection z with z
     have z:=congrArg List.length z
     rw [List.length_map,List.length_map,hl] at z
     simp at z; omega)
   obtain ⟨pre,hpre⟩:∃ pre,pre=cs.take at_.toNat:=⟨_,rfl⟩
   have lpre:pre.length=at_.toNat:=by rw [hpre,List.length_take]; omega
   have cpre:∀ c∈pre,Ltr c:=fun c m=>hc c (List.mem_of_mem_take (hpre▸m))
   try unfold zm
   try dsimp only
   refine ⟨_,rfl,_,rfl,by omega,by omega,QQ (lo:=0) (D:={ nx:=qgb (qhy 8) { nx:=fun _ H'=>Q .non H',rt:=Q },rt:=Q }) (fun i σ H3=>∃ (s9 s10 s11:Option V) (xs:List Str),σ=[some (.ref p),some (.int many),some (.str abc),some (.int z),some (.int at_),some (.ref D),some (.int fi),some (.int st),some (.ref q),s9,s10,s11]∧But p H H3∧PenAt H3 p∧H3 D=some (.lst ((chs cs).map V.str))∧H3 q=some (.lst (xs.map V.str))∧xs.length=i∧NmsI pre fi st xs) ⟨_,_,_,[],rfl,B0,p4,hD0,e_q,rfl,.nil⟩ ?_ ?_⟩
   · rintro i σ H3 hi ⟨s9,s10,s11,xs,rfl,B,pB,hD3,hq3,lx,nm⟩
     refine ⟨_,rfl,_,rfl,.inl ⟨_,_,rfl,rfl,_,rfl,_,rfl,.inl ⟨_,_,rfl,rfl,_,rfl,_,rfl,_,rfl,_,_,rfl,rfl,p,_,rfl,pB,by omega,by omega,fun d H4 d0 d1 B4 p4=>?_⟩⟩⟩
     refine .inl ⟨_,_,rfl,rfl,_,rfl,.inl ⟨D,_,rfl,SqL.of (B4 _ _ hD3 nD),fun b fb=>?_⟩⟩
     have nb:b≠p:=p4.ne fb
     obtain ⟨ds,ed,hds⟩:=qh2 cs (some (at_+1)) (some (at_+1+d))
     rw [ed]
     have lds:ds.length≤7 - at_.toNat:=by
       rw [hds,List.length_take,List.length_drop]
       rw [show at_+1=((at_.toNat+1:Nat):Int) by omega,HT.sIx_nat]
       omega
     have cds:∀ c∈ds,Ltr c:=fun c m=>hc c (List.mem_of_mem_drop (List.mem_of_mem_take (hds▸m)))
     have Sb:=Same.new (.lst ((chs ds).map V.str)) fb
     have hb5:(upd H4 b (.lst ((chs ds).map V.str))) b=some (.lst ((chs ds).map V.str)):=qd
     have p5:=p4.upd nb (.lst ((chs ds).map V.str))
     have B5:But p H3 (upd H4 b (.lst ((chs ds).map V.str))):=B4.same Sb
     try unfold zm
     try dsimp only
     generalize upd H4 b (.lst ((chs ds).map V.str))=G5 at Sb hb5 p5 B5 ⊢
     have m0:0≤(fi+st * (0+(i:Int))) % 26:=Int.emod_nonneg _ (by decide)
     have m1:(fi+st * (0+(i:Int))) % 26 < 26:=Int.emod_lt_of_pos _ (by decide)
     refine ⟨_,rfl,_,rfl,_,rfl,_,rfl,_,_,rfl,rfl,.inl ⟨by omega,by omega⟩,.inl ⟨_,_,rfl,rfl,_,_,rfl,rfl,(by show (0:Int) < _; decide),.inr (.inr ⟨_,_,_,rfl,rfl,qk (by decide +kernel),qdl m0 m1,?_⟩)⟩⟩
     have hD5:=B5 _ _ hD3 nD
     have hq5:=B5 _ _ hq3 n_q
     refine ⟨_,rfl,.inl ⟨rfl,_,SqL.of hq5⟩,rfl,_,rfl,_,rfl,_,rfl,.inl ⟨D,_,rfl,SqL.of hD5,fun c fc=>?_⟩⟩
     have nc:c≠p:=p5.ne fc
     rw [qeg _ at_.toNat _ (by omega),show ((chs cs).map V.str).take at_.toNat=(chs pre).map V.str by rw [hpre]; simp only [chs,List.map_take]]
     have Sc:=Same.new (.lst ((chs pre).map V.str)) fc
     have hc6:(upd G5 c (.lst ((chs pre).map V.str))) c=some (.lst ((chs pre).map V.str)):=qd
     have p6:=p5.upd nc (.lst ((chs pre).map V.str))
     have hb6:=Sc _ _ hb5
     have hq6:=Sc _ _ hq5
     have hD6:=Sc _ _ hD5
     have B6:But p H3 (upd G5 c (.lst ((chs pre).map V.str))):=B5.same Sc
     try unfold zm
     try dsimp only
     generalize upd G5 c (.lst ((chs pre).map V.str))=G6 at hc6 p6 hb6 hq6 hD6 B6 ⊢
     refine ⟨_,c,_,rfl,rfl,SqL.of hc6,(by rw [qdG,lpre]; omega),_,rfl,.inr (.inr ⟨_,_,rfl,rfl,?_,?_⟩)⟩
     · rw [qaZ,lpre]; exact qk (by show at_.toNat+1≤1000; omega)
     refine ⟨rfl,_,rfl,_,b,_,rfl,rfl,SqL.of hb6,(by rw [qdG]; omega),.inr (.inr ⟨_,_,rfl,rfl,?_,?_⟩)⟩
     · rw [Jc,JW,qeI,qaZ]; exact qk (by rw [List.length_append,lpre]; show _+1+_≤1000; omega)
     refine ⟨q,_,_,rfl,rfl,hq6,qE (by rw [List.length_map]; omega),?_⟩
     have ex:(Txt.join "" (chs pre)++ch (97+((fi+st * (0+(i:Int))) % 26).toNat)++Txt.join "" (chs ds)).cps.toList=pre++(97+((fi+st * (xs.length:Int)) % 26).toNat)::ds:=by
       rw [JW,JW,qeI,qeI,lx,Int.zero_add,List.append_assoc]; rfl
     refine ⟨_,_,_,xs++[_],rfl,?_,p6.upd n_q _,(by rw [qh nDq]; exact hD6),(by rw [qd,List.map_append]; rfl),(by rw [List.length_append,lx]; rfl),nm.snoc (qd6 ex ?_ ?_ ?_) ex⟩
     · intro b o z nb
       rw [qh (qi z fq0)]
       exact B6 b o (B b o z nb) nb
     · rw [List.length_append,List.length_cons]; omega
     · rw [List.length_append,List.length_cons,lpre]; omega
     · intro c hm
       rcases List.mem_append.mp hm with z | z
       · exact cpre c z
       · rcases List.mem_cons.mp z with z | z
         · rw [z,lx]; rw [Int.zero_add] at m0 m1; exact ⟨by omega,by omega⟩
         · exact cds c z
   · rintro σ H3 ⟨s9,s10,s11,xs,rfl,B,pB,hD3,hq3,lx,nm⟩
     exact ⟨_,rfl,kk q xs H3 fq0 B pB hq3 (by rw [lx]; omega) (nm.end_ ho (by omega))⟩
end
end K35
namespace K35
open PySem L2 PySem.NumText PyProof.Rows KC M04
section
variable {P:Program} {w:World} {K:PySem.W.Frag} {mg:Str->Option Value} {base:Heap}
end
theorem PenAt.sm {H H':Hp} {p:Addr} (h:PenAt H p) (s:Same H H'):PenAt H' p:=by
 obtain ⟨c,x,y,c0,e⟩:=h
 exact ⟨c,x,y,c0,s _ _ e⟩
theorem qha:∀ {rows:List (Int×Int)},(∀ r∈rows,0≤r.1∧r.1≤1000000000∧-2880≤r.2∧r.2≤2880)->∀ p∈pcs rows,(0≤p.1∧p.1≤1000000000)∧(-1≤p.2.1∧p.2.1≤1000000000)∧-2880≤p.2.2∧p.2.2≤2880
 | [],_,p,m=>nomatch m
 | r::rs,h,p,m=>by
   rcases List.mem_cons.mp m with rfl | m
   · have h0:=h r List.mem_cons_self
     refine ⟨⟨h0.1,h0.2.1⟩,?_,h0.2.2⟩
     cases rs with
     | nil=>exact (show (-1:Int)≤1000000000∧(1000000000:Int)≤1000000000 by decide)
     | cons r2 rs =>
       have h1:=h r2 (List.mem_cons_of_mem _ List.mem_cons_self)
       show -1≤r2.1 - 1∧r2.1 - 1≤_
       omega
   · exact qha (fun r m=>h r (List.mem_cons_of_mem _ m)) p m
theorem Rs.neP {H:Hp} {p q:Addr} {rows:List (Int×Int)} (hp:PenAt H p) (h:Rs H q rows):q≠p:=by
 obtain ⟨zs,hq,tz⟩:=h
 obtain ⟨c,x,y,_,e⟩:=hp
 refine qJ hq e (fun z=>?_)
 injection z with z
 subst z
 have l:=tz.1
 cases rows with
 | nil=>cases l
 | cons r rs =>
   obtain ⟨t,e1,_⟩:=tz.2 0 _ r rfl rfl
   cases e1
theorem Rs.bp {H H':Hp} {p q:Addr} {rows:List (Int×Int)} (h:Rs H q rows) (hp:PenAt H p) (b:But p H H'):Rs H' q rows:=by
 have n:=h.neP hp
 obtain ⟨zs,hq,tz⟩:=h
 exact ⟨zs,b _ _ hq n,TupL.pen tz hp b⟩
inductive qbm (vs:List V) (H:Hp) (Q:VK):Prop
 | mk (p q:Addr) (rows:List (Int×Int)) (h1:vs=[.ref p,.ref q]) (h2:PenAt H p) (h3:Rs H q rows) (h4:Good rows) (h5:∀ (n:Int) (H':Hp),-10000≤n->n≤1000010000->But p H H'->PenAt H' p->Q (.int n) H'):qbm vs H Q
def qdS:Sp:=fun vs H Q _=>qbm vs H Q
section
variable {P:Program} {w:World} {K:PySem.W.Frag} {mg:Str->Option Value} {base:Heap}
theorem qgx {a:Ad} (T:Txt K mg a):qC P w K mg base CX0 3 a.f_Y a.fd_Y ["_law_state","_law_rows_here"] qdS:=by
 have G_u:qC P w K mg base CX0 1 a.f_u a.fd_u ["_law_rows_here"] JD:=qbB T
 have G_a:qC P w K mg base CX0 2 a.f_a a.fd_a ["_law_state","_law_many"] QM:=QW T
 refine T.d_Y.F.ok sc_Lnear (fun vs H Q E h=>?_) (fun cdv A outer s H vs Q E hr h=>?_)
 · obtain ⟨p,q,rows,rfl,hp,hrs,good,kk⟩:=h
   rfl
 · obtain ⟨p,q,rows,rfl,hp,hrs,good,kk⟩:=h
   have hu:=qK hr
   have hU:=hr.units
   have h_u:Room (1) _:=hr.mono (by decide)
   have h_a:Room (2) _:=hr.mono (by decide)
   refine ⟨_,(@qf _ _ _ _ _ (by exact (Jq (qD (r:=rIx K) qr (qj G_u h_u rfl T.d_u.m T.d_u.k T.d_u.b .nil ql (qa (pv 1) qb)) (qj G_a h_a rfl T.d_a.m T.d_a.k T.d_a.b .nil ql (qa (pv 0) (qa (qq zp (by rfl) T.n_len qS (qa (pv 1) qb)) qb))) (fun _ _=>rfl)) (QU rfl (qz (qt (i:=2) (sc_Lnear.nd) rfl (Or.inl rfl)) (qz (qt (i:=3) (sc_Lnear.nd) rfl (Or.inl rfl)) (qz (qt (i:=4) (sc_Lnear.nd) rfl (Or.inl rfl)) zZ))))))
     (by exact (@qf _ _ _ _ _ (by exact (qF (i:=5) sc_Lnear.nd rfl (Or.inl rfl) (qN (qa (pv 2) (qa (pv 3) (qa (pv 2) (qa (pv 3) (qa (qw Zu (pv 2) (qw qdt (qw zY (pv 3) (pv 2)) qc)) qb))))))))
     (by exact (@qg _ _ _ (by exact (@qu _ _ _ _ (by exact (@qw _ _ _ _ _ _ _ _ (by exact Zu) (by exact (qw Zu (qD (r:=rIx K) qr (pv 5) (qj G_a h_a rfl T.d_a.m T.d_a.k T.d_a.b .nil ql (qa (pv 0) (qa qc qb))) (fun _ _=>rfl)) (pv 4))) (by exact (@qD _ _ _ _ _ _ (rIx K) (by exact qr) (by exact (@qN _ _ _ _ (by exact (@qa _ _ _ _ _ (by exact qc) (by exact (@qa _ _ _ _ _ (by exact qc) (by exact (@qa _ _ _ _ _ (by exact qc) (by exact (@qa _ _ _ _ _ (by exact (ZQ Qq qc)) (by exact (@qa _ _ _ _ _ (by exact (qw zY (qj G_a h_a rfl T.d_a.m T.d_a.k T.d_a.b .nil ql (qa (pv 0) (qa qc qb))) qc)) (by exact (@qb _)) (by rfl))) (by rfl))) (by rfl))) (by rfl))) (by rfl))))) (by exact (qj G_a h_a rfl T.d_a.m T.d_a.k T.d_a.b .nil ql (qa (pv 0) (qa qc qb)))) (by exact fun _ _=>rfl)))))))))))),?_⟩
   try dsimp only [zx,Cx.nox]
   have p0:PenAt H p:=hp
   have t0:But p H H:=But.refl p H
   have lr:=good.few
   have l0:=QY good
   obtain ⟨zs0,hq0,tz0⟩:=id hrs
   refine ⟨_,rfl,q,rows,rfl,hrs,good,fun d zs G1 fd S1 hd tz=>?_⟩
   have u1:=S1
   have p1:=PenAt.sm p0 u1
   have t1:=t0.same u1
   have nd:d≠p:=hp.ne fd
   refine ⟨_,rfl,_,rfl,_,_,rfl,.inl ⟨_,SqL.of (S1 _ _ hq0),rfl⟩,p,_,rfl,p1,by rw [tz0.1]; omega,by rw [tz0.1]; omega,fun i G2 i0 i1 u2 p2=>?_⟩
   have t2:=t1.trans u2
   obtain ⟨j,rfl⟩:=Int.eq_ofNat_of_zero_le i0
   have jl:j < (pcs rows).length:=by rw [jo,← tz0.1]; omega
   obtain ⟨t,hz,ht⟩:=tz.at_ (List.getElem?_eq_getElem jl)
   have bd:=qha good.ok _ (List.getElem_mem jl)
   generalize (pcs rows)[j]=pc at ht bd
   have nt:t≠p:=by
     obtain ⟨c,x,y,_,e⟩:=p1
     exact qJ ht e (by intro z; cases z)
   refine .inl ⟨d,_,_,_,rfl,rfl,SqL.of (u2 _ _ hd nd),QL hz,?_⟩
   refine ⟨t,_,rfl,SqT.of (u2 _ _ ht nt),rfl,_,_,rfl,_,_,rfl,_,_,rfl,rfl,?_⟩
   obtain ⟨a1,b1,s1⟩:=pc
   obtain ⟨ha,hb,hs⟩:=bd
   try dsimp only at ha hb hs
   refine ⟨_,rfl,_,rfl,_,rfl,_,rfl,_,rfl,_,rfl,_,rfl,_,_,rfl,rfl,_,_,rfl,rfl,⟨by decide,by decide⟩,.inl ⟨_,_,rfl,rfl,?_⟩⟩
   refine ⟨(qk (Nat.le_of_ble_eq_true rfl)),fun l f_l=>?_⟩
   have n_l:l≠p:=p2.ne f_l
   have e_l:(upd G2 l (.lst [.int a1,.int b1,.int a1,.int b1,.int (a1+(b1 - a1) / 2)])) l=some (.lst [.int a1,.int b1,.int a1,.int b1,.int (a1+(b1 - a1) / 2)]):=qd
   have p3:PenAt (upd G2 l (.lst [.int a1,.int b1,.int a1,.int b1,.int (a1+(b1 - a1) / 2)])) p:=p2.upd n_l _
   have u3:Same G2 (upd G2 l (.lst [.int a1,.int b1,.int a1,.int b1,.int (a1+(b1 - a1) / 2)])):=Same.new _ f_l
   have t3:=t2.same u3
   try dsimp only
   generalize upd G2 l (.lst [.int a1,.int b1,.int a1,.int b1,.int (a1+(b1 - a1) / 2)])=G3 at e_l p3 u3 t3 ⊢
   refine ⟨_,rfl,_,rfl,p,_,rfl,p3,by decide,by decide,fun j2 G4 j20 j21 u4 p4=>?_⟩
   have t4:=t3.trans u4
   obtain ⟨v,hv,mv⟩:=jv (xs:=([.int a1,.int b1,.int a1,.int b1,.int (a1+(b1 - a1) / 2)]:List V)) j20 j21
   obtain ⟨x,rfl,x0,x1⟩:∃ x:Int,v=.int x∧-1≤x∧x≤1000000000:=by
     simp only [List.mem_cons,List.not_mem_nil,or_false] at mv
     rcases mv with rfl | rfl | rfl | rfl | rfl<;>exact ⟨_,rfl,by omega,by omega⟩
   refine .inl ⟨l,_,_,_,rfl,rfl,SqL.of (u4 _ _ e_l n_l),hv,_,rfl,.inl ⟨_,_,rfl,rfl,?_⟩⟩
   refine ⟨_,rfl,_,rfl,p,_,rfl,p4,by decide,by decide,fun y G5 y0 y1 u5 p5=>?_⟩
   have t5:=t4.trans u5
   refine ⟨_,_,rfl,rfl,?_⟩
   refine ⟨(qk (Nat.le_of_ble_eq_true rfl)),fun l2 f_l2=>?_⟩
   have n_l2:l2≠p:=p5.ne f_l2
   have e_l2:(upd G5 l2 (.lst [.int 0,.int 0,.int 1,.int (-1),.int (y - 100)])) l2=some (.lst [.int 0,.int 0,.int 1,.int (-1),.int (y - 100)]):=qd
   have p6:PenAt (upd G5 l2 (.lst [.int 0,.int 0,.int 1,.int (-1),.int (y - 100)])) p:=p5.upd n_l2 _
   have u6:Same G5 (upd G5 l2 (.lst [.int 0,.int 0,.int 1,.int (-1),.int (y - 100)])):=Same.new _ f_l2
   have t6:=t5.same u6
   try dsimp only
   generalize upd G5 l2 (.lst [.int 0,.int 0,.int 1,.int (-1),.int (y - 100)])=G6 at e_l2 p6 u6 t6 ⊢
   refine ⟨_,rfl,p,_,rfl,p6,by decide,by decide,fun j3 G7 j30 j31 u7 p7=>?_⟩
   have t7:=t6.trans u7
   obtain ⟨v,hv2,mv2⟩:=jv (xs:=([.int 0,.int 0,.int 1,.int (-1),.int (y - 100)]:List V)) j30 j31
   obtain ⟨z,rfl,z0,z1⟩:∃ x:Int,v=.int x∧-100≤x∧x≤100:=by
     simp only [List.mem_cons,List.not_mem_nil,or_false] at mv2
     rcases mv2 with rfl | rfl | rfl | rfl | rfl<;>exact ⟨_,rfl,by omega,by omega⟩
   refine .inl ⟨l2,_,_,_,rfl,rfl,SqL.of (u7 _ _ e_l2 n_l2),hv2,.inl ⟨_,_,rfl,rfl,?_⟩⟩
   exact kk _ _ (by omega) (by omega) t7 p7
end
end K35
namespace K35
open PySem L2 PySem.NumText PyProof.Rows KC M04
section
variable {P:Program} {w:World} {K:PySem.W.Frag} {mg:Str->Option Value} {base:Heap}
end
abbrev Pls:=List (Str×Addr×List (Int×Int))
def dkv (ps:Pls):List (Key×V):=ps.map fun x=>((.inr x.1:Key),V.ref x.2.1)
structure TdI (H:Hp) (ps:Pls):Prop where
 rs:∀ x∈ps,Rs H x.2.1 x.2.2
 good:∀ x∈ps,Good x.2.2
 nm:∀ x∈ps,zU (.str x.1)=true
 nd:(ps.map (·.1)).Nodup
 ne:0 < ps.length
 few:ps.length≤6
def Td (H:Hp) (d:Addr) (ps:Pls):Prop:=Rd H d (.dK (dkv ps))∧TdI H ps
theorem Rd.bp {H H':Hp} {p d:Addr} {kvs:List (Key×V)} (h:Rd H d (.dK kvs)) (hp:PenAt H p) (b:But p H H'):Rd H' d (.dK kvs):=by
 obtain ⟨c,x,y,_,e⟩:=hp
 rcases h with h | ⟨o,h⟩
 · exact .inl (b _ _ h (qJ h e (by intro z; cases z)))
 · exact .inr ⟨o,b _ _ h (qJ h e (by intro z; cases z))⟩
theorem Rd.sm {H H':Hp} {d:Addr} {u:HO} (h:Rd H d u) (b:Same H H'):Rd H' d u:=by
 rcases h with h | ⟨o,h⟩
 · exact .inl (b _ _ h)
 · exact .inr ⟨o,b _ _ h⟩
theorem Td.bp {H H':Hp} {p d:Addr} {ps:Pls} (h:Td H d ps) (hp:PenAt H p) (b:But p H H'):Td H' d ps :=
 ⟨Rd.bp h.1 hp b,⟨fun x m=>(h.2.rs x m).bp hp b,h.2.good,h.2.nm,h.2.nd,h.2.ne,h.2.few⟩⟩
theorem qbf:∀ {ps:Pls},(ps.map (·.1)).Nodup->∀ x∈ps,qam (dkv ps) (.inr x.1)=some (V.ref x.2.1)
 | [],_,x,m=>nomatch m
 | y::ps,nd,x,m=>by
   rw [List.map_cons,List.nodup_cons] at nd
   unfold dkv qam
   rw [List.map_cons,List.find?_cons]
   rcases List.mem_cons.mp m with rfl | m
   · simp
   · have n:¬ ((.inr y.1:Key)=.inr x.1):=fun e=>by
       injection e with e
       exact nd.1 (e▸List.mem_map_of_mem m)
     rw [show decide (((.inr y.1:Key),V.ref y.2.1).1=.inr x.1)=false by simpa using n]
     exact qbf nd.2 x m
theorem qgi:∀ {ps:Pls} {pl:Str},pl∉ps.map (·.1)->qam (dkv ps) (.inr pl)=none
 | [],_,_=>rfl
 | y::ps,pl,h=>by
   rw [List.map_cons,List.mem_cons,not_or] at h
   unfold dkv qam
   rw [List.map_cons,List.find?_cons]
   have n:¬ ((.inr y.1:Key)=.inr pl):=fun e=>by injection e with e; exact h.1 e.symm
   rw [show decide (((.inr y.1:Key),V.ref y.2.1).1=.inr pl)=false by simpa using n]
   exact qgi h.2
theorem Td.get {H:Hp} {d:Addr} {ps:Pls} (h:Td H d ps) {x:Str×Addr×List (Int×Int)} (m:x∈ps):qbM H d (.str x.1) (some (.ref x.2.1)):=.inl ⟨_,.inr x.1,h.1,rfl,(qbf h.2.nd x m).symm⟩
inductive qbh (vs:List V) (H:Hp) (Q:VK):Prop
 | mk (p q tb:Addr) (nm:Str) (ps:Pls) (h1:vs=[.ref p,.str nm,.ref q,.ref tb]) (h2:PenAt H p) (h3:zU (.str nm)=true) (h4:H q=some (.lst ((ps.map (·.1)).map V.str))) (h5:Td H tb ps) (h6:∀ (s:Addr) (wd pl:Str) (lo hi:Int) (H':Hp),H s=none->But p H H'->PenAt H' p->H' s=some (.tup (qiT wd nm pl lo hi))->Spc wd nm pl lo hi->(pl=""∨pl∈ps.map (·.1))->Q (.ref s) H'):qbh vs H Q
def qdQ:Sp:=fun vs H Q _=>qbh vs H Q
section
variable {P:Program} {w:World} {K:PySem.W.Frag} {mg:Str->Option Value} {base:Heap}
theorem qgv {a:Ad} (T:Txt K mg a):qC P w K mg base CX0 4 a.f_Z a.fd_Z ["_law_state","_law_name","_law_places","_law_tables"] qdQ:=by
 have G_a:qC P w K mg base CX0 2 a.f_a a.fd_a ["_law_state","_law_many"] QM:=QW T
 have G_Y:qC P w K mg base CX0 3 a.f_Y a.fd_Y ["_law_state","_law_rows_here"] qdS:=qgx T
 refine T.d_Z.F.ok sc_Lspec (fun vs H Q E h=>?_) (fun cdv A outer s H vs Q E hr h=>?_)
 · obtain ⟨p,q,tb,nm,ps,rfl,hp,hnm,hq,td,kk⟩:=h
   rfl
 · obtain ⟨p,q,tb,nm,ps,rfl,hp,hnm,hq,td,kk⟩:=h
   have hu:=qK hr
   have hU:=hr.units
   have h_a:Room (2) _:=hr.mono (by decide)
   have h_Y:Room (3) _:=hr.mono (by decide)
   refine ⟨_,(@qf _ _ _ _ _ (by exact (@qF _ _ 4 _ _ _ _ (by exact sc_Lspec.nd) (by rfl) (by exact (Or.inl rfl)) (by exact (@qD _ _ _ _ _ _ (rIx K) (by exact qr) (by exact (@qN _ _ _ _ (by exact (@qa _ _ _ _ _ (by exact qB) (by exact (@qa _ _ _ _ _ (by exact qB) (by exact (@qa _ _ _ _ _ (by exact qB) (by exact (@qa _ _ _ _ _ (by exact qB) (by exact (@qa _ _ _ _ _ (by exact qB) (by exact (@qa _ _ _ _ _ (by exact qB) (by exact (@qa _ _ _ _ _ (by exact qB) (by exact (@qa _ _ _ _ _ (by exact qB) (by exact (@qb _)) (by rfl))) (by rfl))) (by rfl))) (by rfl))) (by rfl))) (by rfl))) (by rfl))) (by rfl))))) (by exact (qj G_a h_a rfl T.d_a.m T.d_a.k T.d_a.b .nil ql (qa (pv 0) (qa qc qb)))) (by exact fun _ _=>rfl))) (by rfl) (by exact .inl rfl)))
     (by exact (@qf _ _ _ _ _ (by exact (qF (i:=5) sc_Lspec.nd rfl (Or.inl rfl) (qD (r:=rIx K) qr (pv 2) (qj G_a h_a rfl T.d_a.m T.d_a.k T.d_a.b .nil ql (qa (pv 0) (qa (qq zp (by rfl) T.n_len qS (qa (pv 2) qb)) qb))) (fun _ _=>rfl))))
     (by exact (@qf _ _ _ _ _ (by exact (qF (i:=6) sc_Lspec.nd rfl (Or.inl rfl) (qI hu (pv 3) (pv 5) (fun _ _=>rfl))))
     (by exact (@qf _ _ _ _ _ (by exact (@qO _ _ _ _ _ _ _ _ (by exact (qA qcW (pv 4) (zC (qa qB (qa qB qb))) (by with_unfolding_all rfl)))
       (by exact (@qf _ _ _ _ _ (by exact (qF (i:=7) sc_Lspec.nd rfl (Or.inl rfl) (qj G_Y h_Y rfl T.d_Y.m T.d_Y.k T.d_Y.b .nil ql (qa (pv 0) (qa (pv 6) qb)))))
       (by exact (@qf _ _ _ _ _ (by exact (@qO _ _ _ _ _ _ _ _ (by exact (qA (uEq hU) (qj G_a h_a rfl T.d_a.m T.d_a.k T.d_a.b .nil ql (qa (pv 0) (qa qc qb))) qc (qG _)))
         (by exact (@qg _ _ _ (by exact (@qF _ _ 7 _ _ _ _ (by exact sc_Lspec.nd) (by rfl) (by exact (Or.inl rfl)) (by exact (@qD _ _ _ _ _ _ (rIx K) (by exact qr) (by exact (@qN _ _ _ _ (by exact (@qa _ _ _ _ _ (by exact (qw zL qc qc)) (by exact (@qa _ _ _ _ _ (by exact (qw zY qc (qw zL qc qc))) (by exact (@qa _ _ _ _ _ (by exact (qj G_a h_a rfl T.d_a.m T.d_a.k T.d_a.b .nil ql (qa (pv 0) (qa (qw zL qc qc) qb)))) (by exact (@qb _)) (by rfl))) (by rfl))) (by rfl))))) (by exact (qj G_a h_a rfl T.d_a.m T.d_a.k T.d_a.b .nil ql (qa (pv 0) (qa qc qb)))) (by exact fun _ _=>rfl))) (by rfl) (by exact .inl rfl)))))
         (by exact qv)))
       (by exact (@qf _ _ _ _ _ (by exact (@qF _ _ 8 _ _ _ _ (by exact sc_Lspec.nd) (by rfl) (by exact (Or.inl rfl)) (by exact (@qq _ _ _ _ _ _ _ _ _ (by exact (Ze rfl)) (by rfl) (by exact T.n_min) (by exact Zf) (by exact (@qa _ _ _ _ _ (by exact (qw zL qc qc)) (by exact (@qa _ _ _ _ _ (by exact (@qw _ _ _ _ _ _ _ _ (by exact Zu) (by exact (pv 7)) (by exact (@qD _ _ _ _ _ _ (rIx K) (by exact qr) (by exact (@qN _ _ _ _ (by exact (@qa _ _ _ _ _ (by exact qc) (by exact (@qa _ _ _ _ _ (by exact qc) (by exact (@qa _ _ _ _ _ (by exact qc) (by exact (@qa _ _ _ _ _ (by exact qc) (by exact (@qa _ _ _ _ _ (by exact (qw zL qc qc)) (by exact (@qa _ _ _ _ _ (by exact (ZQ Qq qc)) (by exact (@qb _)) (by rfl))) (by rfl))) (by rfl))) (by rfl))) (by rfl))) (by rfl))))) (by exact (qj G_a h_a rfl T.d_a.m T.d_a.k T.d_a.b .nil ql (qa (pv 0) (qa qc qb)))) (by exact fun _ _=>rfl))))) (by exact (@qb _)) (by rfl))) (by rfl))) (by decide) (by rfl) (by rfl) (by rfl))) (by rfl) (by exact .inl rfl)))
       (by exact (qg (qu (zC (qa (pv 4) (qa (pv 1) (qa (pv 5) (qa (pv 7) (qa (qD (r:=rIx K) qr (qN (qa (qq (Qw rfl) (by rfl) T.n_max Qx (qa (pv 8) (qa (qw zY qc (qw zL qc qc)) qb))) (qa (pv 7) qb))) (Qu JA (by rfl) T.n_int ZM (qa (Zs (uEq hU) (pv 4) qB (qG _)) qb)) (fun _ _=>rfl)) qb)))))))))))))))
       (by exact qv)))
     (by exact (@qf _ _ _ _ _ (by exact (qF (i:=7) sc_Lspec.nd rfl (Or.inl rfl) (qq (Ze rfl) (by rfl) T.n_min Zf (qa (qw zL qc qc) (qa (qq (Qw rfl) (by rfl) T.n_max Qx (qa qc (qa (qw zY (qw Zu (qD (r:=rIx K) qr (qD (r:=rIx K) qr (pv 6) (qj G_a h_a rfl T.d_a.m T.d_a.k T.d_a.b .nil ql (qa (pv 0) (qa (qq zp (by rfl) T.n_len qS (qa (pv 6) qb)) qb))) (fun _ _=>rfl)) qc (fun _ _=>rfl)) (qj G_a h_a rfl T.d_a.m T.d_a.k T.d_a.b .nil ql (qa (pv 0) (qa qc qb)))) qc) qb))) qb)))))
     (by exact (@qf _ _ _ _ _ (by exact (@qO _ _ _ _ _ _ _ _ (by exact (qA (uEq hU) (qj G_a h_a rfl T.d_a.m T.d_a.k T.d_a.b .nil ql (qa (pv 0) (qa qc qb))) qc (qG _)))
       (by exact (@qg _ _ _ (by exact (@qF _ _ 7 _ _ _ _ (by exact sc_Lspec.nd) (by rfl) (by exact (Or.inl rfl)) (by exact (@qD _ _ _ _ _ _ (rIx K) (by exact qr) (by exact (@qN _ _ _ _ (by exact (@qa _ _ _ _ _ (by exact qc) (by exact (@qa _ _ _ _ _ (by exact (qw zL qc qc)) (by exact (@qa _ _ _ _ _ (by exact (qj G_a h_a rfl T.d_a.m T.d_a.k T.d_a.b .nil ql (qa (pv 0) (qa (qw Zu (qw zL qc qc) qc) qb)))) (by exact (@qb _)) (by rfl))) (by rfl))) (by rfl))))) (by exact (qj G_a h_a rfl T.d_a.m T.d_a.k T.d_a.b .nil ql (qa (pv 0) (qa qc qb)))) (by exact fun _ _=>rfl))) (by rfl) (by exact .inl rfl)))))
       (by exact qv)))
     (by exact (@qf _ _ _ _ _ (by exact (@qF _ _ 8 _ _ _ _ (by exact sc_Lspec.nd) (by rfl) (by exact (Or.inl rfl)) (by exact (@qq _ _ _ _ _ _ _ _ _ (by exact (Ze rfl)) (by rfl) (by exact T.n_min) (by exact Zf) (by exact (@qa _ _ _ _ _ (by exact (qw zL qc qc)) (by exact (@qa _ _ _ _ _ (by exact (@qq _ _ _ _ _ _ _ _ _ (by exact (Qw rfl)) (by rfl) (by exact T.n_max) (by exact Qx) (by exact (@qa _ _ _ _ _ (by exact qc) (by exact (@qa _ _ _ _ _ (by exact (@qw _ _ _ _ _ _ _ _ (by exact Zu) (by exact (pv 7)) (by exact (@qD _ _ _ _ _ _ (rIx K) (by exact qr) (by exact (@qN _ _ _ _ (by exact (@qa _ _ _ _ _ (by exact qc) (by exact (@qa _ _ _ _ _ (by exact qc) (by exact (@qa _ _ _ _ _ (by exact qc) (by exact (@qa _ _ _ _ _ (by exact qc) (by exact (@qa _ _ _ _ _ (by exact (qw zL qc qc)) (by exact (@qa _ _ _ _ _ (by exact (ZQ Qq qc)) (by exact (@qb _)) (by rfl))) (by rfl))) (by rfl))) (by rfl))) (by rfl))) (by rfl))))) (by exact (qj G_a h_a rfl T.d_a.m T.d_a.k T.d_a.b .nil ql (qa (pv 0) (qa qc qb)))) (by exact fun _ _=>rfl))))) (by exact (@qb _)) (by rfl))) (by rfl))) (by decide) (by rfl) (by rfl) (by rfl))) (by exact (@qb _)) (by rfl))) (by rfl))) (by decide) (by rfl) (by rfl) (by rfl))) (by rfl) (by exact .inl rfl)))
     (by exact (qf (qO (qA (uEq hU) (pv 4) qB (qG _))
       (qg (qu (zC (qa (pv 4) (qa (pv 1) (qa qB (qa qc (qa (qw zL qc qc) qb))))))))
       qv)
     (qg (qu (zC (qa (pv 4) (qa (pv 1) (qa qB (qa (pv 7) (qa (qD (r:=rIx K) qr (qN (qa (pv 8) (qa (pv 7) qb))) (Qu JA (by rfl) T.n_int ZM (qa (Zs (uEq hU) (pv 4) qB (qG _)) qb)) (fun _ _=>rfl)) qb))))))))))))))))))))))),?_⟩
   try dsimp only [zx,Cx.nox]
   have p0:PenAt H p:=hp
   have t0:But p H H:=But.refl p H
   have lps:=td.2.ne
   have lpf:=td.2.few
   have nq:q≠p:=by
     obtain ⟨c,x,y,_,e⟩:=hp
     refine qJ hq e (fun z=>?_)
     injection z with z
     cases ps with
     | nil=>cases lps
     | cons a r=>cases z
   have lq:((ps.map (·.1)).map V.str).length=ps.length:=by rw [List.length_map,List.length_map]
   refine ⟨(qk (Nat.le_of_ble_eq_true rfl)),fun lw f_lw=>?_⟩
   have n_lw:lw≠p:=p0.ne f_lw
   have e_lw:(upd H lw (.lst [.str "any",.str "within",.str "at",.str "between",.str "read",.str "between",.str "read",.str "read"])) lw=some (.lst [.str "any",.str "within",.str "at",.str "between",.str "read",.str "between",.str "read",.str "read"]):=qd
   have p1:PenAt (upd H lw (.lst [.str "any",.str "within",.str "at",.str "between",.str "read",.str "between",.str "read",.str "read"])) p:=p0.upd n_lw _
   have u1:Same H (upd H lw (.lst [.str "any",.str "within",.str "at",.str "between",.str "read",.str "between",.str "read",.str "read"])):=Same.new _ f_lw
   have t1:=t0.same u1
   try dsimp only
   generalize upd H lw (.lst [.str "any",.str "within",.str "at",.str "between",.str "read",.str "between",.str "read",.str "read"])=G1 at e_lw p1 u1 t1 ⊢
   refine ⟨_,rfl,p,_,rfl,p1,by decide,by decide,fun iw G2 iw0 iw1 u2 p2=>?_⟩
   have t2:=t1.trans u2
   obtain ⟨v,hv,mv⟩:=jv (xs:=([.str "any",.str "within",.str "at",.str "between",.str "read",.str "between",.str "read",.str "read"]:List V)) iw0 iw1
   obtain ⟨wd,rfl,hw⟩:∃ wd:Str,v=.str wd∧((wd="between"∨wd="read")∨wd="any"∨wd="within"∨wd="at"):=by
     simp only [List.mem_cons,List.not_mem_nil,or_false] at mv
     rcases mv with rfl | rfl | rfl | rfl | rfl | rfl | rfl | rfl
     · exact ⟨_,rfl,.inr (.inl rfl)⟩
     · exact ⟨_,rfl,.inr (.inr (.inl rfl))⟩
     · exact ⟨_,rfl,.inr (.inr (.inr rfl))⟩
     · exact ⟨_,rfl,.inl (.inl rfl)⟩
     · exact ⟨_,rfl,.inl (.inr rfl)⟩
     · exact ⟨_,rfl,.inl (.inl rfl)⟩
     · exact ⟨_,rfl,.inl (.inr rfl)⟩
     · exact ⟨_,rfl,.inl (.inr rfl)⟩
   refine .inl ⟨lw,_,_,_,rfl,rfl,SqL.of (u2 _ _ e_lw n_lw),hv,?_⟩
   refine ⟨_,rfl,_,rfl,_,rfl,_,_,rfl,.inl ⟨_,SqL.of (t2 _ _ hq nq),rfl⟩,p,_,rfl,p2,by rw [lq]; omega,by rw [lq]; omega,fun ip G3 ip0 ip1 u3 p3=>?_⟩
   have t3:=t2.trans u3
   obtain ⟨j,rfl⟩:=Int.eq_ofNat_of_zero_le ip0
   have jl:j < ps.length:=by rw [lq] at ip1; omega
   have mx:=List.getElem_mem jl
   have hx:((ps.map (·.1)).map V.str)[j]?=some (.str ps[j].1):=by rw [List.getElem?_map,List.getElem?_map,List.getElem?_eq_getElem jl]; rfl
   generalize ps[j]=x at mx hx
   refine .inl ⟨q,_,_,_,rfl,rfl,SqL.of (t3 _ _ hq nq),QL hx,?_⟩
   have td3:=td.bp hp t3
   refine ⟨_,rfl,_,rfl,tb,_,rfl,td3.get mx,?_⟩
   have good:=td.2.good x mx
   have nmx:=td.2.nm x mx
   have mpl:x.1∈ps.map (·.1):=List.mem_map_of_mem mx
   have hrs0:=td.2.rs x mx
   obtain ⟨pl,rq,rows⟩:=x
   try dsimp only at good nmx mpl hrs0
   have e10:(10:Int) ^ (10:Int).toNat=10000000000:=by decide
   have e9:(10:Int) ^ (9:Int).toNat=1000000000:=by decide
   have e6:(10:Int) ^ (6:Int).toNat=1000000:=by decide
   have e8:(10:Int) ^ (8:Int).toNat=100000000:=by decide
   refine ⟨_,rfl,(qk (Nat.le_of_ble_eq_true rfl)),fun tt f_tt=>?_⟩
   have n_tt:tt≠p:=p3.ne f_tt
   have e_tt:(upd G3 tt (.tup [.str "between",.str "read"])) tt=some (.tup [.str "between",.str "read"]):=qd
   have p4:PenAt (upd G3 tt (.tup [.str "between",.str "read"])) p:=p3.upd n_tt _
   have u4:Same G3 (upd G3 tt (.tup [.str "between",.str "read"])):=Same.new _ f_tt
   have t4:=t3.same u4
   try dsimp only
   generalize upd G3 tt (.tup [.str "between",.str "read"])=G4 at e_tt p4 u4 t4 ⊢
   refine ⟨tt,_,rfl,.inr (SqT.of e_tt),rfl,rfl,_,rfl,?_⟩
   clear u1 u2 u3 u4 p1 p2 p3 t1 t2 t3 e_tt e_lw hv mv td3 hx
   rcases hw with hw | hw
   all_goals have t4_:=t4
   · have p0:PenAt G4 p:=p4
     have t0:But p G4 G4:=But.refl p G4
     have e1:inV (.str wd) [.str "between",.str "read"]=true:=by rcases hw with rfl | rfl<;>decide
     refine qfH e1 ?_
     have T0:But p H G4:=t4_
     refine ⟨_,rfl,_,rfl,p,rq,rows,rfl,p0,hrs0.bp hp T0,good,fun n G1 n0 n1 u1 p1=>?_⟩
     have t1:=t0.trans u1
     try unfold zm
     try dsimp only
     refine zc (t:=qh5 _ _ _) (fun σ' H'=>∃ lo:Int,σ'=[some (.ref p),some (.str nm),some (.ref q),some (.ref tb),some (.str wd),some (.str pl),some (.ref rq),some (.int lo),none]∧(-10000000000≤lo∧lo≤10000000000)∧But p H H'∧PenAt H' p) (fun N hN=>?_) ?_
     have t1_:=t1
     · have p0:PenAt G1 p:=p1
       have t0:But p G1 G1:=But.refl p G1
       refine ⟨_,rfl,p,_,rfl,p0,by decide,by decide,fun d8 G1 d80 d81 u1 p1=>?_⟩
       have t1:=t0.trans u1
       refine .inl ⟨rfl,_,rfl,Zh (fun g=>?_) (fun g=>hN _ _ ⟨n,rfl,⟨by omega,by omega⟩,T0.trans (t1_.trans t1),p1⟩)⟩
       have w10:(0:Int) < 10 ^ (10:Int).toNat∧(10:Int) ^ (10:Int).toNat < 340282366920938463463374607431768211456:=by decide
       refine ⟨_,_,rfl,rfl,⟨by decide,by decide,by decide⟩,_,_,rfl,rfl,⟨by decide,by decide,by decide⟩,_,_,rfl,rfl,_,rfl,_,_,rfl,rfl,⟨by decide,by decide,by decide⟩,p,_,rfl,p1,w10.1,w10.2,fun dz G2 dz0 dz1 u2 p2=>?_⟩
       have t2:=t1.trans u2
       refine ⟨(qk (Nat.le_of_ble_eq_true rfl)),fun l3 f_l3=>?_⟩
       have n_l3:l3≠p:=p2.ne f_l3
       have e_l3:(upd G2 l3 (.lst [.int (10 ^ (10:Int).toNat),.int (0 - 10 ^ (10:Int).toNat),.int dz])) l3=some (.lst [.int (10 ^ (10:Int).toNat),.int (0 - 10 ^ (10:Int).toNat),.int dz]):=qd
       have p3:PenAt (upd G2 l3 (.lst [.int (10 ^ (10:Int).toNat),.int (0 - 10 ^ (10:Int).toNat),.int dz])) p:=p2.upd n_l3 _
       have u3:Same G2 (upd G2 l3 (.lst [.int (10 ^ (10:Int).toNat),.int (0 - 10 ^ (10:Int).toNat),.int dz])):=Same.new _ f_l3
       have t3:=t2.same u3
       try dsimp only
       generalize upd G2 l3 (.lst [.int (10 ^ (10:Int).toNat),.int (0 - 10 ^ (10:Int).toNat),.int dz])=G3 at e_l3 p3 u3 t3 ⊢
       refine ⟨_,rfl,p,_,rfl,p3,by decide,by decide,fun i3 G4 i30 i31 u4 p4=>?_⟩
       have t4:=t3.trans u4
       obtain ⟨v,hv,mv⟩:=jv (xs:=([.int (10 ^ (10:Int).toNat),.int (0 - 10 ^ (10:Int).toNat),.int dz]:List V)) i30 i31
       rw [e10] at dz1
       obtain ⟨lo,rfl,lo0,lo1⟩:∃ lo:Int,v=.int lo∧-10000000000≤lo∧lo≤10000000000:=by
         simp only [List.mem_cons,List.not_mem_nil,or_false] at mv
         rcases mv with rfl | rfl | rfl<;>exact ⟨_,rfl,by omega,by omega⟩
       refine .inl ⟨l3,_,_,_,rfl,rfl,SqL.of (u4 _ _ e_l3 n_l3),hv,?_⟩
       exact hN _ _ ⟨lo,rfl,⟨lo0,lo1⟩,T0.trans (t1_.trans t4),p4⟩
     rintro _ H5 ⟨lo,rfl,lob,T5,p5⟩
     have p0:PenAt H5 p:=p5
     have t0:But p H5 H5:=But.refl p H5
     refine ⟨_,_,rfl,rfl,⟨by decide,by decide,by decide⟩,_,rfl,_,_,rfl,rfl,⟨by decide,by decide,by decide⟩,_,rfl,(qk (Nat.le_of_ble_eq_true rfl)),fun l6 f_l6=>?_⟩
     have n_l6:l6≠p:=p0.ne f_l6
     have e_l6:(upd H5 l6 (.lst [.int 0,.int 1,.int 60,.int 3000,.int (10 ^ (6:Int).toNat),.int (-1)])) l6=some (.lst [.int 0,.int 1,.int 60,.int 3000,.int (10 ^ (6:Int).toNat),.int (-1)]):=qd
     have p1:PenAt (upd H5 l6 (.lst [.int 0,.int 1,.int 60,.int 3000,.int (10 ^ (6:Int).toNat),.int (-1)])) p:=p0.upd n_l6 _
     have u1:Same H5 (upd H5 l6 (.lst [.int 0,.int 1,.int 60,.int 3000,.int (10 ^ (6:Int).toNat),.int (-1)])):=Same.new _ f_l6
     have t1:=t0.same u1
     try dsimp only
     generalize upd H5 l6 (.lst [.int 0,.int 1,.int 60,.int 3000,.int (10 ^ (6:Int).toNat),.int (-1)])=G1 at e_l6 p1 u1 t1 ⊢
     refine ⟨_,rfl,p,_,rfl,p1,by decide,by decide,fun i6 G2 i60 i61 u2 p2=>?_⟩
     have t2:=t1.trans u2
     obtain ⟨v,hv,mv⟩:=jv (xs:=([.int 0,.int 1,.int 60,.int 3000,.int (10 ^ (6:Int).toNat),.int (-1)]:List V)) i60 i61
     obtain ⟨z,rfl,z0,z1⟩:∃ z:Int,v=.int z∧-1≤z∧z≤1000000:=by
       simp only [List.mem_cons,List.not_mem_nil,or_false] at mv
       rcases mv with rfl | rfl | rfl | rfl | rfl | rfl<;>exact ⟨_,rfl,by omega,by omega⟩
     refine .inl ⟨l6,_,_,_,rfl,rfl,SqL.of (u2 _ _ e_l6 n_l6),hv,.inl ⟨_,_,rfl,rfl,_,_,rfl,?_⟩⟩
     try unfold zm
     try dsimp only
     obtain ⟨hh,ehh⟩:∃ hh:Int,hh=if lo+z < 10 ^ (10:Int).toNat then lo+z else 10 ^ (10:Int).toNat:=⟨_,rfl⟩
     rw [← ehh]
     have hh1:hh≤10000000000:=by rw [ehh,e10]; split<;>omega
     refine ⟨_,rfl,_,rfl,_,rfl,_,rfl,_,rfl,_,_,rfl,rfl,⟨by decide,by decide,by decide⟩,_,_,rfl,rfl,_,_,rfl,_,rfl,(qk (Nat.le_of_ble_eq_true rfl)),fun l7 f_l7=>?_⟩
     have n_l7:l7≠p:=p2.ne f_l7
     have e_l7:(upd G2 l7 (.lst [.int (if 0 - 10 ^ (10:Int).toNat > hh then 0 - 10 ^ (10:Int).toNat else hh),.int lo])) l7=some (.lst [.int (if 0 - 10 ^ (10:Int).toNat > hh then 0 - 10 ^ (10:Int).toNat else hh),.int lo]):=qd
     have p3:PenAt (upd G2 l7 (.lst [.int (if 0 - 10 ^ (10:Int).toNat > hh then 0 - 10 ^ (10:Int).toNat else hh),.int lo])) p:=p2.upd n_l7 _
     have u3:Same G2 (upd G2 l7 (.lst [.int (if 0 - 10 ^ (10:Int).toNat > hh then 0 - 10 ^ (10:Int).toNat else hh),.int lo])):=Same.new _ f_l7
     have t3:=t2.same u3
     try dsimp only
     generalize upd G2 l7 (.lst [.int (if 0 - 10 ^ (10:Int).toNat > hh then 0 - 10 ^ (10:Int).toNat else hh),.int lo])=G3 at e_l7 p3 u3 t3 ⊢
     refine ⟨_,rfl,.inl ⟨rfl,.inr ⟨_,rfl,?_⟩⟩⟩
     have h7:=e_l7
     have nn:=t3
     rcases hw with rfl | rfl
     · refine .inl ⟨l7,_,_,_,rfl,rfl,SqL.of h7,rfl,qk (Nat.le_of_ble_eq_true rfl),fun s fs=>?_⟩
       have ns:s≠p:=p3.ne fs
       refine kk s _ _ _ _ _ ((T5.trans t3).none fs ns) ((T5.trans t3).same (Same.new _ fs)) (p3.upd ns _) qd (.between hnm nmx lob ?_) (.inr mpl)
       rw [e10]
       split<;>omega
     · refine .inl ⟨l7,_,_,_,rfl,rfl,SqL.of h7,rfl,qk (Nat.le_of_ble_eq_true rfl),fun s fs=>?_⟩
       have ns:s≠p:=p3.ne fs
       exact kk s _ _ _ _ _ ((T5.trans t3).none fs ns) ((T5.trans t3).same (Same.new _ fs)) (p3.upd ns _) qd (.read hnm nmx lob) (.inr mpl)
   · have p0:PenAt G4 p:=p4
     have t0:But p G4 G4:=But.refl p G4
     have e1:inV (.str wd) [.str "between",.str "read"]=false:=by rcases hw with rfl | rfl | rfl<;>decide
     refine zy e1 ?_
     have T0:But p H G4:=t4_
     obtain ⟨zr,hzr,tzr⟩:=hrs0.bp hp T0
     have nr:rq≠p:=(hrs0.bp hp T0).neP p0
     have lr:=good.few
     have l0:=QY good
     refine ⟨_,_,rfl,rfl,⟨by decide,by decide,by decide⟩,_,rfl,_,rfl,_,rfl,_,_,rfl,.inl ⟨_,SqL.of hzr,rfl⟩,p,_,rfl,p0,by rw [tzr.1]; omega,by rw [tzr.1]; omega,fun ir G1 ir0 ir1 u1 p1=>?_⟩
     have t1:=t0.trans u1
     obtain ⟨j,rfl⟩:=Int.eq_ofNat_of_zero_le ir0
     have jl:j < rows.length:=by rw [← tzr.1]; omega
     obtain ⟨t,hz,ht⟩:=tzr.at_ (List.getElem?_eq_getElem jl)
     have bd:=good.ok _ (List.getElem_mem jl)
     generalize rows[j]=rw_ at ht bd
     have nt:t≠p:=by
       obtain ⟨c,x,y,_,e⟩:=p0
       exact qJ ht e (by intro z; cases z)
     refine .inl ⟨rq,_,_,_,rfl,rfl,SqL.of (u1 _ _ hzr nr),QL hz,.inr (.inl ⟨t,_,_,_,rfl,rfl,SqT.of (u1 _ _ ht nt),rfl,?_⟩)⟩
     refine ⟨_,rfl,p,_,rfl,p1,by decide,by decide,fun d4 G2 d40 d41 u2 p2=>?_⟩
     have t2:=t1.trans u2
     refine .inl ⟨_,_,rfl,rfl,_,_,rfl,rfl,_,_,rfl,_,_,rfl,?_⟩
     try unfold zm
     try dsimp only
     generalize hlo:(if (if rw_.1+d4 - 200 > 0 then rw_.1+d4 - 200 else 0) < 10 ^ (9:Int).toNat then (if rw_.1+d4 - 200 > 0 then rw_.1+d4 - 200 else 0) else 10 ^ (9:Int).toNat)=n
     have nb:0≤n∧n≤1000000000:=by
       rw [e9] at hlo
       subst hlo
       split<;>split<;>omega
     clear hlo
     refine zc (t:=qh5 _ _ _) (fun σ' H'=>∃ lo:Int,σ'=[some (.ref p),some (.str nm),some (.ref q),some (.ref tb),some (.str wd),some (.str pl),some (.ref rq),some (.int lo),none]∧(0≤lo∧lo≤1000000000)∧But p H H'∧PenAt H' p) (fun N hN=>?_) ?_
     have t2_:=t2
     · have p0:PenAt G2 p:=p2
       have t0:But p G2 G2:=But.refl p G2
       refine ⟨_,rfl,p,_,rfl,p0,by decide,by decide,fun d6 G1 d60 d61 u1 p1=>?_⟩
       have t1:=t0.trans u1
       refine .inl ⟨rfl,_,rfl,Zh (fun g=>?_) (fun g=>hN _ _ ⟨n,rfl,nb,T0.trans (t2_.trans t1),p1⟩)⟩
       have w9:(0:Int) < 10 ^ (9:Int).toNat+1∧(10:Int) ^ (9:Int).toNat+1 < 340282366920938463463374607431768211456:=by decide
       refine ⟨_,_,rfl,rfl,⟨by decide,by decide,by decide⟩,_,rfl,_,_,rfl,rfl,⟨by decide,by decide,by decide⟩,.inl ⟨_,_,rfl,rfl,p,_,rfl,p1,w9.1,w9.2,fun dz G2 dz0 dz1 u2 p2=>?_⟩⟩
       have t2:=t1.trans u2
       refine ⟨(qk (Nat.le_of_ble_eq_true rfl)),fun l3 f_l3=>?_⟩
       have n_l3:l3≠p:=p2.ne f_l3
       have e_l3:(upd G2 l3 (.lst [.int 0,.int (10 ^ (9:Int).toNat),.int dz])) l3=some (.lst [.int 0,.int (10 ^ (9:Int).toNat),.int dz]):=qd
       have p3:PenAt (upd G2 l3 (.lst [.int 0,.int (10 ^ (9:Int).toNat),.int dz])) p:=p2.upd n_l3 _
       have u3:Same G2 (upd G2 l3 (.lst [.int 0,.int (10 ^ (9:Int).toNat),.int dz])):=Same.new _ f_l3
       have t3:=t2.same u3
       try dsimp only
       generalize upd G2 l3 (.lst [.int 0,.int (10 ^ (9:Int).toNat),.int dz])=G3 at e_l3 p3 u3 t3 ⊢
       refine ⟨_,rfl,p,_,rfl,p3,by decide,by decide,fun i3 G4 i30 i31 u4 p4=>?_⟩
       have t4:=t3.trans u4
       obtain ⟨v,hv,mv⟩:=jv (xs:=([.int 0,.int (10 ^ (9:Int).toNat),.int dz]:List V)) i30 i31
       rw [e9] at dz1
       obtain ⟨lo,rfl,lo0,lo1⟩:∃ lo:Int,v=.int lo∧0≤lo∧lo≤1000000000:=by
         simp only [List.mem_cons,List.not_mem_nil,or_false] at mv
         rcases mv with rfl | rfl | rfl<;>exact ⟨_,rfl,by omega,by omega⟩
       refine .inl ⟨l3,_,_,_,rfl,rfl,SqL.of (u4 _ _ e_l3 n_l3),hv,?_⟩
       exact hN _ _ ⟨lo,rfl,⟨lo0,lo1⟩,T0.trans (t2_.trans t4),p4⟩
     rintro _ H5 ⟨lo,rfl,lob,T5,p5⟩
     have p0:PenAt H5 p:=p5
     have t0:But p H5 H5:=But.refl p H5
     refine ⟨_,_,rfl,rfl,⟨by decide,by decide,by decide⟩,_,rfl,_,_,rfl,rfl,⟨by decide,by decide,by decide⟩,_,rfl,(qk (Nat.le_of_ble_eq_true rfl)),fun l6 f_l6=>?_⟩
     have n_l6:l6≠p:=p0.ne f_l6
     have e_l6:(upd H5 l6 (.lst [.int 0,.int 1,.int 30,.int 5000,.int (10 ^ (8:Int).toNat),.int (-1)])) l6=some (.lst [.int 0,.int 1,.int 30,.int 5000,.int (10 ^ (8:Int).toNat),.int (-1)]):=qd
     have p1:PenAt (upd H5 l6 (.lst [.int 0,.int 1,.int 30,.int 5000,.int (10 ^ (8:Int).toNat),.int (-1)])) p:=p0.upd n_l6 _
     have u1:Same H5 (upd H5 l6 (.lst [.int 0,.int 1,.int 30,.int 5000,.int (10 ^ (8:Int).toNat),.int (-1)])):=Same.new _ f_l6
     have t1:=t0.same u1
     try dsimp only
     generalize upd H5 l6 (.lst [.int 0,.int 1,.int 30,.int 5000,.int (10 ^ (8:Int).toNat),.int (-1)])=G1 at e_l6 p1 u1 t1 ⊢
     refine ⟨_,rfl,p,_,rfl,p1,by decide,by decide,fun i6 G2 i60 i61 u2 p2=>?_⟩
     have t2:=t1.trans u2
     obtain ⟨v,hv,mv⟩:=jv (xs:=([.int 0,.int 1,.int 30,.int 5000,.int (10 ^ (8:Int).toNat),.int (-1)]:List V)) i60 i61
     obtain ⟨z,rfl,z0,z1⟩:∃ z:Int,v=.int z∧-1≤z∧z≤100000000:=by
       simp only [List.mem_cons,List.not_mem_nil,or_false] at mv
       rcases mv with rfl | rfl | rfl | rfl | rfl | rfl<;>exact ⟨_,rfl,by omega,by omega⟩
     refine .inl ⟨l6,_,_,_,rfl,rfl,SqL.of (u2 _ _ e_l6 n_l6),hv,.inl ⟨_,_,rfl,rfl,_,_,rfl,_,_,rfl,?_⟩⟩
     try unfold zm
     try dsimp only
     generalize ehh:(if (if lo+z > 0 then lo+z else 0) < 10 ^ (9:Int).toNat then (if lo+z > 0 then lo+z else 0) else 10 ^ (9:Int).toNat)=hh
     have hhb:0≤hh∧hh≤1000000000:=by
       rw [e9] at ehh
       subst ehh
       split<;>split<;>omega
     clear ehh
     rcases hw with rfl | hw
     · refine ⟨_,rfl,.inl ⟨rfl,_,rfl,Zh (fun _=>?_) (fun g=>absurd rfl g)⟩⟩
       refine ⟨_,rfl,_,rfl,_,_,rfl,rfl,⟨by decide,by decide,by decide⟩,qk (Nat.le_of_ble_eq_true rfl),fun s fs=>?_⟩
       have ns:s≠p:=p2.ne fs
       refine kk s _ "" 0 1000000000 _ ((T5.trans t2).none fs ns) ((T5.trans t2).same (Same.new _ fs)) (p2.upd ns _) ?_ (.any hnm) (.inl rfl)
       rw [qd,← e9]; rfl
     have nany:¬ V.str wd=V.str "any":=by rcases hw with rfl | rfl<;>decide
     refine ⟨_,rfl,.inl ⟨rfl,_,rfl,Zh (fun g=>absurd g nany) (fun _=>?_)⟩⟩
     refine ⟨_,rfl,_,rfl,_,rfl,_,rfl,_,rfl,(qk (Nat.le_of_ble_eq_true rfl)),fun l7 f_l7=>?_⟩
     have n_l7:l7≠p:=p2.ne f_l7
     have e_l7:(upd G2 l7 (.lst [.int hh,.int lo])) l7=some (.lst [.int hh,.int lo]):=qd
     have p3:PenAt (upd G2 l7 (.lst [.int hh,.int lo])) p:=p2.upd n_l7 _
     have u3:Same G2 (upd G2 l7 (.lst [.int hh,.int lo])):=Same.new _ f_l7
     have t3:=t2.same u3
     try dsimp only
     generalize upd G2 l7 (.lst [.int hh,.int lo])=G3 at e_l7 p3 u3 t3 ⊢
     refine ⟨_,rfl,.inl ⟨rfl,.inr ⟨_,rfl,?_⟩⟩⟩
     have h7:=e_l7
     rcases hw with rfl | rfl
     · refine .inl ⟨l7,_,_,_,rfl,rfl,SqL.of h7,rfl,qk (Nat.le_of_ble_eq_true rfl),fun s fs=>?_⟩
       have ns:s≠p:=p3.ne fs
       exact kk s _ _ _ _ _ ((T5.trans t3).none fs ns) ((T5.trans t3).same (Same.new _ fs)) (p3.upd ns _) qd (.within hnm lob hhb) (.inl rfl)
     · refine .inl ⟨l7,_,_,_,rfl,rfl,SqL.of h7,rfl,qk (Nat.le_of_ble_eq_true rfl),fun s fs=>?_⟩
       have ns:s≠p:=p3.ne fs
       exact kk s _ _ _ _ _ ((T5.trans t3).none fs ns) ((T5.trans t3).same (Same.new _ fs)) (p3.upd ns _) qd (.at_ hnm lob) (.inl rfl)
end
end K35
namespace K35
open PySem L2 PySem.NumText PyProof.Rows KC M04
section
variable {P:Program} {w:World} {K:PySem.W.Frag} {mg:Str->Option Value} {base:Heap}
end
inductive Due (ps:Pls) (wd pl:Str) (lo hi:Int):List (Int×Int)->Prop
 | pl {x:Str×Addr×List (Int×Int)}:(wd="between"∨wd="read")->x∈ps->x.1=pl->Due ps wd pl lo hi (shw x.2.2 lo hi)
 | no:(wd="any"∨wd="within"∨wd="at")->Due ps wd pl lo hi [(lo,hi)]
def na (rows:List (Int×Int)) (t:Int):Option Int:=(rows.filter fun r=>decide (r.1≤t)).getLast?.map (·.2)
theorem qfA {rows:List (Int×Int)} {t:Int} (h:Good rows) (t0:0≤t):∃ v,na rows t=some v∧-2880≤v∧v≤2880:=by
 obtain ⟨n,hn⟩:=h.fst
 unfold na
 have m0:(0,n)∈rows.filter fun r=>decide (r.1≤t):=by
   refine List.mem_filter.mpr ⟨List.mem_of_mem_head? hn,?_⟩
   simpa using t0
 cases hl:(rows.filter fun r=>decide (r.1≤t)).getLast? with
 | none=>rw [List.getLast?_eq_none_iff.mp hl] at m0; cases m0
 | some r =>
   have:=h.ok r (List.mem_filter.mp (List.mem_of_getLast? hl)).1
   exact ⟨r.2,rfl,this.2.2.1,this.2.2.2⟩
inductive jc (a:Ad) (vs:List V) (H:Hp) (Q:VK):Prop
 | mk (x:Addr) (rows:List (Int×Int)) (h1:vs=[.ref x]) (h2:Tb a H x rows) (h3:∀ (d:Addr) (H':Hp),H d=none->Same H H'->Rs H' d rows->Q (.ref d) H'):jc a vs H Q
def Jj (a:Ad):Sp:=fun vs H Q _=>jc a vs H Q
inductive jM (vs:List V) (H:Hp) (Q:VK):Prop
 | mk (q:Addr) (t v:Int) (rows:List (Int×Int)) (h1:vs=[.ref q,.int t]) (h2:Rs H q rows) (h3:rows.length≤21) (h4:na rows t=some v) (h5:∀ H',Same H H'->Q (.int v) H'):jM vs H Q
def JX:Sp:=fun vs H Q _=>jM vs H Q
inductive Q6 (a:Ad) (vs:List V) (H:Hp) (Q:VK):Prop
 | mk (x:Addr) (t v:Int) (rows:List (Int×Int)) (h1:vs=[.ref x,.int t]) (h2:Tb a H x rows) (h3:rows.length≤21) (h4:0≤t) (h5:t≤1000000000) (h6:na rows t=some v) (h7:∀ H',Same H H'->Q (.int v) H'):Q6 a vs H Q
def Zx (a:Ad):Sp:=fun vs H Q _=>Q6 a vs H Q
inductive Zk (a:Ad) (vs:List V) (H:Hp) (Q:VK):Prop
 | mk (x:Addr) (t v:Int) (rows:List (Int×Int)) (h1:vs=[.ref x,.int t]) (h2:Tb a H x rows) (h3:rows.length≤21) (h4:0≤t) (h5:t≤1000000000) (h6:na rows t=some v) (h7:∀ H',Same H H'->Q (.int (v+t)) H'):Zk a vs H Q
def ZX (a:Ad):Sp:=fun vs H Q _=>Zk a vs H Q
inductive Z8 (vs:List V) (H:Hp) (Q:VK):Prop
 | mk (i:Int) (h1:vs=[.int i]) (h2:-2000000000≤i) (h3:i≤2000000001) (h4:Q (.bl true) H):Z8 vs H Q
def Jh:Sp:=fun vs H Q _=>Z8 vs H Q
inductive qat (vs:List V) (H:Hp) (Q:VK):Prop
 | mk (x:Str) (d:Addr) (v:V) (h1:vs=[.str x,.ref d]) (h2:qbM H d (.str x) (some v)) (h3:Q (.bl true) H):qat vs H Q
def qau:Sp:=fun vs H Q _=>qat vs H Q
inductive Zl (a:Ad) (vs:List V) (H:Hp) (Q:VK):Prop
 | mk (x C dx tb:Addr) (nm pl:Str) (lo hi:Int) (ta:Addr) (rows:List (Int×Int)) (h1:vs=[.ref x,.ref tb]) (h2:(C=a.c_Between∨C=a.c_Read)) (h3:H x=some (.ins C dx (fsB nm pl lo hi))) (h4:qbM H tb (.str pl) (some (.ref ta))) (h5:Tb a H ta rows) (h6:Good rows) (h7:(-10000000000≤lo∧lo≤10000000000)) (h8:(-10000000000≤hi∧hi≤10000000000)) (h9:∀ (d:Addr) (r:List (Int×Int)) (H':Hp),H d=none->Same H H'->Rs H' d r->Zt r->r.length≤21->(∀ n,Mem r n↔Mem (shw rows lo hi) n)->Q (.ref d) H'):Zl a vs H Q
def zB (a:Ad):Sp:=fun vs H Q _=>Zl a vs H Q
section
variable {P:Program} {w:World} {K:PySem.W.Frag} {mg:Str->Option Value} {base:Heap}
theorem qb8 {a:Ad} (T:Txt K mg a):qC P w K mg base CX0 1 a.f_ai a.fd_ai ["self"] (Jj a):=by
 refine T.d_ai.F.ok qbW (fun vs H Q E h=>?_) (fun cdv A outer s H vs Q E hr h=>?_)
 · obtain ⟨x,rows,rfl,⟨k,dx,zs,hx,hk,tp⟩,kk⟩:=h
   rfl
 · obtain ⟨x,rows,rfl,⟨k,dx,zs,hx,hk,tp⟩,kk⟩:=h
   have hu:=qK hr
   have hU:=hr.units
   refine ⟨_,(qg (qu (Qu (r:=qiV K) Zo (by rfl) T.n_list zw (qa (qR (pv 0) rfl) qb)))),?_⟩
   try dsimp only [zx,Cx.nox]
   exact ⟨_,rfl,x,_,dx,_,_,rfl,hx,T.cl_Table,T.n_Table_kept,Jy _,k,zs,rfl,.inl (SqL.of hk),fun d fd=>kk d _ fd (Same.new _ fd) ⟨zs,qd,tp.same (Same.new _ fd)⟩⟩
theorem qcX {a:Ad} (T:Txt K mg a):qC P w K mg base CX0 1 a.f_R a.fd_R ["rows","moment"] JX:=by
 refine T.d_R.F.ok qcE (fun vs H Q E h=>?_) (fun cdv A outer s H vs Q E hr h=>?_)
 · obtain ⟨q,t,v,rows,rfl,⟨zs,hq,tp⟩,few,hv,kk⟩:=h
   rfl
 · obtain ⟨q,t,v,rows,rfl,⟨zs,hq,tp⟩,few,hv,kk⟩:=h
   have hu:=qK hr
   have hU:=hr.units
   refine ⟨_,(qg (qu (qD (r:=rIx K) qr (Qt rfl (CompOk.def ["start","number","moment"] [none,none,some 1]) (ze (pv 0)) (fun _ _ _ _ _=>(show PG _ _ (qhk K 2 _) from (QU rfl (qz (qt (i:=0) (show List.Nodup (["start","number","moment"]:List Str) by decide +kernel) rfl (Or.inl rfl)) (qz (qt (i:=1) (show List.Nodup (["start","number","moment"]:List Str) by decide +kernel) rfl (Or.inl rfl)) zZ))))) (fun _ _ _ _ _=>(qaK (qA qaO (pv 0) (pv 2) (qG _)))) (fun _ _ _ _ _=>(pv 1))) (ZQ Qq qc) (fun _ _=>rfl)))),?_⟩
   try dsimp only [zx,Cx.nox]
   have hl:zs.length=rows.length:=tp.1
   refine ⟨_,rfl,q,rfl,⟨_,SqL.of hq⟩,fun D fD=>?_⟩
   refine z9 (K:=K) (a:=q) (D:=D) (fun i σ H2=>∃ c0 c1:Option V,σ=[c0,c1,some (.int t)]∧Same H H2∧H2 D=some (.lst (((rows.take i).filter fun r=>decide (r.1≤t)).map fun r=>V.int r.2))) ⟨none,none,rfl,Same.new _ fD,qd⟩ (fun i σ H2 _ ⟨_,_,_,S,_⟩=>SqL.of (S _ _ hq)) ?_ ?_
   · rintro i x σ H2 hx ⟨c0,c1,rfl,S,hD⟩
     have hi:i < rows.length:=by rw [← hl]; exact (List.getElem?_eq_some_iff.mp hx).1
     obtain ⟨r,hr'⟩:∃ r,rows[i]?=some r:=⟨_,List.getElem?_eq_getElem hi⟩
     obtain ⟨u,rfl,hu'⟩:=tp.2 i x r hx hr'
     have et:rows.take (i+1)=rows.take i++[r]:=by rw [List.take_add_one,hr']; rfl
     refine ⟨u,_,rfl,SqT.of (S _ _ hu'),rfl,_,_,rfl,_,_,rfl,rfl,?_⟩
     refine ⟨_,rfl,_,rfl,_,_,rfl,rfl,_,rfl,?_⟩
     refine Zh (fun g=>?_) (fun g=>?_)
     · refine ⟨_,rfl,_,hD,qE ?_,_,_,rfl,S.put fD _,?_⟩
       · rw [List.length_map]
         refine Nat.le_trans (List.length_filter_le _ _) ?_
         rw [List.length_take]; omega
       · rw [qd,et,List.filter_append,List.map_append,show List.filter (fun r=>decide (r.1≤t)) [r]=[r] by simp [g]]
         rfl
     · refine ⟨_,_,rfl,S,?_⟩
       rw [et,List.filter_append,show List.filter (fun r=>decide (r.1≤t)) [r]=[] by simp [g],List.append_nil]
       exact hD
   · rintro σ H2 ⟨c0,c1,rfl,S,hD⟩
     rw [List.take_of_length_le (by rw [hl]; exact Nat.le_refl _)] at hD
     unfold na at hv
     cases hg:(List.filter (fun r=>decide (r.1≤t)) rows).getLast? with
     | none=>rw [hg] at hv; cases hv
     | some r =>
       rw [hg] at hv
       have ev:r.2=v:=by simpa using hv
       rw [List.getLast?_eq_getElem?] at hg
       have hlt:=(List.getElem?_eq_some_iff.mp hg).1
       generalize hF:List.filter (fun r=>decide (r.1≤t)) rows=F at hg hD hlt
       refine ⟨_,rfl,.inl ⟨D,_,_,_,rfl,rfl,SqL.of hD,?_,kk H2 S⟩⟩
       show atI (F.map fun r=>V.int r.2) (-1)=some (.int v)
       unfold atI ixN
       rw [List.length_map,if_neg (by decide),if_pos (by omega)]
       show (F.map fun r=>V.int r.2)[((-1:Int)+(F.length:Int)).toNat]?=_
       rw [show ((-1:Int)+(F.length:Int)).toNat=F.length - 1 by omega,List.getElem?_map,hg,← ev]
       rfl
theorem JT {a:Ad} (T:Txt K mg a):qC P w K mg base CX0 4 a.f_ak a.fd_ak ["self","moment"] (Zx a):=by
 have G_R:qC P w K mg base CX0 1 a.f_R a.fd_R ["rows","moment"] JX:=qcX T
 have G_c:qC P w K mg base CX0 3 a.f_c a.fd_c ["thing"] QO:=Zm T
 refine T.d_ak.F.ok JG (fun vs H Q E h=>?_) (fun cdv A outer s H vs Q E hr h=>?_)
 · obtain ⟨x,t,v,rows,rfl,⟨k,dx,zs,hx,hk,tp⟩,few,t0,t1,hv,kk⟩:=h
   rfl
 · obtain ⟨x,t,v,rows,rfl,⟨k,dx,zs,hx,hk,tp⟩,few,t0,t1,hv,kk⟩:=h
   have hu:=qK hr
   have hU:=hr.units
   have h_R:Room (1) _:=hr.mono (by decide)
   have h_c:Room (3) _:=hr.mono (by decide)
   refine ⟨_,(qf (qO (qZ (qY (qj G_c h_c rfl T.d_c.m T.d_c.k T.d_c.b .nil ql (qa (pv 1) qb))))
       (qg qP)
       qv)
     (qg (qu (qj G_R h_R rfl T.d_R.m T.d_R.k T.d_R.b .nil ql (qa (qR (pv 0) rfl) (qa (pv 1) qb)))))),?_⟩
   try dsimp only [zx,Cx.nox]
   refine ⟨_,rfl,t,rfl,t0,t1,true,rfl,zy rfl ?_⟩
   exact ⟨_,rfl,x,_,dx,_,_,rfl,hx,T.cl_Table,T.n_Table_kept,Jy _,_,rfl,k,t,v,rows,rfl,⟨zs,hk,tp⟩,few,hv,kk⟩
theorem qak {a:Ad} (T:Txt K mg a):qC P w K mg base CX0 5 a.f_al a.fd_al ["self","moment"] (ZX a):=by
 have G_ak:qC P w K mg base CX0 4 a.f_ak a.fd_ak ["self","moment"] (Zx a):=JT T
 refine T.d_al.F.ok qah (fun vs H Q E h=>?_) (fun cdv A outer s H vs Q E hr h=>?_)
 · obtain ⟨x,t,v,rows,rfl,tb,few,t0,t1,hv,kk⟩:=h
   rfl
 · obtain ⟨x,t,v,rows,rfl,tb,few,t0,t1,hv,kk⟩:=h
   have hu:=qK hr
   have hU:=hr.units
   have h_ak:Room (4) _:=hr.mono (by decide)
   refine ⟨_,(qg (qu (qw Zu (qW (pv 0) T.cl_Table T.d_ak.mt G_ak h_ak T.d_ak.b .nil ql (qa (pv 1) qb)) (pv 1)))),?_⟩
   try dsimp only [zx,Cx.nox]
   obtain ⟨k,dx,zs,hx,hk,tp⟩:=id tb
   exact ⟨_,rfl,x,dx,_,rfl,hx,qa2 _ (by decide +kernel),_,rfl,x,t,v,rows,rfl,tb,few,t0,t1,hv,fun H' S=>⟨_,rfl,.inl ⟨_,_,rfl,rfl,kk H' S⟩⟩⟩
theorem qb6 {a:Ad} (T:Txt K mg a):qC P w K mg base CX0 3 a.f_L a.fd_L ["thing"] Jh:=by
 have G_b:qC P w K mg base CX0 2 a.f_b a.fd_b ["thing","low","high"] Q5:=ZR T
 refine T.d_L.F.ok qbU (fun vs H Q E h=>?_) (fun cdv A outer s H vs Q E hr h=>?_)
 · obtain ⟨i,rfl,h1,h2,kk⟩:=h
   rfl
 · obtain ⟨i,rfl,h1,h2,kk⟩:=h
   have hu:=qK hr
   have hU:=hr.units
   have h_b:Room (2) _:=hr.mono (by decide)
   obtain ⟨t_MOST_MINUTES,c_MOST_MINUTES⟩:=T.g_MOST_MINUTES
   refine ⟨_,(qg (qu (qj G_b h_b rfl T.d_b.m T.d_b.k T.d_b.b .nil ql (qa (pv 0) (qa (qw zY qc (Qb (v:=.int 2000000001) rfl c_MOST_MINUTES ⟨_,rfl⟩)) (qa (Qb (v:=.int 2000000001) rfl c_MOST_MINUTES ⟨_,rfl⟩) qb)))))),?_⟩
   try dsimp only [zx,Cx.nox]
   exact ⟨_,rfl,_,_,rfl,rfl,i,1 - 2000000001,2000000001,rfl,(by omega),(by omega),kk⟩
theorem qcZ {a:Ad} (T:Txt K mg a):qC P w K mg base CX0 1 a.f_s a.fd_s ["thing","keyed"] qau:=by
 refine T.d_s.F.ok qfd (fun vs H Q E h=>?_) (fun cdv A outer s H vs Q E hr h=>?_)
 · obtain ⟨x,d,v,rfl,dg,kk⟩:=h
   rfl
 · obtain ⟨x,d,v,rfl,dg,kk⟩:=h
   have hu:=qK hr
   have hU:=hr.units
   refine ⟨_,(qg (qu (Js (qq zA (by rfl) T.n_isinstance qx (qa (pv 0) (qa (Qc (v:=.ty "str") rfl T.n_str qdf rfl) qb))) (qby (Zs (qhc hu) (pv 0) (pv 1) (by with_unfolding_all rfl)))))),?_⟩
   try dsimp only [zx,Cx.nox]
   refine ⟨_,rfl,_,_,_,rfl,(by decide),rfl,true,rfl,qeJ ?_⟩
   exact ⟨_,rfl,_,rfl,d,_,rfl,dg,kk⟩
theorem Z2 {a:Ad} (T:Txt K mg a):qC P w K mg base CX0 6 a.f_z a.fd_z ["self","tables"] (zB a):=by
 have G_am:qC P w K mg base CX0 5 a.f_am a.fd_am ["self","low","high"] (Qd a):=ZK T
 refine T.d_z.F.ok qai (fun vs H Q E h=>?_) (fun cdv A outer s H vs Q E hr h=>?_)
 · obtain ⟨x,C,dx,tb,nm,pl,lo,hi,ta,rows,rfl,hC,hx,dg,tbr,good,hlo,hhi,kk⟩:=h
   rfl
 · obtain ⟨x,C,dx,tb,nm,pl,lo,hi,ta,rows,rfl,hC,hx,dg,tbr,good,hlo,hhi,kk⟩:=h
   have hu:=qK hr
   have hU:=hr.units
   have h_am:Room (5) _:=hr.mono (by decide)
   refine ⟨_,(qf (qO (qA (qaN hu) (qR (pv 0) rfl) (pv 1) (by with_unfolding_all rfl))
       (qg qP)
       qv)
     (qg (qu (qW (qI hu (pv 1) (qR (pv 0) rfl) (fun _ _=>rfl)) T.cl_Table T.d_am.mt G_am h_am T.d_am.b .nil ql (qa (qR (pv 0) rfl) (qa (qR (pv 0) rfl) qb)))))),?_⟩
   try dsimp only [zx,Cx.nox]
   obtain ⟨cl,n_place,n_low,n_high⟩:Cls K C∧NoAttr K C "place"∧NoAttr K C "low"∧NoAttr K C "high":=by
     rcases hC with rfl | rfl
     · exact ⟨T.cl_Between,T.n_Between_place,T.n_Between_low,T.n_Between_high⟩
     · exact ⟨T.cl_Read,T.n_Read_place,T.n_Read_low,T.n_Read_high⟩
   refine ⟨_,rfl,x,_,dx,_,_,rfl,hx,cl,n_place,rfl,_,rfl,tb,_,rfl,dg,_,rfl,zy rfl ?_⟩
   obtain ⟨k0,dt,zs0,ht,hk0,tp0⟩:=id tbr
   refine ⟨_,rfl,_,rfl,x,_,dx,_,_,rfl,hx,cl,n_place,rfl,tb,_,rfl,dg,ta,dt,_,rfl,ht,qa2 _ (by decide),?_⟩
   exact ⟨_,rfl,x,_,dx,_,_,rfl,hx,cl,n_low,rfl,_,rfl,x,_,dx,_,_,rfl,hx,cl,n_high,rfl,ta,rows,lo,hi,rfl,tbr,good,hlo,hhi,kk⟩
end
end K35
namespace K35
open PySem L2 PySem.NumText PyProof.Rows KC M04
section
variable {P:Program} {w:World} {K:PySem.W.Frag} {mg:Str->Option Value} {base:Heap}
end
structure Ent where
 nm:Str
 wd:Str
 pl:Str
 lo:Int
 hi:Int
 x:Addr
def ekv (es:List Ent):List (Key×V):=es.map fun e=>((.inr e.nm:Key),V.ref e.x)
abbrev prB (b:Str×Str×Int):List V:=[.str b.1,.str b.2.1,.int b.2.2]
abbrev fsL (td ed bl:Addr):List (Str×V):=[("tables",.ref td),("entries",.ref ed),("bound",.ref bl)]
structure Lg (a:Ad) (H:Hp) (x dx td ed bl:Addr) (ts:Pls) (es:List Ent) (bs:List (Str×Str×Int)):Prop where
 hx:H x=some (.ins a.c_Log dx (fsL td ed bl))
 ht:H td=some (.dK (dkv ts))
 he:H ed=some (.dK (ekv es))
 hb:∃ zs,H bl=some (.lst zs)∧TupL prB H zs bs
 tt:∀ t∈ts,Tb a H t.2.1 t.2.2
 tg:∀ t∈ts,Good t.2.2
 tn:∀ t∈ts,zU (.str t.1)=true
 en:∀ e∈es,En a H e.x e.wd e.nm e.pl e.lo e.hi
 sp:∀ e∈es,Spc e.wd e.nm e.pl e.lo e.hi
 pls:∀ e∈es,e.pl=""∨e.pl∈ts.map (·.1)
 ne:td≠ed
 ndt:(ts.map (·.1)).Nodup
 nde:(es.map (·.nm)).Nodup
theorem Tb.sm {a:Ad} {H H':Hp} {x:Addr} {rows:List (Int×Int)} (h:Tb a H x rows) (s:Same H H'):Tb a H' x rows:=by
 obtain ⟨k,dx,zs,h1,h2,h3⟩:=h
 exact ⟨k,dx,zs,s _ _ h1,s _ _ h2,h3.same s⟩
theorem Lg.sm {a:Ad} {H H':Hp} {x dx td ed bl:Addr} {ts:Pls} {es:List Ent} {bs:List (Str×Str×Int)} (h:Lg a H x dx td ed bl ts es bs) (s:Same H H'):Lg a H' x dx td ed bl ts es bs:=by
 obtain ⟨zs,hb,tb⟩:=h.hb
 exact ⟨s _ _ h.hx,s _ _ h.ht,s _ _ h.he,⟨zs,s _ _ hb,tb.same s⟩,fun t m=>(h.tt t m).sm s,h.tg,h.tn,fun e m=>(h.en e m).same s,h.sp,h.pls,h.ne,h.ndt,h.nde⟩
theorem qfQ:∀ {es:List Ent},(es.map (·.nm)).Nodup->∀ e∈es,qam (ekv es) (.inr e.nm)=some (V.ref e.x)
 | [],_,x,m=>nomatch m
 | y::ps,nd,x,m=>by
   rw [List.map_cons,List.nodup_cons] at nd
   unfold ekv qam
   rw [List.map_cons,List.find?_cons]
   rcases List.mem_cons.mp m with rfl | m
   · simp
   · have n:¬ ((.inr y.nm:Key)=.inr x.nm):=fun e=>by
       injection e with e
       exact nd.1 (e▸List.mem_map_of_mem m)
     rw [show decide (((.inr y.nm:Key),V.ref y.x).1=.inr x.nm)=false by simpa using n]
     exact qfQ nd.2 x m
theorem qfR:∀ {es:List Ent} {pl:Str},pl∉es.map (·.nm)->qam (ekv es) (.inr pl)=none
 | [],_,_=>rfl
 | y::ps,pl,h=>by
   rw [List.map_cons,List.mem_cons,not_or] at h
   unfold ekv qam
   rw [List.map_cons,List.find?_cons]
   have n:¬ ((.inr y.nm:Key)=.inr pl):=fun e=>by injection e with e; exact h.1 e.symm
   rw [show decide (((.inr y.nm:Key),V.ref y.x).1=.inr pl)=false by simpa using n]
   exact qfR h.2
theorem Lg.eget {a:Ad} {H:Hp} {x dx td ed bl:Addr} {ts:Pls} {es:List Ent} {bs:List (Str×Str×Int)} (h:Lg a H x dx td ed bl ts es bs) {e:Ent} (m:e∈es):qbM H ed (.str e.nm) (some (.ref e.x)):=.inl ⟨_,.inr e.nm,.inl h.he,rfl,(qfQ h.nde e m).symm⟩
theorem Lg.tget {a:Ad} {H:Hp} {x dx td ed bl:Addr} {ts:Pls} {es:List Ent} {bs:List (Str×Str×Int)} (h:Lg a H x dx td ed bl ts es bs) {t:Str×Addr×List (Int×Int)} (m:t∈ts):qbM H td (.str t.1) (some (.ref t.2.1)):=.inl ⟨_,.inr t.1,.inl h.ht,rfl,(qbf h.ndt t m).symm⟩
inductive Jl (a:Ad) (vs:List V) (H:Hp) (Q:VK):Prop
 | mk (x dx:Addr) (h1:vs=[.ref x]) (h2:H x=some (.ins a.c_Log dx [])) (h3:∀ (td ed bl:Addr) (H':Hp),But x H H'->H td=none->H ed=none->H bl=none->Lg a H' x dx td ed bl [] [] []->Q .non H'):Jl a vs H Q
def qay (a:Ad):Sp:=fun vs H Q _=>Jl a vs H Q
inductive jV (a:Ad) (vs:List V) (H:Hp) (Q:VK):Prop
 | mk (x dx td ed bl:Addr) (ts:Pls) (es:List Ent) (bs:List (Str×Str×Int)) (pl:Str) (t:Addr) (rows:List (Int×Int)) (h1:vs=[.ref x,.str pl,.ref t]) (h2:Lg a H x dx td ed bl ts es bs) (h3:zU (.str pl)=true) (h4:pl∉ts.map (·.1)) (h5:ts.length < 6) (h6:Tb a H t rows) (h7:Good rows) (h8:∀ H',But td H H'->Lg a H' x dx td ed bl (ts++[(pl,t,rows)]) es bs->Q .non H'):jV a vs H Q
def J6 (a:Ad):Sp:=fun vs H Q _=>jV a vs H Q
inductive QT (a:Ad) (vs:List V) (H:Hp) (Q:VK):Prop
 | mk (x dx td ed bl:Addr) (ts:Pls) (es:List Ent) (bs:List (Str×Str×Int)) (e:Ent) (h1:vs=[.ref x,.str e.nm]) (h2:Lg a H x dx td ed bl ts es bs) (h3:e∈es) (h4:Q .non H):QT a vs H Q
def Qs (a:Ad):Sp:=fun vs H Q _=>QT a vs H Q
inductive jT (a:Ad) (vs:List V) (H:Hp) (Q:VK):Prop
 | mk (x dx td ed bl:Addr) (ts:Pls) (es:List Ent) (bs:List (Str×Str×Int)) (h1:vs=[.ref x]) (h2:Lg a H x dx td ed bl ts es bs) (h3:∀ l,H l=none->Q (.ref l) (upd H l (.lst ((es.map (·.nm)).map V.str)))):jT a vs H Q
def ji (a:Ad):Sp:=fun vs H Q _=>jT a vs H Q
inductive jU (a:Ad) (vs:List V) (H:Hp) (Q:VK):Prop
 | mk (x dx td ed bl:Addr) (ts:Pls) (es:List Ent) (bs:List (Str×Str×Int)) (e:Ent) (h1:vs=[.ref x,.str e.nm]) (h2:Lg a H x dx td ed bl ts es bs) (h3:e∈es) (h4:Q (.ref e.x) H):jU a vs H Q
def jj (a:Ad):Sp:=fun vs H Q _=>jU a vs H Q
inductive jW (a:Ad) (vs:List V) (H:Hp) (Q:VK):Prop
 | mk (x dx td ed bl:Addr) (ts:Pls) (es:List Ent) (bs:List (Str×Str×Int)) (h1:vs=[.ref x]) (h2:Lg a H x dx td ed bl ts es bs) (h3:∀ l zs,H l=none->TupL prB H zs bs->Q (.ref l) (upd H l (.lst zs))):jW a vs H Q
def jk (a:Ad):Sp:=fun vs H Q _=>jW a vs H Q
inductive jh (a:Ad) (vs:List V) (H:Hp) (Q:VK):Prop
 | mk (x dx td ed bl:Addr) (ts:Pls) (es:List Ent) (bs:List (Str×Str×Int)) (h1:vs=[.ref x]) (h2:Lg a H x dx td ed bl ts es bs) (h3:ts.length≤6) (h4:∀ l ss,H l=none->ss.Perm (ts.map (·.1))->sortedS ss=true->Q (.ref l) (upd H l (.lst (ss.map V.str)))):jh a vs H Q
def Qr (a:Ad):Sp:=fun vs H Q _=>jh a vs H Q
inductive jR (a:Ad) (vs:List V) (H:Hp) (Q:VK):Prop
 | mk (x dx td ed bl:Addr) (ts:Pls) (es:List Ent) (bs:List (Str×Str×Int)) (t:Str×Addr×List (Int×Int)) (h1:vs=[.ref x,.str t.1]) (h2:Lg a H x dx td ed bl ts es bs) (h3:t∈ts) (h4:Q (.ref t.2.1) H):jR a vs H Q
def J3 (a:Ad):Sp:=fun vs H Q _=>jR a vs H Q
theorem Tb.putD {a:Ad} {H:Hp} {x d:Addr} {rows:List (Int×Int)} {kvs:List (Key×V)} (h:Tb a H x rows) (e:H d=some (.dK kvs)) (o:HO):Tb a (upd H d o) x rows:=by
 obtain ⟨k,dx,zs,h1,h2,h3⟩:=h
 refine ⟨k,dx,zs,by rw [qh (qJ h1 e (by intro z; cases z))]; exact h1,by rw [qh (qJ h2 e (by intro z; cases z))]; exact h2,h3.1,fun j z y e1 e2=>?_⟩
 obtain ⟨t,et,ht⟩:=h3.2 j z y e1 e2
 exact ⟨t,et,by rw [qh (qJ ht e (by intro z; cases z))]; exact ht⟩
theorem En.putD {a:Ad} {H:Hp} {d x:Addr} {wd nm pl:Str} {lo hi:Int} {kvs:List (Key×V)} (h:En a H x wd nm pl lo hi) (e:H d=some (.dK kvs)) (o:HO):En a (upd H d o) x wd nm pl lo hi:=by
 have k:∀ C dx fs,H x=some (.ins C dx fs)->(upd H d o) x=some (.ins C dx fs):=fun C dx fs e'=>by
   rw [qh (qJ e' e (by intro z; cases z))]; exact e'
 cases h with
 | any e=>exact .any (k _ _ _ e)
 | within e=>exact .within (k _ _ _ e)
 | at_ e=>exact .at_ (k _ _ _ e)
 | between e=>exact .between (k _ _ _ e)
 | read e=>exact .read (k _ _ _ e)
theorem TupL.putD {β:Type} {f:β->List V} {H:Hp} {d:Addr} {kvs:List (Key×V)} {zs:List V} {ps:List β} (h:TupL f H zs ps) (e:H d=some (.dK kvs)) (o:HO):TupL f (upd H d o) zs ps:=⟨h.1,fun j z y e1 e2=>by
 obtain ⟨t,et,ht⟩:=h.2 j z y e1 e2
 exact ⟨t,et,by rw [qh (qJ ht e (by intro z; cases z))]; exact ht⟩⟩
theorem qep {H:Hp} {td:Addr} {ts:Pls} (h:H td=some (.dK (dkv ts))):Rd H td (.dK ((ts.map fun x=>(x.1,V.ref x.2.1)).map fun p=>((.inr p.1:Key),p.2))):=by
 rw [List.map_map]
 exact .inl h
section
variable {P:Program} {w:World} {K:PySem.W.Frag} {mg:Str->Option Value} {base:Heap}
theorem qdu {a:Ad} (T:Txt K mg a):qC P w K mg base CX0 1 a.f_K a.fd_K ["self"] (qay a):=by
 refine T.d_K.F.ok qdq (fun vs H Q E h=>?_) (fun cdv A outer s H vs Q E hr h=>?_)
 · obtain ⟨x,dx,rfl,hx,kk⟩:=h
   rfl
 · obtain ⟨x,dx,rfl,hx,kk⟩:=h
   have hu:=qK hr
   have hU:=hr.units
   refine ⟨_,(qf (j4 (pv 0) Jr rfl)
     (qf (j4 (pv 0) Jr rfl)
     (qg (j4 (pv 0) (qN qb) rfl)))),?_⟩
   try dsimp only [zx,Cx.nox]
   intro td ftd
   have n1:td≠x:=fun e=>by rw [e,hx] at ftd; cases ftd
   refine ⟨_,rfl,x,_,dx,_,rfl,(by rw [qh n1.symm]; exact hx),T.cl_Log,T.n_Log_tables,(by decide),?_⟩
   intro ed fed
   have n2:ed≠x:=fun e=>by rw [e,qd] at fed; cases fed
   have n3:ed≠td:=fun e=>by rw [e,qh n1,qd] at fed; cases fed
   rw [qh n2,qh n3] at fed
   refine ⟨_,rfl,x,_,dx,_,rfl,(by rw [qh n2.symm,qd]),T.cl_Log,T.n_Log_entries,(Nat.le_of_ble_eq_true rfl),?_⟩
   refine ⟨qk (Nat.le_of_ble_eq_true rfl),fun bl fbl=>?_⟩
   have n4:bl≠x:=fun e=>by rw [e,qd] at fbl; cases fbl
   have n5:bl≠ed:=fun e=>by rw [e,qh n2,qd] at fbl; cases fbl
   have n6:bl≠td:=fun e=>by rw [e,qh n1,qh n3.symm,qh n1,qd] at fbl; cases fbl
   rw [qh n4,qh n5,qh n4,qh n6] at fbl
   refine ⟨_,rfl,x,_,dx,_,rfl,(by rw [qh n4.symm,qd]),T.cl_Log,T.n_Log_bound,(Nat.le_of_ble_eq_true rfl),?_⟩
   refine kk td ed bl _ (fun b o e nb=>?_) ftd fed fbl ⟨?_,?_,?_,⟨[],?_,.nil⟩,(fun _ m=>nomatch m),(fun _ m=>nomatch m),(fun _ m=>nomatch m),(fun _ m=>nomatch m),(fun _ m=>nomatch m),(fun _ m=>nomatch m),n3.symm,List.nodup_nil,List.nodup_nil⟩
   · rw [qh nb,qh (qi e fbl),qh nb,qh (qi e fed),qh nb,qh (qi e ftd)]; exact e
   · rw [qd]; rfl
   · rw [qh n1,qh n6.symm,qh n1,qh n3.symm,qh n1,qd]; rfl
   · rw [qh n2,qh n5.symm,qh n2,qd]; rfl
   · rw [qh n4,qd]
theorem qc4 {a:Ad} (T:Txt K mg a):qC P w K mg base CX0 2 a.f_ad a.fd_ad ["self","place","table"] (J6 a):=by
 have G_o:qC P w K mg base CX0 1 a.f_o a.fd_o ["thing"] JC:=qbA T
 refine T.d_ad.F.ok qcO (fun vs H Q E h=>?_) (fun cdv A outer s H vs Q E hr h=>?_)
 · obtain ⟨x,dx,td,ed,bl,ts,es,bs,pl,t,rows,rfl,hL,ok,no,few,tb,good,kk⟩:=h
   rfl
 · obtain ⟨x,dx,td,ed,bl,ts,es,bs,pl,t,rows,rfl,hL,ok,no,few,tb,good,kk⟩:=h
   have hu:=qK hr
   have hU:=hr.units
   have h_o:Room (1) _:=hr.mono (by decide)
   obtain ⟨t_MOST_PLACES,c_MOST_PLACES⟩:=T.g_MOST_PLACES
   refine ⟨_,(qf (qO (qZ (qY (qj G_o h_o rfl T.d_o.m T.d_o.k T.d_o.b .nil ql (qa (pv 1) qb))))
       (qg qP)
       qv)
     (qf (qO (PW.pt (qcS (qA (qaN hu) (pv 1) (qR (pv 0) rfl) (by with_unfolding_all rfl)) (qb2 (qA qhP (qq qde (by rfl) T.n_len qS (qa (qR (pv 0) rfl) qb)) (Qb (v:=.int 6) rfl c_MOST_PLACES ⟨_,rfl⟩) (qG _)))))
       (qg qP)
       qv)
     (qg (qaL hu (qR (pv 0) rfl) (pv 1) (pv 2) rfl)))),?_⟩
   try dsimp only [zx,Cx.nox]
   refine ⟨_,rfl,pl,rfl,ok,fun H1 S1=>⟨true,rfl,zy rfl ?_⟩⟩
   have hL1:=hL.sm S1
   have dg:qbM H1 td (.str pl) none:=.inl ⟨_,.inr pl,.inl hL1.ht,rfl,(qgi no).symm⟩
   refine ⟨_,rfl,_,rfl,x,_,dx,_,_,rfl,hL1.hx,T.cl_Log,T.n_Log_tables,rfl,td,_,rfl,dg,_,rfl,qfH rfl ?_⟩
   refine ⟨_,rfl,x,_,dx,_,_,rfl,hL1.hx,T.cl_Log,T.n_Log_tables,rfl,td,_,rfl,hL1.ht,_,_,rfl,rfl,_,rfl,Zh (fun g=>absurd g ?_) (fun _=>?_)⟩
   · unfold dkv; rw [List.length_map]; omega
   have ep:qbv (dkv ts) (.inr pl) (V.ref t)=dkv (ts++[(pl,t,rows)]):=by
     rw [qao _ (qgi no)]
     unfold dkv
     rw [List.map_append]; rfl
   refine ⟨_,rfl,_,rfl,x,_,dx,_,_,rfl,hL1.hx,T.cl_Log,T.n_Log_tables,rfl,_,rfl,td,_,rfl,DPut.k (k:=.inr pl) hL1.ht (by unfold dkv; rw [List.length_map]; exact Nat.lt_of_lt_of_le (by omega:ts.length < 60) (qk (by decide:60≤1000))),?_⟩
   rw [ep]
   obtain ⟨zs,hb,tbb⟩:=hL1.hb
   refine kk _ (fun b o e nb=>by rw [qh nb]; exact S1 b o e) ⟨by rw [qh (qJ hL1.hx hL1.ht (by intro z; cases z))]; exact hL1.hx,qd,by rw [qh hL1.ne.symm]; exact hL1.he,⟨zs,by rw [qh (qJ hb hL1.ht (by intro z; cases z))]; exact hb,TupL.putD tbb hL1.ht _⟩,fun y m=>?_,fun y m=>?_,fun y m=>?_,fun e m=>(hL1.en e m).putD hL1.ht _,hL1.sp,fun e m=>?_,hL1.ne,?_,hL1.nde⟩
   · rcases List.mem_append.mp m with m | m
     · exact (hL1.tt y m).putD hL1.ht _
     · rw [List.mem_singleton.mp m]; exact (tb.sm S1).putD hL1.ht _
   · rcases List.mem_append.mp m with m | m
     · exact hL1.tg y m
     · rw [List.mem_singleton.mp m]; exact good
   · rcases List.mem_append.mp m with m | m
     · exact hL1.tn y m
     · rw [List.mem_singleton.mp m]; exact ok
   · rcases hL1.pls e m with h | h
     · exact .inl h
     · exact .inr (by rw [List.map_append]; exact List.mem_append_left _ h)
   · rw [List.map_append]
     exact List.nodup_append.mpr ⟨hL1.ndt,by simp,fun y m z mz e=>no (by rw [List.mem_singleton.mp mz] at e; have e2:y=pl:=e; rw [← e2]; exact m)⟩
theorem Zn {a:Ad} (T:Txt K mg a):qC P w K mg base CX0 2 a.f_k a.fd_k ["self","name"] (Qs a):=by
 have G_s:qC P w K mg base CX0 1 a.f_s a.fd_s ["thing","keyed"] qau:=qcZ T
 refine T.d_k.F.ok Jp (fun vs H Q E h=>?_) (fun cdv A outer s H vs Q E hr h=>?_)
 · obtain ⟨x,dx,td,ed,bl,ts,es,bs,e,rfl,hL,me,kk⟩:=h
   rfl
 · obtain ⟨x,dx,td,ed,bl,ts,es,bs,e,rfl,hL,me,kk⟩:=h
   have hu:=qK hr
   have hU:=hr.units
   have h_s:Room (1) _:=hr.mono (by decide)
   refine ⟨_,(qg (qO (qZ (qY (qj G_s h_s rfl T.d_s.m T.d_s.k T.d_s.b .nil ql (qa (pv 1) (qa (qR (pv 0) rfl) qb)))))
       (qg qP)
       qv)),?_⟩
   try dsimp only [zx,Cx.nox]
   exact ⟨_,rfl,_,rfl,x,_,dx,_,_,rfl,hL.hx,T.cl_Log,T.n_Log_entries,rfl,e.nm,ed,_,rfl,hL.eget me,true,rfl,zy rfl kk⟩
theorem qab {a:Ad} (T:Txt K mg a):qC P w K mg base CX0 1 a.f_A a.fd_A ["self"] (ji a):=by
 refine T.d_A.F.ok qcM (fun vs H Q E h=>?_) (fun cdv A outer s H vs Q E hr h=>?_)
 · obtain ⟨x,dx,td,ed,bl,ts,es,bs,rfl,hL,kk⟩:=h
   rfl
 · obtain ⟨x,dx,td,ed,bl,ts,es,bs,rfl,hL,kk⟩:=h
   have hu:=qK hr
   have hU:=hr.units
   refine ⟨_,(qg (qu (Qu (r:=qg1) (qeQ rfl) (by rfl) T.n_list zw (qa (qR (pv 0) rfl) qb)))),?_⟩
   try dsimp only [zx,Cx.nox]
   refine ⟨_,rfl,x,_,dx,_,_,rfl,hL.hx,T.cl_Log,T.n_Log_entries,rfl,ed,_,rfl,.inl hL.he,fun l fl=>?_⟩
   have e:((ekv es).map fun p=>kV p.1)=(es.map (·.nm)).map V.str:=by
     unfold ekv
     rw [List.map_map,List.map_map]; rfl
   rw [e]
   exact kk l fl
theorem qac {a:Ad} (T:Txt K mg a):qC P w K mg base CX0 3 a.f_d a.fd_d ["self","name"] (jj a):=by
 have G_k:qC P w K mg base CX0 2 a.f_k a.fd_k ["self","name"] (Qs a):=Zn T
 refine T.d_d.F.ok qcN (fun vs H Q E h=>?_) (fun cdv A outer s H vs Q E hr h=>?_)
 · obtain ⟨x,dx,td,ed,bl,ts,es,bs,e,rfl,hL,me,kk⟩:=h
   rfl
 · obtain ⟨x,dx,td,ed,bl,ts,es,bs,e,rfl,hL,me,kk⟩:=h
   have hu:=qK hr
   have hU:=hr.units
   have h_k:Room (2) _:=hr.mono (by decide)
   refine ⟨_,(qf (qU (qW (pv 0) T.cl_Log T.d_k.mt G_k h_k T.d_k.b .nil ql (qa (pv 1) qb)))
     (qg (qu (qI hu (qR (pv 0) rfl) (pv 1) (fun _ _=>rfl))))),?_⟩
   try dsimp only [zx,Cx.nox]
   refine ⟨_,rfl,x,dx,_,rfl,hL.hx,rfl,_,rfl,x,dx,td,ed,bl,ts,es,bs,e,rfl,hL,me,?_⟩
   exact ⟨_,rfl,x,_,dx,_,_,rfl,hL.hx,T.cl_Log,T.n_Log_entries,rfl,_,rfl,ed,_,rfl,hL.eget me,kk⟩
theorem qad {a:Ad} (T:Txt K mg a):qC P w K mg base CX0 1 a.f_B a.fd_B ["self"] (jk a):=by
 refine T.d_B.F.ok qcP (fun vs H Q E h=>?_) (fun cdv A outer s H vs Q E hr h=>?_)
 · obtain ⟨x,dx,td,ed,bl,ts,es,bs,rfl,hL,kk⟩:=h
   rfl
 · obtain ⟨x,dx,td,ed,bl,ts,es,bs,rfl,hL,kk⟩:=h
   have hu:=qK hr
   have hU:=hr.units
   refine ⟨_,(qg (qu (Qu (r:=qiV K) Zo (by rfl) T.n_list zw (qa (qR (pv 0) rfl) qb)))),?_⟩
   try dsimp only [zx,Cx.nox]
   obtain ⟨zs,hb,tbb⟩:=hL.hb
   exact ⟨_,rfl,x,_,dx,_,_,rfl,hL.hx,T.cl_Log,T.n_Log_bound,rfl,bl,zs,rfl,.inl (SqL.of hb),fun l fl=>kk l zs fl tbb⟩
theorem QX {a:Ad} (T:Txt K mg a):qC P w K mg base CX0 1 a.f_f a.fd_f ["self"] (Qr a):=by
 refine T.d_f.F.ok qbY (fun vs H Q E h=>?_) (fun cdv A outer s H vs Q E hr h=>?_)
 · obtain ⟨x,dx,td,ed,bl,ts,es,bs,rfl,hL,few,kk⟩:=h
   rfl
 · obtain ⟨x,dx,td,ed,bl,ts,es,bs,rfl,hL,few,kk⟩:=h
   have hu:=qK hr
   have hU:=hr.units
   refine ⟨_,(qg (qu (qq (r:=qd0) (JU rfl) (by rfl) T.n_sorted QR (qa (qR (pv 0) rfl) qb)))),?_⟩
   try dsimp only [zx,Cx.nox]
   refine ⟨_,rfl,x,_,dx,_,_,rfl,hL.hx,T.cl_Log,T.n_Log_tables,rfl,td,_,rfl,qep hL.ht,(by rw [List.length_map]; omega),fun l ss fl pm so=>?_⟩
   rw [List.map_map] at pm
   exact kk l ss fl pm so
theorem qc2 {a:Ad} (T:Txt K mg a):qC P w K mg base CX0 2 a.f_ag a.fd_ag ["self","place"] (J3 a):=by
 have G_s:qC P w K mg base CX0 1 a.f_s a.fd_s ["thing","keyed"] qau:=qcZ T
 refine T.d_ag.F.ok qcK (fun vs H Q E h=>?_) (fun cdv A outer s H vs Q E hr h=>?_)
 · obtain ⟨x,dx,td,ed,bl,ts,es,bs,t,rfl,hL,mt,kk⟩:=h
   rfl
 · obtain ⟨x,dx,td,ed,bl,ts,es,bs,t,rfl,hL,mt,kk⟩:=h
   have hu:=qK hr
   have hU:=hr.units
   have h_s:Room (1) _:=hr.mono (by decide)
   refine ⟨_,(qf (qO (qZ (qY (qj G_s h_s rfl T.d_s.m T.d_s.k T.d_s.b .nil ql (qa (pv 1) (qa (qR (pv 0) rfl) qb)))))
       (qg qP)
       qv)
     (qg (qu (qI hu (qR (pv 0) rfl) (pv 1) (fun _ _=>rfl))))),?_⟩
   try dsimp only [zx,Cx.nox]
   refine ⟨_,rfl,_,rfl,x,_,dx,_,_,rfl,hL.hx,T.cl_Log,T.n_Log_tables,rfl,t.1,td,_,rfl,hL.tget mt,true,rfl,zy rfl ?_⟩
   exact ⟨_,rfl,x,_,dx,_,_,rfl,hL.hx,T.cl_Log,T.n_Log_tables,rfl,_,rfl,td,_,rfl,hL.tget mt,kk⟩
end
end K35
namespace K35
open PySem L2 PySem.NumText PyProof.Rows KC M04
section
variable {P:Program} {w:World} {K:PySem.W.Frag} {mg:Str->Option Value} {base:Heap}
end
def pls (pl:Str):List Str:=if pl="" then [] else [pl]
theorem qce {pl:Str} (h:zU (.str pl)=true):pl≠"":=fun e=>by
 subst e
 exact absurd h (by decide +kernel)
theorem ZT {x:Str} (h:zU (.str x)=true):PyData.strOk x=true:=by
 have hs:x.cps.toList.all sgn=true:=by
   simp only [zU,Bool.and_eq_true] at h
   exact h.2
 unfold PyData.strOk
 rw [← Array.all_toList]
 refine List.all_eq_true.mpr fun c m=>?_
 have:=List.all_eq_true.mp hs c m
 unfold sgn at this
 rw [Bool.and_eq_true] at this
 have h2:=this.2
 rw [Bool.not_eq_true',decide_eq_false_iff_not] at h2
 have h3:¬ (122 < c):=fun z=>h2 (by
   show ([122]:List Nat) < [c]
   exact List.Lex.rel z)
 exact decide_eq_true (by omega)
theorem qfm {K:PySem.W.Frag} {mg:Str->Option Value} {a:Ad} (T:Txt K mg a) {σ:L2.St} {H:Hp} {Q:VK} {te:TE} {x:Addr} {wd nm pl:Str} {lo hi:Int} (hte:∀ R:VK,R (.ref x) H->te σ H R) (en:En a H x wd nm pl lo hi) (sp:Spc wd nm pl lo hi)
   (k:∀ l,H l=none->Q (.ref l) (upd H l (.lst ((pls pl).map V.str)))):Z4 a.c_Entry "places" qV [] E0 te qeo σ H Q∨Z4 a.c_Within "places" qV [] E0 te qeo σ H Q∨Z4 a.c_At "places" qV [] E0 te qeo σ H Q∨Z4 a.c_Between "places" (qT K) [] E0 te qeo σ H Q∨Z4 a.c_Read "places" (qT K) [] E0 te qeo σ H Q:=by
 cases en with
 | @any dx _ hx=>exact .inl (hte _ ⟨x,dx,_,rfl,hx,rfl,_,rfl,fun l fl=>k l fl⟩)
 | @within dx _ _ _ hx=>exact .inr (.inl (hte _ ⟨x,dx,_,rfl,hx,rfl,_,rfl,fun l fl=>k l fl⟩))
 | @at_ dx _ _ hx=>exact .inr (.inr (.inl (hte _ ⟨x,dx,_,rfl,hx,rfl,_,rfl,fun l fl=>k l fl⟩)))
 | @between dx _ _ _ _ hx =>
   have e:pls pl=[pl]:=if_neg (qce (by cases sp with | between _ h _ _=>exact h))
   rw [e] at k
   exact .inr (.inr (.inr (.inl (hte _ ⟨x,dx,_,rfl,hx,rfl,x,_,dx,_,_,_,_,rfl,hx,T.cl_Between,T.n_Between_place,fun l fl=>k l fl⟩))))
 | @read dx _ _ _ hx =>
   have e:pls pl=[pl]:=if_neg (qce (by cases sp with | read _ h _=>exact h))
   rw [e] at k
   exact .inr (.inr (.inr (.inr (hte _ ⟨x,dx,_,rfl,hx,rfl,x,_,dx,_,_,_,_,rfl,hx,T.cl_Read,T.n_Read_place,fun l fl=>k l fl⟩))))
theorem qhw {K:PySem.W.Frag} {mg:Str->Option Value} {a:Ad} (T:Txt K mg a) {σ:L2.St} {H:Hp} {Q:VK} {te:TE} {x:Addr} {wd nm pl:Str} {lo hi:Int} (hte:∀ R:VK,R (.ref x) H->te σ H R) (en:En a H x wd nm pl lo hi) (k:Q (.str wd) H):Z4 a.c_Entry "word" ZP [] E0 te qeo σ H Q∨Z4 a.c_Within "word" Zq [] E0 te qeo σ H Q∨Z4 a.c_At "word" JF [] E0 te qeo σ H Q∨Z4 a.c_Between "word" Q8 [] E0 te qeo σ H Q∨Z4 a.c_Read "word" jg [] E0 te qeo σ H Q:=by
 cases en with
 | @any dx _ hx=>exact .inl (hte _ ⟨x,dx,_,rfl,hx,rfl,_,rfl,k⟩)
 | @within dx _ _ _ hx=>exact .inr (.inl (hte _ ⟨x,dx,_,rfl,hx,rfl,_,rfl,k⟩))
 | @at_ dx _ _ hx=>exact .inr (.inr (.inl (hte _ ⟨x,dx,_,rfl,hx,rfl,_,rfl,k⟩)))
 | @between dx _ _ _ _ hx=>exact .inr (.inr (.inr (.inl (hte _ ⟨x,dx,_,rfl,hx,rfl,_,rfl,k⟩))))
 | @read dx _ _ _ hx=>exact .inr (.inr (.inr (.inr (hte _ ⟨x,dx,_,rfl,hx,rfl,_,rfl,k⟩))))
theorem qgk {K:PySem.W.Frag} {mg:Str->Option Value} {a:Ad} (T:Txt K mg a) {σ:L2.St} {H:Hp} {Q:VK} {te:TE} {x:Addr} {wd nm pl:Str} {lo hi:Int} (hte:∀ R:VK,R (.ref x) H->te σ H R) (en:En a H x wd nm pl lo hi) {ps:Pls} {W:List (Int×Int)} {ta:TA} (sp:Spc wd nm pl lo hi) (due:Due ps wd pl lo hi W)
   (hta:∀ R:List V->Hp->Prop,(∀ d,((wd="between"∨wd="read")->∃ (tt:Addr) (rows:List (Int×Int)),qbM H d (.str pl) (some (.ref tt))∧Tb a H tt rows∧Good rows∧W=shw rows lo hi)->R [.ref d] H)->ta σ H R)
   (k:∀ (f:Addr) (r:List (Int×Int)) (H':Hp),H f=none->Same H H'->Rs H' f r->Zt r->r.length≤21->(∀ n,Mem r n↔Mem W n)->Q (.ref f) H'):Z4 a.c_Entry "spans" QN [] E0 te ta σ H Q∨Z4 a.c_Within "spans" (zM K) [] E0 te ta σ H Q∨Z4 a.c_At "spans" (zM K) [] E0 te ta σ H Q∨Z4 a.c_Between "spans" (zB a) [] E0 te ta σ H Q∨Z4 a.c_Read "spans" (zB a) [] E0 te ta σ H Q:=by
 cases en with
 | @any dx _ hx =>
   cases due with
   | pl h _ _=>exact absurd h (by decide)
   | no _ =>
     refine .inl (hte _ ⟨x,dx,_,rfl,hx,rfl,hta _ fun d _=>⟨_,_,rfl,fun f H' ff S' R=>k f _ H' ff S' R ⟨fun w m=>?_,List.pairwise_singleton _ _⟩ (Nat.le_of_ble_eq_true rfl) fun n=>Iff.rfl⟩⟩)
     rw [List.mem_singleton.mp m]
     decide
 | @within dx _ _ _ hx =>
   cases due with
   | pl h _ _=>exact absurd h (by decide)
   | no _=>exact .inr (.inl (hte _ ⟨x,dx,_,rfl,hx,rfl,hta _ fun d _=>⟨x,_,dx,_,_,_,_,rfl,hx,T.cl_Within,T.n_Within_low,T.n_Within_high,fun f r H' ff S' R c l m=>k f r H' ff S' R c (Nat.le_trans l (Nat.le_of_ble_eq_true rfl)) m⟩⟩))
 | @at_ dx _ _ hx =>
   cases due with
   | pl h _ _=>exact absurd h (by decide)
   | no _=>exact .inr (.inr (.inl (hte _ ⟨x,dx,_,rfl,hx,rfl,hta _ fun d _=>⟨x,_,dx,_,_,_,_,rfl,hx,T.cl_At,T.n_At_low,T.n_At_high,fun f r H' ff S' R c l m=>k f r H' ff S' R c (Nat.le_trans l (Nat.le_of_ble_eq_true rfl)) m⟩⟩)))
 | @between dx _ _ _ _ hx =>
   refine .inr (.inr (.inr (.inl (hte _ ⟨x,dx,_,rfl,hx,rfl,hta _ fun d h=>?_⟩))))
   obtain ⟨tt,rows,dg,tb,good,eW⟩:=h (.inl rfl)
   cases sp with
   | between _ _ h1 h2=>exact ⟨x,_,dx,d,_,_,_,_,tt,rows,rfl,.inl rfl,hx,dg,tb,good,h1,h2,fun f r H' ff S' R c l m=>k f r H' ff S' R c l (by rw [eW]; exact m)⟩
 | @read dx _ _ _ hx =>
   refine .inr (.inr (.inr (.inr (hte _ ⟨x,dx,_,rfl,hx,rfl,hta _ fun d h=>?_⟩))))
   obtain ⟨tt,rows,dg,tb,good,eW⟩:=h (.inr rfl)
   cases sp with
   | read _ _ h1=>exact ⟨x,_,dx,d,_,_,_,_,tt,rows,rfl,.inr rfl,hx,dg,tb,good,h1,h1,fun f r H' ff S' R c l m=>k f r H' ff S' R c l (by rw [eW]; exact m)⟩
theorem qH {H G:Hp} {l:Addr} {o:HO} (h:upd H l o=G) (f:H l=none):Same H G∧G l=some o:=by
 subst h
 exact ⟨Same.new o f,qd⟩
theorem qhn {K:PySem.W.Frag} {mg:Str->Option Value} {a:Ad} (T:Txt K mg a) {H:Hp} {x:Addr} {wd nm pl:Str} {lo hi:Int} (en:En a H x wd nm pl lo hi):∃ C,qdm K H (.ref x) (.ref C)∧PySem.W.kitOne K (.ref C) (.ref a.c_Entry)=some true:=by
 cases en with
 | @any dx _ hx=>exact ⟨_,T.io_Entry.ty hx,by rw [qaX T.mr_Entry rfl T.t_Entry]; simp⟩
 | @within dx _ _ _ hx=>exact ⟨_,T.io_Within.ty hx,by rw [qaX T.mr_Within rfl T.t_Entry]; simp⟩
 | @at_ dx _ _ hx=>exact ⟨_,T.io_At.ty hx,by rw [qaX T.mr_At rfl T.t_Entry]; simp⟩
 | @between dx _ _ _ _ hx=>exact ⟨_,T.io_Between.ty hx,by rw [qaX T.mr_Between rfl T.t_Entry]; simp⟩
 | @read dx _ _ _ hx=>exact ⟨_,T.io_Read.ty hx,by rw [qaX T.mr_Read rfl T.t_Entry]; simp⟩
theorem qfP {K:PySem.W.Frag} {mg:Str->Option Value} {a:Ad} (T:Txt K mg a) {H:Hp} {x:Addr} {wd nm pl:Str} {lo hi:Int} (en:En a H x wd nm pl lo hi):∃ C dx fs,H x=some (.ins C dx fs)∧Cls K C∧NoAttr K C "name"∧fs.lookup ("name":Str)=some (V.str nm):=by
 cases en with
 | @any dx _ hx=>exact ⟨_,dx,_,hx,T.cl_Entry,T.n_Entry_name,rfl⟩
 | @within dx _ _ _ hx=>exact ⟨_,dx,_,hx,T.cl_Within,T.n_Within_name,rfl⟩
 | @at_ dx _ _ hx=>exact ⟨_,dx,_,hx,T.cl_At,T.n_At_name,rfl⟩
 | @between dx _ _ _ _ hx=>exact ⟨_,dx,_,hx,T.cl_Between,T.n_Between_name,rfl⟩
 | @read dx _ _ _ hx=>exact ⟨_,dx,_,hx,T.cl_Read,T.n_Read_name,rfl⟩
theorem qio {H:Hp} {C:Addr} {cs ws:List V} {qs:List (Str×Str×Int)} {rows:List (Int×Int)} (h1:H C=some (.lst cs)) (t1:TupL prB H cs qs) (g:0 < rows.length) (t2:TupL pr H ws rows):H C≠some (.lst ws):=fun e=>by
 rw [h1] at e
 cases e
 cases rows with
 | nil=>cases g
 | cons r rs =>
   obtain ⟨t,hz,ht⟩:=t2.at_ (i:=0) (p:=r) rfl
   obtain ⟨q,u,hq,eu,hu⟩:=t1.of hz
   cases eu
   rw [ht] at hu
   cases hu
theorem Tb.putB {a:Ad} {H:Hp} {x bl:Addr} {rows:List (Int×Int)} {zs:List V} {bs:List (Str×Str×Int)} (h:Tb a H x rows) (g:Good rows) (e:H bl=some (.lst zs)) (tb:TupL prB H zs bs) (o:HO):Tb a (upd H bl o) x rows:=by
 obtain ⟨k,dx,ws,h1,h2,h3⟩:=h
 have nk:k≠bl:=fun z=>qio e tb (QY g) h3 (by rw [← z]; exact h2)
 refine ⟨k,dx,ws,by rw [qh (qJ h1 e (by intro z; cases z))]; exact h1,by rw [qh nk]; exact h2,h3.1,fun j z y e1 e2=>?_⟩
 obtain ⟨t,et,ht⟩:=h3.2 j z y e1 e2
 exact ⟨t,et,by rw [qh (qJ ht e (by intro z; cases z))]; exact ht⟩
theorem En.putL {a:Ad} {H:Hp} {d x:Addr} {wd nm pl:Str} {lo hi:Int} {zs:List V} (h:En a H x wd nm pl lo hi) (e:H d=some (.lst zs)) (o:HO):En a (upd H d o) x wd nm pl lo hi:=by
 have k:∀ C dx fs,H x=some (.ins C dx fs)->(upd H d o) x=some (.ins C dx fs):=fun C dx fs e'=>by
   rw [qh (qJ e' e (by intro z; cases z))]; exact e'
 cases h with
 | any e=>exact .any (k _ _ _ e)
 | within e=>exact .within (k _ _ _ e)
 | at_ e=>exact .at_ (k _ _ _ e)
 | between e=>exact .between (k _ _ _ e)
 | read e=>exact .read (k _ _ _ e)
inductive J5 (a:Ad) (vs:List V) (H:Hp) (Q:VK):Prop
 | mk (x dx td ed bl:Addr) (ts:Pls) (es:List Ent) (bs:List (Str×Str×Int)) (e:Ent) (h1:vs=[.ref x,.ref e.x]) (h2:Lg a H x dx td ed bl ts es bs) (h3:En a H e.x e.wd e.nm e.pl e.lo e.hi) (h4:Spc e.wd e.nm e.pl e.lo e.hi) (h5:e.nm∉es.map (·.nm)) (h6:(e.pl=""∨e.pl∈ts.map (·.1))) (h7:es.length < 60) (h8:∀ H',But ed H H'->Lg a H' x dx td ed bl ts (es++[e]) bs->Q .non H'):J5 a vs H Q
def qbl (a:Ad):Sp:=fun vs H Q _=>J5 a vs H Q
inductive Jm (a:Ad) (vs:List V) (H:Hp) (Q:VK):Prop
 | mk (x dx td ed bl:Addr) (ts:Pls) (es:List Ent) (bs:List (Str×Str×Int)) (e f:Ent) (m:Int) (h1:vs=[.ref x,.str e.nm,.str f.nm,.int m]) (h2:Lg a H x dx td ed bl ts es bs) (h3:e∈es) (h4:f∈es) (h5:-2000000000≤m) (h6:m≤2000000001) (h7:bs.length < 100) (h8:∀ H',But bl H H'->Lg a H' x dx td ed bl ts es (bs++[(e.nm,f.nm,m)])->Q (.int (bs.length:Int)) H'):Jm a vs H Q
def qaz (a:Ad):Sp:=fun vs H Q _=>Jm a vs H Q
inductive jS (a:Ad) (vs:List V) (H:Hp) (Q:VK):Prop
 | mk (x dx td ed bl:Addr) (ts:Pls) (es:List Ent) (bs:List (Str×Str×Int)) (e:Ent) (W:List (Int×Int)) (h1:vs=[.ref x,.str e.nm]) (h2:Lg a H x dx td ed bl ts es bs) (h3:e∈es) (h4:Due ts e.wd e.pl e.lo e.hi W) (h5:∀ (f:Addr) (r:List (Int×Int)) (H':Hp),H f=none->Same H H'->Rs H' f r->Zt r->r.length≤21->(∀ n,Mem r n↔Mem W n)->Q (.ref f) H'):jS a vs H Q
def J4 (a:Ad):Sp:=fun vs H Q _=>jS a vs H Q
section
variable {P:Program} {w:World} {K:PySem.W.Frag} {mg:Str->Option Value} {base:Heap}
theorem qez {a:Ad} (T:Txt K mg a):qC P w K mg base CX0 2 a.f_ae a.fd_ae ["self","entry"] (qbl a):=by
 have G_e:qC P w K mg base CX0 1 a.f_e a.fd_e ["self"] qV:=Qv T
 have G_g:qC P w K mg base CX0 1 a.f_g a.fd_g ["self"] (qT K):=zT T
 have G_f:qC P w K mg base CX0 1 a.f_f a.fd_f ["self"] (Qr a):=QX T
 refine T.d_ae.F.ok sc_Log_put (fun vs H Q E h=>?_) (fun cdv A outer s H vs Q E hr h=>?_)
 · obtain ⟨x,dx,td,ed,bl,ts,es,bs,e,rfl,hL,en,sp,no,hpl,few,kk⟩:=h
   rfl
 · obtain ⟨x,dx,td,ed,bl,ts,es,bs,e,rfl,hL,en,sp,no,hpl,few,kk⟩:=h
   have hu:=qK hr
   have hU:=hr.units
   have h_e:Room (1) _:=hr.mono (by decide)
   have h_g:Room (1) _:=hr.mono (by decide)
   have h_f:Room (1) _:=hr.mono (by decide)
   obtain ⟨t_MOST_ENTRIES,c_MOST_ENTRIES⟩:=T.g_MOST_ENTRIES
   refine ⟨_,(qf (qO (qZ (qY (qq (r:=qi9 K) qek (by rfl) T.n_isinstance qx (qa (pv 1) (qa (Qb (v:=.ref a.c_Entry) rfl T.g_Entry rfl) qb)))))
       (qg qP)
       qv)
     (qf (qO (qA (qhc hu) (qR (pv 1) rfl) (qR (pv 0) rfl) (by with_unfolding_all rfl))
       (qg qP)
       qv)
     (qf (zK PassesOwn.never rfl (ze (PE.or (qX (pv 1) T.cl_Entry T.d_e.mt G_e h_e T.d_e.b .nil ql) (PE.or (qX (pv 1) T.cl_Within T.i_Within_places G_e h_e T.d_e.b .nil ql) (PE.or (qX (pv 1) T.cl_At T.i_At_places G_e h_e T.d_e.b .nil ql) (PE.or (qX (pv 1) T.cl_Between T.d_g.mt G_g h_g T.d_g.b .nil ql) (qX (pv 1) T.cl_Read T.i_Read_places G_g h_g T.d_g.b .nil ql)))))) (qt (i:=2) (sc_Log_put.nd) rfl (Or.inl rfl))
       (qg (qO (qA (qaN hu) (pv 2) (qR (pv 0) rfl) (by with_unfolding_all rfl))
         (qg qP)
         qv)))
     (qf (qO (qA qhP (qq qde (by rfl) T.n_len qS (qa (qR (pv 0) rfl) qb)) (Qb (v:=.int 60) rfl c_MOST_ENTRIES ⟨_,rfl⟩) (qG _))
       (qg qP)
       qv)
     (qg (qaL hu (qR (pv 0) rfl) (qR (pv 1) rfl) (pv 1) rfl)))))),?_⟩
   try dsimp only [zx,Cx.nox]
   obtain ⟨C,ty,hk⟩:=qhn T en
   refine ⟨_,rfl,_,_,_,_,rfl,ty,hk,true,rfl,zy rfl ?_⟩
   obtain ⟨Ce,de,fe,he,cle,nae,lke⟩:=qfP T en
   have dg:qbM H ed (.str e.nm) none:=.inl ⟨_,.inr e.nm,.inl hL.he,rfl,(qfR no).symm⟩
   refine ⟨_,rfl,e.x,Ce,de,fe,_,rfl,he,cle,nae,lke,_,rfl,x,_,dx,_,_,rfl,hL.hx,T.cl_Log,T.n_Log_entries,rfl,ed,_,rfl,dg,_,rfl,zy rfl ?_⟩
   try unfold zm
   try dsimp only
   refine zc (t:=qe7 _ _ _) (fun σ' H'=>∃ s2:Option V,σ'=[some (.ref x),some (.ref e.x),s2]∧Same H H') (fun N hN=>?_) ?_
   · refine qfm T (fun R h=>⟨_,rfl,h⟩) en sp fun l fl=>?_
     generalize hG:upd H l _=G
     obtain ⟨SG,eG⟩:=qH hG fl
     clear hG
     refine ⟨l,rfl,⟨_,SqL.of eG⟩,Qa (D:={ nx:=N,rt:=Q }) (K:=K) (a:=l) (xs:=(pls e.pl).map V.str) (fun j σ H'=>∃ s2:Option V,σ=[some (.ref x),some (.ref e.x),s2]∧H'=G) ⟨_,rfl,rfl⟩ (fun j σ H' _ ⟨_,_,h⟩=>h▸SqL.of eG) ?_ ?_⟩
     · rintro j z σ H' hz ⟨s2,rfl,rfl⟩
       obtain ⟨y,hy,rfl⟩:∃ y,(pls e.pl)[j]?=some y∧V.str y=z:=by
         rw [List.getElem?_map] at hz
         exact Option.map_eq_some_iff.mp hz
       have my:=List.mem_of_getElem? hy
       unfold pls at my
       split at my
       · cases my
       · rename_i np
         have ey:y=e.pl:=List.mem_singleton.mp my
         subst ey
         obtain ⟨t,mt,et⟩:=List.mem_map.mp (hpl.resolve_left np)
         have dgt:=(hL.sm SG).tget mt
         rw [et] at dgt
         exact ⟨_,rfl,_,rfl,x,_,dx,_,_,rfl,(hL.sm SG).hx,T.cl_Log,T.n_Log_tables,rfl,td,_,rfl,dgt,_,rfl,zy rfl ⟨_,rfl,rfl⟩⟩
     · rintro σ H' ⟨s2,rfl,rfl⟩
       exact hN _ _ ⟨s2,rfl,SG⟩
   rintro _ H1 ⟨s2,rfl,S1⟩
   have hL1:=hL.sm S1
   refine ⟨_,rfl,x,_,dx,_,_,rfl,hL1.hx,T.cl_Log,T.n_Log_entries,rfl,ed,_,rfl,hL1.he,_,_,rfl,rfl,_,rfl,Zh (fun g=>absurd g ?_) (fun _=>?_)⟩
   · unfold ekv; rw [List.length_map]; omega
   have ep:qbv (ekv es) (.inr e.nm) (V.ref e.x)=ekv (es++[e]):=by
     rw [qao _ (qfR no)]
     unfold ekv
     rw [List.map_append]; rfl
   refine ⟨_,rfl,_,rfl,x,_,dx,_,_,rfl,hL1.hx,T.cl_Log,T.n_Log_entries,rfl,_,rfl,e.x,Ce,de,fe,_,rfl,S1 _ _ he,cle,nae,lke,ed,_,rfl,DPut.k (k:=.inr e.nm) hL1.he (by unfold ekv; rw [List.length_map]; exact Nat.lt_of_lt_of_le (by omega:es.length < 100) (qk (by decide:100≤1000))),?_⟩
   rw [ep]
   obtain ⟨zs,hb,tbb⟩:=hL1.hb
   refine kk _ (fun b o e nb=>by rw [qh nb]; exact S1 b o e) ⟨by rw [qh (qJ hL1.hx hL1.he (by intro z; cases z))]; exact hL1.hx,by rw [qh hL1.ne]; exact hL1.ht,qd,⟨zs,by rw [qh (qJ hb hL1.he (by intro z; cases z))]; exact hb,TupL.putD tbb hL1.he _⟩,fun y m=>(hL1.tt y m).putD hL1.he _,hL1.tg,hL1.tn,fun y m=>?_,fun y m=>?_,fun y m=>?_,hL1.ne,hL1.ndt,?_⟩
   · rcases List.mem_append.mp m with m | m
     · exact (hL1.en y m).putD hL1.he _
     · rw [List.mem_singleton.mp m]; exact (en.same S1).putD hL1.he _
   · rcases List.mem_append.mp m with m | m
     · exact hL1.sp y m
     · rw [List.mem_singleton.mp m]; exact sp
   · rcases List.mem_append.mp m with m | m
     · exact hL1.pls y m
     · rw [List.mem_singleton.mp m]; exact hpl
   · rw [List.map_append]
     exact List.nodup_append.mpr ⟨hL1.nde,by simp,fun y m z mz e'=>no (by rw [List.mem_singleton.mp mz] at e'; have e2:y=e.nm:=e'; rw [← e2]; exact m)⟩
theorem qdv {a:Ad} (T:Txt K mg a):qC P w K mg base CX0 4 a.f_af a.fd_af ["self","later","earlier","minutes"] (qaz a):=by
 have G_k:qC P w K mg base CX0 2 a.f_k a.fd_k ["self","name"] (Qs a):=Zn T
 have G_L:qC P w K mg base CX0 3 a.f_L a.fd_L ["thing"] Jh:=qb6 T
 refine T.d_af.F.ok qdr (fun vs H Q E h=>?_) (fun cdv A outer s H vs Q E hr h=>?_)
 · obtain ⟨x,dx,td,ed,bl,ts,es,bs,e,f,m,rfl,hL,me,mf,m0,m1,few,kk⟩:=h
   rfl
 · obtain ⟨x,dx,td,ed,bl,ts,es,bs,e,f,m,rfl,hL,me,mf,m0,m1,few,kk⟩:=h
   have hu:=qK hr
   have hU:=hr.units
   have h_k:Room (2) _:=hr.mono (by decide)
   have h_L:Room (3) _:=hr.mono (by decide)
   obtain ⟨t_MOST_BONDS,c_MOST_BONDS⟩:=T.g_MOST_BONDS
   refine ⟨_,(qf (qU (qW (pv 0) T.cl_Log T.d_k.mt G_k h_k T.d_k.b .nil ql (qa (pv 1) qb)))
     (qf (qU (qW (pv 0) T.cl_Log T.d_k.mt G_k h_k T.d_k.b .nil ql (qa (pv 2) qb)))
     (qf (qO (qZ (qY (qj G_L h_L rfl T.d_L.m T.d_L.k T.d_L.b .nil ql (qa (pv 3) qb))))
       (qg qP)
       qv)
     (qf (qO (qA qhP (qq zp (by rfl) T.n_len qS (qa (qR (pv 0) rfl) qb)) (Qb (v:=.int 100) rfl c_MOST_BONDS ⟨_,rfl⟩) (qG _))
       (qg qP)
       qv)
     (qf (qU (Ja PySem.F.plainAttrs_list PySem.F.slot_list_append PySem.F.type_list_append zn (qR (pv 0) rfl) (qa (zC (qa (pv 1) (qa (pv 2) (qa (pv 3) qb)))) qb)))
     (qg (qu (qw zY (qq zp (by rfl) T.n_len qS (qa (qR (pv 0) rfl) qb)) qc)))))))),?_⟩
   try dsimp only [zx,Cx.nox]
   refine ⟨_,rfl,x,dx,_,rfl,hL.hx,rfl,_,rfl,x,dx,td,ed,bl,ts,es,bs,e,rfl,hL,me,?_⟩
   refine ⟨_,rfl,x,dx,_,rfl,hL.hx,rfl,_,rfl,x,dx,td,ed,bl,ts,es,bs,f,rfl,hL,mf,?_⟩
   refine ⟨_,rfl,m,rfl,m0,m1,true,rfl,zy rfl ?_⟩
   obtain ⟨zs,hb,tbb⟩:=hL.hb
   have lz:zs.length=bs.length:=tbb.1
   refine ⟨_,rfl,x,_,dx,_,_,rfl,hL.hx,T.cl_Log,T.n_Log_bound,rfl,_,_,rfl,.inl ⟨_,SqL.of hb,rfl⟩,_,_,rfl,rfl,_,rfl,Zh (fun g=>absurd g (by omega)) (fun _=>?_)⟩
   refine ⟨_,rfl,x,_,dx,_,_,rfl,hL.hx,T.cl_Log,T.n_Log_bound,rfl,.inl ⟨rfl,_,SqL.of hb⟩,_,rfl,_,rfl,_,rfl,qk (Nat.le_of_ble_eq_true rfl),fun t ft=>?_⟩
   generalize hG:upd H t _=G
   obtain ⟨SG,eG⟩:=qH hG ft
   clear hG
   have hLG:=hL.sm SG
   have hbG:=SG _ _ hb
   have tbG:TupL prB G zs bs:=tbb.same SG
   refine ⟨bl,_,_,rfl,rfl,hbG,qE (by omega),?_⟩
   have hL2:Lg a (upd G bl (.lst (zs++[.ref t]))) x dx td ed bl ts es (bs++[(e.nm,f.nm,m)]):=⟨by rw [qh (qJ hLG.hx hbG (by intro z; cases z))]; exact hLG.hx,by rw [qh (qJ hLG.ht hbG (by intro z; cases z))]; exact hLG.ht,by rw [qh (qJ hLG.he hbG (by intro z; cases z))]; exact hLG.he,⟨_,qd,(tbG.snoc (p:=(e.nm,f.nm,m)) eG).put hbG⟩,fun y my=>(hLG.tt y my).putB (hLG.tg y my) hbG tbG _,hLG.tg,hLG.tn,fun y my=>(hLG.en y my).putL hbG _,hLG.sp,hLG.pls,hLG.ne,hLG.ndt,hLG.nde⟩
   have B2:But bl H (upd G bl (.lst (zs++[.ref t]))):=fun b o e nb=>by rw [qh nb]; exact SG b o e
   obtain ⟨zs2,hb2,tb2⟩:=hL2.hb
   generalize upd G bl (.lst (zs++[.ref t]))=G2 at hL2 B2 hb2 tb2 ⊢
   have l2:zs2.length=bs.length+1:=by rw [tb2.1,List.length_append]; rfl
   refine ⟨_,rfl,x,_,dx,_,_,rfl,hL2.hx,T.cl_Log,T.n_Log_bound,rfl,_,_,rfl,.inl ⟨_,SqL.of hb2,rfl⟩,_,_,rfl,rfl,?_⟩
   have e3:((zs2.length:Int) - 1)=(bs.length:Int):=by omega
   rw [e3]
   exact kk _ B2 hL2
theorem qc3 {a:Ad} (T:Txt K mg a):qC P w K mg base CX0 7 a.f_J a.fd_J ["self","name"] (J4 a):=by
 have G_I:qC P w K mg base CX0 1 a.f_I a.fd_I ["self","tables"] QN:=j6 T
 have G_x:qC P w K mg base CX0 5 a.f_x a.fd_x ["self","tables"] (zM K):=jp T
 have G_z:qC P w K mg base CX0 6 a.f_z a.fd_z ["self","tables"] (zB a):=Z2 T
 have G_d:qC P w K mg base CX0 3 a.f_d a.fd_d ["self","name"] (jj a):=qac T
 refine T.d_J.F.ok qcL (fun vs H Q E h=>?_) (fun cdv A outer s H vs Q E hr h=>?_)
 · obtain ⟨x,dx,td,ed,bl,ts,es,bs,e,W,rfl,hL,me,due,kk⟩:=h
   rfl
 · obtain ⟨x,dx,td,ed,bl,ts,es,bs,e,W,rfl,hL,me,due,kk⟩:=h
   have hu:=qK hr
   have hU:=hr.units
   have h_I:Room (1) _:=hr.mono (by decide)
   have h_x:Room (5) _:=hr.mono (by decide)
   have h_z:Room (6) _:=hr.mono (by decide)
   have h_d:Room (3) _:=hr.mono (by decide)
   refine ⟨_,(qg (qu (PE.or (qW (qW (pv 0) T.cl_Log T.d_d.mt G_d h_d T.d_d.b .nil ql (qa (pv 1) qb)) T.cl_Entry T.d_I.mt G_I h_I T.d_I.b .nil ql (qa (qR (pv 0) rfl) qb)) (PE.or (qW (qW (pv 0) T.cl_Log T.d_d.mt G_d h_d T.d_d.b .nil ql (qa (pv 1) qb)) T.cl_Within T.d_x.mt G_x h_x T.d_x.b .nil ql (qa (qR (pv 0) rfl) qb)) (PE.or (qW (qW (pv 0) T.cl_Log T.d_d.mt G_d h_d T.d_d.b .nil ql (qa (pv 1) qb)) T.cl_At T.i_At_spans G_x h_x T.d_x.b .nil ql (qa (qR (pv 0) rfl) qb)) (PE.or (qW (qW (pv 0) T.cl_Log T.d_d.mt G_d h_d T.d_d.b .nil ql (qa (pv 1) qb)) T.cl_Between T.d_z.mt G_z h_z T.d_z.b .nil ql (qa (qR (pv 0) rfl) qb)) (qW (qW (pv 0) T.cl_Log T.d_d.mt G_d h_d T.d_d.b .nil ql (qa (pv 1) qb)) T.cl_Read T.i_Read_spans G_z h_z T.d_z.b .nil ql (qa (qR (pv 0) rfl) qb)))))))),?_⟩
   try dsimp only [zx,Cx.nox]
   refine qgk T (fun R h=>⟨_,rfl,x,dx,_,rfl,hL.hx,rfl,_,rfl,x,dx,td,ed,bl,ts,es,bs,e,rfl,hL,me,h⟩) (hL.en e me) (hL.sp e me) due (fun R hR=>⟨_,rfl,x,_,dx,_,_,rfl,hL.hx,T.cl_Log,T.n_Log_tables,rfl,hR td fun hw=>?_⟩) kk
   cases due with
   | @pl x0 _ mx ex =>
     have dg:=hL.tget mx
     rw [ex] at dg
     exact ⟨x0.2.1,x0.2.2,dg,hL.tt x0 mx,hL.tg x0 mx,rfl⟩
   | no h=>exact absurd hw (by rcases h with h | h | h<;>rw [h]<;>decide)
end
end K35
namespace K35
open PySem L2 PySem.NumText PyProof.Rows KC M04
section
variable {P:Program} {w:World} {K:PySem.W.Frag} {mg:Str->Option Value} {base:Heap}
end
def rdv (ts:Pls) (t:Int) (pl:Str):Int:=match ts.find? (fun x=>decide (x.1=pl)) with
 | some x=>(na x.2.2 t).getD 0+t
 | none=>0
theorem qfi:∀ {ts:Pls} {t:Int},(ts.map (·.1)).Nodup->∀ x∈ts,rdv ts t x.1=(na x.2.2 t).getD 0+t
 | [],_,_,x,m=>nomatch m
 | y::r,t,nd,x,m=>by
   rw [List.map_cons,List.nodup_cons] at nd
   unfold rdv
   rw [List.find?_cons]
   rcases List.mem_cons.mp m with rfl | m
   · simp
   · have n:¬ (y.1=x.1):=fun e=>nd.1 (e▸List.mem_map_of_mem (f:=fun x:Str×Addr×List (Int×Int)=>x.1) m)
     rw [show decide (y.1=x.1)=false by simpa using n]
     exact qfi nd.2 x m
abbrev rdk (ts:Pls) (t:Int) (ss:List Str):List (Key×V):=ss.map fun pl=>((.inr pl:Key),V.int (rdv ts t pl))
theorem qgY {ts:Pls} {t:Int}:∀ {ss:List Str} {x:Str},x∉ss->qam (rdk ts t ss) (.inr x)=none
 | [],_,_=>rfl
 | y::r,x,h=>by
   rw [List.mem_cons,not_or] at h
   unfold qam
   show Option.map _ (List.find? _ (((.inr y:Key),V.int (rdv ts t y))::rdk ts t r))=none
   rw [List.find?_cons]
   have n:¬ ((.inr y:Key)=.inr x):=fun e=>by injection e with e; exact h.1 e.symm
   rw [show decide (((.inr y:Key),V.int (rdv ts t y)).1=.inr x)=false by simpa using n]
   exact qgY h.2
theorem qaT:∀ {l:List Str} {j:Nat} {x:Str},l.Nodup->l[j]?=some x->x∉l.take j
 | [],_,_,_,h=>by cases h
 | y::r,0,x,_,h=>by simp
 | y::r,j+1,x,nd,h=>by
   rw [List.nodup_cons] at nd
   rw [List.take_succ_cons,List.mem_cons,not_or]
   have h':r[j]?=some x:=h
   exact ⟨fun e=>nd.1 (e▸List.mem_of_getElem? h'),qaT nd.2 h'⟩
inductive Zz (a:Ad) (vs:List V) (H:Hp) (Q:VK):Prop
 | mk (x dx td ed bl:Addr) (ts:Pls) (es:List Ent) (bs:List (Str×Str×Int)) (t:Int) (h1:vs=[.ref x,.int t]) (h2:Lg a H x dx td ed bl ts es bs) (h3:ts.length≤6) (h4:0≤t) (h5:t≤1000000000) (h6:∀ (d:Addr) (ss:List Str) (H':Hp),H d=none->Same H H'->ss.Perm (ts.map (·.1))->sortedS ss=true->H' d=some (.dK (rdk ts t ss))->Q (.ref d) H'):Zz a vs H Q
def Q7 (a:Ad):Sp:=fun vs H Q _=>Zz a vs H Q
section
variable {P:Program} {w:World} {K:PySem.W.Frag} {mg:Str->Option Value} {base:Heap}
theorem jq {a:Ad} (T:Txt K mg a):qC P w K mg base CX0 6 a.f_m a.fd_m ["self","moment"] (Q7 a):=by
 have G_e:qC P w K mg base CX0 1 a.f_e a.fd_e ["self"] qV:=Qv T
 have G_g:qC P w K mg base CX0 1 a.f_g a.fd_g ["self"] (qT K):=zT T
 have G_f:qC P w K mg base CX0 1 a.f_f a.fd_f ["self"] (Qr a):=QX T
 have G_c:qC P w K mg base CX0 3 a.f_c a.fd_c ["thing"] QO:=Zm T
 have G_al:qC P w K mg base CX0 5 a.f_al a.fd_al ["self","moment"] (ZX a):=qak T
 refine T.d_m.F.ok sc_Log_readings (fun vs H Q E h=>?_) (fun cdv A outer s H vs Q E hr h=>?_)
 · obtain ⟨x,dx,td,ed,bl,ts,es,bs,t,rfl,hL,few,t0,t1,kk⟩:=h
   rfl
 · obtain ⟨x,dx,td,ed,bl,ts,es,bs,t,rfl,hL,few,t0,t1,kk⟩:=h
   have hu:=qK hr
   have hU:=hr.units
   have h_e:Room (1) _:=hr.mono (by decide)
   have h_g:Room (1) _:=hr.mono (by decide)
   have h_f:Room (1) _:=hr.mono (by decide)
   have h_c:Room (3) _:=hr.mono (by decide)
   have h_al:Room (5) _:=hr.mono (by decide)
   refine ⟨_,(qf (qO (qZ (qY (qj G_c h_c rfl T.d_c.m T.d_c.k T.d_c.b .nil ql (qa (pv 1) qb))))
       (qg qP)
       qv)
     (qf (qF (i:=2) sc_Log_readings.nd rfl (Or.inl rfl) Jr)
     (qf (zK PassesOwn.never rfl (ze (qX (pv 0) T.cl_Log T.d_f.mt G_f h_f T.d_f.b .nil ql)) (qt (i:=3) (sc_Log_readings.nd) rfl (Or.inl rfl))
       (qg (qaL hu (pv 2) (pv 3) (qW (qI hu (qR (pv 0) rfl) (pv 3) (fun _ _=>rfl)) T.cl_Table T.d_al.mt G_al h_al T.d_al.b .nil ql (qa (pv 1) qb)) rfl)))
     (qg (qu (pv 2)))))),?_⟩
   try dsimp only [zx,Cx.nox]
   refine ⟨_,rfl,t,rfl,t0,t1,true,rfl,zy rfl ?_⟩
   intro d fd
   generalize hG:upd H d _=G
   obtain ⟨SG,eG⟩:=qH hG fd
   clear hG
   have hL1:=hL.sm SG
   try unfold zm
   try dsimp only
   refine ⟨_,rfl,x,dx,_,rfl,hL1.hx,rfl,x,dx,td,ed,bl,ts,es,bs,rfl,hL1,few,fun l ss fl pm so=>?_⟩
   generalize hG:upd G l _=G2
   obtain ⟨S2,e2⟩:=qH hG fl
   clear hG
   have nd:ss.Nodup:=pm.nodup_iff.mpr hL.ndt
   have lss:ss.length≤6:=by rw [pm.length_eq,List.length_map]; exact few
   have nld:l≠d:=qi (H:=G) eG fl |> Ne.symm
   have ed2:=S2 _ _ eG
   refine ⟨l,rfl,⟨_,SqL.of e2⟩,Qa (D:={ nx:=qgb (qhy 2) { nx:=fun _ H'=>Q .non H',rt:=Q },rt:=Q }) (K:=K) (a:=l) (xs:=ss.map V.str) (fun j σ H'=>∃ s3:Option V,σ=[some (.ref x),some (.int t),some (.ref d),s3]∧Same H H'∧H' l=some (.lst (ss.map V.str))∧H' d=some (.dK (rdk ts t (ss.take j)))) ⟨_,rfl,SG.trans S2,e2,ed2⟩ (fun j σ H' _ ⟨_,_,_,h,_⟩=>SqL.of h) ?_ ?_⟩
   · rintro j z σ H3 hz ⟨s3,rfl,S3,hl3,hd3⟩
     obtain ⟨y,hy,rfl⟩:∃ y,ss[j]?=some y∧V.str y=z:=by
       rw [List.getElem?_map] at hz
       exact Option.map_eq_some_iff.mp hz
     obtain ⟨p,mp,ep⟩:=List.mem_map.mp (pm.mem_iff.mp (List.mem_of_getElem? hy))
     subst ep
     have hL3:=hL.sm S3
     have tb3:=hL3.tt p mp
     obtain ⟨k0,dt,zs0,ht,hk0,tp0⟩:=id tb3
     obtain ⟨v,hv,_,_⟩:=qfA (hL.tg p mp) t0
     refine ⟨_,rfl,x,_,dx,_,_,rfl,hL3.hx,T.cl_Log,T.n_Log_tables,rfl,_,rfl,td,_,rfl,hL3.tget mp,p.2.1,dt,_,rfl,ht,qa2 _ (by decide),_,rfl,p.2.1,t,v,p.2.2,rfl,tb3,(hL.tg p mp).few,t0,t1,hv,fun H4 S4=>?_⟩
     have hd4:=S4 _ _ hd3
     have hl4:=S4 _ _ hl3
     have ny:p.1∉ss.take j:=qaT nd hy
     refine ⟨_,rfl,_,rfl,d,_,rfl,DPut.k (k:=.inr p.1) hd4 (by rw [List.length_map,List.length_take]; exact Nat.lt_of_lt_of_le (by omega:min j ss.length < 60) (qk (by decide:60≤1000))),?_⟩
     refine ⟨_,rfl,(S3.trans S4).put fd _,by rw [qh nld]; exact hl4,?_⟩
     rw [qd,qao _ (qgY ny),List.take_add_one,hy]
     show _=some (HO.dK ((ss.take j++[p.1]).map _))
     rw [List.map_append]
     have er:=qfi (t:=t) hL.ndt p mp
     rw [hv] at er
     show some (HO.dK (_++[(Sum.inr p.1,V.int (v+t))]))=some (HO.dK (_++[(Sum.inr p.1,V.int (rdv ts t p.1))]))
     rw [er]; rfl
   · rintro σ H3 ⟨s3,rfl,S3,hl3,hd3⟩
     rw [List.length_map,List.take_length] at hd3
     exact ⟨_,rfl,kk d ss H3 fd S3 pm so hd3⟩
end
end K35
namespace K35
open PySem L2 PySem.NumText PyProof.Rows KC M04
section
variable {P:Program} {w:World} {K:PySem.W.Frag} {mg:Str->Option Value} {base:Heap}
end
theorem qdo {x:Str} {n:Int} (h0:0≤n) (h1:n≤x.length):(Txt.slice x none (some n)).cps.toList=x.cps.toList.take n.toNat:=by
 have e:=beq_iff_eq.mp (slice_closes_to (x:=x) (j:=n) ⟨h0,by rw [qeG]; exact h1⟩)
 rw [e]
 show (List.take (n - 0).toNat (x.cps.toList.drop 0))=_
 rw [Int.sub_zero,List.drop_zero]
def cd (f:Int) (j:Nat):Int:=(f+27 * (j:Int)) % 676
def NmI (f:Int) (xs:List Str):Prop:=∀ (j:Nat) (x:Str),xs[j]?=some x->zU (.str x)=true∧∃ pre,x.cps.toList=pre++[97+(cd f j / 26).toNat,97+(cd f j % 26).toNat]
theorem NmI.nil {f:Int}:NmI f []:=fun j x e=>by cases e
theorem NmI.snoc {f:Int} {xs:List Str} {x:Str} (h:NmI f xs) (h1:zU (.str x)=true) {pre:List Nat} (h2:x.cps.toList=pre++[97+(cd f xs.length / 26).toNat,97+(cd f xs.length % 26).toNat]):NmI f (xs++[x]):=fun j y e=>by
 by_cases hj:j < xs.length
 · rw [List.getElem?_append_left hj] at e
   exact h j y e
 · rw [List.getElem?_append_right (by omega)] at e
   have hj2:j=xs.length:=by
     have:=(List.getElem?_eq_some_iff.mp e).1
     simp at this; omega
   subst hj2
   rw [Nat.sub_self] at e
   cases e
   exact ⟨h1,pre,h2⟩
theorem NmI.end_ {f:Int} {xs:List Str} (h:NmI f xs) (hl:xs.length≤60):Nms xs:=by
 refine ⟨fun x m=>?_,?_⟩
 · obtain ⟨j,hj⟩:=List.getElem?_of_mem m
   exact (h j x hj).1
 · rw [List.Nodup,List.pairwise_iff_getElem]
   intro i j hi hj hij e
   obtain ⟨_,s1,e1⟩:=h i _ (List.getElem?_eq_getElem hi)
   obtain ⟨_,s2,e2⟩:=h j _ (List.getElem?_eq_getElem hj)
   rw [e,e2] at e1
   obtain ⟨_,e3⟩:=List.append_inj' e1 rfl
   injection e3 with e4 e5
   injection e5 with e5 _
   unfold cd at e4 e5
   omega
inductive Jn (vs:List V) (H:Hp) (Q:VK):Prop
 | mk (p:Addr) (h1:vs=[.ref p]) (h2:PenAt H p) (h3:∀ (n:Int) (H':Hp),-2000000000≤n->n≤2000000001->But p H H'->PenAt H' p->Q (.int n) H'):Jn vs H Q
def qaB:Sp:=fun vs H Q _=>Jn vs H Q
inductive ZY (vs:List V) (H:Hp) (Q:VK):Prop
 | mk (p:Addr) (many:Int) (h1:vs=[.ref p,.int many]) (h2:PenAt H p) (h3:0≤many) (h4:many≤60) (h5:∀ (q:Addr) (ns:List Str) (H':Hp),H q=none->But p H H'->PenAt H' p->H' q=some (.lst (ns.map V.str))->(ns.length:Int)=many->Nms ns->Q (.ref q) H'):ZY vs H Q
def jX:Sp:=fun vs H Q _=>ZY vs H Q
section
variable {P:Program} {w:World} {K:PySem.W.Frag} {mg:Str->Option Value} {base:Heap}
theorem qdw {a:Ad} (T:Txt K mg a):qC P w K mg base CX0 3 a.f_1 a.fd_1 ["_law_state"] qaB:=by
 have G_a:qC P w K mg base CX0 2 a.f_a a.fd_a ["_law_state","_law_many"] QM:=QW T
 refine T.d_1.F.ok sc_Lminutes (fun vs H Q E h=>?_) (fun cdv A outer s H vs Q E hr h=>?_)
 · obtain ⟨p,rfl,hp,kk⟩:=h
   rfl
 · obtain ⟨p,rfl,hp,kk⟩:=h
   have hu:=qK hr
   have hU:=hr.units
   have h_a:Room (2) _:=hr.mono (by decide)
   refine ⟨_,(@qf _ _ _ _ _ (by exact (qF (i:=1) sc_Lminutes.nd rfl (Or.inl rfl) (qj G_a h_a rfl T.d_a.m T.d_a.k T.d_a.b .nil ql (qa (pv 0) (qa qc qb)))))
     (by exact (@qf _ _ _ _ _ (by exact (@qO _ _ _ _ _ _ _ _ (by exact (qA (uEq hU) (pv 1) qc (qG _)))
       (by exact (@qg _ _ _ (by exact (@qu _ _ _ _ (by exact (@qD _ _ _ _ _ _ (rIx K) (by exact qr) (by exact (@qN _ _ _ _ (by exact (@qa _ _ _ _ _ (by exact (qw zY qc (qw QP qc (qw zL qc qc)))) (by exact (@qa _ _ _ _ _ (by exact (qw Zu (qw QP qc (qw zL qc qc)) qc)) (by exact (@qa _ _ _ _ _ (by exact qc) (by exact (@qb _)) (by rfl))) (by rfl))) (by rfl))))) (by exact (qj G_a h_a rfl T.d_a.m T.d_a.k T.d_a.b .nil ql (qa (pv 0) (qa qc qb)))) (by exact fun _ _=>rfl)))))))
       (by exact qv)))
     (by exact (qf (qO (qA qiu (pv 1) qc (qG _))
       (qg (qu (qw zY (qj G_a h_a rfl T.d_a.m T.d_a.k T.d_a.b .nil ql (qa (pv 0) (qa qc qb))) qc)))
       qv)
     (qg (qu (qw zY (qj G_a h_a rfl T.d_a.m T.d_a.k T.d_a.b .nil ql (qa (pv 0) (qa (qw Zu (qw QP qc (qw zL qc qc)) qc) qb))) (qw QP qc (qw zL qc qc)))))))))),?_⟩
   try dsimp only [zx,Cx.nox]
   have p0:PenAt H p:=hp
   have t0:But p H H:=But.refl p H
   refine ⟨_,rfl,p,_,rfl,p0,by decide,by decide,fun w G1 w0 w1 u1 p1=>?_⟩
   have t1:=t0.trans u1
   have e9:(10:Int) ^ (9:Int).toNat=1000000000:=by decide
   refine ⟨_,rfl,.inl ⟨rfl,_,rfl,Zh (fun g=>?_) (fun g=>?_)⟩⟩
   all_goals have t1_:=t1
   · have p0:PenAt G1 p:=p1
     have t0:But p G1 G1:=But.refl p G1
     refine ⟨_,_,rfl,rfl,⟨by decide,by decide,by decide⟩,_,_,rfl,rfl,.inl ⟨by decide,by decide⟩,_,_,rfl,rfl,_,_,rfl,rfl,⟨by decide,by decide,by decide⟩,_,_,rfl,rfl,.inl ⟨by decide,by decide⟩,.inl ⟨_,_,rfl,rfl,?_⟩⟩
     refine ⟨(qk (Nat.le_of_ble_eq_true rfl)),fun l3 f_l3=>?_⟩
     have n_l3:l3≠p:=p0.ne f_l3
     have e_l3:(upd G1 l3 (.lst [.int (0 - 2 * 10 ^ (9:Int).toNat),.int (2 * 10 ^ (9:Int).toNat+1),.int 0])) l3=some (.lst [.int (0 - 2 * 10 ^ (9:Int).toNat),.int (2 * 10 ^ (9:Int).toNat+1),.int 0]):=qd
     have p1:PenAt (upd G1 l3 (.lst [.int (0 - 2 * 10 ^ (9:Int).toNat),.int (2 * 10 ^ (9:Int).toNat+1),.int 0])) p:=p0.upd n_l3 _
     have u1:Same G1 (upd G1 l3 (.lst [.int (0 - 2 * 10 ^ (9:Int).toNat),.int (2 * 10 ^ (9:Int).toNat+1),.int 0])):=Same.new _ f_l3
     have t1:=t0.same u1
     try dsimp only
     generalize upd G1 l3 (.lst [.int (0 - 2 * 10 ^ (9:Int).toNat),.int (2 * 10 ^ (9:Int).toNat+1),.int 0])=G1 at e_l3 p1 u1 t1 ⊢
     refine ⟨_,rfl,p,_,rfl,p1,by decide,by decide,fun i3 G2 i30 i31 u2 p2=>?_⟩
     have t2:=t1.trans u2
     obtain ⟨v,hv,mv⟩:=jv (xs:=([.int (0 - 2 * 10 ^ (9:Int).toNat),.int (2 * 10 ^ (9:Int).toNat+1),.int 0]:List V)) i30 i31
     obtain ⟨n,rfl,n0,n1⟩:∃ n:Int,v=.int n∧-2000000000≤n∧n≤2000000001:=by
       simp only [List.mem_cons,List.not_mem_nil,or_false] at mv
       rcases mv with rfl | rfl | rfl<;>exact ⟨_,rfl,by omega,by omega⟩
     exact .inl ⟨l3,_,_,_,rfl,rfl,SqL.of (u2 _ _ e_l3 n_l3),hv,kk n _ n0 n1 (t1_.trans t2) p2⟩
   refine ⟨_,rfl,_,_,rfl,rfl,_,rfl,Zh (fun g2=>?_) (fun g2=>?_)⟩
   · have p0:PenAt G1 p:=p1
     have t0:But p G1 G1:=But.refl p G1
     refine ⟨_,rfl,p,_,rfl,p0,by decide,by decide,fun d G1 d0 d1 u1 p1=>?_⟩
     have t1:=t0.trans u1
     exact ⟨_,_,rfl,rfl,kk _ _ (by omega) (by omega) (t1_.trans t1) p1⟩
   · have p0:PenAt G1 p:=p1
     have t0:But p G1 G1:=But.refl p G1
     have w9:(0:Int) < 4 * 10 ^ (9:Int).toNat+2∧(4 * (10:Int) ^ (9:Int).toNat+2) < 340282366920938463463374607431768211456:=by decide
     refine ⟨_,rfl,_,_,rfl,rfl,⟨by decide,by decide,by decide⟩,_,_,rfl,rfl,.inl ⟨by decide,by decide⟩,.inl ⟨_,_,rfl,rfl,p,_,rfl,p0,w9.1,w9.2,fun d G1 d0 d1 u1 p1=>?_⟩⟩
     have t1:=t0.trans u1
     rw [e9] at d1
     exact ⟨_,_,rfl,rfl,⟨by decide,by decide,by decide⟩,_,_,rfl,rfl,.inl ⟨by decide,by decide⟩,_,_,rfl,rfl,kk _ _ (by rw [e9]; omega) (by rw [e9]; omega) (t1_.trans t1) p1⟩
theorem qbd {a:Ad} (T:Txt K mg a):qC P w K mg base CX0 3 a.f_2 a.fd_2 ["_law_state","_law_many"] jX:=by
 have G_a:qC P w K mg base CX0 2 a.f_a a.fd_a ["_law_state","_law_many"] QM:=QW T
 refine T.d_2.F.ok sc_Lmany_names (fun vs H Q E h=>?_) (fun cdv A outer s H vs Q E hr h=>?_)
 · obtain ⟨p,many,rfl,hp,many0,many1,kk⟩:=h
   rfl
 · obtain ⟨p,many,rfl,hp,many0,many1,kk⟩:=h
   have hu:=qK hr
   have hU:=hr.units
   have h_a:Room (2) _:=hr.mono (by decide)
   refine ⟨_,(qf (qF (i:=2) sc_Lmany_names.nd rfl (Or.inr rfl) qB)
     (qf (qF (i:=3) sc_Lmany_names.nd rfl (Or.inl rfl) (Ja PySem.F.plainAttrs_str PySem.F.slot_str_join PySem.F.type_str_join qdx qB (qa (Qt rfl (CompOk.def ["_law_k","_law_letters","_law_state"] [none,some 2,some 0]) (z3 rfl T.n_range (qa qc qb)) (fun _ _ _ _ _=>(qt (i:=0) (show List.Nodup (["_law_k","_law_letters","_law_state"]:List Str) by decide +kernel) rfl (Or.inl rfl))) (fun _ _ _ _ _=>Zb) (fun _ _ _ _ _=>(qD (r:=rIx K) qr (pv 1) (qj G_a h_a rfl T.d_a.m T.d_a.k T.d_a.b .nil ql (qa (pv 2) (qa qc qb))) (fun _ _=>rfl)))) qb)))
     (qf (qF (i:=4) sc_Lmany_names.nd rfl (Or.inl rfl) (qj G_a h_a rfl T.d_a.m T.d_a.k T.d_a.b .nil ql (qa (pv 0) (qa qc qb))))
     (qf (qF (i:=5) sc_Lmany_names.nd rfl (Or.inl rfl) (qw Zu qc (qj G_a h_a rfl T.d_a.m T.d_a.k T.d_a.b .nil ql (qa (pv 0) (qa qc qb)))))
     (qf (qF (i:=6) sc_Lmany_names.nd rfl (Or.inl rfl) (qN qb))
     (qf (zK PassesOwn.never rfl (z3 rfl T.n_range (qa (pv 1) qb)) (qt (i:=7) (sc_Lmany_names.nd) rfl (Or.inl rfl))
       (qf (qF (i:=8) sc_Lmany_names.nd rfl (Or.inl rfl) (qw Z1 (qw Zu (pv 4) (qw QP qc (pv 7))) qc))
       (qf (qF (i:=9) sc_Lmany_names.nd rfl (Or.inl rfl) (jG uSl (pv 3) qaM (j9 (qw Z1 (qw QP (pv 5) (pv 7)) qc))))
       (qg (qU (Ja PySem.F.plainAttrs_list PySem.F.slot_list_append PySem.F.type_list_append zn (pv 6) (qa (qw Zu (qw Zu (pv 9) (qD (r:=rIx K) qr (pv 2) (qw qdt (pv 8) qc) (fun _ _=>rfl))) (qD (r:=rIx K) qr (pv 2) (qw Z1 (pv 8) qc) (fun _ _=>rfl))) qb)))))))
     (qg (qu (pv 6))))))))),?_⟩
   try dsimp only [zx,Cx.nox]
   refine ⟨rfl,_,rfl,by decide,by decide,fun D fD=>?_⟩
   have nD:D≠p:=hp.ne fD
   refine qbI (lo:=0) (n:=(6:Int).toNat) (D:=D) (fun i σ H2=>∃ (s0:Option V) (cs:List Nat),σ=[s0,some (.str abc),some (.ref p)]∧But p H H2∧PenAt H2 p∧H2 D=some (.lst ((chs cs).map V.str))∧cs.length=i∧∀ c∈cs,Ltr c)
     ⟨none,[],rfl,fun b o z n=>by rw [qh (qi z fD)]; exact z,hp.upd nD _,qd,rfl,fun y hy=>nomatch hy⟩ ?_ ?_
   · rintro i σ H2 hi ⟨s0,cs,rfl,t2,p2,hD,hl,hc⟩
     have hi6:i < 6:=hi
     refine ⟨_,rfl,_,rfl,p,_,rfl,p2,by decide,by decide,fun d H3 d0 d1 B3 p3=>?_⟩
     refine .inr (.inr ⟨_,_,_,rfl,rfl,qk (by decide +kernel),qdl d0 d1,?_⟩)
     refine ⟨_,B3 _ _ hD nD,qE (by rw [List.length_map,List.length_map]; omega),?_⟩
     refine ⟨_,cs++[97+d.toNat],rfl,?_,p3.upd nD _,?_,?_,?_⟩
     · intro b o z n
       rw [qh (qi z fD)]
       exact B3 b o (t2 b o z n) n
     · rw [qd]; simp only [chs,List.map_append]; rfl
     · rw [List.length_append,hl]; rfl
     · intro c hm
       rcases List.mem_append.mp hm with z | z
       · exact hc c z
       · rw [show c=97+d.toNat by simpa using z]
         exact ⟨by omega,by omega⟩
   rintro σ H2 ⟨s0,cs,rfl,T2,pC,hD,hl,hc⟩
   refine ⟨_,D,_,rfl,rfl,SqL.of hD,(by rw [qdG,hl]; decide),?_⟩
   have ewx:=qeI cs
   have lwx:(Txt.join "" (chs cs)).length=6:=by rw [qaZ,hl]; rfl
   try unfold zm
   try dsimp only
   generalize Txt.join "" (chs cs)=wx at ewx lwx ⊢
   have p0:PenAt H2 p:=pC
   have t0:But p H2 H2:=But.refl p H2
   refine ⟨_,rfl,p,_,rfl,p0,by decide,by decide,fun fi G1 fi0 fi1 u1 p1=>?_⟩
   have t1:=t0.trans u1
   refine ⟨_,rfl,p,_,rfl,p1,by decide,by decide,fun sx G2 sx0 sx1 u2 p2=>?_⟩
   have t2:=t1.trans u2
   refine .inl ⟨_,_,rfl,rfl,?_⟩
   try unfold zm
   try dsimp only
   obtain ⟨st,hst⟩:∃ st:Int,st=1+sx:=⟨_,rfl⟩
   rw [← hst]
   refine ⟨(qk (Nat.le_of_ble_eq_true rfl)),fun q f_q=>?_⟩
   have n_q:q≠p:=p2.ne f_q
   have e_q:(upd G2 q (.lst [])) q=some (.lst []):=qd
   have p3:PenAt (upd G2 q (.lst [])) p:=p2.upd n_q _
   have u3:Same G2 (upd G2 q (.lst [])):=Same.new _ f_q
   have t3:=t2.same u3
   try dsimp only
   generalize upd G2 q (.lst [])=G3 at e_q p3 u3 t3 ⊢
   have fq0:H q=none:=T2.none ((t2).none f_q n_q) n_q
   have B0:But p H G3:=T2.trans t3
   try unfold zm
   try dsimp only
   refine ⟨_,rfl,_,rfl,by omega,by omega,QQ (lo:=0) (D:={ nx:=qgb (qhy 6) { nx:=fun _ H'=>Q .non H',rt:=Q },rt:=Q }) (fun i σ H3=>∃ (s7 s8 s9:Option V) (xs:List Str),σ=[some (.ref p),some (.int many),some (.str abc),some (.str wx),some (.int fi),some (.int st),some (.ref q),s7,s8,s9]∧But p H H3∧PenAt H3 p∧H3 q=some (.lst (xs.map V.str))∧xs.length=i∧NmI fi xs) ⟨_,_,_,[],rfl,B0,p3,e_q,rfl,.nil⟩ ?_ ?_⟩
   · rintro i σ H3 hi ⟨s7,s8,s9,xs,rfl,B,pB,hq3,lx,nm⟩
     refine ⟨_,rfl,_,rfl,_,_,rfl,rfl,.inl ⟨by decide,by decide⟩,.inl ⟨_,_,rfl,rfl,_,_,rfl,rfl,(by show (0:Int) < _; decide),?_⟩⟩
     have c0:0≤(fi+27 * (0+(i:Int))) % 676:=Int.emod_nonneg _ (by decide)
     have c1:(fi+27 * (0+(i:Int))) % 676 < 676:=Int.emod_lt_of_pos _ (by decide)
     have ec:(fi+27 * (0+(i:Int))) % 676=cd fi xs.length:=by unfold cd; rw [lx,Int.zero_add]
     try unfold zm
     try dsimp only
     generalize (fi+27 * (0+(i:Int))) % 676=c at c0 c1 ec ⊢
     have m0:0≤st * (0+(i:Int)) % 7:=Int.emod_nonneg _ (by decide)
     have m1:st * (0+(i:Int)) % 7 < 7:=Int.emod_lt_of_pos _ (by decide)
     refine ⟨_,rfl,_,rfl,_,rfl,_,_,rfl,rfl,.inl ⟨by omega,by omega⟩,_,_,rfl,rfl,(by show (0:Int) < _; decide),_,rfl,.inr ⟨wx,rfl,qk (by rw [lwx]; decide),?_⟩⟩
     try unfold zm
     try dsimp only
     generalize st * (0+(i:Int)) % 7=m at m0 m1 ⊢
     have eS:=qdo (x:=wx) m0 (by rw [lwx]; omega)
     have lS:(Txt.slice wx none (some m)).length≤6:=by
       rw [Jc,eS,List.length_take]; omega
     have cS:∀ y∈(Txt.slice wx none (some m)).cps.toList,Ltr y:=fun y my=>by
       rw [eS,ewx] at my
       exact hc y (List.mem_of_mem_take my)
     generalize Txt.slice wx none (some m)=pre at eS lS cS
     refine ⟨_,rfl,.inl ⟨rfl,_,SqL.of hq3⟩,_,rfl,_,rfl,_,rfl,_,_,rfl,rfl,⟨by decide,by decide⟩,.inr (.inr ⟨_,_,_,rfl,rfl,qk (by decide +kernel),qdl (by omega) (by omega),?_⟩)⟩
     refine .inr (.inr ⟨_,_,rfl,rfl,qk (by show pre.length+1≤1000; omega),?_⟩)
     refine ⟨_,rfl,_,rfl,_,_,rfl,rfl,(by show (0:Int) < _; decide),.inr (.inr ⟨_,_,_,rfl,rfl,qk (by decide +kernel),qdl (Int.emod_nonneg _ (by decide)) (Int.emod_lt_of_pos _ (by decide)),?_⟩)⟩
     have ex1:(pre++ch (97+(c / 26).toNat)).length=pre.length+1:=by
       rw [Jc,JW,List.length_append,← Jc]; rfl
     refine .inr (.inr ⟨_,_,rfl,rfl,qk (by show (pre++ch (97+(c / 26).toNat)).length+1≤1000; rw [ex1]; omega),?_⟩)
     refine ⟨q,_,_,rfl,rfl,hq3,qE (by rw [List.length_map]; omega),?_⟩
     have ex:(pre++ch (97+(c / 26).toNat)++ch (97+(c % 26).toNat)).cps.toList=pre.cps.toList++[97+(cd fi xs.length / 26).toNat,97+(cd fi xs.length % 26).toNat]:=by
       rw [JW,JW,← ec,List.append_assoc]; rfl
     refine ⟨_,_,_,xs++[_],rfl,?_,pB.upd n_q _,(by rw [qd,List.map_append]; rfl),(by rw [List.length_append,lx]; rfl),nm.snoc (qd6 ex ?_ ?_ ?_) ex⟩
     · intro b o z nb
       rw [qh (qi z fq0)]
       exact B b o z nb
     · rw [List.length_append]; show 1≤_+2; omega
     · rw [List.length_append,← Jc]; show _+2≤8; omega
     · intro y hm
       rcases List.mem_append.mp hm with z | z
       · exact cS y z
       · simp only [List.mem_cons,List.not_mem_nil,or_false] at z
         rw [← ec] at z
         rcases z with rfl | rfl
         · exact ⟨by omega,by omega⟩
         · exact ⟨by omega,by omega⟩
   · rintro σ H3 ⟨s7,s8,s9,xs,rfl,B,pB,hq3,lx,nm⟩
     exact ⟨_,rfl,kk q xs H3 fq0 B pB hq3 (by rw [lx]; omega) (nm.end_ (by omega))⟩
end
end K35
namespace K35
open PySem L2 PySem.NumText PyProof.Rows KC M04
section
variable {P:Program} {w:World} {K:PySem.W.Frag} {mg:Str->Option Value} {base:Heap}
end
abbrev S5:=Str×Str×Str×Int×Int
abbrev prS (s:S5):List V:=qiT s.1 s.2.1 s.2.2.1 s.2.2.2.1 s.2.2.2.2
abbrev kpd (ktd ksl kbl:Addr):List (Key×V):=[(.inr "tables",.ref ktd),(.inr "specs",.ref ksl),(.inr "bonds",.ref kbl)]
theorem kp1 {a b c:Addr}:qam (kpd a b c) (.inr "tables")=some (.ref a):=by unfold kpd; rw [jw rfl]
theorem kp2 {a b c:Addr}:qam (kpd a b c) (.inr "specs")=some (.ref b):=by unfold kpd; rw [jx (by show ¬ ((Sum.inr ("tables":Str):Key)=.inr "specs"); decide),jw rfl]
theorem kp3 {a b c:Addr}:qam (kpd a b c) (.inr "bonds")=some (.ref c):=by unfold kpd; rw [jx (by show ¬ ((Sum.inr ("tables":Str):Key)=.inr "bonds"); decide),jx (by show ¬ ((Sum.inr ("specs":Str):Key)=.inr "bonds"); decide),jw rfl]
theorem qia {β:Type} {f:β->List V} (hf:∀ b (r:Int×Int),f b≠pr r) {H:Hp} {C:Addr} {cs ws:List V} {qs:List β} {rows:List (Int×Int)} (h1:H C=some (.lst cs)) (t1:TupL f H cs qs) (g:0 < rows.length) (t2:TupL pr H ws rows):H C≠some (.lst ws):=fun e=>by
 rw [h1] at e
 cases e
 cases rows with
 | nil=>cases g
 | cons r rs =>
   obtain ⟨t,hz,ht⟩:=t2.at_ (i:=0) (p:=r) rfl
   obtain ⟨q,u,hq,eu,hu⟩:=t1.of hz
   cases eu
   rw [ht] at hu
   injection hu with hu
   injection hu with hu
   exact hf _ _ hu.symm
theorem Rs.putX {β:Type} {f:β->List V} (hf:∀ b (r:Int×Int),f b≠pr r) {H:Hp} {C q:Addr} {cs:List V} {qs:List β} {rows:List (Int×Int)} (h:Rs H q rows) (g:0 < rows.length) (h1:H C=some (.lst cs)) (t1:TupL f H cs qs) (o:HO):Rs (upd H C o) q rows:=by
 obtain ⟨zs,hq,tz⟩:=h
 have n:q≠C:=fun e=>qia hf h1 t1 g tz (by rw [← e]; exact hq)
 refine ⟨zs,by rw [qh n]; exact hq,tz.1,fun j z y e1 e2=>?_⟩
 obtain ⟨t,et,ht⟩:=tz.2 j z y e1 e2
 exact ⟨t,et,by rw [qh (qJ ht h1 (by intro z; cases z))]; exact ht⟩
theorem TupL.putL {β:Type} {f:β->List V} {H:Hp} {d:Addr} {xs:List V} {zs:List V} {ps:List β} (h:TupL f H zs ps) (e:H d=some (.lst xs)) (o:HO):TupL f (upd H d o) zs ps:=⟨h.1,fun j z y e1 e2=>by
 obtain ⟨t,et,ht⟩:=h.2 j z y e1 e2
 exact ⟨t,et,by rw [qh (qJ ht e (by intro z; cases z))]; exact ht⟩⟩
theorem TupL.bp {β:Type} {f:β->List V} {H H':Hp} {p:Addr} {zs:List V} {ps:List β} (h:TupL f H zs ps) (hp:PenAt H p) (b:But p H H'):TupL f H' zs ps:=⟨h.1,fun j z y e1 e2=>by
 obtain ⟨t,et,ht⟩:=h.2 j z y e1 e2
 obtain ⟨c,x,y',_,hq⟩:=hp
 exact ⟨t,et,b _ _ ht (qJ ht hq (by intro z; cases z))⟩⟩
theorem TupL.setG {β:Type} {f:β->List V} {H:Hp} {zs:List V} {ps:List β} (h:TupL f H zs ps) {i:Nat} {t:Addr} {p:β} (ht:H t=some (.tup (f p))):TupL f H (zs.set i (.ref t)) (ps.set i p):=by
 refine ⟨by rw [List.length_set,List.length_set]; exact h.1,fun j z y e1 e2=>?_⟩
 rw [List.getElem?_set] at e1 e2
 have hl:=h.1
 by_cases hj:i=j
 · subst hj
   by_cases hb:i < zs.length
   · rw [if_pos rfl,if_pos hb] at e1
     rw [if_pos rfl,if_pos (by omega)] at e2
     cases e1; cases e2
     exact ⟨t,rfl,ht⟩
   · rw [if_pos rfl,if_neg hb] at e1
     cases e1
 · rw [if_neg hj] at e1 e2
   exact h.2 j z y e1 e2
structure Kp (H:Hp) (kd ktd ksl kbl:Addr) (ps:Pls) (ss:List S5) (bs:List (Str×Str×Int)):Prop where
 hd:H kd=some (.dK (kpd ktd ksl kbl))
 ht:Rd H ktd (.dK (dkv ps))
 hs:∃ zs,H ksl=some (.lst zs)∧TupL prS H zs ss
 hb:∃ zs,H kbl=some (.lst zs)∧TupL prB H zs bs
 rs:∀ x∈ps,Rs H x.2.1 x.2.2
theorem Kp.sm {H H':Hp} {kd ktd ksl kbl:Addr} {ps:Pls} {ss:List S5} {bs:List (Str×Str×Int)} (h:Kp H kd ktd ksl kbl ps ss bs) (s:Same H H'):Kp H' kd ktd ksl kbl ps ss bs:=by
 obtain ⟨zs,h1,h2⟩:=h.hs
 obtain ⟨ws,h3,h4⟩:=h.hb
 exact ⟨s _ _ h.hd,Rd.sm h.ht s,⟨zs,s _ _ h1,h2.same s⟩,⟨ws,s _ _ h3,h4.same s⟩,fun x m=>(h.rs x m).same s⟩
theorem Kp.bp {H H':Hp} {p kd ktd ksl kbl:Addr} {ps:Pls} {ss:List S5} {bs:List (Str×Str×Int)} (h:Kp H kd ktd ksl kbl ps ss bs) (hp:PenAt H p) (b:But p H H') (n1:ksl≠p) (n2:kbl≠p):Kp H' kd ktd ksl kbl ps ss bs:=by
 obtain ⟨zs,h1,h2⟩:=h.hs
 obtain ⟨ws,h3,h4⟩:=h.hb
 have nk:kd≠p:=by
   obtain ⟨c,x,y,_,e⟩:=hp
   exact qJ h.hd e (by intro z; cases z)
 exact ⟨b _ _ h.hd nk,Rd.bp h.ht hp b,⟨zs,b _ _ h1 n1,TupL.bp h2 hp b⟩,⟨ws,b _ _ h3 n2,TupL.bp h4 hp b⟩,fun x m=>(h.rs x m).bp hp b⟩
theorem Kp.g1 {H:Hp} {kd ktd ksl kbl:Addr} {ps:Pls} {ss:List S5} {bs:List (Str×Str×Int)} (h:Kp H kd ktd ksl kbl ps ss bs):qbM H kd (.str "tables") (some (.ref ktd)):=.inl ⟨_,.inr "tables",.inl h.hd,rfl,kp1.symm⟩
theorem Kp.g2 {H:Hp} {kd ktd ksl kbl:Addr} {ps:Pls} {ss:List S5} {bs:List (Str×Str×Int)} (h:Kp H kd ktd ksl kbl ps ss bs):qbM H kd (.str "specs") (some (.ref ksl)):=.inl ⟨_,.inr "specs",.inl h.hd,rfl,kp2.symm⟩
theorem Kp.g3 {H:Hp} {kd ktd ksl kbl:Addr} {ps:Pls} {ss:List S5} {bs:List (Str×Str×Int)} (h:Kp H kd ktd ksl kbl ps ss bs):qbM H kd (.str "bonds") (some (.ref kbl)):=.inl ⟨_,.inr "bonds",.inl h.hd,rfl,kp3.symm⟩
structure Kw (ps:Pls) (ss:List S5) (bs:List (Str×Str×Int)):Prop where
 good:∀ x∈ps,Good x.2.2
 nm:∀ x∈ps,zU (.str x.1)=true
 nd:(ps.map (·.1)).Nodup
 few:ps.length≤6
 sp:∀ s∈ss,Spc s.1 s.2.1 s.2.2.1 s.2.2.2.1 s.2.2.2.2
 pl:∀ s∈ss,s.2.2.1=""∨s.2.2.1∈ps.map (·.1)
 nds:(ss.map (·.2.1)).Nodup
 fews:ss.length≤60
 bn:∀ b∈bs,b.1∈ss.map (·.2.1)∧b.2.1∈ss.map (·.2.1)∧-2000000000≤b.2.2∧b.2.2≤2000000001
 fewb:bs.length≤100
inductive ZZ (vs:List V) (H:Hp) (Q:VK):Prop
 | mk (p:Addr) (h1:vs=[.ref p]) (h2:PenAt H p) (h3:∀ (kd ktd ksl kbl:Addr) (ps:Pls) (ss:List S5) (bs:List (Str×Str×Int)) (H':Hp),H kd=none->H ktd=none->H ksl=none->H kbl=none->kd≠ktd->But p H H'->PenAt H' p->ksl≠p->kbl≠p->H' ktd=some (.dK (dkv ps))->Kp H' kd ktd ksl kbl ps ss bs->Kw ps ss bs->Q (.ref kd) H'):ZZ vs H Q
def jY:Sp:=fun vs H Q _=>ZZ vs H Q
theorem dvS {s:S5} {H:Hp}:DVs H (prS s) [.str s.1,.str s.2.1,.str s.2.2.1,.int s.2.2.2.1,.int s.2.2.2.2]:=.cons (.str _) (.cons (.str _) (.cons (.str _) (.cons (.int _) (.cons (.int _) .nil))))
theorem qgW {wd nm pl:Str} {lo hi:Int} (h:Spc wd nm pl lo hi):PyData.strOk wd=true∧PyData.strOk nm=true∧PyData.strOk pl=true:=by
 cases h with
 | any h=>exact ⟨by decide +kernel,ZT h,by decide +kernel⟩
 | within h _ _=>exact ⟨by decide +kernel,ZT h,by decide +kernel⟩
 | at_ h _=>exact ⟨by decide +kernel,ZT h,by decide +kernel⟩
 | between h h2 _ _=>exact ⟨by decide +kernel,ZT h,ZT h2⟩
 | read h h2 _=>exact ⟨by decide +kernel,ZT h,ZT h2⟩
abbrev dS (s:S5):PyData:=.tuple [.str s.1,.str s.2.1,.str s.2.2.1,.int s.2.2.2.1,.int s.2.2.2.2]
theorem qjN {H:Hp}:∀ {zs:List V} {ss:List S5},TupL prS H zs ss->DVs H zs (ss.map dS)
 | [],[],_=>.nil
 | z::zs,p::ps,h=>by
   obtain ⟨t,e,q⟩:=h.2 0 z p rfl rfl
   subst e
   exact .cons (.tup (.inl q) dvS) (qjN ⟨by simpa using h.1,fun i z p e1 e2=>h.2 (i+1) z p (by simpa using e1) (by simpa using e2)⟩)
 | [],_::_,h=>by simp [TupL] at h
 | _::_,[],h=>by simp [TupL] at h
theorem qjJ:∀ (ss:List S5),(∀ s∈ss,Spc s.1 s.2.1 s.2.2.1 s.2.2.2.1 s.2.2.2.2)->PyData.canLayAll0 (ss.map dS)=true∧PyData.depthAll (ss.map dS)≤2
 | [],_=>⟨rfl,by simp [PyData.depthAll]⟩
 | p::r,h=>by
   obtain ⟨h1,h2⟩:=qjJ r fun x m=>h x (List.mem_cons_of_mem _ m)
   obtain ⟨o1,o2,o3⟩:=qgW (h p List.mem_cons_self)
   refine ⟨by simp [PyData.canLayAll0,PyData.canLay0,h1,o1,o2,o3],?_⟩
   simp only [List.map_cons,PyData.depthAll,PyData.depth]; omega
theorem qhT {H:Hp} {a b:Addr} {zs:List V} {ss:List S5} {Q:VK} (ok:∀ s∈ss,Spc s.1 s.2.1 s.2.2.1 s.2.2.2.1 s.2.2.2.2) (h1:H a=some (.lst zs)) (t1:TupL prS H zs ss) (h2:H b=some (.lst [])) (q:Q (.bl (!ss.isEmpty)) H):qiU (.ref a) (.ref b) H Q:=by
 obtain ⟨l1,l2⟩:=qjJ ss ok
 have sh:SeqAt.shaped (.list (ss.map dS))=true:=by
   unfold SeqAt.shaped
   rw [show PyData.canLay0 (.list (ss.map dS))=true by simp only [PyData.canLay0,l1],Bool.true_and]
   refine decide_eq_true ?_
   simp only [PyData.depth]
   omega
 refine .inr ⟨_,_,.lst (.inl h1) (qjN t1),.lst (.inl h2) .nil,sh,rfl,?_⟩
 cases ss with
 | nil=>exact q
 | cons w ws=>exact q
theorem nS (b:S5) (r:Int×Int):prS b≠pr r:=by intro e; cases e
theorem nB (b:Str×Str×Int) (r:Int×Int):prB b≠pr r:=by intro e; cases e
theorem Kp.addS {H:Hp} {kd ktd ksl kbl:Addr} {ps:Pls} {ss:List S5} {bs:List (Str×Str×Int)} (h:Kp H kd ktd ksl kbl ps ss bs) (g:∀ x∈ps,Good x.2.2) (ne:ksl≠kbl) {zs:List V} (h1:H ksl=some (.lst zs)) (t1:TupL prS H zs ss) {t:Addr} {s:S5} (ht:H t=some (.tup (prS s))):Kp (upd H ksl (.lst (zs++[.ref t]))) kd ktd ksl kbl ps (ss++[s]) bs:=by
 obtain ⟨ws,h3,h4⟩:=h.hb
 refine ⟨by rw [qh (qJ h.hd h1 (by intro z; cases z))]; exact h.hd,?_,⟨_,qd,(t1.snoc (p:=s) ht).put h1⟩,⟨ws,by rw [qh ne.symm]; exact h3,TupL.putL h4 h1 _⟩,fun x m=>(h.rs x m).putX nS (QY (g x m)) h1 t1 _⟩
 rcases h.ht with e | ⟨o,e⟩
 · exact .inl (by rw [qh (qJ e h1 (by intro z; cases z))]; exact e)
 · exact .inr ⟨o,by rw [qh (qJ e h1 (by intro z; cases z))]; exact e⟩
theorem Kp.setB {H:Hp} {kd ktd ksl kbl:Addr} {ps:Pls} {ss:List S5} {bs bs':List (Str×Str×Int)} (h:Kp H kd ktd ksl kbl ps ss bs) (g:∀ x∈ps,Good x.2.2) (ne:ksl≠kbl) {zs zs':List V} (h1:H kbl=some (.lst zs)) (t1:TupL prB H zs bs) (t2:TupL prB H zs' bs'):Kp (upd H kbl (.lst zs')) kd ktd ksl kbl ps ss bs':=by
 obtain ⟨ws,h3,h4⟩:=h.hs
 refine ⟨by rw [qh (qJ h.hd h1 (by intro z; cases z))]; exact h.hd,?_,⟨ws,by rw [qh ne]; exact h3,TupL.putL h4 h1 _⟩,⟨_,qd,TupL.putL t2 h1 _⟩,fun x m=>(h.rs x m).putX nB (QY (g x m)) h1 t1 _⟩
 rcases h.ht with e | ⟨o,e⟩
 · exact .inl (by rw [qh (qJ e h1 (by intro z; cases z))]; exact e)
 · exact .inr ⟨o,by rw [qh (qJ e h1 (by intro z; cases z))]; exact e⟩
theorem Kp.addT {H:Hp} {kd ktd ksl kbl:Addr} {ps:Pls} {ss:List S5} {bs:List (Str×Str×Int)} (h:Kp H kd ktd ksl kbl ps ss bs) (ne:ktd≠kd) (e:H ktd=some (.dK (dkv ps))) {x:Str×Addr×List (Int×Int)} (no:x.1∉ps.map (·.1)) (hr:Rs H x.2.1 x.2.2):Kp (upd H ktd (.dK (dkv (ps++[x])))) kd ktd ksl kbl (ps++[x]) ss bs:=by
 obtain ⟨zs,h1,h2⟩:=h.hs
 obtain ⟨ws,h3,h4⟩:=h.hb
 refine ⟨by rw [qh ne.symm]; exact h.hd,.inl qd,⟨zs,by rw [qh (qJ h1 e (by intro z; cases z))]; exact h1,TupL.putD h2 e _⟩,⟨ws,by rw [qh (qJ h3 e (by intro z; cases z))]; exact h3,TupL.putD h4 e _⟩,fun y m=>?_⟩
 have k:∀ {q:Addr} {rows:List (Int×Int)},Rs H q rows->Rs (upd H ktd (.dK (dkv (ps++[x])))) q rows:=fun hR=>by
   obtain ⟨us,hq,tz⟩:=hR
   exact ⟨us,by rw [qh (qJ hq e (by intro z; cases z))]; exact hq,TupL.putD tz e _⟩
 rcases List.mem_append.mp m with m | m
 · exact k (h.rs y m)
 · rw [List.mem_singleton.mp m]; exact k hr
section
variable {P:Program} {w:World} {K:PySem.W.Frag} {mg:Str->Option Value} {base:Heap}
end
end K35
namespace K35
open PySem L2 PySem.NumText PyProof.Rows KC M04
section
variable {P:Program} {w:World} {K:PySem.W.Frag} {mg:Str->Option Value} {base:Heap}
theorem qbe {a:Ad} (T:Txt K mg a):qC P w K mg base CX0 5 a.f_H a.fd_H ["_law_state"] jY:=by
 have G_a:qC P w K mg base CX0 2 a.f_a a.fd_a ["_law_state","_law_many"] QM:=QW T
 have G_2:qC P w K mg base CX0 3 a.f_2 a.fd_2 ["_law_state","_law_many"] jX:=qbd T
 have G_U:qC P w K mg base CX0 3 a.f_U a.fd_U ["_law_state","_law_many"] qcz:=qfv T
 have G_V:qC P w K mg base CX0 4 a.f_V a.fd_V ["_law_state"] qdR:=qgw T
 have G_Z:qC P w K mg base CX0 4 a.f_Z a.fd_Z ["_law_state","_law_name","_law_places","_law_tables"] qdQ:=qgv T
 have G_1:qC P w K mg base CX0 3 a.f_1 a.fd_1 ["_law_state"] qaB:=qdw T
 refine T.d_H.F.ok sc_Lbegun_with (fun vs H Q E h=>?_) (fun cdv A outer s H vs Q E hr h=>?_)
 · obtain ⟨p,rfl,hp,kk⟩:=h
   rfl
 · obtain ⟨p,rfl,hp,kk⟩:=h
   have hu:=qK hr
   have hU:=hr.units
   have h_a:Room (2) _:=hr.mono (by decide)
   have h_2:Room (3) _:=hr.mono (by decide)
   have h_U:Room (3) _:=hr.mono (by decide)
   have h_V:Room (4) _:=hr.mono (by decide)
   have h_Z:Room (4) _:=hr.mono (by decide)
   have h_1:Room (3) _:=hr.mono (by decide)
   refine ⟨_,(qf (qF (i:=1) sc_Lbegun_with.nd rfl (Or.inl rfl) (jG uSl (qj G_U h_U rfl T.d_U.m T.d_U.k T.d_U.b .nil ql (qa (pv 0) (qa qc qb))) qaM (j9 (qj G_a h_a rfl T.d_a.m T.d_a.k T.d_a.b .nil ql (qa (pv 0) (qa qc qb))))))
     (qf (qF (i:=2) sc_Lbegun_with.nd rfl (Or.inl rfl) (qhO (qb3 qB Jr (qb3 qB (qN qb) (qb3 qB (qN qb) qhL))) rfl rfl (by simp) (by decide)))
     (qf (zK PassesOwn.never rfl (ze (pv 1)) (qt (i:=3) (sc_Lbegun_with.nd) rfl (Or.inl rfl))
       (qg (qaL hu (qI hu (pv 2) qB (fun _ _=>rfl)) (pv 3) (qj G_V h_V rfl T.d_V.m T.d_V.k T.d_V.b .nil ql (qa (pv 0) qb)) rfl)))
     (qf (qF (i:=4) sc_Lbegun_with.nd rfl (Or.inl rfl) (qj G_a h_a rfl T.d_a.m T.d_a.k T.d_a.b .nil ql (qa (pv 0) (qa qc qb))))
     (qf (qO (qA (uEq hU) (qj G_a h_a rfl T.d_a.m T.d_a.k T.d_a.b .nil ql (qa (pv 0) (qa qc qb))) qc (qG _))
       (qg (qF (i:=4) sc_Lbegun_with.nd rfl (Or.inl rfl) qc))
       qv)
     (qf (zK PassesOwn.never rfl (ze (qj G_2 h_2 rfl T.d_2.m T.d_2.k T.d_2.b .nil ql (qa (pv 0) (qa (pv 4) qb)))) (qt (i:=5) (sc_Lbegun_with.nd) rfl (Or.inl rfl))
       (qg (qO (qA (qgt hU) (pv 1) (qN qb) (qG _))
         (qf (qF (i:=6) sc_Lbegun_with.nd rfl (Or.inl rfl) (qj G_a h_a rfl T.d_a.m T.d_a.k T.d_a.b .nil ql (qa (pv 0) (qa (qw Zu (qw zL qc qc) qc) qb))))
         (qg (qU (Ja PySem.F.plainAttrs_list PySem.F.slot_list_append PySem.F.type_list_append zn (qI hu (pv 2) qB (fun _ _=>rfl)) (qa (zC (qa qB (qa (pv 5) (qa qB (qa (pv 6) (qa (qq (Ze rfl) (by rfl) T.n_min Zf (qa (qw zL qc qc) (qa (qw Zu (pv 6) (qj G_a h_a rfl T.d_a.m T.d_a.k T.d_a.b .nil ql (qa (pv 0) (qa qc qb)))) qb))) qb)))))) qb)))))
         (qg (qU (Ja PySem.F.plainAttrs_list PySem.F.slot_list_append PySem.F.type_list_append zn (qI hu (pv 2) qB (fun _ _=>rfl)) (qa (qj G_Z h_Z rfl T.d_Z.m T.d_Z.k T.d_Z.b .nil ql (qa (pv 0) (qa (pv 5) (qa (pv 1) (qa (qI hu (pv 2) qB (fun _ _=>rfl)) qb))))) qb)))))))
     (qf (qO (qA (uNe hU) (qI hu (pv 2) qB (fun _ _=>rfl)) (qN qb) (qG _))
       (qf (qF (i:=7) sc_Lbegun_with.nd rfl (Or.inl rfl) (qD (r:=rIx K) qr (qN (qa (qj G_a h_a rfl T.d_a.m T.d_a.k T.d_a.b .nil ql (qa (pv 0) (qa qc qb))) (qa qc qb))) (Qu JA (by rfl) T.n_int ZM (qa (Zs (uEq hU) (qj G_a h_a rfl T.d_a.m T.d_a.k T.d_a.b .nil ql (qa (pv 0) (qa qc qb))) qc (qG _)) qb)) (fun _ _=>rfl)))
       (qf (zK PassesOwn.never rfl (z3 rfl T.n_range (qa (pv 7) qb)) (qt (i:=8) (sc_Lbegun_with.nd) rfl (Or.inl rfl))
         (qf (qF (i:=9) sc_Lbegun_with.nd rfl (Or.inl rfl) (qD (r:=rIx K) qr (qD (r:=rIx K) qr (qI hu (pv 2) qB (fun _ _=>rfl)) (qj G_a h_a rfl T.d_a.m T.d_a.k T.d_a.b .nil ql (qa (pv 0) (qa (qq zp (by rfl) T.n_len qS (qa (qI hu (pv 2) qB (fun _ _=>rfl)) qb)) qb))) (fun _ _=>rfl)) qc (fun _ _=>rfl)))
         (qf (qF (i:=10) sc_Lbegun_with.nd rfl (Or.inl rfl) (qD (r:=rIx K) qr (qD (r:=rIx K) qr (qI hu (pv 2) qB (fun _ _=>rfl)) (qj G_a h_a rfl T.d_a.m T.d_a.k T.d_a.b .nil ql (qa (pv 0) (qa (qq zp (by rfl) T.n_len qS (qa (qI hu (pv 2) qB (fun _ _=>rfl)) qb)) qb))) (fun _ _=>rfl)) qc (fun _ _=>rfl)))
         (qg (qU (Ja PySem.F.plainAttrs_list PySem.F.slot_list_append PySem.F.type_list_append zn (qI hu (pv 2) qB (fun _ _=>rfl)) (qa (zC (qa (pv 9) (qa (qD (r:=rIx K) qr (qN (qa (pv 10) (qa (pv 9) qb))) (Qu JA (by rfl) T.n_int ZM (qa (Zs (uEq hU) (qw Z1 (pv 8) qc) qc (qG _)) qb)) (fun _ _=>rfl)) (qa (qj G_1 h_1 rfl T.d_1.m T.d_1.k T.d_1.b .nil ql (qa (pv 0) qb)) qb)))) qb)))))))
       (qg (qO (qA qfp (qq zp (by rfl) T.n_len qS (qa (qI hu (pv 2) qB (fun _ _=>rfl)) qb)) qc (qG _))
         (qg (Jq (qD (r:=rIx K) qr (qI hu (pv 2) qB (fun _ _=>rfl)) qc (fun _ _=>rfl)) (qbx (qI hu (pv 2) qB (fun _ _=>rfl)) (ZQ Qq qc) jy)))
         qv))))
       qv)
     (qg (qu (pv 2)))))))))),?_⟩
   try dsimp only [zx,Cx.nox]
   refine ⟨_,rfl,p,6,rfl,hp,by decide,by decide,fun q nsm G1 fq B1 p1 hq lq nms=>?_⟩
   have nq:q≠p:=hp.ne fq
   refine ⟨_,rfl,p,_,rfl,p1,by decide,by decide,fun m G2 m0 m1 B2 p2=>⟨_,rfl,.inl ⟨q,_,rfl,SqL.of (B2 _ _ hq nq),fun pq fpq=>?_⟩⟩⟩
   rw [qeg _ m.toNat _ (by omega),← List.map_take]
   generalize hG:upd G2 pq _=G0
   obtain ⟨S0,e0⟩:=qH hG fpq
   clear hG
   have p0:=PenAt.sm p2 S0
   have npq:pq≠p:=p2.ne fpq
   have BH0:But p H G0:=(B1.trans B2).same S0
   have nmT:∀ x∈nsm.take m.toNat,zU (.str x)=true:=fun x mx=>nms.nm x (List.mem_of_mem_take mx)
   have ndT:(nsm.take m.toNat).Nodup:=nms.nd.sublist (List.take_sublist _ _)
   have lT:(nsm.take m.toNat).length≤6:=by rw [List.length_take]; omega
   generalize nsm.take m.toNat=pn at e0 nmT ndT lT
   clear B1 B2 S0 hq p1 p2 nms lq nq
   try unfold zm
   try dsimp only
   intro kd fkd
   intro ktd fktd
   have n1:ktd≠kd:=fun e=>by rw [e,qd] at fktd; cases fktd
   rw [qh n1] at fktd
   refine ⟨qk (Nat.le_of_ble_eq_true rfl),fun ksl fksl=>?_⟩
   have n2:ksl≠ktd:=fun e=>by rw [e,qd] at fksl; cases fksl
   have n3:ksl≠kd:=fun e=>by rw [e,qh n1.symm,qd] at fksl; cases fksl
   rw [qh n2,qh n3] at fksl
   refine ⟨qk (Nat.le_of_ble_eq_true rfl),fun kbl fkbl=>?_⟩
   have n4:kbl≠ksl:=fun e=>by rw [e,qd] at fkbl; cases fkbl
   have n5:kbl≠ktd:=fun e=>by rw [e,qh n2.symm,qd] at fkbl; cases fkbl
   have n6:kbl≠kd:=fun e=>by rw [e,qh n3.symm,qh n1.symm,qd] at fkbl; cases fkbl
   rw [qh n4,qh n5,qh n6] at fkbl
   refine ⟨(by rw [qh n6.symm,qh n3.symm,qh n1.symm,qd]),[(Sum.inr "tables",_),(Sum.inr "specs",_),(Sum.inr "bonds",_)],rfl,(Nat.le_of_ble_eq_true rfl),?_⟩
   generalize hG:upd (upd (upd (upd (upd G0 kd (.dK [])) ktd (.dK [])) ksl (.lst [])) kbl (.lst [])) kd _=G3
   have ek:G3 kd=some (.dK (kpd ktd ksl kbl)):=by rw [← hG,qd]; rfl
   have et:G3 ktd=some (.dK (dkv [])):=by rw [← hG,qh n1,qh n5.symm,qh n2.symm,qd]; rfl
   have es:G3 ksl=some (.lst []):=by rw [← hG,qh n3,qh n4.symm,qd]
   have eb:G3 kbl=some (.lst []):=by rw [← hG,qh n6,qd]
   have S3:Same G0 G3:=fun b o e=>by rw [← hG,qh (qi e fkd),qh (qi e fkbl),qh (qi e fksl),qh (qi e fktd),qh (qi e fkd)]; exact e
   clear hG
   have q1:ksl≠p:=p0.ne fksl
   have q2:kbl≠p:=p0.ne fkbl
   have q3:ktd≠p:=p0.ne fktd
   have B3:But p G0 G3:=fun b o e _=>S3 b o e
   have p3:=PenAt.sm p0 S3
   have K3:Kp G3 kd ktd ksl kbl [] [] []:=⟨ek,.inl et,⟨[],es,.nil⟩,⟨[],eb,.nil⟩,fun x m=>nomatch m⟩
   clear ek es eb S3
   try unfold zm
   try dsimp only
   refine zc (t:=qe7 _ _ _) (fun σ' H'=>∃ (s3:Option V) (ps:Pls),σ'=[some (.ref p),some (.ref pq),some (.ref kd),s3,none,none,none,none,none,none,none]∧But p G0 H'∧PenAt H' p∧Kp H' kd ktd ksl kbl ps [] []∧H' ktd=some (.dK (dkv ps))∧(∀ x∈ps,Good x.2.2)∧ps.map (·.1)=pn) (fun N hN=>?_) ?_
   · refine ⟨_,rfl,pq,rfl,⟨_,SqL.of (B3 _ _ e0 npq)⟩,Qa (D:={ nx:=N,rt:=Q }) (K:=K) (a:=pq) (xs:=pn.map V.str) (fun j σ H'=>∃ (s3:Option V) (ps:Pls),σ=[some (.ref p),some (.ref pq),some (.ref kd),s3,none,none,none,none,none,none,none]∧But p G0 H'∧PenAt H' p∧Kp H' kd ktd ksl kbl ps [] []∧H' ktd=some (.dK (dkv ps))∧(∀ x∈ps,Good x.2.2)∧ps.map (·.1)=pn.take j) ⟨none,[],rfl,B3,p3,K3,et,(fun x m=>nomatch m),rfl⟩ (fun j σ H' _ ⟨_,_,_,b,_⟩=>SqL.of (b _ _ e0 npq)) ?_ ?_⟩
     · rintro j z σ H4 hz ⟨s3,ps,rfl,B4,p4,K4,t4,g4,ek4⟩
       obtain ⟨x,hx,rfl⟩:∃ x,pn[j]?=some x∧V.str x=z:=by
         rw [List.getElem?_map] at hz
         exact Option.map_eq_some_iff.mp hz
       refine ⟨_,rfl,p,rfl,p4,fun rq rows H5 frq B5 p5 R5 good=>?_⟩
       have K5:=K4.bp p4 B5 q1 q2
       have t5:=B5 _ _ t4 q3
       have hxk:x∉ps.map (·.1):=by rw [ek4]; exact qaT ndT hx
       have lps:ps.length≤6:=by
         have:=congrArg List.length ek4
         rw [List.length_map,List.length_take] at this
         omega
       have ep:qbv (dkv ps) (.inr x) (V.ref rq)=dkv (ps++[(x,rq,rows)]):=by
         rw [qao _ (qgi hxk)]
         unfold dkv
         rw [List.map_append]; rfl
       refine ⟨_,rfl,kd,_,rfl,K5.g1,_,rfl,ktd,_,rfl,DPut.k (k:=.inr x) t5 (by unfold dkv; rw [List.length_map]; exact Nat.lt_of_lt_of_le (by omega:ps.length < 60) (qk (by decide:60≤1000))),?_⟩
       rw [ep]
       refine ⟨_,ps++[(x,rq,rows)],rfl,?_,p5.upd q3 _,K5.addT n1 t5 hxk R5,qd,fun y my=>?_,?_⟩
       · intro b o e nb
         rw [qh (qi e fktd)]
         exact B5 b o (B4 b o e nb) nb
       · rcases List.mem_append.mp my with my | my
         · exact g4 y my
         · rw [List.mem_singleton.mp my]; exact good
       · rw [List.map_append,ek4,List.take_add_one,hx]; rfl
     · rintro σ H4 ⟨s3,ps,rfl,B4,p4,K4,t4,g4,ek4⟩
       rw [List.length_map,List.take_length] at ek4
       exact hN _ _ ⟨s3,ps,rfl,B4,p4,K4,t4,g4,ek4⟩
   rintro _ H4 ⟨s3,ps,rfl,B4,p4,K4,t4,g4,ek4⟩
   have lps:ps.length=pn.length:=by rw [← ek4,List.length_map]
   have ndp:(ps.map (·.1)).Nodup:=by rw [ek4]; exact ndT
   have nmp:∀ x∈ps,zU (.str x.1)=true:=fun x m=>nmT _ (ek4▸List.mem_map_of_mem (f:=fun x:Str×Addr×List (Int×Int)=>x.1) m)
   refine ⟨_,rfl,p,_,rfl,p4,by decide,by decide,fun my H5 my0 my1 B5 p5=>?_⟩
   have K5:=K4.bp p4 B5 q1 q2
   have t5:=B5 _ _ t4 q3
   have BB5:=B4.trans B5
   clear K4 t4 B4 p4 B5 K3 et B3 p3
   try unfold zm
   try dsimp only
   refine zc (t:=qh5 _ _ _) (fun σ' H'=>∃ mn:Int,σ'=[some (.ref p),some (.ref pq),some (.ref kd),s3,some (.int mn),none,none,none,none,none,none]∧0≤mn∧mn≤60∧But p G0 H'∧PenAt H' p∧Kp H' kd ktd ksl kbl ps [] []∧H' ktd=some (.dK (dkv ps))) (fun N hN=>?_) ?_
   · refine ⟨_,rfl,p,_,rfl,p5,by decide,by decide,fun d H6 d0 d1 B6 p6=>.inl ⟨rfl,_,rfl,Zh (fun g=>?_) (fun g=>?_)⟩⟩
     · exact hN _ _ ⟨60,rfl,by decide,by decide,BB5.trans B6,p6,K5.bp p5 B6 q1 q2,B6 _ _ t5 q3⟩
     · exact hN _ _ ⟨my,rfl,my0,by omega,BB5.trans B6,p6,K5.bp p5 B6 q1 q2,B6 _ _ t5 q3⟩
   clear BB5 p5 K5 t5
   rintro _ H6 ⟨mn,rfl,mn0,mn1,B6,p6,K6,t6⟩
   refine zc (t:=qe7 _ _ _) (fun σ' H'=>∃ (s5 s6:Option V) (ss:List S5),σ'=[some (.ref p),some (.ref pq),some (.ref kd),s3,some (.int mn),s5,s6,none,none,none,none]∧But p G0 H'∧PenAt H' p∧Kp H' kd ktd ksl kbl ps ss []∧H' ktd=some (.dK (dkv ps))∧(∀ s∈ss,Spc s.1 s.2.1 s.2.2.1 s.2.2.2.1 s.2.2.2.2)∧(∀ s∈ss,s.2.2.1=""∨s.2.2.1∈ps.map (·.1))∧(ss.map (·.2.1)).Nodup∧ss.length≤60) (fun N hN=>?_) ?_
   · refine ⟨_,rfl,_,rfl,p,mn,rfl,p6,mn0,mn1,fun l ns H7 fl B7 p7 hl ln nms=>?_⟩
     have K7:=K6.bp p6 B7 q1 q2
     have t7:=B7 _ _ t6 q3
     have nl:l≠p:=p6.ne fl
     have BB7:=B6.trans B7
     have nlk:l≠ksl:=fun e=>by
       obtain ⟨zs,h1,_⟩:=K6.hs
       rw [e,h1] at fl; cases fl
     refine ⟨l,rfl,⟨_,SqL.of hl⟩,Qa (D:={ nx:=N,rt:=Q }) (K:=K) (a:=l) (xs:=ns.map V.str) (fun j σ H'=>∃ (s5 s6:Option V) (ss:List S5),σ=[some (.ref p),some (.ref pq),some (.ref kd),s3,some (.int mn),s5,s6,none,none,none,none]∧But p G0 H'∧PenAt H' p∧Kp H' kd ktd ksl kbl ps ss []∧H' ktd=some (.dK (dkv ps))∧H' l=some (.lst (ns.map V.str))∧(∀ s∈ss,Spc s.1 s.2.1 s.2.2.1 s.2.2.2.1 s.2.2.2.2)∧(∀ s∈ss,s.2.2.1=""∨s.2.2.1∈ps.map (·.1))∧ss.map (·.2.1)=ns.take j) ⟨none,none,[],rfl,BB7,p7,K7,t7,hl,(fun x m=>nomatch m),(fun x m=>nomatch m),rfl⟩ (fun j σ H' _ ⟨_,_,_,_,_,_,_,_,h,_⟩=>SqL.of h) ?_ ?_⟩
     · rintro j z σ H8 hz ⟨s5,s6,ss,rfl,B8,p8,K8,t8,hl8,sp8,pl8,ek8⟩
       obtain ⟨x,hx,rfl⟩:∃ x,ns[j]?=some x∧V.str x=z:=by
         rw [List.getElem?_map] at hz
         exact Option.map_eq_some_iff.mp hz
       have nmx:=nms.nm x (List.mem_of_getElem? hx)
       have lss:ss.length≤60:=by
         have:=congrArg List.length ek8
         rw [List.length_map,List.length_take] at this
         omega
       have fin:∀ (s6':Option V) (H9:Hp) (t:Addr) (s:S5),But p G0 H9->PenAt H9 p->Kp H9 kd ktd ksl kbl ps ss []->H9 ktd=some (.dK (dkv ps))->H9 l=some (.lst (ns.map V.str))->H9 t=some (.tup (prS s))->s.2.1=x->Spc s.1 s.2.1 s.2.2.1 s.2.2.2.1 s.2.2.2.2->(s.2.2.1=""∨s.2.2.1∈ps.map (·.1))->∃ zs,H9 ksl=some (.lst zs)∧zs.length < sizeLine∧∃ (s5 s6:Option V) (ss:List S5),[some (.ref p),some (.ref pq),some (.ref kd),s3,some (.int mn),some (.str x),s6',none,none,none,none]=[some (.ref p),some (.ref pq),some (.ref kd),s3,some (.int mn),s5,s6,none,none,none,none]∧But p G0 (upd H9 ksl (.lst (zs++[.ref t])))∧PenAt (upd H9 ksl (.lst (zs++[.ref t]))) p∧Kp (upd H9 ksl (.lst (zs++[.ref t]))) kd ktd ksl kbl ps ss []∧(upd H9 ksl (.lst (zs++[.ref t]))) ktd=some (.dK (dkv ps))∧(upd H9 ksl (.lst (zs++[.ref t]))) l=some (.lst (ns.map V.str))∧(∀ s∈ss,Spc s.1 s.2.1 s.2.2.1 s.2.2.2.1 s.2.2.2.2)∧(∀ s∈ss,s.2.2.1=""∨s.2.2.1∈ps.map (·.1))∧ss.map (·.2.1)=ns.take (j+1):=by
         intro s6' H9 t s B9 p9 K9 t9 hl9 ht9 en sp hpl
         obtain ⟨zs,h1,tz⟩:=K9.hs
         refine ⟨zs,h1,qE (by rw [tz.1]; omega),_,_,ss++[s],rfl,fun b o e nb=>?_,p9.upd q1 _,K9.addS g4 n4.symm h1 tz ht9,?_,?_,fun y m=>?_,fun y m=>?_,?_⟩
         · rw [qh (qi e fksl)]; exact B9 b o e nb
         · rw [qh n2.symm]; exact t9
         · rw [qh nlk]; exact hl9
         · rcases List.mem_append.mp m with m | m
           · exact sp8 y m
           · rw [List.mem_singleton.mp m]; exact sp
         · rcases List.mem_append.mp m with m | m
           · exact pl8 y m
           · rw [List.mem_singleton.mp m]; exact hpl
         · rw [List.map_append,ek8,List.take_add_one,hx]
           show _++[s.2.1]=_
           rw [en]; rfl
       refine ⟨_,rfl,qk (Nat.le_of_ble_eq_true rfl),fun nl2 fnl2=>?_⟩
       generalize hG:upd H8 nl2 _=H9
       obtain ⟨S9,e9⟩:=qH hG fnl2
       clear hG
       have K9:=K8.sm S9
       have p9:=PenAt.sm p8 S9
       have t9:=S9 _ _ t8
       have hl9:=S9 _ _ hl8
       have B9:But p G0 H9:=B8.same S9
       have hpq9:=B9 _ _ e0 npq
       refine ⟨pq,nl2,_,rfl,rfl,SqL.of hpq9,SqL.of e9,_,rfl,qjf (fun gE=>?_) (fun gE=>?_)⟩
       · have w9:(0:Int) < 10 ^ (9:Int).toNat+1∧(10:Int) ^ (9:Int).toNat+1 < 340282366920938463463374607431768211456:=by decide
         have e9':(10:Int) ^ (9:Int).toNat=1000000000:=by decide
         refine ⟨_,rfl,_,_,rfl,rfl,⟨by decide,by decide,by decide⟩,.inl ⟨_,_,rfl,rfl,p,_,rfl,p9,w9.1,w9.2,fun lo Ha lo0 lo1 Ba pa=>?_⟩⟩
         have Ka:=K9.bp p9 Ba q1 q2
         obtain ⟨zsa,hsa,_⟩:=Ka.hs
         refine ⟨_,rfl,kd,_,rfl,Ka.g2,.inl ⟨rfl,_,SqL.of hsa⟩,_,rfl,_,rfl,_,_,rfl,rfl,⟨by decide,by decide,by decide⟩,_,rfl,_,rfl,p,_,rfl,pa,by decide,by decide,fun d Hb d0 d1 Bb pb=>.inl ⟨_,_,rfl,rfl,_,_,rfl,qk (Nat.le_of_ble_eq_true rfl),fun t ft=>?_⟩⟩
         generalize hG:upd Hb t _=Hc
         obtain ⟨Sc,ec⟩:=qH hG ft
         clear hG
         have Kb:=Ka.bp pa Bb q1 q2
         rw [e9'] at lo1
         have hhi:0≤(if lo+d < 10 ^ (9:Int).toNat then lo+d else 10 ^ (9:Int).toNat)∧(if lo+d < 10 ^ (9:Int).toNat then lo+d else 10 ^ (9:Int).toNat)≤1000000000:=by
           rw [e9']
           split<;>omega
         have hlo:0≤lo∧lo≤1000000000:=⟨lo0,by omega⟩
         obtain ⟨zs,hz1,hz2,inv⟩:=fin _ Hc t ("within",x,"",lo,if lo+d < 10 ^ (9:Int).toNat then lo+d else 10 ^ (9:Int).toNat) (((B9.trans Ba).trans Bb).same Sc) (PenAt.sm pb Sc) (Kb.sm Sc) (Sc _ _ (Bb _ _ (Ba _ _ t9 q3) q3)) (Sc _ _ (Bb _ _ (Ba _ _ hl9 nl) nl)) ec rfl (.within nmx hlo hhi) (.inl rfl)
         exact ⟨ksl,_,_,rfl,rfl,hz1,hz2,inv⟩
       · have hne:0 < ps.length:=by
           rw [lps]
           cases pn with
           | nil=>cases gE
           | cons a r=>exact Nat.succ_pos _
         obtain ⟨zsa,hsa,_⟩:=K9.hs
         have td9:Td H9 ktd ps:=⟨.inl t9,⟨K9.rs,g4,nmp,ndp,hne,by omega⟩⟩
         refine ⟨_,rfl,kd,_,rfl,K9.g2,.inl ⟨rfl,_,SqL.of hsa⟩,_,rfl,_,rfl,_,rfl,_,rfl,kd,_,rfl,K9.g1,p,pq,ktd,x,ps,rfl,p9,nmx,(by rw [ek4]; exact hpq9),td9,fun s wd pl lo hi Ha fs Ba pa hsp sp hpl=>?_⟩
         obtain ⟨zs,hz1,hz2,inv⟩:=fin _ Ha s (wd,x,pl,lo,hi) (B9.trans Ba) pa (K9.bp p9 Ba q1 q2) (Ba _ _ t9 q3) (Ba _ _ hl9 nl) hsp rfl sp hpl
         exact ⟨ksl,_,_,rfl,rfl,hz1,hz2,inv⟩
     · rintro σ H8 ⟨s5,s6,ss,rfl,B8,p8,K8,t8,hl8,sp8,pl8,ek8⟩
       rw [List.length_map,List.take_length] at ek8
       exact hN _ _ ⟨s5,s6,ss,rfl,B8,p8,K8,t8,sp8,pl8,(by rw [ek8]; exact nms.nd),by have:=congrArg List.length ek8; rw [List.length_map] at this; omega⟩
   clear B6 p6 K6 t6
   rintro _ H6 ⟨s5,s6,ss,rfl,B6,p6,K6,t6,sp6,pl6,nds,lss⟩
   refine zc (t:=qh5 _ _ _) (fun σ' H'=>∃ (r:List (Option V)) (bs:List (Str×Str×Int)),σ'=some (.ref p)::some (.ref pq)::some (.ref kd)::r∧But p G0 H'∧PenAt H' p∧Kp H' kd ktd ksl kbl ps ss bs∧H' ktd=some (.dK (dkv ps))∧(∀ b∈bs,b.1∈ss.map (·.2.1)∧b.2.1∈ss.map (·.2.1)∧-2000000000≤b.2.2∧b.2.2≤2000000001)∧bs.length≤100) (fun N hN=>?_) ?_
   · obtain ⟨zs6,hs6,ts6⟩:=K6.hs
     refine ⟨_,rfl,kd,_,rfl,K6.g2,qk (Nat.le_of_ble_eq_true rfl),fun nl fnl=>?_⟩
     generalize hG:upd H6 nl _=H7
     obtain ⟨S7,e7⟩:=qH hG fnl
     clear hG
     refine qhT sp6 (S7 _ _ hs6) (ts6.same S7) e7 ⟨_,rfl,qjf (fun gE=>?_) (fun gE=>?_)⟩
     case refine_2=>exact hN _ _ ⟨_,[],rfl,B6.same S7,PenAt.sm p6 S7,K6.sm S7,S7 _ _ t6,(fun x m=>nomatch m),Nat.zero_le _⟩
     have lpos:0 < ss.length:=by
       cases ss with
       | nil=>cases gE
       | cons a r=>exact Nat.succ_pos _
     have K7:=K6.sm S7
     have p7:=PenAt.sm p6 S7
     have B7:But p G0 H7:=B6.same S7
     have t7:=S7 _ _ t6
     clear hs6 ts6 S7 e7 gE
     refine ⟨_,rfl,p,_,rfl,p7,by decide,by decide,fun b1 H8 b10 b11 B8 p8=>⟨qk (Nat.le_of_ble_eq_true rfl),fun l fl=>?_⟩⟩
     generalize hG:upd H8 l _=H9
     obtain ⟨S9,e9⟩:=qH hG fl
     clear hG
     have nl:l≠p:=p8.ne fl
     refine ⟨_,rfl,p,_,rfl,PenAt.sm p8 S9,by decide,by decide,fun b2 Ha b20 b21 Ba pa=>.inl ⟨rfl,.inr ⟨_,rfl,?_⟩⟩⟩
     have ela:=Ba _ _ e9 nl
     have Ka:=((K7.bp p7 B8 q1 q2).sm S9).bp (PenAt.sm p8 S9) Ba q1 q2
     have ta:=Ba _ _ (S9 _ _ (B8 _ _ t7 q3)) q3
     have BBa:=((B7.trans B8).same S9).trans Ba
     have fin:∀ nb:Int,0≤nb->nb≤100->(if decide (V.int b2=V.int 0)=true then (1:Int) else 0)=0∧nb=b1∨(if decide (V.int b2=V.int 0)=true then (1:Int) else 0)=1∧nb=100->atI [V.int b1,V.int 100] (if decide (V.int b2=V.int 0)=true then (1:Int) else 0)=some (.int nb):=by
       rintro nb _ _ (⟨h,rfl⟩ | ⟨h,rfl⟩)<;>rw [h]<;>rfl
     obtain ⟨nb,nb0,nb1,hnb⟩:∃ nb:Int,0≤nb∧nb≤100∧atI [V.int b1,V.int 100] (if decide (V.int b2=V.int 0)=true then (1:Int) else 0)=some (.int nb):=by
       by_cases h:V.int b2=V.int 0
       · exact ⟨100,by decide,by decide,fin 100 (by decide) (by decide) (.inr ⟨by rw [decide_eq_true h]; rfl,rfl⟩)⟩
       · exact ⟨b1,b10,by omega,fin b1 b10 (by omega) (.inl ⟨by rw [decide_eq_false h]; rfl,rfl⟩)⟩
     refine .inl ⟨l,_,_,_,rfl,rfl,SqL.of ela,hnb,?_⟩
     clear fin hnb ela e9 S9 B8 Ba K7 t7 B7 p7 p8
     try unfold zm
     try dsimp only
     refine zc (t:=qe7 _ _ _) (fun σ' H'=>∃ (r:List (Option V)) (bs:List (Str×Str×Int)),σ'=some (.ref p)::some (.ref pq)::some (.ref kd)::r∧But p G0 H'∧PenAt H' p∧Kp H' kd ktd ksl kbl ps ss bs∧H' ktd=some (.dK (dkv ps))∧(∀ b∈bs,b.1∈ss.map (·.2.1)∧b.2.1∈ss.map (·.2.1)∧-2000000000≤b.2.2∧b.2.2≤2000000001)∧bs.length≤100) (fun N hN=>?_) ?_
     · refine ⟨_,rfl,_,rfl,by omega,by omega,QQ (lo:=0) (D:={ nx:=N,rt:=Q }) (fun i σ H'=>∃ (s8 s9 s10:Option V) (bs:List (Str×Str×Int)),σ=[some (.ref p),some (.ref pq),some (.ref kd),s3,some (.int mn),s5,s6,some (.int nb),s8,s9,s10]∧But p G0 H'∧PenAt H' p∧Kp H' kd ktd ksl kbl ps ss bs∧H' ktd=some (.dK (dkv ps))∧(∀ b∈bs,b.1∈ss.map (·.2.1)∧b.2.1∈ss.map (·.2.1)∧-2000000000≤b.2.2∧b.2.2≤2000000001)∧bs.length=i) ⟨_,_,_,[],rfl,BBa,pa,Ka,ta,(fun x m=>nomatch m),rfl⟩ ?_ ?_⟩
       · rintro i σ Hb hi ⟨s8,s9,s10,bs,rfl,Bb,pb,Kb,tb,hbn,lbs⟩
         obtain ⟨zs,hs,tz⟩:=Kb.hs
         have lz:zs.length=ss.length:=tz.1
         refine ⟨_,rfl,kd,_,rfl,Kb.g2,_,rfl,_,rfl,kd,_,rfl,Kb.g2,_,_,rfl,.inl ⟨_,SqL.of hs,rfl⟩,p,_,rfl,pb,by omega,by omega,fun i1 Hc i10 i11 Bc pc=>?_⟩
         have Kc:=Kb.bp pb Bc q1 q2
         obtain ⟨j1,rfl⟩:=Int.eq_ofNat_of_zero_le i10
         have hj1:j1 < ss.length:=by omega
         obtain ⟨u1,hz1,hu1⟩:=tz.at_ (List.getElem?_eq_getElem hj1)
         have nu1:u1≠p:=by
           obtain ⟨c,x,y,_,e⟩:=pb
           exact qJ hu1 e (by intro z; cases z)
         refine .inl ⟨ksl,_,_,_,rfl,rfl,SqL.of (Bc _ _ hs q1),QL hz1,.inr (.inl ⟨u1,_,_,_,rfl,rfl,SqT.of (Bc _ _ hu1 nu1),rfl,?_⟩)⟩
         obtain ⟨zsc,hsc,tzc⟩:=Kc.hs
         have lzc:zsc.length=ss.length:=tzc.1
         try unfold zm
         try dsimp only
         refine ⟨_,rfl,kd,_,rfl,Kc.g2,_,rfl,_,rfl,kd,_,rfl,Kc.g2,_,_,rfl,.inl ⟨_,SqL.of hsc,rfl⟩,p,_,rfl,pc,by omega,by omega,fun i2 Hd i20 i21 Bd pd=>?_⟩
         have Kd:=Kc.bp pc Bd q1 q2
         obtain ⟨j2,rfl⟩:=Int.eq_ofNat_of_zero_le i20
         have hj2:j2 < ss.length:=by omega
         obtain ⟨u2,hz2,hu2⟩:=tzc.at_ (List.getElem?_eq_getElem hj2)
         have nu2:u2≠p:=by
           obtain ⟨c,x,y,_,e⟩:=pc
           exact qJ hu2 e (by intro z; cases z)
         refine .inl ⟨ksl,_,_,_,rfl,rfl,SqL.of (Bd _ _ hsc q1),QL hz2,.inr (.inl ⟨u2,_,_,_,rfl,rfl,SqT.of (Bd _ _ hu2 nu2),rfl,?_⟩)⟩
         have m1:ss[j1].2.1∈ss.map (·.2.1):=List.mem_map_of_mem (f:=fun s:S5=>s.2.1) (List.getElem_mem hj1)
         have m2:ss[j2].2.1∈ss.map (·.2.1):=List.mem_map_of_mem (f:=fun s:S5=>s.2.1) (List.getElem_mem hj2)
         generalize ss[j1].2.1=nm1 at m1
         generalize ss[j2].2.1=nm2 at m2
         obtain ⟨zb,hb,tbb⟩:=Kd.hb
         try unfold zm
         try dsimp only
         refine ⟨_,rfl,kd,_,rfl,Kd.g3,.inl ⟨rfl,_,SqL.of hb⟩,_,rfl,_,rfl,_,rfl,qk (Nat.le_of_ble_eq_true rfl),fun l2 fl2=>?_⟩
         generalize hG:upd Hd l2 _=He
         obtain ⟨Se,ee⟩:=qH hG fl2
         clear hG
         refine ⟨_,rfl,_,_,rfl,rfl,(by show (0:Int) < _; decide),.inl ⟨rfl,.inr ⟨_,rfl,?_⟩⟩⟩
         obtain ⟨nm3,m3,hnm3⟩:∃ nm3,nm3∈ss.map (·.2.1)∧atI [V.str nm2,V.str nm1] (if decide (V.int ((0+(i:Int)) % 9)=V.int 8)=true then (1:Int) else 0)=some (.str nm3):=by
           by_cases h:V.int ((0+(i:Int)) % 9)=V.int 8
           · exact ⟨nm1,m1,by rw [decide_eq_true h]; rfl⟩
           · exact ⟨nm2,m2,by rw [decide_eq_false h]; rfl⟩
         refine .inl ⟨l2,_,_,_,rfl,rfl,SqL.of ee,hnm3,?_⟩
         refine ⟨_,rfl,p,rfl,PenAt.sm pd Se,fun mi Hf mi0 mi1 Bf pf=>⟨qk (Nat.le_of_ble_eq_true rfl),fun t ft=>?_⟩⟩
         have Kf:=(Kd.sm Se).bp (PenAt.sm pd Se) Bf q1 q2
         generalize hG:upd Hf t _=Hg
         obtain ⟨Sg,eg⟩:=qH hG ft
         clear hG
         have Kg:=Kf.sm Sg
         obtain ⟨zg,hbg,tbg⟩:=Kg.hb
         have lbg:zg.length=bs.length:=tbg.1
         refine ⟨kbl,_,_,rfl,rfl,hbg,qE (by omega),?_⟩
         refine ⟨_,_,_,bs++[(nm1,nm3,mi)],rfl,fun b o e nb'=>?_,(PenAt.sm pf Sg).upd q2 _,Kg.setB g4 n4.symm hbg tbg (tbg.snoc (p:=(nm1,nm3,mi)) eg),?_,fun b mb=>?_,by rw [List.length_append,lbs]; rfl⟩
         · rw [qh (qi e fkbl)]
           exact Sg b o (Bf b o (Se b o (Bd b o (Bc b o (Bb b o e nb') nb') nb')) nb')
         · rw [qh n5.symm]
           exact Sg _ _ (Bf _ _ (Se _ _ (Bd _ _ (Bc _ _ tb q3) q3)) q3)
         · rcases List.mem_append.mp mb with mb | mb
           · exact hbn b mb
           · rw [List.mem_singleton.mp mb]; exact ⟨m1,m3,mi0,mi1⟩
       · rintro σ Hb ⟨s8,s9,s10,bs,rfl,Bb,pb,Kb,tb,hbn,lbs⟩
         exact hN _ _ ⟨_,bs,rfl,Bb,pb,Kb,tb,hbn,by omega⟩
     rintro _ Hb ⟨r,bs,rfl,Bb,pb,Kb,tb,hbn,lbs⟩
     obtain ⟨zb,hb,tbb⟩:=Kb.hb
     have lzb:zb.length=bs.length:=tbb.1
     refine ⟨_,rfl,kd,_,rfl,Kb.g3,_,_,rfl,.inl ⟨_,SqL.of hb,rfl⟩,_,_,rfl,rfl,_,rfl,Zh (fun g=>?_) (fun g=>?_)⟩
     · have h0:0 < bs.length:=by omega
       obtain ⟨u,hz,hu'⟩:=tbb.at_ (List.getElem?_eq_getElem h0)
       refine ⟨_,rfl,kd,_,rfl,Kb.g3,.inl ⟨kbl,_,_,_,rfl,rfl,SqL.of hb,QL hz,?_⟩⟩
       refine ⟨_,rfl,kd,_,rfl,Kb.g3,_,rfl,kbl,_,_,zb.length - 1,rfl,rfl,hb,qaq (by omega),?_⟩
       refine hN _ _ ⟨_,bs.set (zb.length - 1) bs[0],rfl,fun b o e nb'=>?_,pb.upd q2 _,Kb.setB g4 n4.symm hb tbb (TupL.setG tbb (i:=zb.length - 1) (p:=bs[0]) hu'),?_,fun b mb=>?_,by rw [List.length_set]; exact lbs⟩
       · rw [qh (qi e fkbl)]; exact Bb b o e nb'
       · rw [qh n5.symm]; exact tb
       · rcases List.mem_or_eq_of_mem_set mb with mb | rfl
         · exact hbn b mb
         · exact hbn _ (List.getElem_mem h0)
     · exact hN _ _ ⟨_,bs,rfl,Bb,pb,Kb,tb,hbn,lbs⟩
   rintro _ H7 ⟨r,bs,rfl,B7,p7,K7,t7,hbn,lbs⟩
   exact ⟨_,rfl,kk kd ktd ksl kbl ps ss bs H7 (BH0.none fkd (p0.ne fkd)) (BH0.none fktd q3) (BH0.none fksl q1) (BH0.none fkbl q2) n1.symm (BH0.trans B7) p7 q1 q2 t7 K7 ⟨g4,nmp,ndp,by omega,sp6,pl6,nds,lss,hbn,lbs⟩⟩
end
end K35
namespace K35
open PySem L2 PySem.NumText PyProof.Rows KC M04
section
variable {P:Program} {w:World} {K:PySem.W.Frag} {mg:Str->Option Value} {base:Heap}
end
def B3 (td ed bl:Addr) (H H':Hp):Prop:=∀ b o,H b=some o->b≠td->b≠ed->b≠bl->H' b=some o
abbrev eS (e:Ent):S5:=(e.wd,e.nm,e.pl,e.lo,e.hi)
abbrev tR (t:Str×Addr×List (Int×Int)):Str×List (Int×Int):=(t.1,t.2.2)
theorem qcl {ts ps:Pls} (h:ts.map tR=ps.map tR):ts.map (·.1)=ps.map (·.1):=by
 have:=congrArg (List.map Prod.fst) h
 rw [List.map_map,List.map_map] at this
 exact this
inductive qbo (a:Ad) (vs:List V) (H:Hp) (Q:VK):Prop
 | mk (x dx td ed bl kd ktd ksl kbl:Addr) (ps:Pls) (ss:List S5) (bs:List (Str×Str×Int)) (ob:Obj) (E:Hp) (h1:vs=[.ref x,.ref kd]) (h2:Lg a H x dx td ed bl [] [] []) (h3:Kp E kd ktd ksl kbl ps ss bs) (h4:E ktd=some (.frz ob (.dK (dkv ps)))) (h5:Kw ps ss bs) (h6:Same E H) (h7:E td=none) (h8:E ed=none) (h9:E bl=none) (h10:∀ (H':Hp) (ts:Pls) (es:List Ent),B3 td ed bl H H'->Lg a H' x dx td ed bl ts es bs->ts.map tR=ps.map tR->es.map eS=ss->Q (.bl true) H'):qbo a vs H Q
def qdU (a:Ad):Sp:=fun vs H Q _=>qbo a vs H Q
section
variable {P:Program} {w:World} {K:PySem.W.Frag} {mg:Str->Option Value} {base:Heap}
theorem qgz {a:Ad} (T:Txt K mg a):qC P w K mg base CX0 10 a.f_3 a.fd_3 ["_law_log","_law_kept"] (qdU a):=by
 have G_ad:qC P w K mg base CX0 2 a.f_ad a.fd_ad ["self","place","table"] (J6 a):=qc4 T
 have G_ae:qC P w K mg base CX0 2 a.f_ae a.fd_ae ["self","entry"] (qbl a):=qez T
 have G_X:qC P w K mg base CX0 1 a.f_X a.fd_X ["_law_found","_law_due"] Jo:=qca T
 have G_ah:qC P w K mg base CX0 6 a.f_ah a.fd_ah ["self","rows"] (Jk a):=qb9 T
 have G_0:qC P w K mg base CX0 9 a.f_0 a.fd_0 ["_law_spec_here"] (qdT a):=qgy T
 have G_af:qC P w K mg base CX0 4 a.f_af a.fd_af ["self","later","earlier","minutes"] (qaz a):=qdv T
 refine T.d_3.F.ok sc_Ldone (fun vs H Q E h=>?_) (fun cdv A outer s H vs Q E hr h=>?_)
 · obtain ⟨x,dx,td,ed,bl,kd,ktd,ksl,kbl,ps,ss,bs,ob,E,rfl,hL,hK,hf,hw,SE,etd,eed,ebl,kk⟩:=h
   rfl
 · obtain ⟨x,dx,td,ed,bl,kd,ktd,ksl,kbl,ps,ss,bs,ob,E,rfl,hL,hK,hf,hw,SE,etd,eed,ebl,kk⟩:=h
   have hu:=qK hr
   have hU:=hr.units
   have h_ad:Room (2) _:=hr.mono (by decide)
   have h_ae:Room (2) _:=hr.mono (by decide)
   have h_X:Room (1) _:=hr.mono (by decide)
   have h_ah:Room (6+1) _:=hr.mono (by decide)
   have h_0:Room (9) _:=hr.mono (by decide)
   have h_af:Room (4) _:=hr.mono (by decide)
   refine ⟨_,(qf (zK PassesOwn.never rfl (qhN (qI hu (pv 1) qB (fun _ _=>rfl))) (qt (i:=2) (sc_Ldone.nd) rfl (Or.inl rfl))
       (qg (qO (qA qfo (qW (pv 0) T.cl_Log T.d_ad.mt G_ad h_ad T.d_ad.b .nil ql (qa (pv 2) (qa (JS T.M_Table G_ah h_ah rfl T.g_Table T.d_ah.b .nil ql (qa (Qu (r:=qiV K) Zo (by rfl) T.n_list zw (qa (qI hu (qI hu (pv 1) qB (fun _ _=>rfl)) (pv 2) (fun _ _=>rfl)) qb)) qb)) qb))) qg9 (qG _))
         (qg (qu Zg))
         qv)))
     (qf (zK PassesOwn.never rfl (ze (qI hu (pv 1) qB (fun _ _=>rfl))) (qt (i:=3) (sc_Ldone.nd) rfl (Or.inl rfl))
       (qg (qO (qA qfo (qW (pv 0) T.cl_Log T.d_ae.mt G_ae h_ae T.d_ae.b .nil ql (qa (qj G_0 h_0 rfl T.d_0.m T.d_0.k T.d_0.b .nil ql (qa (pv 3) qb)) qb)) qg9 (qG _))
         (qg (qu Zg))
         qv)))
     (qf (zK PassesOwn.never rfl (qds rfl T.n_enumerate (qa (qI hu (pv 1) qB (fun _ _=>rfl)) qb)) (QU rfl (qz (qt (i:=4) (sc_Ldone.nd) rfl (Or.inl rfl)) (qz (QU rfl (qz (qt (i:=5) (sc_Ldone.nd) rfl (Or.inl rfl)) (qz (qt (i:=6) (sc_Ldone.nd) rfl (Or.inl rfl)) (qz (qt (i:=7) (sc_Ldone.nd) rfl (Or.inl rfl)) zZ)))) zZ)))
       (qg (qO (qZ (qY (qj G_X h_X rfl T.d_X.m T.d_X.k T.d_X.b .nil ql (qa (qW (pv 0) T.cl_Log T.d_af.mt G_af h_af T.d_af.b .nil ql (qa (pv 5) (qa (pv 6) (qa (pv 7) qb)))) (qa (pv 4) qb)))))
         (qg (qu Zg))
         qv)))
     (qg (qu Zg))))),?_⟩
   try dsimp only [zx,Cx.nox]
   have keepE:∀ {H':Hp},B3 td ed bl H H'->Same E H':=fun b c o e=>b c o (SE c o e) (qi e etd) (qi e eed) (qi e ebl)
   have K0:=hK.sm SE
   refine zc (t:=qe7 _ _ _) (fun σ' H'=>∃ (s2:Option V) (ts:Pls),σ'=[some (.ref x),some (.ref kd),s2,none,none,none,none,none]∧B3 td ed bl H H'∧Lg a H' x dx td ed bl ts [] []∧ts.map tR=ps.map tR) (fun N hN=>?_) ?_
   · refine ⟨_,rfl,kd,_,rfl,K0.g1,ktd,ob,_,rfl,SE _ _ hf,qgN (D:={ nx:=N,rt:=Q }) (a:=ktd) (ob:=ob) (kvs:=dkv ps) (fun j σ H'=>∃ (s2:Option V) (ts:Pls),σ=[some (.ref x),some (.ref kd),s2,none,none,none,none,none]∧B3 td ed bl H H'∧Lg a H' x dx td ed bl ts [] []∧ts.map tR=(ps.take j).map tR) ⟨none,[],rfl,(fun b o e _ _ _=>e),hL,rfl⟩ (fun j σ H' _ ⟨_,_,_,b,_⟩=>keepE b _ _ hf) ?_ ?_⟩
     · rintro j k y σ H1 hk ⟨s2,ts,rfl,B1,hL1,et1⟩
       obtain ⟨p0,hp0,ek⟩:∃ p0,ps[j]?=some p0∧((.inr p0.1:Key),V.ref p0.2.1)=(k,y):=by
         unfold dkv at hk
         rw [List.getElem?_map] at hk
         exact Option.map_eq_some_iff.mp hk
       cases ek
       have m0:=List.mem_of_getElem? hp0
       have S1:=keepE B1
       have K1:=hK.sm S1
       obtain ⟨zs,hq,tz⟩:=K1.rs p0 m0
       have good:=hw.good p0 m0
       have hj:j < ps.length:=(List.getElem?_eq_some_iff.mp hp0).1
       have dgp:qbM H1 ktd (.str p0.1) (some (.ref p0.2.1)):=.inl ⟨_,.inr p0.1,.inr ⟨ob,S1 _ _ hf⟩,rfl,(qbf hw.nd p0 m0).symm⟩
       have lts:ts.length=j:=by
         have:=congrArg List.length et1
         rw [List.length_map,List.length_map,List.length_take] at this
         omega
       have no:p0.1∉ts.map (·.1):=by
         rw [qcl et1,List.map_take]
         exact qaT hw.nd (by rw [List.getElem?_map,hp0]; rfl)
       refine ⟨_,rfl,x,dx,_,rfl,hL1.hx,rfl,_,rfl,_,rfl,kd,_,rfl,K1.g1,_,rfl,ktd,_,rfl,dgp,p0.2.1,zs,rfl,.inl (SqL.of hq),fun l fl t dt f1 f2 ne=>?_⟩
       have Sl:=Same.new (.lst zs) fl
       have Sm:=Zc (C:=a.c_Table) f1 f2 (But.refl _ _)
       refine ⟨t,dt,l,p0.2.2,rfl,qd,Rs.same ⟨zs,qd,tz.same Sl⟩ Sm,good,fun G B tbl=>⟨rfl,?_⟩⟩
       have SG:=Sl.trans (Zc f1 f2 B)
       refine ⟨x,dx,td,ed,bl,ts,[],[],p0.1,t,p0.2.2,rfl,hL1.sm SG,hw.nm p0 m0,no,(by have:=hw.few; omega),tbl,good,fun H2 Bt hL2=>⟨rfl,_,rfl,qeK (fun g=>absurd rfl g) (fun _=>?_)⟩⟩
       refine ⟨_,ts++[(p0.1,t,p0.2.2)],rfl,fun b o e c1 c2 c3=>Bt b o (SG b o (B1 b o e c1 c2 c3)) c1,hL2,?_⟩
       rw [List.map_append,et1,List.take_add_one,hp0,List.map_append]; rfl
     · rintro σ H1 ⟨s2,ts,rfl,B1,hL1,et1⟩
       rw [show (dkv ps).length=ps.length by unfold dkv; rw [List.length_map],List.take_length] at et1
       exact hN _ _ ⟨s2,ts,rfl,B1,hL1,et1⟩
   rintro _ H1 ⟨s2,ts,rfl,B1,hL1,et⟩
   have kt:=qcl et
   have S1:=keepE B1
   have K1:=hK.sm S1
   obtain ⟨zs,hs,tz⟩:=hK.hs
   refine zc (t:=qe7 _ _ _) (fun σ' H'=>∃ (s3:Option V) (es:List Ent),σ'=[some (.ref x),some (.ref kd),s2,s3,none,none,none,none]∧B3 td ed bl H H'∧Lg a H' x dx td ed bl ts es []∧es.map eS=ss) (fun N hN=>?_) ?_
   · refine ⟨_,rfl,kd,_,rfl,K1.g2,ksl,rfl,⟨_,SqL.of (S1 _ _ hs)⟩,Qa (D:={ nx:=N,rt:=Q }) (K:=K) (a:=ksl) (xs:=zs) (fun j σ H'=>∃ (s3:Option V) (es:List Ent),σ=[some (.ref x),some (.ref kd),s2,s3,none,none,none,none]∧B3 td ed bl H H'∧Lg a H' x dx td ed bl ts es []∧es.map eS=ss.take j) ⟨none,[],rfl,B1,hL1,rfl⟩ (fun j σ H' _ ⟨_,_,_,b,_⟩=>SqL.of (keepE b _ _ hs)) ?_ ?_⟩
     · rintro j z σ H2 hz ⟨s3,es,rfl,B2,hL2,ee⟩
       obtain ⟨s,u,hsj,rfl,hu'⟩:=tz.of hz
       have S2:=keepE B2
       have ms:=List.mem_of_getElem? hsj
       have sp:=hw.sp s ms
       have hpl:=hw.pl s ms
       rw [← kt] at hpl
       have hj:j < ss.length:=(List.getElem?_eq_some_iff.mp hsj).1
       have les:es.length=j:=by
         have:=congrArg List.length ee
         rw [List.length_map,List.length_take] at this
         omega
       have en2:es.map (·.nm)=(ss.take j).map (·.2.1):=by
         rw [← ee,List.map_map]; rfl
       have no:s.2.1∉es.map (·.nm):=by
         rw [en2,List.map_take]
         exact qaT hw.nds (by rw [List.getElem?_map,hsj]; rfl)
       refine ⟨_,rfl,x,dx,_,rfl,hL2.hx,rfl,_,rfl,u,s.1,s.2.1,s.2.2.1,s.2.2.2.1,s.2.2.2.2,rfl,S2 _ _ hu',sp,fun y G SG en=>?_⟩
       refine ⟨x,dx,td,ed,bl,ts,es,[],⟨s.2.1,s.1,s.2.2.1,s.2.2.2.1,s.2.2.2.2,y⟩,rfl,hL2.sm SG,en,sp,no,hpl,(by have:=hw.fews; omega),fun H3 Be hL3=>⟨rfl,_,rfl,qeK (fun g=>absurd rfl g) (fun _=>?_)⟩⟩
       refine ⟨_,es++[⟨s.2.1,s.1,s.2.2.1,s.2.2.2.1,s.2.2.2.2,y⟩],rfl,fun b o e c1 c2 c3=>Be b o (SG b o (B2 b o e c1 c2 c3)) c2,hL3,?_⟩
       rw [List.map_append,ee,List.take_add_one,hsj]; rfl
     · rintro σ H2 ⟨s3,es,rfl,B2,hL2,ee⟩
       rw [tz.1,List.take_length] at ee
       exact hN _ _ ⟨s3,es,rfl,B2,hL2,ee⟩
   rintro _ H2 ⟨s3,es,rfl,B2,hL2,ee⟩
   have S2:=keepE B2
   have K2:=hK.sm S2
   obtain ⟨zb,hb,tb⟩:=hK.hb
   have enn:es.map (·.nm)=ss.map (·.2.1):=by rw [← ee,List.map_map]; rfl
   refine ⟨_,rfl,kd,_,rfl,K2.g3,kbl,rfl,⟨_,SqL.of (S2 _ _ hb)⟩,qcp (K:=K) (a:=kbl) (xs:=zb) (D:={ nx:=qgb (tC (.bl true)) { nx:=fun _ H'=>Q .non H',rt:=Q },rt:=Q }) (fun j σ H'=>∃ (s4 s5 s6 s7:Option V),σ=[some (.ref x),some (.ref kd),s2,s3,s4,s5,s6,s7]∧B3 td ed bl H H'∧Lg a H' x dx td ed bl ts es (bs.take j)) ⟨_,_,_,_,rfl,B2,hL2⟩ (fun j σ H' _ ⟨_,_,_,_,_,b,_⟩=>SqL.of (keepE b _ _ hb)) ?_ ?_⟩
   · rintro j z σ H3 pp hz ⟨s4,s5,s6,s7,rfl,B4,hL4⟩ fpp
     obtain ⟨b,u,hbj,rfl,hu'⟩:=tb.of hz
     have Sp:=Same.new (.tup [.int (j:Int),.ref u]) fpp
     have S4:=(keepE B4).trans Sp
     have hL5:=hL4.sm Sp
     have hj:j < bs.length:=(List.getElem?_eq_some_iff.mp hbj).1
     obtain ⟨b1,b2,b3,b4⟩:=hw.bn b (List.mem_of_getElem? hbj)
     rw [← enn] at b1 b2
     obtain ⟨e,me,ee1⟩:=List.mem_map.mp b1
     obtain ⟨f,mf,ef1⟩:=List.mem_map.mp b2
     refine ⟨pp,_,rfl,SqT.of qd,rfl,_,_,rfl,_,_,rfl,u,_,rfl,SqT.of (S4 _ _ hu'),rfl,_,_,rfl,_,_,rfl,_,_,rfl,rfl,rfl,?_⟩
     refine ⟨_,rfl,x,dx,_,rfl,hL5.hx,rfl,_,rfl,_,rfl,_,rfl,x,dx,td,ed,bl,ts,es,bs.take j,e,f,b.2.2,(by rw [show e.nm=b.1 from ee1,show f.nm=b.2.1 from ef1]; rfl),hL5,me,mf,b3,b4,(by have:=hw.fewb; rw [List.length_take]; omega),fun H5 Bb hL6=>?_⟩
     have l5:((bs.take j).length:Int)=(j:Int):=by rw [List.length_take]; omega
     rw [l5]
     refine ⟨_,rfl,(j:Int),rfl,true,rfl,zy rfl ?_⟩
     refine ⟨_,_,_,_,rfl,fun c o e' c1 c2 c3=>Bb c o (Sp c o (B4 c o e' c1 c2 c3)) c3,?_⟩
     rw [List.take_add_one,hbj]
     rw [ee1,ef1] at hL6
     exact hL6
   · rintro σ H3 ⟨s4,s5,s6,s7,rfl,B4,hL4⟩
     rw [tb.1,List.take_length] at hL4
     exact kk H3 ts es B4 hL4 et ee
end
end K35
namespace K35
open PySem L2 PySem.NumText PyProof.Rows KC M04
section
variable {P:Program} {w:World} {K:PySem.W.Frag} {mg:Str->Option Value} {base:Heap}
end
def nb (y:V):Prop:=(∃ i,y=.int i)∨∃ s,y=.str s
inductive qax (vs:List V) (H:Hp) (Q:VK):Prop
 | mk (q r:Addr) (zs:List V) (ds:List PyData) (h1:vs=[.ref q,.ref r]) (h2:H q=some (.lst zs)) (h3:DVs H zs ds) (h4:DV H (.ref r) (.list ds)) (h5:PyData.canLay0 (.list ds)=true) (h6:SeqAt.shaped (.list ds)=true) (h7:(∀ z∈zs,∃ t xs,z=.ref t∧H t=some (.tup xs)∧∀ y∈xs,nb y)) (h8:∀ H',Same H H'->Q (.bl true) H'):qax vs H Q
def qcy:Sp:=fun vs H Q _=>qax vs H Q
inductive J1 (vs:List V) (H:Hp) (Q:VK):Prop
 | mk (s tb:Addr) (wd nm pl:Str) (lo hi:Int) (ps:Pls) (W:List (Int×Int)) (h1:vs=[.ref s,.ref tb]) (h2:H s=some (.tup (qiT wd nm pl lo hi))) (h3:Rd H tb (.dK (dkv ps))) (h4:(ps.map (·.1)).Nodup) (h5:(∀ x∈ps,Rs H x.2.1 x.2.2∧Good x.2.2)) (h6:Due ps wd pl lo hi W) (h7:∀ (d:Addr) (r:List (Int×Int)) (H':Hp),H d=none->Same H H'->Rs H' d r->Zt r->r.length≤21->(∀ n,Mem r n↔Mem W n)->Q (.ref d) H'):J1 vs H Q
def qbi:Sp:=fun vs H Q _=>J1 vs H Q
theorem shp {d:PyData} (c:PyData.canLay0 d=true) (h:PyData.depth d≤10):SeqAt.shaped d=true:=by
 unfold SeqAt.shaped
 rw [c,Bool.true_and]
 exact decide_eq_true (by omega)
theorem qcd {H:Hp} {x y:V} {d:PyData} {Q:VK} (h1:DV H x d) (h2:DV H y d) (c:PyData.canLay0 d=true) (sh:SeqAt.shaped d=true) (q:Q (.bl false) H):qiU x y H Q:=by
 refine .inr ⟨d,d,h1,h2,sh,sh,?_⟩
 rw [SeqAt.eqv_refl _ c]
 exact q
theorem qhZ {H:Hp} {x y:V} {d:PyData} {Q:VK} (h1:DV H x d) (h2:DV H y d) (c:PyData.canLay0 d=true) (sh:SeqAt.shaped d=true) (q:Q (.bl true) H):qjF x y H Q:=by
 refine .inr ⟨d,d,h1,h2,sh,sh,?_⟩
 rw [SeqAt.eqv_refl _ c]
 exact q
abbrev dP (w:Int×Int):PyData:=.tuple [.int w.1,.int w.2]
theorem JR {H:Hp} {q:Addr} {ws:List (Int×Int)} (h:Rs H q ws):∃ zs,H q=some (.lst zs)∧DVs H zs (ws.map dP)∧PyData.canLay0 (.list (ws.map dP))=true∧SeqAt.shaped (.list (ws.map dP))=true∧∀ z∈zs,∃ t xs,z=.ref t∧H t=some (.tup xs)∧∀ y∈xs,nb y:=by
 obtain ⟨zs,hq,tz⟩:=h
 have d1:=qfS (g:=g2) tz
 obtain ⟨l1,l2⟩:=qd9 (g:=g2) ws
 have cl:PyData.canLay0 (.list (ws.map dP))=true:=by simp only [PyData.canLay0]; exact l1
 refine ⟨zs,hq,d1,cl,shp cl (by simp only [PyData.depth]; have:PyData.depthAll (ws.map dP)≤2:=l2; omega),fun z m=>?_⟩
 obtain ⟨j,hj⟩:=List.getElem?_of_mem m
 obtain ⟨w,t,hw,rfl,ht⟩:=tz.of hj
 refine ⟨t,_,rfl,ht,fun y my=>?_⟩
 obtain ⟨i,_,rfl⟩:=List.mem_map.mp my
 exact .inl ⟨i,rfl⟩
abbrev dB (b:Str×Str×Int):PyData:=.tuple [.str b.1,.str b.2.1,.int b.2.2]
theorem qiL {H:Hp}:∀ {zs:List V} {bs:List (Str×Str×Int)},TupL prB H zs bs->DVs H zs (bs.map dB)
 | [],[],_=>.nil
 | z::zs,p::ps,h=>by
   obtain ⟨t,e,q⟩:=h.2 0 z p rfl rfl
   subst e
   exact .cons (.tup (.inl q) (.cons (.str _) (.cons (.str _) (.cons (.int _) .nil)))) (qiL ⟨by simpa using h.1,fun i z p e1 e2=>h.2 (i+1) z p (by simpa using e1) (by simpa using e2)⟩)
 | [],_::_,h=>by simp [TupL] at h
 | _::_,[],h=>by simp [TupL] at h
theorem qjL:∀ (bs:List (Str×Str×Int)),(∀ b∈bs,PyData.strOk b.1=true∧PyData.strOk b.2.1=true)->PyData.canLayAll0 (bs.map dB)=true∧PyData.depthAll (bs.map dB)≤2
 | [],_=>⟨rfl,by simp [PyData.depthAll]⟩
 | p::r,h=>by
   obtain ⟨h1,h2⟩:=qjL r fun x m=>h x (List.mem_cons_of_mem _ m)
   obtain ⟨o1,o2⟩:=h p List.mem_cons_self
   refine ⟨by simp [PyData.canLayAll0,PyData.canLay0,h1,o1,o2],?_⟩
   simp only [List.map_cons,PyData.depthAll,PyData.depth]; omega
theorem qjo {H:Hp} {zs:List V} {bs:List (Str×Str×Int)} (tz:TupL prB H zs bs):∀ z∈zs,∃ t xs,z=.ref t∧H t=some (.tup xs)∧∀ y∈xs,nb y:=fun z m=>by
 obtain ⟨j,hj⟩:=List.getElem?_of_mem m
 obtain ⟨w,t,hw,rfl,ht⟩:=tz.of hj
 refine ⟨t,_,rfl,ht,fun y my=>?_⟩
 simp only [List.mem_cons,List.not_mem_nil,or_false] at my
 rcases my with rfl | rfl | rfl
 · exact .inr ⟨_,rfl⟩
 · exact .inr ⟨_,rfl⟩
 · exact .inl ⟨_,rfl⟩
section
variable {P:Program} {w:World} {K:PySem.W.Frag} {mg:Str->Option Value} {base:Heap}
theorem qfu {a:Ad} (T:Txt K mg a):qC P w K mg base CX0 1 a.f_n a.fd_n ["_law_found","_law_due"] qcy:=by
 refine T.d_n.F.ok sc_Lsame (fun vs H Q E h=>?_) (fun cdv A outer s H vs Q E hr h=>?_)
 · obtain ⟨q,r,zs,ds,rfl,hq,dv,dvr,cl,sh,hnb,kk⟩:=h
   rfl
 · obtain ⟨q,r,zs,ds,rfl,hq,dv,dvr,cl,sh,hnb,kk⟩:=h
   have hu:=qK hr
   have hU:=hr.units
   refine ⟨_,(qf (qO (PW.pt (qaJ (qZ (qY (qq zA (by rfl) T.n_isinstance qx (qa (pv 0) (qa (Qc (v:=.ty "list") rfl T.n_list zw rfl) qb))))) (jZ (qA (uNe hU) (pv 0) (pv 1) (qG _)))))
       (qg (qu Zg))
       qv)
     (qf (zK PassesOwn.never rfl (ze (pv 0)) (qt (i:=2) (sc_Lsame.nd) rfl (Or.inl rfl))
       (qg (qO (PW.pt (qaJ (qZ (qY (qq zA (by rfl) T.n_isinstance qx (qa (pv 2) (qa (Qc (v:=.ty "tuple") rfl T.n_tuple Jd rfl) qb))))) (jZ (qA (uNe hU) (Qt rfl (CompOk.def ["_law_one"] [none]) (qip (pv 2)) (fun _ _ _ _ _=>(qt (i:=0) (show List.Nodup (["_law_one"]:List Str) by decide +kernel) rfl (Or.inl rfl))) (fun _ _ _ _ _=>(qaK (qY (qq zA (by rfl) T.n_isinstance qx (qa (pv 0) (qa (Qc (v:=.ty "bool") rfl T.n_bool JV rfl) qb)))))) (fun _ _ _ _ _=>(pv 0))) (qN qb) (qG _)))))
         (qg (qu Zg))
         qv)))
     (qg (qu Zg)))),?_⟩
   try dsimp only [zx,Cx.nox]
   have ty:tyN H (.ref q)=some "list":=by simp only [tyN]; rw [hq]
   refine ⟨_,rfl,_,_,_,rfl,(by decide),ty,true,rfl,zy rfl ?_⟩
   refine ⟨_,rfl,_,rfl,qcd (.lst (.inl hq) dv) dvr cl sh ⟨_,rfl,qcr ?_⟩⟩
   refine ⟨_,rfl,q,rfl,⟨_,SqL.of hq⟩,Qa (D:={ nx:=qgb (tC (.bl true)) { nx:=fun _ H'=>Q .non H',rt:=Q },rt:=Q }) (K:=K) (a:=q) (xs:=zs) (fun i σ H2=>∃ (s2:Option V),σ=[some (.ref q),some (.ref r),s2]∧Same H H2) ⟨_,rfl,Same.refl H⟩ (fun i σ H2 _ ⟨_,_,S⟩=>SqL.of (S _ _ hq)) ?_ ?_⟩
   · rintro i z σ H2 hz ⟨s2,rfl,S⟩
     obtain ⟨t,xs,rfl,ht,hxs⟩:=hnb z (List.mem_of_getElem? hz)
     have ht2:=S _ _ ht
     have tyt:tyN H2 (.ref t)=some "tuple":=by simp only [tyN]; rw [ht2]
     refine ⟨_,rfl,_,_,_,rfl,(by decide),tyt,true,rfl,zy rfl ?_⟩
     refine ⟨_,rfl,t,rfl,⟨_,SqT.of ht2⟩,fun C fC=>?_⟩
     refine qgP (K:=K) (a:=t) (xs:=xs) (D:=C) (fun i σ H3=>∃ c0:Option V,σ=[c0]∧Same H2 H3∧H3 C=some (.lst [])) ⟨none,rfl,Same.new _ fC,qd⟩ (fun i σ H3 _ ⟨_,_,S3,_⟩=>SqT.of (S3 _ _ ht2)) ?_ ?_
     · rintro i' y σ H3 hy ⟨c0,rfl,S3,hC⟩
       rcases hxs y (List.mem_of_getElem? hy) with ⟨n,rfl⟩ | ⟨n,rfl⟩
       · exact ⟨_,rfl,_,_,_,rfl,(by decide),rfl,false,rfl,qcr ⟨_,rfl,S3,hC⟩⟩
       · exact ⟨_,rfl,_,_,_,rfl,(by decide),rfl,false,rfl,qcr ⟨_,rfl,S3,hC⟩⟩
     rintro σ H3 ⟨c0,rfl,S3,hC⟩
     refine ⟨qk (Nat.le_of_ble_eq_true rfl),fun nl fnl=>?_⟩
     have S4:Same H (upd H3 nl (.lst [])):=S.trans (S3.then (.lst []) fnl)
     refine .inr ⟨_,_,.lst (.inl (Same.new (.lst []) fnl _ _ hC)) .nil,.lst (.inl qd) .nil,rfl,rfl,?_⟩
     refine ⟨_,rfl,qcr ?_⟩
     exact ⟨_,rfl,S4⟩
   · rintro σ H2 ⟨s2,rfl,S⟩
     exact kk H2 S
theorem qey {a:Ad} (T:Txt K mg a):qC P w K mg base CX0 3 a.f_G a.fd_G ["_law_spec_here","_law_tables"] qbi:=by
 have G_v:qC P w K mg base CX0 1 a.f_v a.fd_v ["_law_stretches"] JE:=qbC T
 have G_W:qC P w K mg base CX0 2 a.f_W a.fd_W ["_law_rows_here","_law_low","_law_high"] qcw:=qfs T
 refine T.d_G.F.ok sc_Lspans (fun vs H Q E h=>?_) (fun cdv A outer s H vs Q E hr h=>?_)
 · obtain ⟨s,tb,wd,nm,pl,lo,hi,ps,W,rfl,hs,rd,nd,hps,due,kk⟩:=h
   rfl
 · obtain ⟨s,tb,wd,nm,pl,lo,hi,ps,W,rfl,hs,rd,nd,hps,due,kk⟩:=h
   have hu:=qK hr
   have hU:=hr.units
   have h_v:Room (1) _:=hr.mono (by decide)
   have h_W:Room (2) _:=hr.mono (by decide)
   refine ⟨_,(qf (Jq (pv 0) (QU rfl (qz (qt (i:=2) (sc_Lspans.nd) rfl (Or.inl rfl)) (qz (qt (i:=3) (sc_Lspans.nd) rfl (Or.inl rfl)) (qz (qt (i:=4) (sc_Lspans.nd) rfl (Or.inl rfl)) (qz (qt (i:=5) (sc_Lspans.nd) rfl (Or.inl rfl)) (qz (qt (i:=6) (sc_Lspans.nd) rfl (Or.inl rfl)) zZ)))))))
     (qf (qO (qA qcW (pv 2) (zC (qa qB (qa qB qb))) (by with_unfolding_all rfl))
       (qg (qu (qj G_W h_W rfl T.d_W.m T.d_W.k T.d_W.b .nil ql (qa (qI hu (pv 1) (pv 4) (fun _ _=>rfl)) (qa (pv 5) (qa (pv 6) qb))))))
       qv)
     (qg (qu (qj G_v h_v rfl T.d_v.m T.d_v.k T.d_v.b .nil ql (qa (qN (qa (zC (qa (pv 5) (qa (pv 6) qb))) qb)) qb)))))),?_⟩
   try dsimp only [zx,Cx.nox]
   refine ⟨_,rfl,s,_,rfl,SqT.of hs,rfl,_,_,rfl,_,_,rfl,_,_,rfl,_,_,rfl,_,_,rfl,rfl,?_⟩
   refine ⟨_,rfl,qk (Nat.le_of_ble_eq_true rfl),fun tt ft=>?_⟩
   have St:=Same.new (.tup [.str "between",.str "read"]) ft
   refine ⟨tt,_,rfl,.inr (SqT.of qd),rfl,rfl,_,rfl,?_⟩
   cases due with
   | @pl x hw mx ex =>
     subst ex
     refine qfH (by rcases hw with rfl | rfl<;>decide) ?_
     exact ⟨_,rfl,_,rfl,tb,_,rfl,.inl ⟨_,.inr x.1,Rd.sm rd St,rfl,(qbf nd x mx).symm⟩,_,rfl,_,rfl,x.2.1,x.2.2,lo,hi,rfl,(hps x mx).1.same St,(hps x mx).2,fun d r H' fd S R can lr mem=>kk d r H' (St.none fd) (St.trans S) R can lr mem⟩
   | no hw =>
     refine zy (by rcases hw with rfl | rfl | rfl<;>decide) ?_
     refine ⟨_,rfl,_,rfl,qk (Nat.le_of_ble_eq_true rfl),fun t ft2=>⟨qk (Nat.le_of_ble_eq_true rfl),fun l fl=>?_⟩⟩
     have S1:=Same.new (.tup [.int lo,.int hi]) ft2
     have S2:=Same.new (.lst [.ref t]) fl
     have S3:=(St.trans S1).trans S2
     refine ⟨l,[(lo,hi)],rfl,qfq (w:=(lo,hi)) (S2 _ _ qd) qd,Nat.le_of_ble_eq_true rfl,fun e r H3 fe S4 R can lr mem=>?_⟩
     exact kk e r H3 (S3.none fe) (S3.trans S4) R can (Nat.le_trans lr (Nat.le_of_ble_eq_true rfl)) mem
end
theorem qiN {wd nm pl:Str} {lo hi:Int} {ps:Pls} (sp:Spc wd nm pl lo hi) (h:pl=""∨pl∈ps.map (·.1)):∃ W,Due ps wd pl lo hi W:=by
 cases sp with
 | any _=>exact ⟨_,.no (.inl rfl)⟩
 | within _ _ _=>exact ⟨_,.no (.inr (.inl rfl))⟩
 | at_ _ _=>exact ⟨_,.no (.inr (.inr rfl))⟩
 | between _ hn _ _ =>
   obtain ⟨x,mx,ex⟩:=List.mem_map.mp (h.resolve_left (qce hn))
   exact ⟨_,.pl (.inl rfl) mx ex⟩
 | read _ hn _ =>
   obtain ⟨x,mx,ex⟩:=List.mem_map.mp (h.resolve_left (qce hn))
   exact ⟨_,.pl (.inr rfl) mx ex⟩
theorem qiM {wd pl:Str} {lo hi:Int} {ts ps:Pls} {W:List (Int×Int)} (h:ts.map tR=ps.map tR) (d:Due ps wd pl lo hi W):Due ts wd pl lo hi W:=by
 cases d with
 | @pl x hw mx ex =>
   have:tR x∈ts.map tR:=h▸List.mem_map_of_mem (f:=tR) mx
   obtain ⟨y,my,ey⟩:=List.mem_map.mp this
   injection ey with e1 e2
   rw [← e2]
   exact .pl hw my (e1.trans ex)
 | no h=>exact .no h
inductive qbg (a:Ad) (vs:List V) (H:Hp) (Q:VK):Prop
 | mk (x dx td ed bl kd ktd ksl kbl:Addr) (ts:Pls) (es:List Ent) (bs:List (Str×Str×Int)) (ps:Pls) (ss:List S5) (h1:vs=[.ref x,.ref kd]) (h2:Lg a H x dx td ed bl ts es bs) (h3:Kp H kd ktd ksl kbl ps ss bs) (h4:Kw ps ss bs) (h5:ts.map tR=ps.map tR) (h6:es.map eS=ss) (h7:∀ H',Same H H'->Q (.bl true) H'):qbg a vs H Q
def qdP (a:Ad):Sp:=fun vs H Q _=>qbg a vs H Q
section
variable {P:Program} {w:World} {K:PySem.W.Frag} {mg:Str->Option Value} {base:Heap}
theorem qgu {a:Ad} (T:Txt K mg a):qC P w K mg base CX0 8 a.f_5 a.fd_5 ["_law_log","_law_kept"] (qdP a):=by
 have G_d:qC P w K mg base CX0 3 a.f_d a.fd_d ["self","name"] (jj a):=qac T
 have G_I:qC P w K mg base CX0 1 a.f_I a.fd_I ["self","tables"] QN:=j6 T
 have G_x:qC P w K mg base CX0 5 a.f_x a.fd_x ["self","tables"] (zM K):=jp T
 have G_z:qC P w K mg base CX0 6 a.f_z a.fd_z ["self","tables"] (zB a):=Z2 T
 have G_J:qC P w K mg base CX0 7 a.f_J a.fd_J ["self","name"] (J4 a):=qc3 T
 have G_A:qC P w K mg base CX0 1 a.f_A a.fd_A ["self"] (ji a):=qab T
 have G_B:qC P w K mg base CX0 1 a.f_B a.fd_B ["self"] (jk a):=qad T
 have G_e:qC P w K mg base CX0 1 a.f_e a.fd_e ["self"] qV:=Qv T
 have G_g:qC P w K mg base CX0 1 a.f_g a.fd_g ["self"] (qT K):=zT T
 have G_f:qC P w K mg base CX0 1 a.f_f a.fd_f ["self"] (Qr a):=QX T
 have G_n:qC P w K mg base CX0 1 a.f_n a.fd_n ["_law_found","_law_due"] qcy:=qfu T
 have G_6:qC P w K mg base CX0 1 a.f_6 a.fd_6 ["self"] ZP:=qcb T
 have G_7:qC P w K mg base CX0 1 a.f_7 a.fd_7 ["self"] Zq:=qbc T
 have G_9:qC P w K mg base CX0 1 a.f_9 a.fd_9 ["self"] JF:=qeB T
 have G_aa:qC P w K mg base CX0 1 a.f_aa a.fd_aa ["self"] Q8:=qaS T
 have G_ac:qC P w K mg base CX0 1 a.f_ac a.fd_ac ["self"] jg:=qc0 T
 have G_G:qC P w K mg base CX0 3 a.f_G a.fd_G ["_law_spec_here","_law_tables"] qbi:=qey T
 refine T.d_5.F.ok sc_Ltold (fun vs H Q E h=>?_) (fun cdv A outer s H vs Q E hr h=>?_)
 · obtain ⟨x,dx,td,ed,bl,kd,ktd,ksl,kbl,ts,es,bs,ps,ss,rfl,hL,hK,hw,het,hes,kk⟩:=h
   rfl
 · obtain ⟨x,dx,td,ed,bl,kd,ktd,ksl,kbl,ts,es,bs,ps,ss,rfl,hL,hK,hw,het,hes,kk⟩:=h
   have hu:=qK hr
   have hU:=hr.units
   have h_d:Room (3) _:=hr.mono (by decide)
   have h_I:Room (1) _:=hr.mono (by decide)
   have h_x:Room (5) _:=hr.mono (by decide)
   have h_z:Room (6) _:=hr.mono (by decide)
   have h_J:Room (7) _:=hr.mono (by decide)
   have h_A:Room (1) _:=hr.mono (by decide)
   have h_B:Room (1) _:=hr.mono (by decide)
   have h_e:Room (1) _:=hr.mono (by decide)
   have h_g:Room (1) _:=hr.mono (by decide)
   have h_f:Room (1) _:=hr.mono (by decide)
   have h_n:Room (1) _:=hr.mono (by decide)
   have h_6:Room (1) _:=hr.mono (by decide)
   have h_7:Room (1) _:=hr.mono (by decide)
   have h_9:Room (1) _:=hr.mono (by decide)
   have h_aa:Room (1) _:=hr.mono (by decide)
   have h_ac:Room (1) _:=hr.mono (by decide)
   have h_G:Room (3) _:=hr.mono (by decide)
   refine ⟨_,(qf (qfk (i:=2) sc_Ltold.nd rfl (Or.inl rfl) rfl (CompOk.def ["_law_spec_here"] [none]) (ze (qI hu (pv 1) qB (fun _ _=>rfl))) (fun _ _ _ _ _=>(qt (i:=0) (show List.Nodup (["_law_spec_here"]:List Str) by decide +kernel) rfl (Or.inl rfl))) (fun _ _ _ _ _=>Zb) (fun _ _ _ _ _=>(qD (r:=rIx K) qr (pv 0) qc (fun _ _=>rfl))))
     (qf (zK PassesOwn.never rfl (z3 rfl T.n_range (qa qc qb)) (qt (i:=3) (sc_Ltold.nd) rfl (Or.inl rfl))
       (qf (qF (i:=4) sc_Ltold.nd rfl (Or.inl rfl) (qN (qa (qX (pv 0) T.cl_Log T.d_A.mt G_A h_A T.d_A.b .nil ql) (qa (qX (pv 0) T.cl_Log T.d_B.mt G_B h_B T.d_B.b .nil ql) (qa (qX (pv 0) T.cl_Log T.d_f.mt G_f h_f T.d_f.b .nil ql) qb)))))
       (qf (qO (qA (uNe hU) (pv 4) (qN (qa (pv 2) (qa (qI hu (pv 1) qB (fun _ _=>rfl)) (qa (qq (r:=qd0) (JU rfl) (by rfl) T.n_sorted QR (qa (qI hu (pv 1) qB (fun _ _=>rfl)) qb)) qb)))) (qG _))
         (qg (qu Zg))
         qv)
       (qf (qO (PW.pt (qaJ (qA (uNe hU) (Qt rfl (CompOk.def ["_law_one"] [none]) (ze (pv 4)) (fun _ _ _ _ _=>(qt (i:=0) (show List.Nodup (["_law_one"]:List Str) by decide +kernel) rfl (Or.inl rfl))) (fun _ _ _ _ _=>(qaK (qZ (qY (qq zA (by rfl) T.n_isinstance qx (qa (pv 0) (qa (Qc (v:=.ty "list") rfl T.n_list zw rfl) qb))))))) (fun _ _ _ _ _=>(pv 0))) (qN qb) (qG _)) (jZ (qZ (qY (qj G_n h_n rfl T.d_n.m T.d_n.k T.d_n.b .nil ql (qa (qD (r:=rIx K) qr (pv 4) qc (fun _ _=>rfl)) (qa (qI hu (pv 1) qB (fun _ _=>rfl)) qb))))))))
         (qg (qu Zg))
         qv)
       (qg (zK PassesOwn.never rfl (ze (pv 4)) (qt (i:=5) (sc_Ltold.nd) rfl (Or.inl rfl))
         (qg (qU (Ja PySem.F.plainAttrs_list PySem.F.slot_list_append PySem.F.type_list_append zn (pv 5) (qa qB qb))))))))))
     (qf (zK PassesOwn.never rfl (ze (qI hu (pv 1) qB (fun _ _=>rfl))) (qt (i:=6) (sc_Ltold.nd) rfl (Or.inl rfl))
       (qf (qF (i:=7) sc_Ltold.nd rfl (Or.inl rfl) (qW (pv 0) T.cl_Log T.d_d.mt G_d h_d T.d_d.b .nil ql (qa (qD (r:=rIx K) qr (pv 6) qc (fun _ _=>rfl)) qb)))
       (qf (qO (PW.pt (qaJ (qZ (qY (qq (r:=qi9 K) qek (by rfl) T.n_isinstance qx (qa (pv 7) (qa (Qb (v:=.ref a.c_Entry) rfl T.g_Entry rfl) qb))))) (qaJ (qA (uNe hU) (PE.or (qX (pv 7) T.cl_Entry T.d_6.mt G_6 h_6 T.d_6.b .nil ql) (PE.or (qX (pv 7) T.cl_Within T.d_7.mt G_7 h_7 T.d_7.b .nil ql) (PE.or (qX (pv 7) T.cl_At T.d_9.mt G_9 h_9 T.d_9.b .nil ql) (PE.or (qX (pv 7) T.cl_Between T.d_aa.mt G_aa h_aa T.d_aa.b .nil ql) (qX (pv 7) T.cl_Read T.d_ac.mt G_ac h_ac T.d_ac.b .nil ql))))) (qD (r:=rIx K) qr (pv 6) qc (fun _ _=>rfl)) (qG _)) (jZ (qA (uNe hU) (qR (pv 7) rfl) (qD (r:=rIx K) qr (pv 6) qc (fun _ _=>rfl)) (qG _))))))
         (qg (qu Zg))
         qv)
       (qf (qF (i:=8) sc_Ltold.nd rfl (Or.inl rfl) (qW (pv 0) T.cl_Log T.d_J.mt G_J h_J T.d_J.b .nil ql (qa (qD (r:=rIx K) qr (pv 6) qc (fun _ _=>rfl)) qb)))
       (qf (qO (qZ (qY (qj G_n h_n rfl T.d_n.m T.d_n.k T.d_n.b .nil ql (qa (pv 8) (qa (qj G_G h_G rfl T.d_G.m T.d_G.k T.d_G.b .nil ql (qa (pv 6) (qa (qI hu (pv 1) qB (fun _ _=>rfl)) qb))) qb)))))
         (qg (qu Zg))
         qv)
       (qf (qU (Ja PySem.F.plainAttrs_list PySem.F.slot_list_append PySem.F.type_list_append zn (pv 8) (qa (zC (qa qc (qa qc qb))) qb)))
       (qg (qO (qZ (qY (qj G_n h_n rfl T.d_n.m T.d_n.k T.d_n.b .nil ql (qa (qW (pv 0) T.cl_Log T.d_J.mt G_J h_J T.d_J.b .nil ql (qa (qD (r:=rIx K) qr (pv 6) qc (fun _ _=>rfl)) qb)) (qa (qj G_G h_G rfl T.d_G.m T.d_G.k T.d_G.b .nil ql (qa (pv 6) (qa (qI hu (pv 1) qB (fun _ _=>rfl)) qb))) qb)))))
         (qg (qu Zg))
         qv))))))))
     (qg (qu Zg))))),?_⟩
   try dsimp only [zx,Cx.nox]
   obtain ⟨zs,hs,tz⟩:=hK.hs
   obtain ⟨zb0,hb0,tb0⟩:=hK.hb
   have kt:=qcl het
   have enn:es.map (·.nm)=ss.map (·.2.1):=by rw [← hes,List.map_map]; rfl
   have fewt:ts.length≤6:=by
     have:=congrArg List.length het
     rw [List.length_map,List.length_map] at this
     rw [this]; exact hw.few
   have nok:∀ n∈ss.map (·.2.1),PyData.strOk n=true:=fun n m=>by
     obtain ⟨s,ms,rfl⟩:=List.mem_map.mp m
     exact (qgW (hw.sp s ms)).2.1
   obtain ⟨lb1,lb2⟩:=qjL bs fun b m=>⟨nok _ (hw.bn b m).1,nok _ (hw.bn b m).2.1⟩
   have clB:PyData.canLay0 (.list (bs.map dB))=true:=by simp only [PyData.canLay0,lb1]
   have shB:=shp clB (by simp only [PyData.depth]; omega)
   refine ⟨_,rfl,kd,_,rfl,hK.g2,ksl,rfl,⟨_,SqL.of hs⟩,fun D fD=>?_⟩
   refine z9 (K:=K) (a:=ksl) (xs:=zs) (D:=D) (fun i σ H2=>∃ c0:Option V,σ=[c0]∧Same H H2∧H2 D=some (.lst (((ss.take i).map (·.2.1)).map V.str))) ⟨none,rfl,Same.new _ fD,qd⟩ (fun i σ H2 _ ⟨_,_,S,_⟩=>SqL.of (S _ _ hs)) ?_ ?_
   · rintro i z σ H2 hz ⟨c0,rfl,S,hD⟩
     obtain ⟨s,u,hs',rfl,hu'⟩:=tz.of hz
     refine ⟨_,rfl,.inr (.inl ⟨u,_,_,_,rfl,rfl,SqT.of (S _ _ hu'),rfl,_,hD,qE (by rw [List.length_map,List.length_map,List.length_take]; have:=hw.fews; omega),_,rfl,S.put fD _,?_⟩)⟩
     rw [qd,List.take_add_one,hs',List.map_append,List.map_append]; rfl
   rintro σ H1 ⟨c0,rfl,S1,hD⟩
   rw [tz.1,List.take_length] at hD
   try unfold zm
   try dsimp only
   refine zc (t:=qe7 _ _ _) (fun σ' H'=>∃ s3 s4 s5:Option V,σ'=[some (.ref x),some (.ref kd),some (.ref D),s3,s4,s5,none,none,none]∧Same H1 H') (fun N hN=>?_) ?_
   · refine ⟨_,rfl,by decide,by decide,QQ (lo:=0) (D:={ nx:=N,rt:=Q }) (fun i σ H'=>∃ s3 s4 s5:Option V,σ=[some (.ref x),some (.ref kd),some (.ref D),s3,s4,s5,none,none,none]∧Same H1 H') ⟨_,_,_,rfl,Same.refl H1⟩ ?_ ?_⟩
     · rintro i σ H2 hi ⟨s3,s4,s5,rfl,S2⟩
       have hL2:=hL.sm (S1.trans S2)
       refine ⟨_,rfl,x,dx,_,rfl,hL2.hx,rfl,x,dx,td,ed,bl,ts,es,bs,rfl,hL2,fun l1 f1=>?_⟩
       generalize hG:upd H2 l1 _=H3
       obtain ⟨S3,e1⟩:=qH hG f1
       clear hG
       have hL3:=hL2.sm S3
       refine ⟨_,rfl,x,dx,_,rfl,hL3.hx,rfl,x,dx,td,ed,bl,ts,es,bs,rfl,hL3,fun l2 zb f2 tb=>?_⟩
       generalize hG:upd H3 l2 _=H4
       obtain ⟨S4,e2⟩:=qH hG f2
       clear hG
       have hL4:=hL3.sm S4
       refine ⟨_,rfl,x,dx,_,rfl,hL4.hx,rfl,x,dx,td,ed,bl,ts,es,bs,rfl,hL4,fewt,fun l3 sa f3 pm so=>?_⟩
       generalize hG:upd H4 l3 _=H5
       obtain ⟨S5,e3⟩:=qH hG f3
       clear hG
       refine ⟨qk (Nat.le_of_ble_eq_true rfl),fun L fL=>?_⟩
       generalize hG:upd H5 L _=H6
       obtain ⟨S6,eL⟩:=qH hG fL
       clear hG
       have nL1:l1≠L:=qi (S5 _ _ (S4 _ _ e1)) fL
       have nL2:l2≠L:=qi (S5 _ _ e2) fL
       have nL3:l3≠L:=qi e3 fL
       have S26:=((S3.trans S4).trans S5).trans S6
       have g1:H2 l1=none:=f1
       have g2:H2 l2=none:=S3.none f2
       have g3:H2 l3=none:=(S3.trans S4).none f3
       have e1':=S6 _ _ (S5 _ _ (S4 _ _ e1))
       have e2':=S6 _ _ (S5 _ _ e2)
       have e3':=S6 _ _ e3
       have tb6:TupL prB H6 zb bs:=((tb.same S4).same S5).same S6
       have hK6:=hK.sm ((S1.trans S2).trans S26)
       clear e1 e2 e3
       try unfold zm
       try dsimp only
       have rd6:Rd H6 ktd (.dK ((ps.map fun y=>(y.1,V.ref y.2.1)).map fun p=>((.inr p.1:Key),p.2))):=by
         rw [List.map_map]; exact hK6.ht
       refine ⟨_,rfl,_,rfl,_,rfl,kd,_,rfl,hK6.g3,_,rfl,kd,_,rfl,hK6.g1,ktd,_,rfl,rd6,(by rw [List.length_map]; have:=hw.few; omega),fun l4 sb f4 pm4 so4=>?_⟩
       generalize hG:upd H6 l4 _=H7
       obtain ⟨S7,e4⟩:=qH hG f4
       clear hG
       refine ⟨qk (Nat.le_of_ble_eq_true rfl),fun R fR=>?_⟩
       generalize hG:upd H7 R _=H8
       obtain ⟨S8,eR⟩:=qH hG fR
       clear hG
       rw [List.map_map] at pm4
       have esab:sa=sb:=j8 ((pm.trans (by rw [kt]; exact List.Perm.refl _)).trans pm4.symm) so so4
       subst esab
       have S68:=S7.trans S8
       have oks:∀ n∈sa,PyData.strOk n=true:=fun n m=>by
         obtain ⟨y,my,ey⟩:=List.mem_map.mp (pm.mem_iff.mp m)
         exact ey▸ZT (hL.tn y my)
       obtain ⟨ln1,ln2⟩:=qci (es.map (·.nm)) (by rw [enn]; exact nok)
       obtain ⟨ls1,ls2⟩:=qci sa oks
       have cl:PyData.canLay0 (.list [.list ((es.map (·.nm)).map .str),.list (bs.map dB),.list (sa.map .str)])=true:=by simp only [PyData.canLay0,PyData.canLayAll0,ln1,lb1,ls1]; rfl
       have sh:=shp cl (by simp only [PyData.depth,PyData.depthAll]; omega)
       have tb8:TupL prB H8 zb bs:=tb6.same S68
       have hK8:=hK6.sm S68
       obtain ⟨zk,hbk,tbk⟩:=hK8.hb
       have hD8:=S68 _ _ (S26 _ _ (S2 _ _ hD))
       have eL8:=S68 _ _ eL
       have e28:=S68 _ _ e2'
       refine qcd (d:=.list [.list ((es.map (·.nm)).map .str),.list (bs.map dB),.list (sa.map .str)]) (.lst (.inl eL8) (.cons (.lst (.inl (S68 _ _ e1')) (qa3 _)) (.cons (.lst (.inl e28) (qiL tb8)) (.cons (.lst (.inl (S68 _ _ e3')) (qa3 _)) .nil)))) (.lst (.inl eR) (.cons (.lst (.inl (by rw [enn]; exact hD8)) (qa3 _)) (.cons (.lst (.inl hbk) (qiL tbk)) (.cons (.lst (.inl (S8 _ _ e4)) (qa3 _)) .nil)))) cl sh ⟨_,rfl,qcr ?_⟩
       have lsts:∀ z∈([.ref l1,.ref l2,.ref l3]:List V),∃ l ys,z=.ref l∧H8 l=some (.lst ys)∧ys.length≤100∧H2 l=none∧l≠L:=by
         intro z m
         simp only [List.mem_cons,List.not_mem_nil,or_false] at m
         rcases m with rfl | rfl | rfl
         · exact ⟨l1,_,rfl,S68 _ _ e1',by rw [List.length_map,enn,List.length_map]; have:=hw.fews; omega,g1,nL1⟩
         · exact ⟨l2,_,rfl,e28,by rw [tb8.1]; exact hw.fewb,g2,nL2⟩
         · exact ⟨l3,_,rfl,S68 _ _ e3',by rw [List.length_map,pm.length_eq,List.length_map]; omega,g3,nL3⟩
       try unfold zm
       try dsimp only
       refine ⟨_,rfl,L,rfl,⟨_,SqL.of eL8⟩,fun C fC=>?_⟩
       refine z9 (K:=K) (a:=L) (xs:=[.ref l1,.ref l2,.ref l3]) (D:=C) (fun i σ H9=>∃ c0:Option V,σ=[c0]∧Same H8 H9∧H9 C=some (.lst [])) ⟨none,rfl,Same.new _ fC,qd⟩ (fun i σ H9 _ ⟨_,_,S9,_⟩=>SqL.of (S9 _ _ eL8)) ?_ ?_
       · rintro i' z σ H9 hz ⟨c0,rfl,S9,hC⟩
         obtain ⟨l,ys,rfl,hl,_⟩:=lsts z (List.mem_of_getElem? hz)
         have tyl:tyN H9 (.ref l)=some "list":=by simp only [tyN]; rw [S9 _ _ hl]
         exact ⟨_,rfl,_,_,_,rfl,(by decide),tyl,true,rfl,zy rfl ⟨_,rfl,S9,hC⟩⟩
       rintro σ H9 ⟨c0,rfl,S9,hC⟩
       refine ⟨qk (Nat.le_of_ble_eq_true rfl),fun nl fnl=>?_⟩
       generalize hG:upd H9 nl _=Ha
       obtain ⟨Sa,ea⟩:=qH hG fnl
       clear hG
       refine .inr ⟨_,_,.lst (.inl (Sa _ _ hC)) .nil,.lst (.inl ea) .nil,rfl,rfl,_,rfl,qcr ?_⟩
       have S8a:=S9.trans Sa
       have hKa:=hK8.sm S8a
       obtain ⟨zka,hbka,tbka⟩:=hKa.hb
       refine ⟨_,rfl,.inl ⟨L,_,_,_,rfl,rfl,SqL.of (S8a _ _ eL8),rfl,_,rfl,kd,_,rfl,hKa.g3,l2,kbl,zb,bs.map dB,rfl,S8a _ _ e28,qiL (tb8.same S8a),.lst (.inl hbka) (qiL tbka),clB,shB,qjo (tb8.same S8a),fun Hb Sb=>⟨true,rfl,zy rfl ?_⟩⟩⟩
       have S8b:=S8a.trans Sb
       have S2b:=(S26.trans S68).trans S8b
       have ls2:∀ z∈([.ref l1,.ref l2,.ref l3]:List V),∃ l ys,z=.ref l∧Hb l=some (.lst ys)∧ys.length≤100+0∧H2 l=none∧l≠L:=fun z m=>by
         obtain ⟨l,ys,a1,a2,a3,a4⟩:=lsts z m
         exact ⟨l,ys,a1,S8b _ _ a2,by omega,a4⟩
       try unfold zm
       try dsimp only
       refine ⟨_,rfl,L,rfl,⟨_,SqL.of (S8b _ _ eL8)⟩,Qa (K:=K) (a:=L) (xs:=[.ref l1,.ref l2,.ref l3]) (fun j σ H'=>∃ s5:Option V,σ=[some (.ref x),some (.ref kd),some (.ref D),some (.int (0+(i:Int))),some (.ref L),s5,none,none,none]∧Same H2 H'∧H' L=some (.lst [.ref l1,.ref l2,.ref l3])∧∀ z∈([.ref l1,.ref l2,.ref l3]:List V),∃ l ys,z=.ref l∧H' l=some (.lst ys)∧ys.length≤100+j∧H2 l=none∧l≠L) ⟨_,rfl,S2b,S8b _ _ eL8,ls2⟩ (fun j σ H' _ ⟨_,_,_,h,_⟩=>SqL.of h) ?_ ?_⟩
       · rintro j z σ Hc hz ⟨s5,rfl,Sc,hLc,lc⟩
         obtain ⟨l,ys,rfl,hl,ly,gl,nl'⟩:=lc z (List.mem_of_getElem? hz)
         have hj:j < 3:=(List.getElem?_eq_some_iff.mp hz).1
         refine ⟨_,rfl,.inl ⟨rfl,_,SqL.of hl⟩,l,_,_,rfl,rfl,hl,qE (by omega),?_⟩
         refine ⟨_,rfl,Sc.put gl _,by rw [qh nl'.symm]; exact hLc,fun z m=>?_⟩
         obtain ⟨l',ys',a1,a2,a3,a4,a5⟩:=lc z m
         by_cases e:l'=l
         · subst e
           rw [hl] at a2
           cases a2
           exact ⟨l',_,a1,qd,by rw [List.length_append]; show _+1≤_; omega,a4,a5⟩
         · exact ⟨l',ys',a1,by rw [qh e]; exact a2,by omega,a4,a5⟩
       · rintro σ Hc ⟨s5,rfl,Sc,_⟩
         exact ⟨_,_,_,rfl,S2.trans Sc⟩
     · rintro σ H2 ⟨s3,s4,s5,rfl,S2⟩
       exact hN _ _ ⟨s3,s4,s5,rfl,S2⟩
   rintro _ H2 ⟨s3,s4,s5,rfl,S2⟩
   have S12:=S1.trans S2
   refine ⟨_,rfl,kd,_,rfl,(hK.sm S12).g2,ksl,rfl,⟨_,SqL.of (S12 _ _ hs)⟩,Qa (K:=K) (a:=ksl) (xs:=zs) (D:={ nx:=qgb (tC (.bl true)) { nx:=fun _ H'=>Q .non H',rt:=Q },rt:=Q }) (fun j σ H'=>∃ s6 s7 s8:Option V,σ=[some (.ref x),some (.ref kd),some (.ref D),s3,s4,s5,s6,s7,s8]∧Same H H') ⟨_,_,_,rfl,S12⟩ (fun j σ H' _ ⟨_,_,_,_,S⟩=>SqL.of (S _ _ hs)) ?_ ?_⟩
   · rintro j z σ H3 hz ⟨s6,s7,s8,rfl,S3⟩
     obtain ⟨s,u,hsj,rfl,hu'⟩:=tz.of hz
     obtain ⟨e,hej,hes'⟩:∃ e,es[j]?=some e∧eS e=s:=by
       rw [← hes,List.getElem?_map] at hsj
       exact Option.map_eq_some_iff.mp hsj
     subst hes'
     have me:=List.mem_of_getElem? hej
     have hL3:=hL.sm S3
     have hK3:=hK.sm S3
     have hu3:=S3 _ _ hu'
     have en3:=hL3.en e me
     have sp3:=hL3.sp e me
     obtain ⟨W,due⟩:=qiN sp3 (hw.pl (eS e) (List.mem_of_getElem? hsj))
     have dueT:=qiM het due
     have hps:∀ {H':Hp},Same H H'->∀ y∈ps,Rs H' y.2.1 y.2.2∧Good y.2.2:=fun S y my=>⟨((hK.sm S).rs y my),hw.good y my⟩
     refine ⟨_,rfl,x,dx,_,rfl,hL3.hx,rfl,_,rfl,.inr (.inl ⟨u,_,_,_,rfl,rfl,SqT.of hu3,rfl,x,dx,td,ed,bl,ts,es,bs,e,rfl,hL3,me,?_⟩)⟩
     obtain ⟨C,ty,hk⟩:=qhn T en3
     obtain ⟨Ce,de,fe,he,cle,nae,lke⟩:=qfP T en3
     refine ⟨_,rfl,_,_,_,_,rfl,ty,hk,true,rfl,zy rfl ?_⟩
     refine qhw T (fun R h=>⟨_,rfl,h⟩) en3 ?_
     refine ⟨_,rfl,.inr (.inl ⟨u,_,_,_,rfl,rfl,SqT.of hu3,rfl,.inl ⟨rfl,_,rfl,qeK (fun g=>absurd rfl g) (fun _=>?_)⟩⟩)⟩
     refine ⟨_,rfl,e.x,Ce,de,fe,_,rfl,he,cle,nae,lke,_,rfl,.inr (.inl ⟨u,_,_,_,rfl,rfl,SqT.of hu3,rfl,.inl ⟨rfl,_,rfl,qeK (fun g=>absurd rfl g) (fun _=>?_)⟩⟩)⟩
     try unfold zm
     try dsimp only
     refine ⟨_,rfl,x,dx,_,rfl,hL3.hx,rfl,_,rfl,.inr (.inl ⟨u,_,_,_,rfl,rfl,SqT.of hu3,rfl,x,dx,td,ed,bl,ts,es,bs,e,W,rfl,hL3,me,dueT,fun f r H4 ff S4 R4 c4 l4 m4=>?_⟩)⟩
     have S34:=S3.trans S4
     have hK4:=hK.sm S34
     try unfold zm
     try dsimp only
     refine ⟨_,rfl,_,rfl,_,rfl,kd,_,rfl,hK4.g1,u,ktd,e.wd,e.nm,e.pl,e.lo,e.hi,ps,W,rfl,S34 _ _ hu',hK4.ht,hw.nd,hps S34,due,fun d2 r2 H5 fd2 S5 R5 c5 l5 m5=>?_⟩
     have er:r2=r:=qa6 c5 c4 fun n=>(m5 n).trans (m4 n).symm
     subst er
     obtain ⟨z1,hz1,dz1,cz,sz,nz⟩:=JR (R4.same S5)
     obtain ⟨z2,hz2,dz2,_,_,_⟩:=JR R5
     refine ⟨f,d2,z1,_,rfl,hz1,dz1,.lst (.inl hz2) dz2,cz,sz,nz,fun H6 S6=>⟨true,rfl,zy rfl ?_⟩⟩
     obtain ⟨zf,hf,tf⟩:=(R4.same S5).same S6
     try unfold zm
     try dsimp only
     refine ⟨_,rfl,.inl ⟨rfl,_,SqL.of hf⟩,qk (Nat.le_of_ble_eq_true rfl),fun t ft=>?_⟩
     generalize hG:upd H6 t _=H7
     obtain ⟨S7,e7⟩:=qH hG ft
     clear hG
     refine ⟨f,_,_,rfl,rfl,S7 _ _ hf,qE (by rw [tf.1]; omega),?_⟩
     have S8:Same H (upd H7 f (.lst (zf++[.ref t]))):=(((S34.trans S5).trans S6).trans S7).put (S3.none ff) _
     generalize upd H7 f (.lst (zf++[.ref t]))=H8 at S8 ⊢
     have hL8:=hL.sm S8
     have hu8:=S8 _ _ hu'
     try dsimp only
     refine ⟨_,rfl,x,dx,_,rfl,hL8.hx,rfl,_,rfl,.inr (.inl ⟨u,_,_,_,rfl,rfl,SqT.of hu8,rfl,x,dx,td,ed,bl,ts,es,bs,e,W,rfl,hL8,me,dueT,fun f2 r3 H9 ff9 S9 R9 c9 l9 m9=>?_⟩)⟩
     have S89:=S8.trans S9
     have hK9:=hK.sm S89
     refine ⟨_,rfl,_,rfl,kd,_,rfl,hK9.g1,u,ktd,e.wd,e.nm,e.pl,e.lo,e.hi,ps,W,rfl,S89 _ _ hu',hK9.ht,hw.nd,hps S89,due,fun d3 r4 Ha fd3 Sa Ra ca la ma=>?_⟩
     have er:r4=r3:=qa6 ca c9 fun n=>(ma n).trans (m9 n).symm
     subst er
     obtain ⟨z1,hz1,dz1,cz,sz,nz⟩:=JR (R9.same Sa)
     obtain ⟨z2,hz2,dz2,_,_,_⟩:=JR Ra
     refine ⟨f2,d3,z1,_,rfl,hz1,dz1,.lst (.inl hz2) dz2,cz,sz,nz,fun Hb Sb=>⟨true,rfl,zy rfl ?_⟩⟩
     exact ⟨_,_,_,rfl,(S89.trans Sa).trans Sb⟩
   · rintro σ H3 ⟨s6,s7,s8,rfl,S3⟩
     exact kk H3 S3
end
end K35
namespace K35
open PySem L2 PySem.NumText PyProof.Rows KC M04
section
variable {P:Program} {w:World} {K:PySem.W.Frag} {mg:Str->Option Value} {base:Heap}
end
abbrev prD (q:Str×Int):List V:=[.str q.1,.int q.2]
abbrev dD (q:Str×Int):PyData:=.tuple [.str q.1,.int q.2]
abbrev fD (ts:Pls) (t:Int) (pl:Str):Str×Int:=(pl,rdv ts t pl)
theorem qiK {H:Hp}:∀ {zs:List V} {bs:List (Str×Int)},TupL prD H zs bs->DVs H zs (bs.map dD)
 | [],[],_=>.nil
 | z::zs,p::ps,h=>by
   obtain ⟨t,e,q⟩:=h.2 0 z p rfl rfl
   subst e
   exact .cons (.tup (.inl q) (.cons (.str _) (.cons (.int _) .nil))) (qiK ⟨by simpa using h.1,fun i z p e1 e2=>h.2 (i+1) z p (by simpa using e1) (by simpa using e2)⟩)
 | [],_::_,h=>by simp [TupL] at h
 | _::_,[],h=>by simp [TupL] at h
theorem qjK:∀ (bs:List (Str×Int)),(∀ b∈bs,PyData.strOk b.1=true)->PyData.canLayAll0 (bs.map dD)=true∧PyData.depthAll (bs.map dD)≤2
 | [],_=>⟨rfl,by simp [PyData.depthAll]⟩
 | p::r,h=>by
   obtain ⟨h1,h2⟩:=qjK r fun x m=>h x (List.mem_cons_of_mem _ m)
   have o1:=h p List.mem_cons_self
   refine ⟨by simp [PyData.canLayAll0,PyData.canLay0,h1,o1],?_⟩
   simp only [List.map_cons,PyData.depthAll,PyData.depth]; omega
theorem qhg {H:Hp} {ts:Pls} {t:Int} {zs:List V} {ss:List Str} (h:TupL (fun q:Key×V=>[kV q.1,q.2]) H zs (rdk ts t ss)):TupL prD H zs (ss.map (fD ts t)):=by
 refine ⟨by rw [h.1,List.length_map,List.length_map],fun j z y e1 e2=>?_⟩
 rw [List.getElem?_map] at e2
 obtain ⟨s,hs,rfl⟩:=Option.map_eq_some_iff.mp e2
 obtain ⟨u,e,hu⟩:=h.2 j z _ e1 (by rw [List.getElem?_map,hs]; rfl)
 exact ⟨u,e,hu⟩
inductive J8 (a:Ad) (vs:List V) (H:Hp) (Q:VK):Prop
 | mk (x dx td ed bl kd ktd ksl kbl:Addr) (ts:Pls) (es:List Ent) (bs:List (Str×Str×Int)) (ps:Pls) (ss:List S5) (t:Int) (h1:vs=[.ref x,.ref kd,.int t]) (h2:Lg a H x dx td ed bl ts es bs) (h3:Kp H kd ktd ksl kbl ps ss bs) (h4:Kw ps ss bs) (h5:ts.map tR=ps.map tR) (h6:0≤t) (h7:t≤1000000000) (h8:∀ H',Same H H'->Q (.bl true) H'):J8 a vs H Q
def qbp (a:Ad):Sp:=fun vs H Q _=>J8 a vs H Q
section
variable {P:Program} {w:World} {K:PySem.W.Frag} {mg:Str->Option Value} {base:Heap}
theorem qeA {a:Ad} (T:Txt K mg a):qC P w K mg base CX0 7 a.f_4 a.fd_4 ["_law_log","_law_kept","_law_moment"] (qbp a):=by
 have G_m:qC P w K mg base CX0 6 a.f_m a.fd_m ["self","moment"] (Q7 a):=jq T
 have G_ai:qC P w K mg base CX0 1 a.f_ai a.fd_ai ["self"] (Jj a):=qb8 T
 have G_ag:qC P w K mg base CX0 2 a.f_ag a.fd_ag ["self","place"] (J3 a):=qc2 T
 refine T.d_4.F.ok sc_Lclocks (fun vs H Q E h=>?_) (fun cdv A outer s H vs Q E hr h=>?_)
 · obtain ⟨x,dx,td,ed,bl,kd,ktd,ksl,kbl,ts,es,bs,ps,ss,t,rfl,hL,hK,hw,het,t0,t1,kk⟩:=h
   rfl
 · obtain ⟨x,dx,td,ed,bl,kd,ktd,ksl,kbl,ts,es,bs,ps,ss,t,rfl,hL,hK,hw,het,t0,t1,kk⟩:=h
   have hu:=qK hr
   have hU:=hr.units
   have h_m:Room (6) _:=hr.mono (by decide)
   have h_ai:Room (1) _:=hr.mono (by decide)
   have h_ag:Room (2) _:=hr.mono (by decide)
   refine ⟨_,(qf (qF (i:=3) sc_Lclocks.nd rfl (Or.inl rfl) (qN qb))
     (qf (zK PassesOwn.never rfl (ze (qq (r:=qd0) (JU rfl) (by rfl) T.n_sorted QR (qa (qI hu (pv 1) qB (fun _ _=>rfl)) qb))) (qt (i:=4) (sc_Lclocks.nd) rfl (Or.inl rfl))
       (qf (qF (i:=5) sc_Lclocks.nd rfl (Or.inl rfl) (qw Zu (pv 2) (qD (r:=rIx K) qr (Qt rfl (CompOk.def ["_law_begin","_law_shift_here","_law_moment"] [none,none,some 2]) (ze (qI hu (qI hu (pv 1) qB (fun _ _=>rfl)) (pv 4) (fun _ _=>rfl))) (fun _ _ _ _ _=>(show PG _ _ (qhk K 2 _) from (QU rfl (qz (qt (i:=0) (show List.Nodup (["_law_begin","_law_shift_here","_law_moment"]:List Str) by decide +kernel) rfl (Or.inl rfl)) (qz (qt (i:=1) (show List.Nodup (["_law_begin","_law_shift_here","_law_moment"]:List Str) by decide +kernel) rfl (Or.inl rfl)) zZ))))) (fun _ _ _ _ _=>(qaK (qA qaO (pv 0) (pv 2) (qG _)))) (fun _ _ _ _ _=>(pv 1))) (ZQ Qq qc) (fun _ _=>rfl))))
       (qf (qU (Ja PySem.F.plainAttrs_list PySem.F.slot_list_append PySem.F.type_list_append zn (pv 3) (qa (zC (qa (pv 4) (qa (pv 5) qb))) qb)))
       (qg (qO (qA (uNe hU) (qX (qW (pv 0) T.cl_Log T.d_ag.mt G_ag h_ag T.d_ag.b .nil ql (qa (pv 4) qb)) T.cl_Table T.d_ai.mt G_ai h_ai T.d_ai.b .nil ql) (qI hu (qI hu (pv 1) qB (fun _ _=>rfl)) (pv 4) (fun _ _=>rfl)) (qG _))
         (qg (qu Zg))
         qv)))))
     (qf (qF (i:=6) sc_Lclocks.nd rfl (Or.inl rfl) (qW (pv 0) T.cl_Log T.d_m.mt G_m h_m T.d_m.b .nil ql (qa (pv 2) qb)))
     (qf (qO (PW.pt (qaJ (qZ (qY (qq zA (by rfl) T.n_isinstance qx (qa (pv 6) (qa (Qc (v:=.ty "dict") rfl T.n_dict qeR rfl) qb))))) (jZ (qA (uNe hU) (qcU rfl rfl T.n_list (pv 6)) (pv 3) (qG _)))))
       (qg (qu Zg))
       qv)
     (qf (qaL hu (pv 6) qB qc rfl)
     (qg (qu (Zs (uEq hU) (qcU rfl rfl T.n_list (qW (pv 0) T.cl_Log T.d_m.mt G_m h_m T.d_m.b .nil ql (qa (pv 2) qb))) (pv 3) (qG _))))))))),?_⟩
   try dsimp only [zx,Cx.nox]
   have kt:=qcl het
   have fewt:ts.length≤6:=by
     have:=congrArg List.length het
     rw [List.length_map,List.length_map] at this
     rw [this]; exact hw.few
   refine ⟨qk (Nat.le_of_ble_eq_true rfl),fun du fdu=>?_⟩
   generalize hG:upd H du _=G1
   obtain ⟨S1,e1⟩:=qH hG fdu
   clear hG
   try unfold zm
   try dsimp only
   refine zc (t:=qe7 _ _ _) (fun σ' H'=>∃ (s4 s5:Option V) (sa:List Str) (zs:List V),σ'=[some (.ref x),some (.ref kd),some (.int t),some (.ref du),s4,s5,none]∧Same H H'∧H' du=some (.lst zs)∧TupL prD H' zs (sa.map (fD ts t))∧sa.Perm (ts.map (·.1))∧sortedS sa=true) (fun N hN=>?_) ?_
   · have hK1:=hK.sm S1
     have rd1:Rd G1 ktd (.dK ((ps.map fun y=>(y.1,V.ref y.2.1)).map fun p=>((.inr p.1:Key),p.2))):=by
       rw [List.map_map]; exact hK1.ht
     refine ⟨_,rfl,kd,_,rfl,hK1.g1,ktd,_,rfl,rd1,(by rw [List.length_map]; have:=hw.few; omega),fun l sa fl pm0 so=>?_⟩
     generalize hG:upd G1 l _=G2
     obtain ⟨S2,e2⟩:=qH hG fl
     clear hG
     rw [List.map_map] at pm0
     have pm:sa.Perm (ts.map (·.1)):=by rw [kt]; exact pm0
     have lsa:sa.length≤6:=by rw [pm.length_eq,List.length_map]; exact fewt
     have nld:l≠du:=(qi e1 fl).symm
     refine ⟨l,rfl,⟨_,SqL.of e2⟩,Qa (K:=K) (a:=l) (xs:=sa.map V.str) (D:={ nx:=N,rt:=Q }) (fun j σ H'=>∃ (s4 s5:Option V) (zs:List V),σ=[some (.ref x),some (.ref kd),some (.int t),some (.ref du),s4,s5,none]∧Same H H'∧H' l=some (.lst (sa.map V.str))∧H' du=some (.lst zs)∧TupL prD H' zs ((sa.take j).map (fD ts t))) ⟨_,_,[],rfl,S1.trans S2,e2,S2 _ _ e1,.nil⟩ (fun j σ H' _ ⟨_,_,_,_,_,h,_⟩=>SqL.of h) ?_ ?_⟩
     · rintro j z σ H3 hz ⟨s4,s5,zs,rfl,S3,hl3,hd3,td3⟩
       obtain ⟨y,hy,rfl⟩:∃ y,sa[j]?=some y∧V.str y=z:=by
         rw [List.getElem?_map] at hz
         exact Option.map_eq_some_iff.mp hz
       have my:=pm.mem_iff.mp (List.mem_of_getElem? hy)
       obtain ⟨p,mp,ep⟩:=List.mem_map.mp my
       subst ep
       obtain ⟨p',mp',ep'⟩:∃ p'∈ps,tR p'=tR p:=by
         have:tR p∈ps.map tR:=het▸List.mem_map_of_mem (f:=tR) mp
         obtain ⟨p',m,e⟩:=List.mem_map.mp this
         exact ⟨p',m,e⟩
       injection ep' with ep1 ep2
       have hK3:=hK.sm S3
       have hL3:=hL.sm S3
       obtain ⟨v,hv,_,_⟩:=qfA (hL.tg p mp) t0
       have er:=qfi (t:=t) hL.ndt p mp
       rw [hv] at er
       have dgp:∀ {H':Hp},Same H H'->qbM H' ktd (.str p.1) (some (.ref p'.2.1)):=fun S=>.inl ⟨_,.inr p.1,(hK.sm S).ht,rfl,by rw [← ep1]; exact (qbf hw.nd p' mp').symm⟩
       obtain ⟨zr,hq,tp⟩:=hK3.rs p' mp'
       have few:=(hw.good p' mp').few
       rw [ep2] at tp few
       have hl:zr.length=p.2.2.length:=tp.1
       refine ⟨_,rfl,_,rfl,kd,_,rfl,hK3.g1,_,rfl,ktd,_,rfl,dgp S3,p'.2.1,rfl,⟨_,SqL.of hq⟩,fun C fC=>?_⟩
       refine z9 (K:=K) (a:=p'.2.1) (xs:=zr) (D:=C) (fun i σ H4=>∃ c0 c1:Option V,σ=[c0,c1,some (.int t)]∧Same H3 H4∧H4 C=some (.lst (((p.2.2.take i).filter fun r=>decide (r.1≤t)).map fun r=>V.int r.2))) ⟨none,none,rfl,Same.new _ fC,qd⟩ (fun i σ H4 _ ⟨_,_,_,S,_⟩=>SqL.of (S _ _ hq)) ?_ ?_
       · rintro i w σ H4 hx ⟨c0,c1,rfl,S,hC⟩
         obtain ⟨r,u,hr',rfl,hu'⟩:=tp.of hx
         have et:p.2.2.take (i+1)=p.2.2.take i++[r]:=by rw [List.take_add_one,hr']; rfl
         refine ⟨u,_,rfl,SqT.of (S _ _ hu'),rfl,_,_,rfl,_,_,rfl,rfl,?_⟩
         refine ⟨_,rfl,_,rfl,_,_,rfl,rfl,_,rfl,?_⟩
         refine Zh (fun g=>?_) (fun g=>?_)
         · refine ⟨_,rfl,_,hC,qE ?_,_,_,rfl,S.put fC _,?_⟩
           · rw [List.length_map]
             refine Nat.le_trans (List.length_filter_le _ _) ?_
             rw [List.length_take]; omega
           · rw [qd,et,List.filter_append,List.map_append,show List.filter (fun r=>decide (r.1≤t)) [r]=[r] by simp [g]]
             rfl
         · refine ⟨_,_,rfl,S,?_⟩
           rw [et,List.filter_append,show List.filter (fun r=>decide (r.1≤t)) [r]=[] by simp [g],List.append_nil]
           exact hC
       rintro σ H4 ⟨c0,c1,rfl,S,hC⟩
       rw [List.take_of_length_le (by rw [hl]; exact Nat.le_refl _)] at hC
       have hidx:atI ((p.2.2.filter fun r=>decide (r.1≤t)).map fun r=>V.int r.2) (-1)=some (.int v):=by
         unfold na at hv
         cases hg:(List.filter (fun r=>decide (r.1≤t)) p.2.2).getLast? with
         | none=>rw [hg] at hv; cases hv
         | some r =>
           rw [hg] at hv
           have ev:r.2=v:=by simpa using hv
           rw [List.getLast?_eq_getElem?] at hg
           have hlt:=(List.getElem?_eq_some_iff.mp hg).1
           generalize hF:List.filter (fun r=>decide (r.1≤t)) p.2.2=F at hg hlt
           unfold atI ixN
           rw [List.length_map,if_neg (by decide),if_pos (by omega)]
           show (F.map fun r=>V.int r.2)[((-1:Int)+(F.length:Int)).toNat]?=_
           rw [show ((-1:Int)+(F.length:Int)).toNat=F.length - 1 by omega,List.getElem?_map,hg,← ev]
           rfl
       refine ⟨_,rfl,.inl ⟨C,_,_,_,rfl,rfl,SqL.of hC,hidx,.inl ⟨_,_,rfl,rfl,?_⟩⟩⟩
       have S4:=S3.trans S
       have hd4:=S _ _ hd3
       try unfold zm
       try dsimp only
       refine ⟨_,rfl,.inl ⟨rfl,_,SqL.of hd4⟩,_,rfl,_,rfl,qk (Nat.le_of_ble_eq_true rfl),fun u fu=>?_⟩
       generalize hG:upd H4 u _=H5
       obtain ⟨S5,e5⟩:=qH hG fu
       clear hG
       have hd5:=S5 _ _ hd4
       have td5:TupL prD H5 zs ((sa.take j).map (fD ts t)):=(td3.same S).same S5
       have e5':H5 u=some (.tup (prD (fD ts t p.1))):=by
         rw [e5]
         show _=some (HO.tup [V.str p.1,V.int (rdv ts t p.1)])
         rw [er,Int.add_comm]; rfl
       refine ⟨du,_,_,rfl,rfl,hd5,qE (by rw [td5.1,List.length_map,List.length_take]; omega),?_⟩
       have S6:Same H (upd H5 du (.lst (zs++[.ref u]))):=(S4.trans S5).put fdu _
       have hd6:(upd H5 du (.lst (zs++[.ref u]))) du=some (.lst (zs++[.ref u])):=qd
       have hl6:(upd H5 du (.lst (zs++[.ref u]))) l=some (.lst (sa.map V.str)):=by rw [qh nld]; exact S5 _ _ (S _ _ hl3)
       have td6:TupL prD (upd H5 du (.lst (zs++[.ref u]))) (zs++[.ref u]) ((sa.take (j+1)).map (fD ts t)):=by
         rw [List.take_add_one,hy]
         show TupL prD _ _ ((sa.take j++[p.1]).map _)
         rw [List.map_append]
         exact (td5.snoc (p:=fD ts t p.1) e5').put hd5
       generalize upd H5 du (.lst (zs++[.ref u]))=H6 at S6 hd6 hl6 td6 ⊢
       have hL6:=hL.sm S6
       have tb6:=hL6.tt p mp
       obtain ⟨k0,dt,zs0,ht,hk0,tp0⟩:=id tb6
       try dsimp only
       refine ⟨_,rfl,x,dx,_,rfl,hL6.hx,rfl,_,rfl,x,dx,td,ed,bl,ts,es,bs,p,rfl,hL6,mp,p.2.1,dt,_,rfl,ht,qa2 _ (by decide),p.2.1,p.2.2,rfl,tb6,fun d2 H7 fd2 S7 R7=>?_⟩
       have S67:=S6.trans S7
       have hK7:=hK.sm S67
       have R8:=hK7.rs p' mp'
       rw [ep2] at R8
       obtain ⟨z1,hz1,dz1,cz,sz,nz⟩:=JR R7
       obtain ⟨z2,hz2,dz2,_,_,_⟩:=JR R8
       refine ⟨_,rfl,kd,_,rfl,hK7.g1,_,rfl,ktd,_,rfl,dgp S67,qcd (.lst (.inl hz1) dz1) (.lst (.inl hz2) dz2) cz sz ⟨_,rfl,qcr ?_⟩⟩
       exact ⟨_,_,_,rfl,S67,S7 _ _ hl6,S7 _ _ hd6,td6.same S7⟩
     · rintro σ H3 ⟨s4,s5,zs,rfl,S3,hl3,hd3,td3⟩
       rw [List.length_map,List.take_length] at td3
       exact hN _ _ ⟨s4,s5,sa,zs,rfl,S3,hd3,td3,pm,so⟩
   rintro _ H3 ⟨s4,s5,sa,zs,rfl,S3,hd3,td3,pm,so⟩
   have hL3:=hL.sm S3
   have oks:∀ b∈sa.map (fD ts t),PyData.strOk b.1=true:=fun b m=>by
     obtain ⟨y,my,rfl⟩:=List.mem_map.mp m
     obtain ⟨q,mq,eq⟩:=List.mem_map.mp (pm.mem_iff.mp my)
     exact eq▸ZT (hL.tn q mq)
   obtain ⟨ld1,ld2⟩:=qjK _ oks
   have cl:PyData.canLay0 (.list ((sa.map (fD ts t)).map dD))=true:=by simp only [PyData.canLay0,ld1]
   have sh:=shp cl (by simp only [PyData.depth]; omega)
   refine ⟨_,rfl,x,dx,_,rfl,hL3.hx,rfl,_,rfl,x,dx,td,ed,bl,ts,es,bs,t,rfl,hL3,fewt,t0,t1,fun fd sb H4 ffd S4 pm4 so4 hfd=>?_⟩
   have eab:sb=sa:=j8 (pm4.trans pm.symm) so4 so
   subst eab
   have tyd:tyN H4 (.ref fd)=some "dict":=by simp only [tyN]; rw [hfd]
   try unfold zm
   try dsimp only
   refine ⟨_,rfl,_,_,_,rfl,(by decide),tyd,true,rfl,zy rfl ?_⟩
   refine ⟨_,rfl,fd,_,rfl,.inl hfd,fun li zi H5 fli S5 eli ti=>?_⟩
   have hd5:=S5 _ _ (S4 _ _ hd3)
   have td5:TupL prD H5 zs (sb.map (fD ts t)):=(td3.same S4).same S5
   refine ⟨_,rfl,qcd (.lst (.inl eli) (qiK (qhg ti))) (.lst (.inl hd5) (qiK td5)) cl sh ⟨_,rfl,qcr ?_⟩⟩
   have hfd5:=S5 _ _ hfd
   have S35:=(S3.trans S4).trans S5
   have fdH:H fd=none:=S3.none ffd
   try unfold zm
   try dsimp only
   refine ⟨_,rfl,fd,_,rfl,DPut.k (k:=.inr "x") hfd5 (by rw [List.length_map,pm.length_eq,List.length_map]; exact Nat.lt_of_lt_of_le (by omega:ts.length < 60) (qk (by decide:60≤1000))),?_⟩
   generalize hG:upd H5 fd _=H6
   have S6:Same H H6:=by rw [← hG]; exact S35.put fdH _
   have hd6:H6 du=some (.lst zs):=by rw [← hG,qh (qJ hd5 hfd5 (by intro z; cases z))]; exact hd5
   have td6:TupL prD H6 zs (sb.map (fD ts t)):=by rw [← hG]; exact TupL.putD td5 hfd5 _
   clear hG
   have hL6:=hL.sm S6
   refine ⟨_,rfl,x,dx,_,rfl,hL6.hx,rfl,_,rfl,x,dx,td,ed,bl,ts,es,bs,t,rfl,hL6,fewt,t0,t1,fun fd2 sc H7 ffd2 S7 pm7 so7 hfd7=>?_⟩
   have eac:sc=sb:=j8 (pm7.trans pm.symm) so7 so
   subst eac
   refine ⟨fd2,_,rfl,.inl hfd7,fun lj zj H8 flj S8 elj tj=>⟨_,rfl,qhZ (.lst (.inl elj) (qiK (qhg tj))) (.lst (.inl (S8 _ _ (S7 _ _ hd6))) (qiK ((td6.same S7).same S8))) cl sh (kk H8 ((S6.trans S7).trans S8))⟩⟩
end
end K35
namespace K35
open PySem L2 PySem.NumText PyProof.Rows KC M04
section
variable {P:Program} {w:World} {K:PySem.W.Frag} {mg:Str->Option Value} {base:Heap}
end
theorem Z3 {H:Hp} {a b:Addr} {o:HO} (h:upd H a o b=none):H b=none:=by
 by_cases e:b=a
 · subst e; rw [qd] at h; cases h
 · rw [qh e] at h; exact h
theorem Rs.frz {H:Hp} {q d:Addr} {rows:List (Int×Int)} {kvs:List (Key×V)} {o:HO} (h:Rs H q rows) (e:H d=some (.dK kvs)):Rs (upd H d o) q rows:=by
 obtain ⟨zs,hq,tz⟩:=h
 exact ⟨zs,by rw [qh (qJ hq e (by intro z; cases z))]; exact hq,TupL.putD tz e _⟩
theorem Kp.frz {H:Hp} {kd ktd ksl kbl d:Addr} {ps:Pls} {ss:List S5} {bs:List (Str×Str×Int)} {kvs:List (Key×V)} {ob:Obj} (h:Kp H kd ktd ksl kbl ps ss bs) (e:H d=some (.dK kvs)) (n:kd≠d):Kp (upd H d (.frz ob (.dK kvs))) kd ktd ksl kbl ps ss bs:=by
 obtain ⟨zs,h1,h2⟩:=h.hs
 obtain ⟨ws,h3,h4⟩:=h.hb
 refine ⟨by rw [qh n]; exact h.hd,?_,⟨zs,by rw [qh (qJ h1 e (by intro z; cases z))]; exact h1,TupL.putD h2 e _⟩,⟨ws,by rw [qh (qJ h3 e (by intro z; cases z))]; exact h3,TupL.putD h4 e _⟩,fun x m=>(h.rs x m).frz e⟩
 by_cases c:ktd=d
 · subst c
   rcases h.ht with z | ⟨o,z⟩
   · rw [e] at z
     cases z
     exact .inr ⟨ob,qd⟩
   · rw [e] at z; cases z
 · rcases h.ht with z | ⟨o,z⟩
   · exact .inl (by rw [qh c]; exact z)
   · exact .inr ⟨o,by rw [qh c]; exact z⟩
theorem Tb.bp {a:Ad} {H H':Hp} {x p:Addr} {rows:List (Int×Int)} (h:Tb a H x rows) (g:Good rows) (hp:PenAt H p) (b:But p H H'):Tb a H' x rows:=by
 obtain ⟨k,dx,zs,h1,h2,h3⟩:=h
 have nk:k≠p:=Rs.neP hp ⟨zs,h2,h3⟩
 have nx:x≠p:=by
   obtain ⟨c,u,v,_,e⟩:=hp
   exact qJ h1 e (by intro z; cases z)
 exact ⟨k,dx,zs,b _ _ h1 nx,b _ _ h2 nk,TupL.bp h3 hp b⟩
theorem En.mp {a:Ad} {H H':Hp} {x:Addr} {wd nm pl:Str} {lo hi:Int} (h:En a H x wd nm pl lo hi) (k:∀ C d fs,H x=some (.ins C d fs)->H' x=some (.ins C d fs)):En a H' x wd nm pl lo hi:=by
 cases h with
 | any e=>exact .any (k _ _ _ e)
 | within e=>exact .within (k _ _ _ e)
 | at_ e=>exact .at_ (k _ _ _ e)
 | between e=>exact .between (k _ _ _ e)
 | read e=>exact .read (k _ _ _ e)
theorem En.bp {a:Ad} {H H':Hp} {x p:Addr} {wd nm pl:Str} {lo hi:Int} (h:En a H x wd nm pl lo hi) (hp:PenAt H p) (b:But p H H'):En a H' x wd nm pl lo hi:=by
 obtain ⟨c,u,v,_,ep⟩:=hp
 exact h.mp fun C d fs e=>b _ _ e (qJ e ep (by intro z; cases z))
theorem Lg.bp {a:Ad} {H H':Hp} {p x dx td ed bl:Addr} {ts:Pls} {es:List Ent} {bs:List (Str×Str×Int)} (h:Lg a H x dx td ed bl ts es bs) (hp:PenAt H p) (b:But p H H') (n:bl≠p):Lg a H' x dx td ed bl ts es bs:=by
 obtain ⟨zs,hb,tb⟩:=h.hb
 obtain ⟨c,u,v,c0,ep⟩:=id hp
 exact ⟨b _ _ h.hx (qJ h.hx ep (by intro z; cases z)),b _ _ h.ht (qJ h.ht ep (by intro z; cases z)),b _ _ h.he (qJ h.he ep (by intro z; cases z)),⟨zs,b _ _ hb n,TupL.bp tb hp b⟩,fun t m=>(h.tt t m).bp (h.tg t m) hp b,h.tg,h.tn,fun e m=>(h.en e m).bp hp b,h.sp,h.pls,h.ne,h.ndt,h.nde⟩
theorem Lg.b3 {a:Ad} {H H':Hp} {x dx td ed bl td' ed' bl':Addr} {ts:Pls} {es:List Ent} {bs:List (Str×Str×Int)} {k1 k2:List (Key×V)} (h:Lg a H x dx td ed bl ts es bs) (b:B3 td' ed' bl' H H') (e1:H td'=some (.dK k1)) (e2:H ed'=some (.dK k2)) (e3:H bl'=some (.lst [])) (n1:td≠td') (n2:td≠ed') (n3:ed≠td') (n4:ed≠ed') (n5:bl≠bl'):Lg a H' x dx td ed bl ts es bs:=by
 obtain ⟨zs,hb,tb⟩:=h.hb
 have ins:∀ {c C d:Addr} {fs:List (Str×V)},H c=some (.ins C d fs)->H' c=some (.ins C d fs):=fun e=>b _ _ e (qJ e e1 (by intro z; cases z)) (qJ e e2 (by intro z; cases z)) (qJ e e3 (by intro z; cases z))
 have tup:∀ {β:Type} {f:β->List V} {zs:List V} {qs:List β},TupL f H zs qs->TupL f H' zs qs:=fun tz=>⟨tz.1,fun j z y a1 a2=>by
   obtain ⟨t,et,ht⟩:=tz.2 j z y a1 a2
   exact ⟨t,et,b _ _ ht (qJ ht e1 (by intro z; cases z)) (qJ ht e2 (by intro z; cases z)) (qJ ht e3 (by intro z; cases z))⟩⟩
 refine ⟨ins h.hx,b _ _ h.ht n1 n2 (qJ h.ht e3 (by intro z; cases z)),b _ _ h.he n3 n4 (qJ h.he e3 (by intro z; cases z)),⟨zs,b _ _ hb (qJ hb e1 (by intro z; cases z)) (qJ hb e2 (by intro z; cases z)) n5,tup tb⟩,fun t m=>?_,h.tg,h.tn,fun e m=>?_,h.sp,h.pls,h.ne,h.ndt,h.nde⟩
 · obtain ⟨k,d',ws,h1,h2,h3⟩:=h.tt t m
   have nk:k≠bl':=fun z=>by
     rw [z,e3] at h2
     cases h2
     have:=h3.1
     have:=QY (h.tg t m)
     simp at *
     omega
   exact ⟨k,d',ws,ins h1,b _ _ h2 (qJ h2 e1 (by intro z; cases z)) (qJ h2 e2 (by intro z; cases z)) nk,tup h3⟩
 · exact (h.en e m).mp fun C d fs e=>ins e
inductive qdN (K:PySem.W.Frag) (vs:List V) (H:Hp) (Q:VK):Prop
 | mk (a:Addr) (ns:List Int) (h1:vs=[.ref a]) (h2:SqL K H a (ns.map V.int)) (h3:ns.length≤63) (h4:∀ H',Q (.bl true) H'):qdN K vs H Q
def qdO (K:PySem.W.Frag):Sp:=fun vs H Q _=>qdN K vs H Q
section
variable {P:Program} {w:World} {K:PySem.W.Frag} {mg:Str->Option Value} {base:Heap}
theorem qgA {a:Ad} (T:Txt K mg a):qC P w K mg base CX0 1 a.f_S a.fd_S ["_law_script","_law_k"] (qdV K):=by
 refine T.d_S.F.ok qgn (fun vs H Q E h=>?_) (fun cdv A outer s H vs Q E hr h=>?_)
 · obtain ⟨b,ns,j,rfl,hS,j0,k⟩:=h
   rfl
 · obtain ⟨b,ns,j,rfl,hS,j0,k⟩:=h
   have hu:=qK hr
   have hU:=hr.units
   refine ⟨_,(qf (qO (qA qiu (pv 1) (qq zp (by rfl) T.n_len qS (qa (pv 0) qb)) (qG _))
       (qg (qu (qD (r:=rIx K) qr (pv 0) (pv 1) (fun _ _=>rfl))))
       qv)
     (qg (qu (qw Zu (qw QP qc (pv 1)) qc)))),?_⟩
   try dsimp only [zx,Cx.nox]
   refine ⟨_,rfl,_,rfl,_,_,rfl,.inl ⟨_,hS,rfl⟩,_,_,rfl,rfl,_,rfl,?_⟩
   refine Zh (fun hj=>?_) (fun hj=>?_)
   · obtain ⟨n,rfl⟩:=Int.eq_ofNat_of_zero_le j0
     rw [List.length_map] at hj
     have hn:n < ns.length:=by omega
     refine ⟨_,rfl,_,rfl,.inl ⟨b,_,_,.int ns[n],rfl,rfl,hS,QL (by rw [List.getElem?_map,List.getElem?_eq_getElem hn]; rfl),?_⟩⟩
     exact k _
   · exact ⟨_,rfl,_,_,rfl,rfl,.inl ⟨by decide,by decide⟩,.inl ⟨_,_,rfl,rfl,k _⟩⟩
theorem qiw {a:Ad} (T:Txt K mg a):qC P w K mg base CX0 11 a.f_an a.fd_an ["_law_script"] (qdO K):=by
 have G_T:qC P w K mg base CX0 1 a.f_T a.fd_T ["_law_cell_here"] qcB:=qfw T
 have G_S:qC P w K mg base CX0 1 a.f_S a.fd_S ["_law_script","_law_k"] (qdV K):=qgA T
 have G_H:qC P w K mg base CX0 5 a.f_H a.fd_H ["_law_state"] jY:=qbe T
 have G_K:qC P w K mg base CX0 1 a.f_K a.fd_K ["self"] (qay a):=qdu T
 have G_a:qC P w K mg base CX0 2 a.f_a a.fd_a ["_law_state","_law_many"] QM:=QW T
 have G_m:qC P w K mg base CX0 6 a.f_m a.fd_m ["self","moment"] (Q7 a):=jq T
 have G_3:qC P w K mg base CX0 10 a.f_3 a.fd_3 ["_law_log","_law_kept"] (qdU a):=qgz T
 have G_5:qC P w K mg base CX0 8 a.f_5 a.fd_5 ["_law_log","_law_kept"] (qdP a):=qgu T
 have G_e:qC P w K mg base CX0 1 a.f_e a.fd_e ["self"] qV:=Qv T
 have G_g:qC P w K mg base CX0 1 a.f_g a.fd_g ["self"] (qT K):=zT T
 have G_f:qC P w K mg base CX0 1 a.f_f a.fd_f ["self"] (Qr a):=QX T
 have G_4:qC P w K mg base CX0 7 a.f_4 a.fd_4 ["_law_log","_law_kept","_law_moment"] (qbp a):=qeA T
 have G_A:qC P w K mg base CX0 1 a.f_A a.fd_A ["self"] (ji a):=qab T
 have G_B:qC P w K mg base CX0 1 a.f_B a.fd_B ["self"] (jk a):=qad T
 refine T.d_an.F.ok sc_law (fun vs H Q E h=>?_) (fun cdv A outer s H vs Q E hr h=>?_)
 · obtain ⟨sa,ns,rfl,hS,hlen,kk⟩:=h
   rfl
 · obtain ⟨sa,ns,rfl,hS,hlen,kk⟩:=h
   have hu:=qK hr
   have hU:=hr.units
   have h_T:Room (1) _:=hr.mono (by decide)
   have h_S:Room (1) _:=hr.mono (by decide)
   have h_H:Room (5) _:=hr.mono (by decide)
   have h_K:Room (1+1) _:=hr.mono (by decide)
   have h_a:Room (2) _:=hr.mono (by decide)
   have h_m:Room (6) _:=hr.mono (by decide)
   have h_3:Room (10) _:=hr.mono (by decide)
   have h_5:Room (8) _:=hr.mono (by decide)
   have h_e:Room (1) _:=hr.mono (by decide)
   have h_g:Room (1) _:=hr.mono (by decide)
   have h_f:Room (1) _:=hr.mono (by decide)
   have h_4:Room (7) _:=hr.mono (by decide)
   have h_A:Room (1) _:=hr.mono (by decide)
   have h_B:Room (1) _:=hr.mono (by decide)
   refine ⟨_,(qf (zK PassesOwn.never rfl (z3 rfl T.n_range (qa (qq (Qw rfl) (by rfl) T.n_max Qx (qa qc (qa (qq (Ze rfl) (by rfl) T.n_min Zf (qa qc (qa (qq zp (by rfl) T.n_len qS (qa (pv 0) qb)) qb))) qb))) qb)) (qt (i:=1) (sc_law.nd) rfl (Or.inl rfl))
       (qf (qF (i:=2) sc_law.nd rfl (Or.inl rfl) (qj G_T h_T rfl T.d_T.m T.d_T.k T.d_T.b .nil ql (qa (qj G_S h_S rfl T.d_S.m T.d_S.k T.d_S.b .nil ql (qa (pv 0) (qa (pv 1) qb))) qb)))
       (qf (qF (i:=3) sc_law.nd rfl (Or.inl rfl) (qN (qa (qj G_H h_H rfl T.d_H.m T.d_H.k T.d_H.b .nil ql (qa (pv 2) qb)) (qa (qj G_H h_H rfl T.d_H.m T.d_H.k T.d_H.b .nil ql (qa (pv 2) qb)) qb))))
       (qf (PS.frz (PS.frz (qF (i:=4) sc_law.nd rfl (Or.inl rfl) (qN (qa (qd3 T.M_Log G_K h_K rfl T.g_Log T.d_K.b .nil ql) (qa (qd3 T.M_Log G_K h_K rfl T.g_Log T.d_K.b .nil ql) qb))))))
       (qf (qO (PW.pt (qaJ (qA (uNe hU) (qw Zu (qw Zu (qX (qD (r:=rIx K) qr (pv 4) qc (fun _ _=>rfl)) T.cl_Log T.d_A.mt G_A h_A T.d_A.b .nil ql) (qX (qD (r:=rIx K) qr (pv 4) qc (fun _ _=>rfl)) T.cl_Log T.d_B.mt G_B h_B T.d_B.b .nil ql)) (qX (qD (r:=rIx K) qr (pv 4) qc (fun _ _=>rfl)) T.cl_Log T.d_f.mt G_f h_f T.d_f.b .nil ql)) (qN qb) (qG _)) (jZ (qA (qis hU) (qW (qD (r:=rIx K) qr (pv 4) qc (fun _ _=>rfl)) T.cl_Log T.d_m.mt G_m h_m T.d_m.b .nil ql (qa qc qb)) Jr (qG _)))))
         (qg (qu Zg))
         qv)
       (qf (zK PassesOwn.never rfl (z3 rfl T.n_range (qa qc qb)) (qt (i:=5) (sc_law.nd) rfl (Or.inl rfl))
         (qg (qO (qZ (qY (qj G_3 h_3 rfl T.d_3.m T.d_3.k T.d_3.b .nil ql (qa (qD (r:=rIx K) qr (pv 4) (pv 5) (fun _ _=>rfl)) (qa (qD (r:=rIx K) qr (pv 3) (pv 5) (fun _ _=>rfl)) qb)))))
           (qg (qu Zg))
           qv)))
       (qf (qF (i:=6) sc_law.nd rfl (Or.inl rfl) (qN (qa qc (qa (qw zL qc qc) (qa (qj G_a h_a rfl T.d_a.m T.d_a.k T.d_a.b .nil ql (qa (pv 2) (qa (qw Zu (qw zL qc qc) qc) qb))) qb)))))
       (qg (zK PassesOwn.never rfl (z3 rfl T.n_range (qa qc qb)) (qt (i:=5) (sc_law.nd) rfl (Or.inl rfl))
         (qf (qO (qZ (qY (qj G_5 h_5 rfl T.d_5.m T.d_5.k T.d_5.b .nil ql (qa (qD (r:=rIx K) qr (pv 4) (pv 5) (fun _ _=>rfl)) (qa (qD (r:=rIx K) qr (pv 3) (pv 5) (fun _ _=>rfl)) qb)))))
           (qg (qu Zg))
           qv)
         (qf (qF (i:=7) sc_law.nd rfl (Or.inl rfl) (qD (r:=rIx K) qr (qw Zu (qew rfl rfl T.n_list (qI hu (qD (r:=rIx K) qr (pv 3) (pv 5) (fun _ _=>rfl)) qB (fun _ _=>rfl))) (qN (qa (qN (qa (zC (qa qc (qa qc qb))) qb)) qb))) qc (fun _ _=>rfl)))
         (qg (zK PassesOwn.never rfl (ze (qw Zu (pv 6) (Qt rfl (CompOk.def ["_law_row"] [none]) (ze (pv 7)) (fun _ _ _ _ _=>(qt (i:=0) (show List.Nodup (["_law_row"]:List Str) by decide +kernel) rfl (Or.inl rfl))) (fun _ _ _ _ _=>Zb) (fun _ _ _ _ _=>(qD (r:=rIx K) qr (pv 0) qc (fun _ _=>rfl)))))) (qt (i:=8) (sc_law.nd) rfl (Or.inl rfl))
           (qg (qO (qZ (qY (qj G_4 h_4 rfl T.d_4.m T.d_4.k T.d_4.b .nil ql (qa (qD (r:=rIx K) qr (pv 4) (pv 5) (fun _ _=>rfl)) (qa (qD (r:=rIx K) qr (pv 3) (pv 5) (fun _ _=>rfl)) (qa (pv 8) qb))))))
             (qg (qu Zg))
             qv)))))))))))))))
     (qg (qu Zg))),?_⟩
   try dsimp only [zx,Cx.nox]
   refine ⟨_,rfl,_,_,rfl,.inl ⟨_,hS,rfl⟩,_,_,rfl,_,_,rfl,_,rfl,?_,?_,QQ (lo:=0) (D:={ nx:=qgb (tC (.bl true)) { nx:=fun _ H'=>Q .non H',rt:=Q },rt:=Q }) (fun i σ H2=>∃ s1 s2 s3 s4 s5 s6 s7 s8:Option V,σ=[some (.ref sa),s1,s2,s3,s4,s5,s6,s7,s8]∧Same H H2) ⟨_,_,_,_,_,_,_,_,rfl,Same.refl H⟩ ?_ ?_⟩
   · rw [List.length_map]
     split<;>split<;>omega
   · rw [List.length_map]
     split<;>split<;>omega
   · rintro i σ H2 hi ⟨s1,s2,s3,s4,s5,s6,s7,s8,rfl,S⟩
     refine ⟨_,rfl,_,rfl,sa,ns,_,rfl,S.seq hS,(by omega),fun c=>⟨c,rfl,fun p A B fp A0=>?_⟩⟩
     generalize hG:upd H2 p _=G1
     obtain ⟨S1,e1⟩:=qH hG fp
     clear hG
     have p1:PenAt G1 p:=⟨A,B,0,A0,e1⟩
     clear e1
     try unfold zm
     try dsimp only
     refine ⟨_,rfl,p,rfl,p1,fun kd1 ktd1 ksl1 kbl1 ps1 ss1 bs1 G2 u1 u2 u3 u4 nk1 B2 p2 a1 a2 t1 K1 w1=>?_⟩
     refine ⟨_,rfl,p,rfl,p2,fun kd2 ktd2 ksl2 kbl2 ps2 ss2 bs2 G3 v1 v2 v3 v4 nk2 B3' p3 b1 b2 t2 K2 w2=>⟨qk (Nat.le_of_ble_eq_true rfl),fun kl fkl=>?_⟩⟩
     generalize hG:upd G3 kl _=G4
     obtain ⟨S4,e4⟩:=qH hG fkl
     clear hG
     have c1:ktd1≠p:=by
       obtain ⟨c,x,y,_,e⟩:=p2
       exact qJ t1 e (by intro z; cases z)
     have K14:=(K1.bp p2 B3' a1 a2).sm S4
     have K24:=K2.sm S4
     have t14:=S4 _ _ (B3' _ _ t1 c1)
     have t24:=S4 _ _ t2
     have p4:=PenAt.sm p3 S4
     have nk3:kd2≠ktd1:=fun e=>by rw [e,t1] at v1; cases v1
     have nk4:ktd2≠ktd1:=fun e=>by rw [e,t1] at v2; cases v2
     have nk5:kd1≠ktd2:=fun e=>by rw [← e,K1.hd] at v2; cases v2
     have fF1:H2 ktd1=none:=S1.none u2
     have fF2:H2 ktd2=none:=by
       cases h:H2 ktd2 with
       | none=>rfl
       | some o =>
         rw [B2 _ _ (S1 _ _ h) (qi h fp)] at v2
         cases v2
     have SG4:Same H2 G4:=fun b o e=>S4 b o (B3' b o (B2 b o (S1 b o e) (qi e fp)) (qi e fp))
     have nkp1:ksl1≠p∧kbl1≠p:=⟨a1,a2⟩
     have nkp2:ksl2≠p∧kbl2≠p:=⟨b1,b2⟩
     clear t1 t2 K1 K2 p2 p3 B2 B3' S1 S4 u1 u2 u3 u4 v1 v2 v3 v4 p1 fkl
     try unfold zm
     try dsimp only
     refine .inr ⟨ktd1,_,t14,fun ob1=>.inr ⟨ktd2,_,(by rw [qh nk4]; exact t24),fun ob2=>?_⟩⟩
     have KF1:=(K14.frz (ob:=ob1) t14 nk1).frz (ob:=ob2) (d:=ktd2) (by rw [qh nk4]; exact t24) nk5
     have KF2:=(K24.frz (ob:=ob1) t14 nk3).frz (ob:=ob2) (d:=ktd2) (by rw [qh nk4]; exact t24) nk2
     have c2:ktd2≠p:=by
       obtain ⟨c,x,y,_,e⟩:=p4
       exact qJ t24 e (by intro z; cases z)
     have pF:=(p4.upd c1 (.frz ob1 (.dK (dkv ps1)))).upd c2 (.frz ob2 (.dK (dkv ps2)))
     have eF1:(upd (upd G4 ktd1 (.frz ob1 (.dK (dkv ps1)))) ktd2 (.frz ob2 (.dK (dkv ps2)))) ktd1=some (.frz ob1 (.dK (dkv ps1))):=by rw [qh nk4.symm,qd]
     have eF2:(upd (upd G4 ktd1 (.frz ob1 (.dK (dkv ps1)))) ktd2 (.frz ob2 (.dK (dkv ps2)))) ktd2=some (.frz ob2 (.dK (dkv ps2))):=qd
     have eFk:(upd (upd G4 ktd1 (.frz ob1 (.dK (dkv ps1)))) ktd2 (.frz ob2 (.dK (dkv ps2)))) kl=some (.lst [.ref kd1,.ref kd2]):=by
       rw [qh (qJ e4 t24 (by intro z; cases z)),qh (qJ e4 t14 (by intro z; cases z))]; exact e4
     have SF:Same H2 (upd (upd G4 ktd1 (.frz ob1 (.dK (dkv ps1)))) ktd2 (.frz ob2 (.dK (dkv ps2)))):=fun b o e=>by
       rw [qh (qi e fF2),qh (qi e fF1)]; exact SG4 b o e
     generalize upd (upd G4 ktd1 (.frz ob1 (.dK (dkv ps1)))) ktd2 (.frz ob2 (.dK (dkv ps2)))=F at KF1 KF2 pF eF1 eF2 eFk SF ⊢
     clear SG4 fF1 fF2 p4 t14 t24 K14 K24 e4 nk1 nk2 nk3 nk4 nk5 c1 c2
     refine fun x1 dx1 f1 f2 ne1=>⟨x1,dx1,rfl,qd,fun td1 ed1 bl1 L1 BL1 g1 g2 g3 hL1=>⟨rfl,fun x2 dx2 h1 h2 ne2=>⟨x2,dx2,rfl,qd,fun td2 ed2 bl2 L2 BL2 k1 k2 k3 hL2=>⟨rfl,qk (Nat.le_of_ble_eq_true rfl),fun ll fll=>?_⟩⟩⟩⟩
     have SL1:Same F L1:=fun b o e=>BL1 b o (by rw [qh (qi e f1),qh (qi e f2)]; exact e) (qi e f1)
     have SL2:Same L1 L2:=fun b o e=>BL2 b o (by rw [qh (qi e h1),qh (qi e h2)]; exact e) (qi e h1)
     have k1:=Z3 (Z3 k1)
     have k2:=Z3 (Z3 k2)
     have k3:=Z3 (Z3 k3)
     have fa1:=Z3 (Z3 g1)
     have fa2:=Z3 (Z3 g2)
     have fa3:=Z3 (Z3 g3)
     have fb1:=SL1.none k1
     have fb2:=SL1.none k2
     have fb3:=SL1.none k3
     obtain ⟨zb1,hb1,_⟩:=hL1.hb
     obtain ⟨zb2,hb2,_⟩:=hL2.hb
     have n1:td1≠td2:=qi hL1.ht k1
     have n2:td1≠ed2:=qi hL1.ht k2
     have n3:ed1≠td2:=qi hL1.he k1
     have n4:ed1≠ed2:=qi hL1.he k2
     have n5:bl1≠bl2:=qi hb1 k3
     have m1:bl1≠ll:=qi (SL2 _ _ hb1) fll
     have m2:bl2≠ll:=qi hb2 fll
     generalize hG:upd L2 ll _=G5
     obtain ⟨S5,e5⟩:=qH hG fll
     clear hG
     have hA:=(hL1.sm SL2).sm S5
     have hB:=hL2.sm S5
     have SF5:=(SL1.trans SL2).trans S5
     clear hL1 hL2 SL1 SL2 S5 BL1 BL2 g1 g2 g3 k1 k2 k3 fll h1 h2 f1 f2 ne1 ne2 hb1 hb2
     try unfold zm
     try dsimp only
     refine ⟨_,rfl,.inl ⟨ll,_,_,_,rfl,rfl,SqL.of e5,rfl,x1,dx1,_,rfl,hA.hx,rfl,x1,dx1,td1,ed1,bl1,[],[],[],rfl,hA,fun l1 fl1=>?_⟩⟩
     generalize hG:upd G5 l1 _=N1
     obtain ⟨S6,q1⟩:=qH hG fl1
     clear hG
     refine ⟨_,rfl,.inl ⟨ll,_,_,_,rfl,rfl,SqL.of (S6 _ _ e5),rfl,x1,dx1,_,rfl,(hA.sm S6).hx,rfl,x1,dx1,td1,ed1,bl1,[],[],[],rfl,hA.sm S6,fun l2 zs fl2 tz=>?_⟩⟩
     cases List.length_eq_zero_iff.mp tz.1
     generalize hG:upd N1 l2 _=N2
     obtain ⟨S7,q2⟩:=qH hG fl2
     clear hG
     refine .inr (.inl ⟨l1,l2,_,_,rfl,rfl,S7 _ _ q1,q2,qk (Nat.le_of_ble_eq_true rfl),fun l3 fl3=>?_⟩)
     generalize hG:upd N2 l3 _=N3
     obtain ⟨S8,q3⟩:=qH hG fl3
     clear hG
     have S58:=(S6.trans S7).trans S8
     refine ⟨_,rfl,.inl ⟨ll,_,_,_,rfl,rfl,SqL.of (S58 _ _ e5),rfl,x1,dx1,_,rfl,(hA.sm S58).hx,rfl,x1,dx1,td1,ed1,bl1,[],[],[],rfl,hA.sm S58,(by decide),fun l4 ss fl4 pm so=>?_⟩⟩
     cases List.Perm.eq_nil pm
     generalize hG:upd N3 l4 _=N4
     obtain ⟨S9,q4⟩:=qH hG fl4
     clear hG
     refine .inr (.inl ⟨l3,l4,_,_,rfl,rfl,S9 _ _ q3,q4,qk (Nat.le_of_ble_eq_true rfl),fun l5 fl5=>?_⟩)
     generalize hG:upd N4 l5 _=N5
     obtain ⟨Sa,q5⟩:=qH hG fl5
     clear hG
     refine ⟨qk (Nat.le_of_ble_eq_true rfl),fun l6 fl6=>?_⟩
     generalize hG:upd N5 l6 _=N6
     obtain ⟨Sb,q6⟩:=qH hG fl6
     clear hG
     have S5b:=((S58.trans S9).trans Sa).trans Sb
     refine .inr ⟨_,_,.lst (.inl (Sb _ _ q5)) .nil,.lst (.inl q6) .nil,rfl,rfl,_,rfl,?_⟩
     have e5b:=S5b _ _ e5
     have hB6:=hB.sm S5b
     refine zy rfl ?_
     refine ⟨_,rfl,.inl ⟨ll,_,_,_,rfl,rfl,SqL.of e5b,rfl,x2,dx2,_,rfl,hB6.hx,rfl,x2,dx2,td2,ed2,bl2,[],[],[],7,rfl,hB6,(by decide),(by decide),(by decide),fun d ss N7 fd Sc pm so ed=>?_⟩⟩
     cases List.Perm.eq_nil pm
     refine fun d2 fd2=>?_
     generalize hG:upd N7 d2 _=N8
     obtain ⟨Sd,q8⟩:=qH hG fd2
     clear hG
     refine ⟨d,d2,rfl,rfl,Sd _ _ ed,q8,_,rfl,zy rfl ?_⟩
     have S5d:=(S5b.trans Sc).trans Sd
     have SF8:=SF5.trans S5d
     have e58:=S5d _ _ e5
     have hA8:=hA.sm S5d
     have hB8:=hB.sm S5d
     clear hA hB e5 SF5 S5d Sc Sd S5b hB6 e5b q1 q2 q3 q4 q5 q6 q8 ed fd fd2 S6 S7 S8 S9 Sa Sb S58 tz fl1 fl2 fl3 fl4 fl5 fl6 pm so
     try unfold zm
     try dsimp only
     refine zc (t:=qe7 _ _ _) (fun σ' H'=>∃ s5:Option V,σ'=[some (.ref sa),some (.int (0+(i:Int))),some (.ref p),some (.ref kl),some (.ref ll),s5,s6,s7,s8]∧Same F H'∧H' ll=some (.lst [.ref x1,.ref x2])∧(∃ (ts:Pls) (es:List Ent),Lg a H' x1 dx1 td1 ed1 bl1 ts es bs1∧ts.map tR=ps1.map tR∧es.map eS=ss1)∧(∃ (ts:Pls) (es:List Ent),Lg a H' x2 dx2 td2 ed2 bl2 ts es bs2∧ts.map tR=ps2.map tR∧es.map eS=ss2)) (fun N hN=>?_) ?_
     · refine ⟨_,rfl,by decide,by decide,QQ (lo:=0) (fun j σ H'=>∃ s5:Option V,σ=[some (.ref sa),some (.int (0+(i:Int))),some (.ref p),some (.ref kl),some (.ref ll),s5,s6,s7,s8]∧Same F H'∧H' ll=some (.lst [.ref x1,.ref x2])∧(j=0->Lg a H' x1 dx1 td1 ed1 bl1 [] [] []∧Lg a H' x2 dx2 td2 ed2 bl2 [] [] [])∧(j=1->(∃ (ts:Pls) (es:List Ent),Lg a H' x1 dx1 td1 ed1 bl1 ts es bs1∧ts.map tR=ps1.map tR∧es.map eS=ss1)∧Lg a H' x2 dx2 td2 ed2 bl2 [] [] [])∧(j=2->(∃ (ts:Pls) (es:List Ent),Lg a H' x1 dx1 td1 ed1 bl1 ts es bs1∧ts.map tR=ps1.map tR∧es.map eS=ss1)∧(∃ (ts:Pls) (es:List Ent),Lg a H' x2 dx2 td2 ed2 bl2 ts es bs2∧ts.map tR=ps2.map tR∧es.map eS=ss2))) ⟨_,rfl,SF8,e58,fun _=>⟨hA8,hB8⟩,(fun h=>by cases h),(fun h=>by cases h)⟩ ?_ ?_⟩
       · rintro j σ H3 hj ⟨s5,rfl,S3,h3,c0,c1,c2⟩
         have ek:=S3 _ _ eFk
         have hj':j < 2:=hj
         obtain rfl | rfl:j=0∨j=1:=by omega
         · obtain ⟨hA3,hB3⟩:=c0 rfl
           obtain ⟨zb,hb,tb⟩:=hA3.hb
           cases List.length_eq_zero_iff.mp tb.1
           refine ⟨_,rfl,_,rfl,.inl ⟨ll,_,_,_,rfl,rfl,SqL.of h3,rfl,_,rfl,_,rfl,.inl ⟨kl,_,_,_,rfl,rfl,SqL.of ek,rfl,x1,dx1,td1,ed1,bl1,kd1,ktd1,ksl1,kbl1,ps1,ss1,bs1,ob1,F,rfl,hA3,KF1,eF1,w1,S3,fa1,fa2,fa3,fun H4 ts es b4 L4 et ee=>⟨true,rfl,zy rfl ?_⟩⟩⟩⟩
           exact ⟨_,rfl,fun b o e=>b4 b o (S3 b o e) (qi e fa1) (qi e fa2) (qi e fa3),b4 _ _ h3 (qJ h3 hA3.ht (by intro z; cases z)) (qJ h3 hA3.he (by intro z; cases z)) m1.symm,(fun h=>by cases h),(fun _=>⟨⟨ts,es,L4,et,ee⟩,hB3.b3 b4 hA3.ht hA3.he hb n1.symm n3.symm n2.symm n4.symm n5.symm⟩),(fun h=>by cases h)⟩
         · obtain ⟨⟨ts,es,L3,et,ee⟩,hB3⟩:=c1 rfl
           obtain ⟨zb,hb,tb⟩:=hB3.hb
           cases List.length_eq_zero_iff.mp tb.1
           refine ⟨_,rfl,_,rfl,.inl ⟨ll,_,_,_,rfl,rfl,SqL.of h3,rfl,_,rfl,_,rfl,.inl ⟨kl,_,_,_,rfl,rfl,SqL.of ek,rfl,x2,dx2,td2,ed2,bl2,kd2,ktd2,ksl2,kbl2,ps2,ss2,bs2,ob2,F,rfl,hB3,KF2,eF2,w2,S3,fb1,fb2,fb3,fun H4 ts2 es2 b4 L4 et2 ee2=>⟨true,rfl,zy rfl ?_⟩⟩⟩⟩
           exact ⟨_,rfl,fun b o e=>b4 b o (S3 b o e) (qi e fb1) (qi e fb2) (qi e fb3),b4 _ _ h3 (qJ h3 hB3.ht (by intro z; cases z)) (qJ h3 hB3.he (by intro z; cases z)) m2.symm,(fun h=>by cases h),(fun h=>by cases h),fun _=>⟨⟨ts,es,L3.b3 b4 hB3.ht hB3.he hb n1 n2 n3 n4 n5,et,ee⟩,⟨ts2,es2,L4,et2,ee2⟩⟩⟩
       · rintro σ H3 ⟨s5,rfl,S3,h3,_,_,c2⟩
         exact hN _ _ ⟨_,rfl,S3,h3,c2 rfl⟩
     rintro _ H3 ⟨s5',rfl,S3,h3,⟨ts1,es1,LA,et1,ee1⟩,⟨ts2,es2,LB,et2,ee2⟩⟩
     have p3:=PenAt.sm pF S3
     have nb1:bl1≠p:=pF.ne fa3
     have nb2:bl2≠p:=pF.ne fb3
     clear hA8 hB8 e58 SF8 fa1 fa2 fa3 fb1 fb2 fb3 n1 n2 n3 n4 n5 m1 m2
     try unfold zm
     try dsimp only
     refine ⟨_,_,rfl,rfl,⟨by decide,by decide,by decide⟩,_,rfl,_,_,rfl,rfl,⟨by decide,by decide,by decide⟩,.inl ⟨_,_,rfl,rfl,p,_,rfl,p3,by decide,by decide,fun d G6 d0 d1 B6 p6=>⟨qk (Nat.le_of_ble_eq_true rfl),fun ml fml=>?_⟩⟩⟩
     have d1':d≤1000000000:=by
       have:d < 10 ^ (9:Int).toNat+1:=d1
       have e9:(10:Int) ^ (9:Int).toNat=1000000000:=by decide
       omega
     have nkl:kl≠p:=by
       obtain ⟨u1,u2,u3,_,e⟩:=pF
       exact qJ eFk e (by intro z; cases z)
     have nll:ll≠p:=by
       obtain ⟨u1,u2,u3,_,e⟩:=p3
       exact qJ h3 e (by intro z; cases z)
     generalize hG:upd G6 ml _=G7
     obtain ⟨S7,e7⟩:=qH hG fml
     clear hG
     have SH7:Same H G7:=fun b o e=>S7 b o (B6 b o (S3 b o (SF b o (S b o e))) (qi (S b o e) fp))
     have LA7:=(LA.bp p3 B6 nb1).sm S7
     have LB7:=(LB.bp p3 B6 nb2).sm S7
     have KA7:=((KF1.sm S3).bp p3 B6 nkp1.1 nkp1.2).sm S7
     have KB7:=((KF2.sm S3).bp p3 B6 nkp2.1 nkp2.2).sm S7
     have k7:=S7 _ _ (B6 _ _ (S3 _ _ eFk) nkl)
     have l7:=S7 _ _ (B6 _ _ h3 nll)
     clear LA LB KF1 KF2 S7 B6 p3 p6 S3 h3 eF1 eF2 eFk SF pF fml d1
     try unfold zm
     try dsimp only
     refine ⟨_,rfl,by decide,by decide,QQ (lo:=0) (fun j σ H'=>∃ s5 s7 s8:Option V,σ=[some (.ref sa),some (.int (0+(i:Int))),some (.ref p),some (.ref kl),some (.ref ll),s5,some (.ref ml),s7,s8]∧Same G7 H') ⟨_,_,_,rfl,Same.refl G7⟩ ?_ ?_⟩
     · rintro j σ H8 hj ⟨s5,s7,s8,rfl,S8⟩
       have hj':j < 2:=hj
       obtain ⟨X,dX,TD,ED,BL,KD,KTD,KSL,KBL,ts,es,bs,ps,ss,hx,hk,LX,KX,WX,tx,ex⟩:∃ X dX TD ED BL KD KTD KSL KBL ts es bs ps ss,[V.ref x1,V.ref x2][j]?=some (.ref X)∧[V.ref kd1,V.ref kd2][j]?=some (.ref KD)∧Lg a G7 X dX TD ED BL ts es bs∧Kp G7 KD KTD KSL KBL ps ss bs∧Kw ps ss bs∧ts.map tR=ps.map tR∧es.map eS=ss:=by
         obtain rfl | rfl:j=0∨j=1:=by omega
         · exact ⟨x1,dx1,td1,ed1,bl1,kd1,ktd1,ksl1,kbl1,ts1,es1,bs1,ps1,ss1,rfl,rfl,LA7,KA7,w1,et1,ee1⟩
         · exact ⟨x2,dx2,td2,ed2,bl2,kd2,ktd2,ksl2,kbl2,ts2,es2,bs2,ps2,ss2,rfl,rfl,LB7,KB7,w2,et2,ee2⟩
       have ix:∀ {xs:List V} {v:V},xs[j]?=some v->atI xs (0+(j:Int))=some v:=fun h=>by rw [Int.zero_add]; exact QL h
       refine ⟨_,rfl,_,rfl,.inl ⟨ll,_,_,_,rfl,rfl,SqL.of (S8 _ _ l7),ix hx,_,rfl,_,rfl,.inl ⟨kl,_,_,_,rfl,rfl,SqL.of (S8 _ _ k7),ix hk,X,dX,TD,ED,BL,KD,KTD,KSL,KBL,ts,es,bs,ps,ss,rfl,LX.sm S8,KX.sm S8,WX,tx,ex,fun H9 S9=>⟨true,rfl,zy rfl ?_⟩⟩⟩⟩
       have S79:=S8.trans S9
       clear S8 S9
       try unfold zm
       try dsimp only
       refine ⟨_,rfl,_,rfl,.inl ⟨kl,_,_,_,rfl,rfl,SqL.of (S79 _ _ k7),ix hk,KD,_,rfl,(KX.sm S79).g1,KTD,_,rfl,(KX.sm S79).ht,fun l1 fl1=>?_⟩⟩
       generalize hG:upd H9 l1 _=Ha
       obtain ⟨Sa,ea⟩:=qH hG fl1
       clear hG
       refine ⟨qk (Nat.le_of_ble_eq_true rfl),fun u1 fu1=>?_⟩
       generalize hG:upd Ha u1 _=Hb
       obtain ⟨Sb,eb⟩:=qH hG fu1
       clear hG
       refine ⟨qk (Nat.le_of_ble_eq_true rfl),fun q1 fq1=>?_⟩
       generalize hG:upd Hb q1 _=Hc
       obtain ⟨Sc,ec⟩:=qH hG fq1
       clear hG
       refine ⟨qk (Nat.le_of_ble_eq_true rfl),fun q2 fq2=>?_⟩
       generalize hG:upd Hc q2 _=Hd
       obtain ⟨Sd,edd⟩:=qH hG fq2
       clear hG
       have few:=WX.few
       refine .inr (.inl ⟨l1,q2,_,_,rfl,rfl,Sd _ _ (Sc _ _ (Sb _ _ ea)),edd,qk (by rw [List.length_map]; unfold dkv; rw [List.length_map]; simp only [List.length_cons,List.length_nil]; omega),fun q3 fq3=>?_⟩)
       generalize hG:upd Hd q3 _=He
       obtain ⟨Se,ee⟩:=qH hG fq3
       clear hG
       have S7e:Same G7 He:=(((((S79.trans Sa).trans Sb).trans Sc).trans Sd).trans Se)
       have KXe:=KX.sm S7e
       obtain ⟨q,rows,hq,R,lr,br⟩:∃ q rows,((dkv ps).map (·.2)++[V.ref q1])[0]?=some (.ref q)∧Rs He q rows∧rows.length≤21∧∀ r∈rows,0≤r.1∧r.1≤1000000000:=by
         cases ps with
         | nil=>exact ⟨q1,[(7,0)],rfl,⟨_,Se _ _ (Sd _ _ ec),rfl,fun j z y e1 e2=>by
             cases j with
             | zero=>cases e1; cases e2; exact ⟨u1,rfl,Se _ _ (Sd _ _ (Sc _ _ eb))⟩
             | succ j=>cases e1⟩,by decide,fun r m=>by cases List.mem_singleton.mp m; exact ⟨by decide,by decide⟩⟩
         | cons y r=>exact ⟨y.2.1,y.2.2,rfl,KXe.rs y (List.mem_cons_self ..),(WX.good y (List.mem_cons_self ..)).few,fun r m=>⟨((WX.good y (List.mem_cons_self ..)).ok r m).1,((WX.good y (List.mem_cons_self ..)).ok r m).2.1⟩⟩
       refine .inl ⟨q3,_,_,_,rfl,rfl,SqL.of ee,QL (j:=0) hq,?_⟩
       obtain ⟨zr,hr',tr⟩:=R
       have ml8:=S7e _ _ e7
       clear Sa Sb Sc Sd Se ea eb ec edd ee hq S79 fl1 fu1 fq1 fq2 fq3
       try unfold zm
       try dsimp only
       refine ⟨_,rfl,_,rfl,q,rfl,⟨_,SqL.of hr'⟩,fun C fC=>?_⟩
       refine z9 (K:=K) (a:=q) (xs:=zr) (D:=C) (fun i σ H9=>∃ c0:Option V,σ=[c0]∧Same He H9∧H9 C=some (.lst ((rows.take i).map fun r=>V.int r.1))) ⟨none,rfl,Same.new _ fC,qd⟩ (fun i σ H9 _ ⟨_,_,S9,_⟩=>SqL.of (S9 _ _ hr')) ?_ ?_
       · rintro i' z σ Hf hz ⟨c0,rfl,Sf,hC⟩
         obtain ⟨r,u,hr,rfl,hu'⟩:=tr.of hz
         refine ⟨_,rfl,.inr (.inl ⟨u,_,_,_,rfl,rfl,SqT.of (Sf _ _ hu'),rfl,_,hC,qE (by rw [List.length_map,List.length_take]; omega),_,rfl,Sf.put fC _,?_⟩)⟩
         rw [qd,List.take_add_one,hr,List.map_append]; rfl
       rintro σ Hf ⟨c0,rfl,Sf,hC⟩
       rw [tr.1,List.take_length] at hC
       refine .inr (.inl ⟨ml,C,_,_,rfl,rfl,Sf _ _ ml8,hC,qk (by rw [List.length_map]; simp only [List.length_cons,List.length_nil]; omega),fun M fM=>?_⟩)
       generalize hG:upd Hf M _=Hg
       obtain ⟨Sg,eg⟩:=qH hG fM
       clear hG
       have S7g:=(S7e.trans Sf).trans Sg
       have k8:=S7g _ _ k7
       have l8:=S7g _ _ l7
       have bd:∀ z∈([.int 0,.int (10 ^ (9:Int).toNat),.int d]++rows.map fun r=>V.int r.1),∃ t:Int,z=.int t∧0≤t∧t≤1000000000:=by
         intro z m
         rcases List.mem_append.mp m with m | m
         · simp only [List.mem_cons,List.not_mem_nil,or_false] at m
           rcases m with rfl | rfl | rfl
           · exact ⟨_,rfl,by decide,by decide⟩
           · exact ⟨_,rfl,by decide,by decide⟩
           · exact ⟨_,rfl,d0,d1'⟩
         · obtain ⟨r,mr,rfl⟩:=List.mem_map.mp m
           exact ⟨_,rfl,br r mr⟩
       clear Sf Sg S7e KXe fC fM
       refine ⟨M,rfl,⟨_,SqL.of eg⟩,Qa (K:=K) (a:=M) (xs:=[.int 0,.int (10 ^ (9:Int).toNat),.int d]++rows.map fun r=>V.int r.1) (fun k σ H'=>∃ s8:Option V,σ=[some (.ref sa),some (.int (0+(i:Int))),some (.ref p),some (.ref kl),some (.ref ll),some (.int (0+(j:Int))),some (.ref ml),some (.ref q),s8]∧Same Hg H') ⟨_,rfl,Same.refl Hg⟩ (fun k σ H' _ ⟨_,_,Sh⟩=>SqL.of (Sh _ _ eg)) ?_ ?_⟩
       · rintro k z σ Hh hz ⟨s8',rfl,Sh⟩
         obtain ⟨t,rfl,t0,t1⟩:=bd z (List.mem_of_getElem? hz)
         exact ⟨_,rfl,_,rfl,.inl ⟨ll,_,_,_,rfl,rfl,SqL.of (Sh _ _ l8),ix hx,_,rfl,_,rfl,.inl ⟨kl,_,_,_,rfl,rfl,SqL.of (Sh _ _ k8),ix hk,_,rfl,X,dX,TD,ED,BL,KD,KTD,KSL,KBL,ts,es,bs,ps,ss,t,rfl,(LX.sm S7g).sm Sh,(KX.sm S7g).sm Sh,WX,tx,t0,t1,fun Hi Si=>⟨true,rfl,zy rfl ⟨_,rfl,Sh.trans Si⟩⟩⟩⟩⟩
       · rintro σ Hh ⟨s8',rfl,Sh⟩
         exact ⟨_,_,_,rfl,S7g.trans Sh⟩
     · rintro σ H8 ⟨s5,s7,s8,rfl,S8⟩
       exact ⟨_,_,_,_,_,_,_,_,rfl,SH7.trans S8⟩
   · rintro σ H2 ⟨s1,s2,s3,s4,s5,s6,s7,s8,rfl,S⟩
     exact kk H2
end
end K35
namespace K35
open PySem L2 PySem.NumText PyProof.Rows KC M04
section
variable {P:Program} {w:World} {K:PySem.W.Frag} {mg:Str->Option Value} {base:Heap}
end
theorem walkX {q:Program} {loose:List Str} {XP:(Str->Option Value)->Heap->Prop} {as:List Addr} {K:Params->PySem.W.Frag} {n m:Nat} {r:PySem.W.RowW} {d:DefRec} {kwd:List (Str×Expr)} {run:Value->List Value->Sem Value}
   (e:∀ P,as=(K P).map (·.1)) (W:PySem.W.WalkO q loose XP (fun w h=>(K w.params).In h) r d kwd run):PySem.W.WalkX q loose XP (PySem.W.X.obsZ as) (PySem.W.X.valZ K n m) r d kwd run :=
 fun w s₀ s₁ mg mb G y a o pm cd doc dV kV h1 h2 h3 h4 h5 h6 args vals as' L hp hl hr hw hlo=>W w s₀ s₁ mg mb G (PySem.W.InK.keeps w _ _ (PySem.W.X.z_facts e y).2.1 L.keeps) a o pm cd doc dV kV h1 h2 h3 h4 h5 h6 args vals as' hp hl hr hw hlo
theorem qjd {p:List Value->Prop} (h:p []):∀ us:List Value,us.length=0->p us:=fun us hl=>by
 cases us with
 | nil=>exact h
 | cons a t=>cases hl
theorem zW {p:List Value->Prop} (h:∀ a,p [a]):∀ us:List Value,us.length=1->p us:=fun us hl=>by
 cases us with
 | nil=>cases hl
 | cons a t=>exact qjd (p:=fun t=>p (a::t)) (h a) t (Nat.succ.inj hl)
theorem Qp {p:List Value->Prop} (h:∀ a b,p [a,b]):∀ us:List Value,us.length=2->p us:=fun us hl=>by
 cases us with
 | nil=>cases hl
 | cons a t=>exact zW (p:=fun t=>p (a::t)) (h a) t (Nat.succ.inj hl)
theorem qc7 {p:List Value->Prop} (h:∀ a b c,p [a,b,c]):∀ us:List Value,us.length=3->p us:=fun us hl=>by
 cases us with
 | nil=>cases hl
 | cons a t=>exact Qp (p:=fun t=>p (a::t)) (h a) t (Nat.succ.inj hl)
theorem qfD {p:List Value->Prop} (h:∀ a b c d,p [a,b,c,d]):∀ us:List Value,us.length=4->p us:=fun us hl=>by
 cases us with
 | nil=>cases hl
 | cons a t=>exact qc7 (p:=fun t=>p (a::t)) (h a) t (Nat.succ.inj hl)
theorem qjc {p:List Value->Prop} (h:∀ a b c d e,p [a,b,c,d,e]):∀ us:List Value,us.length=5->p us:=fun us hl=>by
 cases us with
 | nil=>cases hl
 | cons a t=>exact qfD (p:=fun t=>p (a::t)) (h a) t (Nat.succ.inj hl)
theorem all_mk {l:PySem.W.OpenLaw} {w:World} {K:PySem.W.Frag} {h:Heap} {mg:Str->Option Value} {fa:Addr} (X:K.In h) (G:h.Ns mainGlobals mg) (hfa:mg "law"=some (.ref fa))
   {C_LogError:Addr} (aC_LogError:PySem.W.nsIn K mainGlobals "LogError"=some (some (.ref C_LogError)))
   {C_NoSpans:Addr} (aC_NoSpans:PySem.W.nsIn K mainGlobals "NoSpans"=some (some (.ref C_NoSpans)))
   {C_NoTable:Addr} (aC_NoTable:PySem.W.nsIn K mainGlobals "NoTable"=some (some (.ref C_NoTable)))
   {C_TooMany:Addr} (aC_TooMany:PySem.W.nsIn K mainGlobals "TooMany"=some (some (.ref C_TooMany)))
   {C_NoMoment:Addr} (aC_NoMoment:PySem.W.nsIn K mainGlobals "NoMoment"=some (some (.ref C_NoMoment)))
   {C_NoReading:Addr} (aC_NoReading:PySem.W.nsIn K mainGlobals "NoReading"=some (some (.ref C_NoReading)))
   {C_NoName:Addr} (aC_NoName:PySem.W.nsIn K mainGlobals "NoName"=some (some (.ref C_NoName)))
   {C_NoPlace:Addr} (aC_NoPlace:PySem.W.nsIn K mainGlobals "NoPlace"=some (some (.ref C_NoPlace)))
   {C_NoEntry:Addr} (aC_NoEntry:PySem.W.nsIn K mainGlobals "NoEntry"=some (some (.ref C_NoEntry)))
   {C_Taken:Addr} (aC_Taken:PySem.W.nsIn K mainGlobals "Taken"=some (some (.ref C_Taken)))
   {C_NoMinutes:Addr} (aC_NoMinutes:PySem.W.nsIn K mainGlobals "NoMinutes"=some (some (.ref C_NoMinutes)))
   {C_Entry:Addr} (aC_Entry:PySem.W.nsIn K mainGlobals "Entry"=some (some (.ref C_Entry)))
   {C_Within:Addr} (aC_Within:PySem.W.nsIn K mainGlobals "Within"=some (some (.ref C_Within)))
   {C_At:Addr} (aC_At:PySem.W.nsIn K mainGlobals "At"=some (some (.ref C_At)))
   {C_Between:Addr} (aC_Between:PySem.W.nsIn K mainGlobals "Between"=some (some (.ref C_Between)))
   {C_Read:Addr} (aC_Read:PySem.W.nsIn K mainGlobals "Read"=some (some (.ref C_Read)))
   {C_Log:Addr} (aC_Log:PySem.W.nsIn K mainGlobals "Log"=some (some (.ref C_Log)))
   {C_Table:Addr} (aC_Table:PySem.W.nsIn K mainGlobals "Table"=some (some (.ref C_Table)))
   {f0:Addr} {od0 an0:Option Addr} {sl0:Array (Option Value)} {oc0 kV0 dc0 pm0 cd0 ct0:Value}
   (a0:PySem.W.nsIn K mainGlobals "is_number"=some (some (.ref f0))) (l0:K.lookup f0=some ⟨oc0,od0,.func (PySem.W.fnOf "is_number" "is_number" (qo QA) (qm QA) (qe QA) .none kV0 dc0 pm0 an0 cd0 ct0),sl0⟩) (c0:PySem.W.codeIn K cd0 "is_number"=true) (k0:PySem.W.keepIn K (.ref f0)=true)
   {f1:Addr} {od1 an1:Option Addr} {sl1:Array (Option Value)} {oc1 kV1 dc1 pm1 cd1 ct1:Value}
   (a1:PySem.W.nsIn K mainGlobals "is_whole"=some (some (.ref f1))) (l1:K.lookup f1=some ⟨oc1,od1,.func (PySem.W.fnOf "is_whole" "is_whole" (qo Q1) (qm Q1) (qe Q1) .none kV1 dc1 pm1 an1 cd1 ct1),sl1⟩) (c1:PySem.W.codeIn K cd1 "is_whole"=true) (k1:PySem.W.keepIn K (.ref f1)=true)
   {f2:Addr} {od2 an2:Option Addr} {sl2:Array (Option Value)} {oc2 kV2 dc2 pm2 cd2 ct2:Value}
   (a2:PySem.W.nsIn K mainGlobals "is_moment"=some (some (.ref f2))) (l2:K.lookup f2=some ⟨oc2,od2,.func (PySem.W.fnOf "is_moment" "is_moment" (qo QB) (qm QB) (qe QB) .none kV2 dc2 pm2 an2 cd2 ct2),sl2⟩) (c2:PySem.W.codeIn K cd2 "is_moment"=true) (k2:PySem.W.keepIn K (.ref f2)=true)
   {f3:Addr} {od3 an3:Option Addr} {sl3:Array (Option Value)} {oc3 kV3 dc3 pm3 cd3 ct3:Value}
   (a3:PySem.W.nsIn K mainGlobals "is_reading"=some (some (.ref f3))) (l3:K.lookup f3=some ⟨oc3,od3,.func (PySem.W.fnOf "is_reading" "is_reading" (qo Qf) (qm Qf) (qe Qf) .none kV3 dc3 pm3 an3 cd3 ct3),sl3⟩) (c3:PySem.W.codeIn K cd3 "is_reading"=true) (k3:PySem.W.keepIn K (.ref f3)=true)
   {f4:Addr} {od4 an4:Option Addr} {sl4:Array (Option Value)} {oc4 kV4 dc4 pm4 cd4 ct4:Value}
   (a4:PySem.W.nsIn K mainGlobals "is_minutes"=some (some (.ref f4))) (l4:K.lookup f4=some ⟨oc4,od4,.func (PySem.W.fnOf "is_minutes" "is_minutes" (qo Qg) (qm Qg) (qe Qg) .none kV4 dc4 pm4 an4 cd4 ct4),sl4⟩) (c4:PySem.W.codeIn K cd4 "is_minutes"=true) (k4:PySem.W.keepIn K (.ref f4)=true)
   {f5:Addr} {od5 an5:Option Addr} {sl5:Array (Option Value)} {oc5 kV5 dc5 pm5 cd5 ct5:Value}
   (a5:PySem.W.nsIn K mainGlobals "is_name"=some (some (.ref f5))) (l5:K.lookup f5=some ⟨oc5,od5,.func (PySem.W.fnOf "is_name" "is_name" (qo ZD) (qm ZD) (qe ZD) .none kV5 dc5 pm5 an5 cd5 ct5),sl5⟩) (c5:PySem.W.codeIn K cd5 "is_name"=true) (k5:PySem.W.keepIn K (.ref f5)=true)
   {f6:Addr} {od6 an6:Option Addr} {sl6:Array (Option Value)} {oc6 kV6 dc6 pm6 cd6 ct6:Value}
   (a6:PySem.W.nsIn K mainGlobals "is_stretch"=some (some (.ref f6))) (l6:K.lookup f6=some ⟨oc6,od6,.func (PySem.W.fnOf "is_stretch" "is_stretch" (qo Qe) (qm Qe) (qe Qe) .none kV6 dc6 pm6 an6 cd6 ct6),sl6⟩) (c6:PySem.W.codeIn K cd6 "is_stretch"=true) (k6:PySem.W.keepIn K (.ref f6)=true)
   {f7:Addr} {od7 an7:Option Addr} {sl7:Array (Option Value)} {oc7 kV7 dc7 pm7 cd7 ct7:Value}
   (a7:PySem.W.nsIn K mainGlobals "check_stretches"=some (some (.ref f7))) (l7:K.lookup f7=some ⟨oc7,od7,.func (PySem.W.fnOf "check_stretches" "check_stretches" (qo q9) (qm q9) (qe q9) .none kV7 dc7 pm7 an7 cd7 ct7),sl7⟩) (c7:PySem.W.codeIn K cd7 "check_stretches"=true) (k7:PySem.W.keepIn K (.ref f7)=true)
   {f8:Addr} {od8 an8:Option Addr} {sl8:Array (Option Value)} {oc8 kV8 dc8 pm8 cd8 ct8:Value}
   (a8:PySem.W.nsIn K mainGlobals "spans_of"=some (some (.ref f8))) (l8:K.lookup f8=some ⟨oc8,od8,.func (PySem.W.fnOf "spans_of" "spans_of" (qo Q0) (qm Q0) (qe Q0) .none kV8 dc8 pm8 an8 cd8 ct8),sl8⟩) (c8:PySem.W.codeIn K cd8 "spans_of"=true) (k8:PySem.W.keepIn K (.ref f8)=true)
   {f9:Addr} {od9 an9:Option Addr} {sl9:Array (Option Value)} {oc9 kV9 dc9 pm9 cd9 ct9:Value}
   (a9:PySem.W.nsIn K mainGlobals "check_name"=some (some (.ref f9))) (l9:K.lookup f9=some ⟨oc9,od9,.func (PySem.W.fnOf "check_name" "check_name" (qo Qi) (qm Qi) (qe Qi) .none kV9 dc9 pm9 an9 cd9 ct9),sl9⟩) (c9:PySem.W.codeIn K cd9 "check_name"=true) (k9:PySem.W.keepIn K (.ref f9)=true)
   {f10:Addr} {od10 an10:Option Addr} {sl10:Array (Option Value)} {oc10 kV10 dc10 pm10 cd10 ct10:Value}
   (a10:PySem.W.nsIn K mainGlobals "check_moment"=some (some (.ref f10))) (l10:K.lookup f10=some ⟨oc10,od10,.func (PySem.W.fnOf "check_moment" "check_moment" (qo zD) (qm zD) (qe zD) .none kV10 dc10 pm10 an10 cd10 ct10),sl10⟩) (c10:PySem.W.codeIn K cd10 "check_moment"=true) (k10:PySem.W.keepIn K (.ref f10)=true)
   {f11:Addr} {od11 an11:Option Addr} {sl11:Array (Option Value)} {oc11 kV11 dc11 pm11 cd11 ct11:Value}
   (a11:PySem.W.nsIn K mainGlobals "check_reading"=some (some (.ref f11))) (l11:K.lookup f11=some ⟨oc11,od11,.func (PySem.W.fnOf "check_reading" "check_reading" (qo zq) (qm zq) (qe zq) .none kV11 dc11 pm11 an11 cd11 ct11),sl11⟩) (c11:PySem.W.codeIn K cd11 "check_reading"=true) (k11:PySem.W.keepIn K (.ref f11)=true)
   {f12:Addr} {od12 an12:Option Addr} {sl12:Array (Option Value)} {oc12 kV12 dc12 pm12 cd12 ct12:Value}
   (a12:PySem.W.nsIn K mainGlobals "is_key"=some (some (.ref f12))) (l12:K.lookup f12=some ⟨oc12,od12,.func (PySem.W.fnOf "is_key" "is_key" (qo jA) (qm jA) (qe jA) .none kV12 dc12 pm12 an12 cd12 ct12),sl12⟩) (c12:PySem.W.codeIn K cd12 "is_key"=true) (k12:PySem.W.keepIn K (.ref f12)=true)
   {f13:Addr} {od13 an13:Option Addr} {sl13:Array (Option Value)} {oc13 kV13 dc13 pm13 cd13 ct13:Value}
   (a13:PySem.W.nsIn K mainGlobals "is_row"=some (some (.ref f13))) (l13:K.lookup f13=some ⟨oc13,od13,.func (PySem.W.fnOf "is_row" "is_row" (qo jz) (qm jz) (qe jz) .none kV13 dc13 pm13 an13 cd13 ct13),sl13⟩) (c13:PySem.W.codeIn K cd13 "is_row"=true) (k13:PySem.W.keepIn K (.ref f13)=true)
   {f14:Addr} {od14 an14:Option Addr} {sl14:Array (Option Value)} {oc14 kV14 dc14 pm14 cd14 ct14:Value}
   (a14:PySem.W.nsIn K mainGlobals "may_stand"=some (some (.ref f14))) (l14:K.lookup f14=some ⟨oc14,od14,.func (PySem.W.fnOf "may_stand" "may_stand" (qo Qz) (qm Qz) (qe Qz) .none kV14 dc14 pm14 an14 cd14 ct14),sl14⟩) (c14:PySem.W.codeIn K cd14 "may_stand"=true) (k14:PySem.W.keepIn K (.ref f14)=true)
   {f15:Addr} {od15 an15:Option Addr} {sl15:Array (Option Value)} {oc15 kV15 dc15 pm15 cd15 ct15:Value}
   (a15:PySem.W.nsIn K mainGlobals "check_rows"=some (some (.ref f15))) (l15:K.lookup f15=some ⟨oc15,od15,.func (PySem.W.fnOf "check_rows" "check_rows" (qo Qh) (qm Qh) (qe Qh) .none kV15 dc15 pm15 an15 cd15 ct15),sl15⟩) (c15:PySem.W.codeIn K cd15 "check_rows"=true) (k15:PySem.W.keepIn K (.ref f15)=true)
   {f16:Addr} {od16 an16:Option Addr} {sl16:Array (Option Value)} {oc16 kV16 dc16 pm16 cd16 ct16:Value}
   (a16:PySem.W.nsIn K mainGlobals "number_at"=some (some (.ref f16))) (l16:K.lookup f16=some ⟨oc16,od16,.func (PySem.W.fnOf "number_at" "number_at" (qo Qy) (qm Qy) (qe Qy) .none kV16 dc16 pm16 an16 cd16 ct16),sl16⟩) (c16:PySem.W.codeIn K cd16 "number_at"=true) (k16:PySem.W.keepIn K (.ref f16)=true)
   {f17:Addr} {od17 an17:Option Addr} {sl17:Array (Option Value)} {oc17 kV17 dc17 pm17 cd17 ct17:Value}
   (a17:PySem.W.nsIn K mainGlobals "_law_cell"=some (some (.ref f17))) (l17:K.lookup f17=some ⟨oc17,od17,.func (PySem.W.fnOf "_law_cell" "_law_cell" (qo JQ) (qm JQ) (qe JQ) .none kV17 dc17 pm17 an17 cd17 ct17),sl17⟩) (c17:PySem.W.codeIn K cd17 "_law_cell"=true) (k17:PySem.W.keepIn K (.ref f17)=true)
   {f18:Addr} {od18 an18:Option Addr} {sl18:Array (Option Value)} {oc18 kV18 dc18 pm18 cd18 ct18:Value}
   (a18:PySem.W.nsIn K mainGlobals "_law_mix"=some (some (.ref f18))) (l18:K.lookup f18=some ⟨oc18,od18,.func (PySem.W.fnOf "_law_mix" "_law_mix" (qo qbt) (qm qbt) (qe qbt) .none kV18 dc18 pm18 an18 cd18 ct18),sl18⟩) (c18:PySem.W.codeIn K cd18 "_law_mix"=true) (k18:PySem.W.keepIn K (.ref f18)=true)
   {f19:Addr} {od19 an19:Option Addr} {sl19:Array (Option Value)} {oc19 kV19 dc19 pm19 cd19 ct19:Value}
   (a19:PySem.W.nsIn K mainGlobals "_law_begun"=some (some (.ref f19))) (l19:K.lookup f19=some ⟨oc19,od19,.func (PySem.W.fnOf "_law_begun" "_law_begun" (qo jF) (qm jF) (qe jF) .none kV19 dc19 pm19 an19 cd19 ct19),sl19⟩) (c19:PySem.W.codeIn K cd19 "_law_begun"=true) (k19:PySem.W.keepIn K (.ref f19)=true)
   {f20:Addr} {od20 an20:Option Addr} {sl20:Array (Option Value)} {oc20 kV20 dc20 pm20 cd20 ct20:Value}
   (a20:PySem.W.nsIn K mainGlobals "_law_pull"=some (some (.ref f20))) (l20:K.lookup f20=some ⟨oc20,od20,.func (PySem.W.fnOf "_law_pull" "_law_pull" (qo JM) (qm JM) (qe JM) .none kV20 dc20 pm20 an20 cd20 ct20),sl20⟩) (c20:PySem.W.codeIn K cd20 "_law_pull"=true) (k20:PySem.W.keepIn K (.ref f20)=true)
   {f21:Addr} {od21 an21:Option Addr} {sl21:Array (Option Value)} {oc21 kV21 dc21 pm21 cd21 ct21:Value}
   (a21:PySem.W.nsIn K mainGlobals "_law_names"=some (some (.ref f21))) (l21:K.lookup f21=some ⟨oc21,od21,.func (PySem.W.fnOf "_law_names" "_law_names" (qo jE) (qm jE) (qe jE) .none kV21 dc21 pm21 an21 cd21 ct21),sl21⟩) (c21:PySem.W.codeIn K cd21 "_law_names"=true) (k21:PySem.W.keepIn K (.ref f21)=true)
   {f22:Addr} {od22 an22:Option Addr} {sl22:Array (Option Value)} {oc22 kV22 dc22 pm22 cd22 ct22:Value}
   (a22:PySem.W.nsIn K mainGlobals "_law_shift"=some (some (.ref f22))) (l22:K.lookup f22=some ⟨oc22,od22,.func (PySem.W.fnOf "_law_shift" "_law_shift" (qo jD) (qm jD) (qe jD) .none kV22 dc22 pm22 an22 cd22 ct22),sl22⟩) (c22:PySem.W.codeIn K cd22 "_law_shift"=true) (k22:PySem.W.keepIn K (.ref f22)=true)
   {f23:Addr} {od23 an23:Option Addr} {sl23:Array (Option Value)} {oc23 kV23 dc23 pm23 cd23 ct23:Value}
   (a23:PySem.W.nsIn K mainGlobals "_law_rows"=some (some (.ref f23))) (l23:K.lookup f23=some ⟨oc23,od23,.func (PySem.W.fnOf "_law_rows" "_law_rows" (qo JL) (qm JL) (qe JL) .none kV23 dc23 pm23 an23 cd23 ct23),sl23⟩) (c23:PySem.W.codeIn K cd23 "_law_rows"=true) (k23:PySem.W.keepIn K (.ref f23)=true)
   {f24:Addr} {od24 an24:Option Addr} {sl24:Array (Option Value)} {oc24 kV24 dc24 pm24 cd24 ct24:Value}
   (a24:PySem.W.nsIn K mainGlobals "_law_pieces"=some (some (.ref f24))) (l24:K.lookup f24=some ⟨oc24,od24,.func (PySem.W.fnOf "_law_pieces" "_law_pieces" (qo ZE) (qm ZE) (qe ZE) .none kV24 dc24 pm24 an24 cd24 ct24),sl24⟩) (c24:PySem.W.codeIn K cd24 "_law_pieces"=true) (k24:PySem.W.keepIn K (.ref f24)=true)
   {f25:Addr} {od25 an25:Option Addr} {sl25:Array (Option Value)} {oc25 kV25 dc25 pm25 cd25 ct25:Value}
   (a25:PySem.W.nsIn K mainGlobals "_law_joined"=some (some (.ref f25))) (l25:K.lookup f25=some ⟨oc25,od25,.func (PySem.W.fnOf "_law_joined" "_law_joined" (qo ZG) (qm ZG) (qe ZG) .none kV25 dc25 pm25 an25 cd25 ct25),sl25⟩) (c25:PySem.W.codeIn K cd25 "_law_joined"=true) (k25:PySem.W.keepIn K (.ref f25)=true)
   {f26:Addr} {od26 an26:Option Addr} {sl26:Array (Option Value)} {oc26 kV26 dc26 pm26 cd26 ct26:Value}
   (a26:PySem.W.nsIn K mainGlobals "_law_shown"=some (some (.ref f26))) (l26:K.lookup f26=some ⟨oc26,od26,.func (PySem.W.fnOf "_law_shown" "_law_shown" (qo jC) (qm jC) (qe jC) .none kV26 dc26 pm26 an26 cd26 ct26),sl26⟩) (c26:PySem.W.codeIn K cd26 "_law_shown"=true) (k26:PySem.W.keepIn K (.ref f26)=true)
   {f27:Addr} {od27 an27:Option Addr} {sl27:Array (Option Value)} {oc27 kV27 dc27 pm27 cd27 ct27:Value}
   (a27:PySem.W.nsIn K mainGlobals "_law_is_number"=some (some (.ref f27))) (l27:K.lookup f27=some ⟨oc27,od27,.func (PySem.W.fnOf "_law_is_number" "_law_is_number" (qo Qm) (qm Qm) (qe Qm) .none kV27 dc27 pm27 an27 cd27 ct27),sl27⟩) (c27:PySem.W.codeIn K cd27 "_law_is_number"=true) (k27:PySem.W.keepIn K (.ref f27)=true)
   {f28:Addr} {od28 an28:Option Addr} {sl28:Array (Option Value)} {oc28 kV28 dc28 pm28 cd28 ct28:Value}
   (a28:PySem.W.nsIn K mainGlobals "_law_same"=some (some (.ref f28))) (l28:K.lookup f28=some ⟨oc28,od28,.func (PySem.W.fnOf "_law_same" "_law_same" (qo JK) (qm JK) (qe JK) .none kV28 dc28 pm28 an28 cd28 ct28),sl28⟩) (c28:PySem.W.codeIn K cd28 "_law_same"=true) (k28:PySem.W.keepIn K (.ref f28)=true)
   {f29:Addr} {od29 an29:Option Addr} {sl29:Array (Option Value)} {oc29 kV29 dc29 pm29 cd29 ct29:Value}
   (a29:PySem.W.nsIn K mainGlobals "_law_near"=some (some (.ref f29))) (l29:K.lookup f29=some ⟨oc29,od29,.func (PySem.W.fnOf "_law_near" "_law_near" (qo JN) (qm JN) (qe JN) .none kV29 dc29 pm29 an29 cd29 ct29),sl29⟩) (c29:PySem.W.codeIn K cd29 "_law_near"=true) (k29:PySem.W.keepIn K (.ref f29)=true)
   {f30:Addr} {od30 an30:Option Addr} {sl30:Array (Option Value)} {oc30 kV30 dc30 pm30 cd30 ct30:Value}
   (a30:PySem.W.nsIn K mainGlobals "_law_spec"=some (some (.ref f30))) (l30:K.lookup f30=some ⟨oc30,od30,.func (PySem.W.fnOf "_law_spec" "_law_spec" (qo JJ) (qm JJ) (qe JJ) .none kV30 dc30 pm30 an30 cd30 ct30),sl30⟩) (c30:PySem.W.codeIn K cd30 "_law_spec"=true) (k30:PySem.W.keepIn K (.ref f30)=true)
   {f31:Addr} {od31 an31:Option Addr} {sl31:Array (Option Value)} {oc31 kV31 dc31 pm31 cd31 ct31:Value}
   (a31:PySem.W.nsIn K mainGlobals "_law_made"=some (some (.ref f31))) (l31:K.lookup f31=some ⟨oc31,od31,.func (PySem.W.fnOf "_law_made" "_law_made" (qo JO) (qm JO) (qe JO) .none kV31 dc31 pm31 an31 cd31 ct31),sl31⟩) (c31:PySem.W.codeIn K cd31 "_law_made"=true) (k31:PySem.W.keepIn K (.ref f31)=true)
   {f32:Addr} {od32 an32:Option Addr} {sl32:Array (Option Value)} {oc32 kV32 dc32 pm32 cd32 ct32:Value}
   (a32:PySem.W.nsIn K mainGlobals "_law_spans"=some (some (.ref f32))) (l32:K.lookup f32=some ⟨oc32,od32,.func (PySem.W.fnOf "_law_spans" "_law_spans" (qo jB) (qm jB) (qe jB) .none kV32 dc32 pm32 an32 cd32 ct32),sl32⟩) (c32:PySem.W.codeIn K cd32 "_law_spans"=true) (k32:PySem.W.keepIn K (.ref f32)=true)
   {f33:Addr} {od33 an33:Option Addr} {sl33:Array (Option Value)} {oc33 kV33 dc33 pm33 cd33 ct33:Value}
   (a33:PySem.W.nsIn K mainGlobals "_law_minutes"=some (some (.ref f33))) (l33:K.lookup f33=some ⟨oc33,od33,.func (PySem.W.fnOf "_law_minutes" "_law_minutes" (qo Q4) (qm Q4) (qe Q4) .none kV33 dc33 pm33 an33 cd33 ct33),sl33⟩) (c33:PySem.W.codeIn K cd33 "_law_minutes"=true) (k33:PySem.W.keepIn K (.ref f33)=true)
   {f34:Addr} {od34 an34:Option Addr} {sl34:Array (Option Value)} {oc34 kV34 dc34 pm34 cd34 ct34:Value}
   (a34:PySem.W.nsIn K mainGlobals "_law_many_names"=some (some (.ref f34))) (l34:K.lookup f34=some ⟨oc34,od34,.func (PySem.W.fnOf "_law_many_names" "_law_many_names" (qo zQ) (qm zQ) (qe zQ) .none kV34 dc34 pm34 an34 cd34 ct34),sl34⟩) (c34:PySem.W.codeIn K cd34 "_law_many_names"=true) (k34:PySem.W.keepIn K (.ref f34)=true)
   {f35:Addr} {od35 an35:Option Addr} {sl35:Array (Option Value)} {oc35 kV35 dc35 pm35 cd35 ct35:Value}
   (a35:PySem.W.nsIn K mainGlobals "_law_begun_with"=some (some (.ref f35))) (l35:K.lookup f35=some ⟨oc35,od35,.func (PySem.W.fnOf "_law_begun_with" "_law_begun_with" (qo zR) (qm zR) (qe zR) .none kV35 dc35 pm35 an35 cd35 ct35),sl35⟩) (c35:PySem.W.codeIn K cd35 "_law_begun_with"=true) (k35:PySem.W.keepIn K (.ref f35)=true)
   {f36:Addr} {od36 an36:Option Addr} {sl36:Array (Option Value)} {oc36 kV36 dc36 pm36 cd36 ct36:Value}
   (a36:PySem.W.nsIn K mainGlobals "_law_done"=some (some (.ref f36))) (l36:K.lookup f36=some ⟨oc36,od36,.func (PySem.W.fnOf "_law_done" "_law_done" (qo JP) (qm JP) (qe JP) .none kV36 dc36 pm36 an36 cd36 ct36),sl36⟩) (c36:PySem.W.codeIn K cd36 "_law_done"=true) (k36:PySem.W.keepIn K (.ref f36)=true)
   {f37:Addr} {od37 an37:Option Addr} {sl37:Array (Option Value)} {oc37 kV37 dc37 pm37 cd37 ct37:Value}
   (a37:PySem.W.nsIn K mainGlobals "_law_clocks"=some (some (.ref f37))) (l37:K.lookup f37=some ⟨oc37,od37,.func (PySem.W.fnOf "_law_clocks" "_law_clocks" (qo ZH) (qm ZH) (qe ZH) .none kV37 dc37 pm37 an37 cd37 ct37),sl37⟩) (c37:PySem.W.codeIn K cd37 "_law_clocks"=true) (k37:PySem.W.keepIn K (.ref f37)=true)
   {f38:Addr} {od38 an38:Option Addr} {sl38:Array (Option Value)} {oc38 kV38 dc38 pm38 cd38 ct38:Value}
   (a38:PySem.W.nsIn K mainGlobals "_law_told"=some (some (.ref f38))) (l38:K.lookup f38=some ⟨oc38,od38,.func (PySem.W.fnOf "_law_told" "_law_told" (qo JI) (qm JI) (qe JI) .none kV38 dc38 pm38 an38 cd38 ct38),sl38⟩) (c38:PySem.W.codeIn K cd38 "_law_told"=true) (k38:PySem.W.keepIn K (.ref f38)=true)
   {f39:Addr} {od39 an39:Option Addr} {sl39:Array (Option Value)} {oc39 kV39 dc39 pm39 cd39 ct39:Value}
   (a39:PySem.W.nsIn K mainGlobals "law"=some (some (.ref f39))) (l39:K.lookup f39=some ⟨oc39,od39,.func (PySem.W.fnOf "law" "law" (qo qev) (qm qev) (qe qev) .none kV39 dc39 pm39 an39 cd39 ct39),sl39⟩) (c39:PySem.W.codeIn K cd39 "law"=true) (k39:PySem.W.keepIn K (.ref f39)=true)
   {f40:Addr} {od40 an40:Option Addr} {sl40:Array (Option Value)} {oc40 kV40 dc40 pm40 cd40 ct40:Value}
   (a40:PySem.W.findIn K (.ref C_Entry) "__init__"=some (some (.ref f40))) (i40:PySem.W.isFn K (.ref f40)=true) (l40:K.lookup f40=some ⟨oc40,od40,.func (PySem.W.fnOf "__init__" "Entry.__init__" (qo Qo) (qm Qo) (qe Qo) .none kV40 dc40 pm40 an40 cd40 ct40),sl40⟩) (c40:PySem.W.codeIn K cd40 "Entry.__init__"=true) (k40:PySem.W.keepIn K (.ref f40)=true)
   {f41:Addr} {od41 an41:Option Addr} {sl41:Array (Option Value)} {oc41 kV41 dc41 pm41 cd41 ct41:Value}
   (a41:PySem.W.findIn K (.ref C_Entry) "word"=some (some (.ref f41))) (i41:PySem.W.isFn K (.ref f41)=true) (l41:K.lookup f41=some ⟨oc41,od41,.func (PySem.W.fnOf "word" "Entry.word" (qo Qn) (qm Qn) (qe Qn) .none kV41 dc41 pm41 an41 cd41 ct41),sl41⟩) (c41:PySem.W.codeIn K cd41 "Entry.word"=true) (k41:PySem.W.keepIn K (.ref f41)=true)
   {f42:Addr} {od42 an42:Option Addr} {sl42:Array (Option Value)} {oc42 kV42 dc42 pm42 cd42 ct42:Value}
   (a42:PySem.W.findIn K (.ref C_Entry) "places"=some (some (.ref f42))) (i42:PySem.W.isFn K (.ref f42)=true) (l42:K.lookup f42=some ⟨oc42,od42,.func (PySem.W.fnOf "places" "Entry.places" (qo zH) (qm zH) (qe zH) .none kV42 dc42 pm42 an42 cd42 ct42),sl42⟩) (c42:PySem.W.codeIn K cd42 "Entry.places"=true) (k42:PySem.W.keepIn K (.ref f42)=true)
   {f43:Addr} {od43 an43:Option Addr} {sl43:Array (Option Value)} {oc43 kV43 dc43 pm43 cd43 ct43:Value}
   (a43:PySem.W.findIn K (.ref C_Entry) "spans"=some (some (.ref f43))) (i43:PySem.W.isFn K (.ref f43)=true) (l43:K.lookup f43=some ⟨oc43,od43,.func (PySem.W.fnOf "spans" "Entry.spans" (qo zS) (qm zS) (qe zS) .none kV43 dc43 pm43 an43 cd43 ct43),sl43⟩) (c43:PySem.W.codeIn K cd43 "Entry.spans"=true) (k43:PySem.W.keepIn K (.ref f43)=true)
   {f44:Addr} {od44 an44:Option Addr} {sl44:Array (Option Value)} {oc44 kV44 dc44 pm44 cd44 ct44:Value}
   (a44:PySem.W.findIn K (.ref C_Within) "__init__"=some (some (.ref f44))) (i44:PySem.W.isFn K (.ref f44)=true) (l44:K.lookup f44=some ⟨oc44,od44,.func (PySem.W.fnOf "__init__" "Within.__init__" (qo zP) (qm zP) (qe zP) .none kV44 dc44 pm44 an44 cd44 ct44),sl44⟩) (c44:PySem.W.codeIn K cd44 "Within.__init__"=true) (k44:PySem.W.keepIn K (.ref f44)=true)
   {f45:Addr} {od45 an45:Option Addr} {sl45:Array (Option Value)} {oc45 kV45 dc45 pm45 cd45 ct45:Value}
   (a45:PySem.W.findIn K (.ref C_Within) "word"=some (some (.ref f45))) (i45:PySem.W.isFn K (.ref f45)=true) (l45:K.lookup f45=some ⟨oc45,od45,.func (PySem.W.fnOf "word" "Within.word" (qo zO) (qm zO) (qe zO) .none kV45 dc45 pm45 an45 cd45 ct45),sl45⟩) (c45:PySem.W.codeIn K cd45 "Within.word"=true) (k45:PySem.W.keepIn K (.ref f45)=true)
   {f46:Addr} {od46 an46:Option Addr} {sl46:Array (Option Value)} {oc46 kV46 dc46 pm46 cd46 ct46:Value}
   (a46:PySem.W.findIn K (.ref C_Within) "spans"=some (some (.ref f46))) (i46:PySem.W.isFn K (.ref f46)=true) (l46:K.lookup f46=some ⟨oc46,od46,.func (PySem.W.fnOf "spans" "Within.spans" (qo zE) (qm zE) (qe zE) .none kV46 dc46 pm46 an46 cd46 ct46),sl46⟩) (c46:PySem.W.codeIn K cd46 "Within.spans"=true) (k46:PySem.W.keepIn K (.ref f46)=true)
   {f47:Addr} {od47 an47:Option Addr} {sl47:Array (Option Value)} {oc47 kV47 dc47 pm47 cd47 ct47:Value}
   (a47:PySem.W.findIn K (.ref C_At) "__init__"=some (some (.ref f47))) (i47:PySem.W.isFn K (.ref f47)=true) (l47:K.lookup f47=some ⟨oc47,od47,.func (PySem.W.fnOf "__init__" "At.__init__" (qo ZJ) (qm ZJ) (qe ZJ) .none kV47 dc47 pm47 an47 cd47 ct47),sl47⟩) (c47:PySem.W.codeIn K cd47 "At.__init__"=true) (k47:PySem.W.keepIn K (.ref f47)=true)
   {f48:Addr} {od48 an48:Option Addr} {sl48:Array (Option Value)} {oc48 kV48 dc48 pm48 cd48 ct48:Value}
   (a48:PySem.W.findIn K (.ref C_At) "word"=some (some (.ref f48))) (i48:PySem.W.isFn K (.ref f48)=true) (l48:K.lookup f48=some ⟨oc48,od48,.func (PySem.W.fnOf "word" "At.word" (qo ZI) (qm ZI) (qe ZI) .none kV48 dc48 pm48 an48 cd48 ct48),sl48⟩) (c48:PySem.W.codeIn K cd48 "At.word"=true) (k48:PySem.W.keepIn K (.ref f48)=true)
   {f49:Addr} {od49 an49:Option Addr} {sl49:Array (Option Value)} {oc49 kV49 dc49 pm49 cd49 ct49:Value}
   (a49:PySem.W.findIn K (.ref C_Between) "__init__"=some (some (.ref f49))) (i49:PySem.W.isFn K (.ref f49)=true) (l49:K.lookup f49=some ⟨oc49,od49,.func (PySem.W.fnOf "__init__" "Between.__init__" (qo zJ) (qm zJ) (qe zJ) .none kV49 dc49 pm49 an49 cd49 ct49),sl49⟩) (c49:PySem.W.codeIn K cd49 "Between.__init__"=true) (k49:PySem.W.keepIn K (.ref f49)=true)
   {f50:Addr} {od50 an50:Option Addr} {sl50:Array (Option Value)} {oc50 kV50 dc50 pm50 cd50 ct50:Value}
   (a50:PySem.W.findIn K (.ref C_Between) "word"=some (some (.ref f50))) (i50:PySem.W.isFn K (.ref f50)=true) (l50:K.lookup f50=some ⟨oc50,od50,.func (PySem.W.fnOf "word" "Between.word" (qo zI) (qm zI) (qe zI) .none kV50 dc50 pm50 an50 cd50 ct50),sl50⟩) (c50:PySem.W.codeIn K cd50 "Between.word"=true) (k50:PySem.W.keepIn K (.ref f50)=true)
   {f51:Addr} {od51 an51:Option Addr} {sl51:Array (Option Value)} {oc51 kV51 dc51 pm51 cd51 ct51:Value}
   (a51:PySem.W.findIn K (.ref C_Between) "places"=some (some (.ref f51))) (i51:PySem.W.isFn K (.ref f51)=true) (l51:K.lookup f51=some ⟨oc51,od51,.func (PySem.W.fnOf "places" "Between.places" (qo zl) (qm zl) (qe zl) .none kV51 dc51 pm51 an51 cd51 ct51),sl51⟩) (c51:PySem.W.codeIn K cd51 "Between.places"=true) (k51:PySem.W.keepIn K (.ref f51)=true)
   {f52:Addr} {od52 an52:Option Addr} {sl52:Array (Option Value)} {oc52 kV52 dc52 pm52 cd52 ct52:Value}
   (a52:PySem.W.findIn K (.ref C_Between) "spans"=some (some (.ref f52))) (i52:PySem.W.isFn K (.ref f52)=true) (l52:K.lookup f52=some ⟨oc52,od52,.func (PySem.W.fnOf "spans" "Between.spans" (qo zu) (qm zu) (qe zu) .none kV52 dc52 pm52 an52 cd52 ct52),sl52⟩) (c52:PySem.W.codeIn K cd52 "Between.spans"=true) (k52:PySem.W.keepIn K (.ref f52)=true)
   {f53:Addr} {od53 an53:Option Addr} {sl53:Array (Option Value)} {oc53 kV53 dc53 pm53 cd53 ct53:Value}
   (a53:PySem.W.findIn K (.ref C_Read) "__init__"=some (some (.ref f53))) (i53:PySem.W.isFn K (.ref f53)=true) (l53:K.lookup f53=some ⟨oc53,od53,.func (PySem.W.fnOf "__init__" "Read.__init__" (qo QD) (qm QD) (qe QD) .none kV53 dc53 pm53 an53 cd53 ct53),sl53⟩) (c53:PySem.W.codeIn K cd53 "Read.__init__"=true) (k53:PySem.W.keepIn K (.ref f53)=true)
   {f54:Addr} {od54 an54:Option Addr} {sl54:Array (Option Value)} {oc54 kV54 dc54 pm54 cd54 ct54:Value}
   (a54:PySem.W.findIn K (.ref C_Read) "word"=some (some (.ref f54))) (i54:PySem.W.isFn K (.ref f54)=true) (l54:K.lookup f54=some ⟨oc54,od54,.func (PySem.W.fnOf "word" "Read.word" (qo QC) (qm QC) (qe QC) .none kV54 dc54 pm54 an54 cd54 ct54),sl54⟩) (c54:PySem.W.codeIn K cd54 "Read.word"=true) (k54:PySem.W.keepIn K (.ref f54)=true)
   {f55:Addr} {od55 an55:Option Addr} {sl55:Array (Option Value)} {oc55 kV55 dc55 pm55 cd55 ct55:Value}
   (a55:PySem.W.findIn K (.ref C_Log) "__init__"=some (some (.ref f55))) (i55:PySem.W.isFn K (.ref f55)=true) (l55:K.lookup f55=some ⟨oc55,od55,.func (PySem.W.fnOf "__init__" "Log.__init__" (qo Q2) (qm Q2) (qe Q2) .none kV55 dc55 pm55 an55 cd55 ct55),sl55⟩) (c55:PySem.W.codeIn K cd55 "Log.__init__"=true) (k55:PySem.W.keepIn K (.ref f55)=true)
   {f56:Addr} {od56 an56:Option Addr} {sl56:Array (Option Value)} {oc56 kV56 dc56 pm56 cd56 ct56:Value}
   (a56:PySem.W.findIn K (.ref C_Log) "clock"=some (some (.ref f56))) (i56:PySem.W.isFn K (.ref f56)=true) (l56:K.lookup f56=some ⟨oc56,od56,.func (PySem.W.fnOf "clock" "Log.clock" (qo QI) (qm QI) (qe QI) .none kV56 dc56 pm56 an56 cd56 ct56),sl56⟩) (c56:PySem.W.codeIn K cd56 "Log.clock"=true) (k56:PySem.W.keepIn K (.ref f56)=true)
   {f57:Addr} {od57 an57:Option Addr} {sl57:Array (Option Value)} {oc57 kV57 dc57 pm57 cd57 ct57:Value}
   (a57:PySem.W.findIn K (.ref C_Log) "put"=some (some (.ref f57))) (i57:PySem.W.isFn K (.ref f57)=true) (l57:K.lookup f57=some ⟨oc57,od57,.func (PySem.W.fnOf "put" "Log.put" (qo ZF) (qm ZF) (qe ZF) .none kV57 dc57 pm57 an57 cd57 ct57),sl57⟩) (c57:PySem.W.codeIn K cd57 "Log.put"=true) (k57:PySem.W.keepIn K (.ref f57)=true)
   {f58:Addr} {od58 an58:Option Addr} {sl58:Array (Option Value)} {oc58 kV58 dc58 pm58 cd58 ct58:Value}
   (a58:PySem.W.findIn K (.ref C_Log) "bind"=some (some (.ref f58))) (i58:PySem.W.isFn K (.ref f58)=true) (l58:K.lookup f58=some ⟨oc58,od58,.func (PySem.W.fnOf "bind" "Log.bind" (qo Q3) (qm Q3) (qe Q3) .none kV58 dc58 pm58 an58 cd58 ct58),sl58⟩) (c58:PySem.W.codeIn K cd58 "Log.bind"=true) (k58:PySem.W.keepIn K (.ref f58)=true)
   {f59:Addr} {od59 an59:Option Addr} {sl59:Array (Option Value)} {oc59 kV59 dc59 pm59 cd59 ct59:Value}
   (a59:PySem.W.findIn K (.ref C_Log) "check_entry"=some (some (.ref f59))) (i59:PySem.W.isFn K (.ref f59)=true) (l59:K.lookup f59=some ⟨oc59,od59,.func (PySem.W.fnOf "check_entry" "Log.check_entry" (qo za) (qm za) (qe za) .none kV59 dc59 pm59 an59 cd59 ct59),sl59⟩) (c59:PySem.W.codeIn K cd59 "Log.check_entry"=true) (k59:PySem.W.keepIn K (.ref f59)=true)
   {f60:Addr} {od60 an60:Option Addr} {sl60:Array (Option Value)} {oc60 kV60 dc60 pm60 cd60 ct60:Value}
   (a60:PySem.W.findIn K (.ref C_Log) "names"=some (some (.ref f60))) (i60:PySem.W.isFn K (.ref f60)=true) (l60:K.lookup f60=some ⟨oc60,od60,.func (PySem.W.fnOf "names" "Log.names" (qo QG) (qm QG) (qe QG) .none kV60 dc60 pm60 an60 cd60 ct60),sl60⟩) (c60:PySem.W.codeIn K cd60 "Log.names"=true) (k60:PySem.W.keepIn K (.ref f60)=true)
   {f61:Addr} {od61 an61:Option Addr} {sl61:Array (Option Value)} {oc61 kV61 dc61 pm61 cd61 ct61:Value}
   (a61:PySem.W.findIn K (.ref C_Log) "entry"=some (some (.ref f61))) (i61:PySem.W.isFn K (.ref f61)=true) (l61:K.lookup f61=some ⟨oc61,od61,.func (PySem.W.fnOf "entry" "Log.entry" (qo QH) (qm QH) (qe QH) .none kV61 dc61 pm61 an61 cd61 ct61),sl61⟩) (c61:PySem.W.codeIn K cd61 "Log.entry"=true) (k61:PySem.W.keepIn K (.ref f61)=true)
   {f62:Addr} {od62 an62:Option Addr} {sl62:Array (Option Value)} {oc62 kV62 dc62 pm62 cd62 ct62:Value}
   (a62:PySem.W.findIn K (.ref C_Log) "spans"=some (some (.ref f62))) (i62:PySem.W.isFn K (.ref f62)=true) (l62:K.lookup f62=some ⟨oc62,od62,.func (PySem.W.fnOf "spans" "Log.spans" (qo QF) (qm QF) (qe QF) .none kV62 dc62 pm62 an62 cd62 ct62),sl62⟩) (c62:PySem.W.codeIn K cd62 "Log.spans"=true) (k62:PySem.W.keepIn K (.ref f62)=true)
   {f63:Addr} {od63 an63:Option Addr} {sl63:Array (Option Value)} {oc63 kV63 dc63 pm63 cd63 ct63:Value}
   (a63:PySem.W.findIn K (.ref C_Log) "bonds"=some (some (.ref f63))) (i63:PySem.W.isFn K (.ref f63)=true) (l63:K.lookup f63=some ⟨oc63,od63,.func (PySem.W.fnOf "bonds" "Log.bonds" (qo QJ) (qm QJ) (qe QJ) .none kV63 dc63 pm63 an63 cd63 ct63),sl63⟩) (c63:PySem.W.codeIn K cd63 "Log.bonds"=true) (k63:PySem.W.keepIn K (.ref f63)=true)
   {f64:Addr} {od64 an64:Option Addr} {sl64:Array (Option Value)} {oc64 kV64 dc64 pm64 cd64 ct64:Value}
   (a64:PySem.W.findIn K (.ref C_Log) "places"=some (some (.ref f64))) (i64:PySem.W.isFn K (.ref f64)=true) (l64:K.lookup f64=some ⟨oc64,od64,.func (PySem.W.fnOf "places" "Log.places" (qo Ql) (qm Ql) (qe Ql) .none kV64 dc64 pm64 an64 cd64 ct64),sl64⟩) (c64:PySem.W.codeIn K cd64 "Log.places"=true) (k64:PySem.W.keepIn K (.ref f64)=true)
   {f65:Addr} {od65 an65:Option Addr} {sl65:Array (Option Value)} {oc65 kV65 dc65 pm65 cd65 ct65:Value}
   (a65:PySem.W.findIn K (.ref C_Log) "table"=some (some (.ref f65))) (i65:PySem.W.isFn K (.ref f65)=true) (l65:K.lookup f65=some ⟨oc65,od65,.func (PySem.W.fnOf "table" "Log.table" (qo QE) (qm QE) (qe QE) .none kV65 dc65 pm65 an65 cd65 ct65),sl65⟩) (c65:PySem.W.codeIn K cd65 "Log.table"=true) (k65:PySem.W.keepIn K (.ref f65)=true)
   {f66:Addr} {od66 an66:Option Addr} {sl66:Array (Option Value)} {oc66 kV66 dc66 pm66 cd66 ct66:Value}
   (a66:PySem.W.findIn K (.ref C_Log) "readings"=some (some (.ref f66))) (i66:PySem.W.isFn K (.ref f66)=true) (l66:K.lookup f66=some ⟨oc66,od66,.func (PySem.W.fnOf "readings" "Log.readings" (qo zG) (qm zG) (qe zG) .none kV66 dc66 pm66 an66 cd66 ct66),sl66⟩) (c66:PySem.W.codeIn K cd66 "Log.readings"=true) (k66:PySem.W.keepIn K (.ref f66)=true)
   {f67:Addr} {od67 an67:Option Addr} {sl67:Array (Option Value)} {oc67 kV67 dc67 pm67 cd67 ct67:Value}
   (a67:PySem.W.findIn K (.ref C_Table) "__init__"=some (some (.ref f67))) (i67:PySem.W.isFn K (.ref f67)=true) (l67:K.lookup f67=some ⟨oc67,od67,.func (PySem.W.fnOf "__init__" "Table.__init__" (qo Qk) (qm Qk) (qe Qk) .none kV67 dc67 pm67 an67 cd67 ct67),sl67⟩) (c67:PySem.W.codeIn K cd67 "Table.__init__"=true) (k67:PySem.W.keepIn K (.ref f67)=true)
   {f68:Addr} {od68 an68:Option Addr} {sl68:Array (Option Value)} {oc68 kV68 dc68 pm68 cd68 ct68:Value}
   (a68:PySem.W.findIn K (.ref C_Table) "rows"=some (some (.ref f68))) (i68:PySem.W.isFn K (.ref f68)=true) (l68:K.lookup f68=some ⟨oc68,od68,.func (PySem.W.fnOf "rows" "Table.rows" (qo Qj) (qm Qj) (qe Qj) .none kV68 dc68 pm68 an68 cd68 ct68),sl68⟩) (c68:PySem.W.codeIn K cd68 "Table.rows"=true) (k68:PySem.W.keepIn K (.ref f68)=true)
   {f69:Addr} {od69 an69:Option Addr} {sl69:Array (Option Value)} {oc69 kV69 dc69 pm69 cd69 ct69:Value}
   (a69:PySem.W.findIn K (.ref C_Table) "pieces"=some (some (.ref f69))) (i69:PySem.W.isFn K (.ref f69)=true) (l69:K.lookup f69=some ⟨oc69,od69,.func (PySem.W.fnOf "pieces" "Table.pieces" (qo zF) (qm zF) (qe zF) .none kV69 dc69 pm69 an69 cd69 ct69),sl69⟩) (c69:PySem.W.codeIn K cd69 "Table.pieces"=true) (k69:PySem.W.keepIn K (.ref f69)=true)
   {f70:Addr} {od70 an70:Option Addr} {sl70:Array (Option Value)} {oc70 kV70 dc70 pm70 cd70 ct70:Value}
   (a70:PySem.W.findIn K (.ref C_Table) "shift_at"=some (some (.ref f70))) (i70:PySem.W.isFn K (.ref f70)=true) (l70:K.lookup f70=some ⟨oc70,od70,.func (PySem.W.fnOf "shift_at" "Table.shift_at" (qo zh) (qm zh) (qe zh) .none kV70 dc70 pm70 an70 cd70 ct70),sl70⟩) (c70:PySem.W.codeIn K cd70 "Table.shift_at"=true) (k70:PySem.W.keepIn K (.ref f70)=true)
   {f71:Addr} {od71 an71:Option Addr} {sl71:Array (Option Value)} {oc71 kV71 dc71 pm71 cd71 ct71:Value}
   (a71:PySem.W.findIn K (.ref C_Table) "reading"=some (some (.ref f71))) (i71:PySem.W.isFn K (.ref f71)=true) (l71:K.lookup f71=some ⟨oc71,od71,.func (PySem.W.fnOf "reading" "Table.reading" (qo zt) (qm zt) (qe zt) .none kV71 dc71 pm71 an71 cd71 ct71),sl71⟩) (c71:PySem.W.codeIn K cd71 "Table.reading"=true) (k71:PySem.W.keepIn K (.ref f71)=true)
   {f72:Addr} {od72 an72:Option Addr} {sl72:Array (Option Value)} {oc72 kV72 dc72 pm72 cd72 ct72:Value}
   (a72:PySem.W.findIn K (.ref C_Table) "moments_between"=some (some (.ref f72))) (i72:PySem.W.isFn K (.ref f72)=true) (l72:K.lookup f72=some ⟨oc72,od72,.func (PySem.W.fnOf "moments_between" "Table.moments_between" (qo qL) (qm qL) (qe qL) .none kV72 dc72 pm72 an72 cd72 ct72),sl72⟩) (c72:PySem.W.codeIn K cd72 "Table.moments_between"=true) (k72:PySem.W.keepIn K (.ref f72)=true)
   {f73:Addr} {od73 an73:Option Addr} {sl73:Array (Option Value)} {oc73 kV73 dc73 pm73 cd73 ct73:Value}
   (a73:PySem.W.findIn K (.ref C_LogError) "__init__"=some (some (.ref f73))) (i73:PySem.W.isFn K (.ref f73)=true) (l73:K.lookup f73=some ⟨oc73,od73,.func (PySem.W.fnOf "__init__" "LogError.__init__" (qo zN) (qm zN) (qe zN) .none kV73 dc73 pm73 an73 cd73 ct73),sl73⟩) (c73:PySem.W.codeIn K cd73 "LogError.__init__"=true) (k73:PySem.W.keepIn K (.ref f73)=true)
   (pg_Entry:PySem.W.plainGet K C_Entry Str.empty=true) (hd_Entry:PySem.W.hasDictIn K C_Entry=true) (po_Entry:PySem.W.plainOver K C_Entry=true) (sa_Entry:PySem.W.findIn K (.ref C_Entry) "__setattr__"=some (some (.builtin "object.__setattr__"))) (mk_Entry:PySem.W.makesIn K C_Entry=true) (kc_Entry:PySem.W.keepIn K (.ref C_Entry)=true)
   (nf_Entry_name:PySem.W.findIn K (.ref C_Entry) "name"=some none)
   (pg_Within:PySem.W.plainGet K C_Within Str.empty=true) (hd_Within:PySem.W.hasDictIn K C_Within=true) (po_Within:PySem.W.plainOver K C_Within=true) (sa_Within:PySem.W.findIn K (.ref C_Within) "__setattr__"=some (some (.builtin "object.__setattr__"))) (mk_Within:PySem.W.makesIn K C_Within=true) (kc_Within:PySem.W.keepIn K (.ref C_Within)=true)
   (nf_Within_low:PySem.W.findIn K (.ref C_Within) "low"=some none)
   (nf_Within_high:PySem.W.findIn K (.ref C_Within) "high"=some none)
   (nf_Within_name:PySem.W.findIn K (.ref C_Within) "name"=some none)
   (pg_At:PySem.W.plainGet K C_At Str.empty=true) (hd_At:PySem.W.hasDictIn K C_At=true) (po_At:PySem.W.plainOver K C_At=true) (sa_At:PySem.W.findIn K (.ref C_At) "__setattr__"=some (some (.builtin "object.__setattr__"))) (mk_At:PySem.W.makesIn K C_At=true) (kc_At:PySem.W.keepIn K (.ref C_At)=true)
   (nf_At_low:PySem.W.findIn K (.ref C_At) "low"=some none)
   (nf_At_high:PySem.W.findIn K (.ref C_At) "high"=some none)
   (nf_At_name:PySem.W.findIn K (.ref C_At) "name"=some none)
   (pg_Between:PySem.W.plainGet K C_Between Str.empty=true) (hd_Between:PySem.W.hasDictIn K C_Between=true) (po_Between:PySem.W.plainOver K C_Between=true) (sa_Between:PySem.W.findIn K (.ref C_Between) "__setattr__"=some (some (.builtin "object.__setattr__"))) (mk_Between:PySem.W.makesIn K C_Between=true) (kc_Between:PySem.W.keepIn K (.ref C_Between)=true)
   (nf_Between_place:PySem.W.findIn K (.ref C_Between) "place"=some none)
   (nf_Between_low:PySem.W.findIn K (.ref C_Between) "low"=some none)
   (nf_Between_high:PySem.W.findIn K (.ref C_Between) "high"=some none)
   (nf_Between_name:PySem.W.findIn K (.ref C_Between) "name"=some none)
   (pg_Read:PySem.W.plainGet K C_Read Str.empty=true) (hd_Read:PySem.W.hasDictIn K C_Read=true) (po_Read:PySem.W.plainOver K C_Read=true) (sa_Read:PySem.W.findIn K (.ref C_Read) "__setattr__"=some (some (.builtin "object.__setattr__"))) (mk_Read:PySem.W.makesIn K C_Read=true) (kc_Read:PySem.W.keepIn K (.ref C_Read)=true)
   (nf_Read_place:PySem.W.findIn K (.ref C_Read) "place"=some none)
   (nf_Read_low:PySem.W.findIn K (.ref C_Read) "low"=some none)
   (nf_Read_high:PySem.W.findIn K (.ref C_Read) "high"=some none)
   (nf_Read_name:PySem.W.findIn K (.ref C_Read) "name"=some none)
   (pg_Log:PySem.W.plainGet K C_Log Str.empty=true) (hd_Log:PySem.W.hasDictIn K C_Log=true) (po_Log:PySem.W.plainOver K C_Log=true) (sa_Log:PySem.W.findIn K (.ref C_Log) "__setattr__"=some (some (.builtin "object.__setattr__"))) (mk_Log:PySem.W.makesIn K C_Log=true) (kc_Log:PySem.W.keepIn K (.ref C_Log)=true)
   (nf_Log_tables:PySem.W.findIn K (.ref C_Log) "tables"=some none)
   (nf_Log_entries:PySem.W.findIn K (.ref C_Log) "entries"=some none)
   (nf_Log_bound:PySem.W.findIn K (.ref C_Log) "bound"=some none)
   (pg_Table:PySem.W.plainGet K C_Table Str.empty=true) (hd_Table:PySem.W.hasDictIn K C_Table=true) (po_Table:PySem.W.plainOver K C_Table=true) (sa_Table:PySem.W.findIn K (.ref C_Table) "__setattr__"=some (some (.builtin "object.__setattr__"))) (mk_Table:PySem.W.makesIn K C_Table=true) (kc_Table:PySem.W.keepIn K (.ref C_Table)=true)
   (nf_Table_kept:PySem.W.findIn K (.ref C_Table) "kept"=some none)
   (z_len:PySem.W.nsIn K mainGlobals "len"=some none)
   (z_max:PySem.W.nsIn K mainGlobals "max"=some none)
   (z_min:PySem.W.nsIn K mainGlobals "min"=some none)
   (z_isinstance:PySem.W.nsIn K mainGlobals "isinstance"=some none)
   (z_range:PySem.W.nsIn K mainGlobals "range"=some none)
   (z_enumerate:PySem.W.nsIn K mainGlobals "enumerate"=some none)
   (z_int:PySem.W.nsIn K mainGlobals "int"=some none)
   (z_bool:PySem.W.nsIn K mainGlobals "bool"=some none)
   (z_str:PySem.W.nsIn K mainGlobals "str"=some none)
   (z_list:PySem.W.nsIn K mainGlobals "list"=some none)
   (z_tuple:PySem.W.nsIn K mainGlobals "tuple"=some none)
   (z_dict:PySem.W.nsIn K mainGlobals "dict"=some none)
   (z_sorted:PySem.W.nsIn K mainGlobals "sorted"=some none)
   (z_zip:PySem.W.nsIn K mainGlobals "zip"=some none)
   (z_all:PySem.W.nsIn K mainGlobals "all"=some none)
   {t_LAST:Tok} (g_LAST:PySem.W.nsIn K mainGlobals "LAST"=some (some (.int 1000000000 t_LAST)))
   {t_WIDEST_READING:Tok} (g_WIDEST_READING:PySem.W.nsIn K mainGlobals "WIDEST_READING"=some (some (.int 10000000000 t_WIDEST_READING)))
   {t_MOST_MINUTES:Tok} (g_MOST_MINUTES:PySem.W.nsIn K mainGlobals "MOST_MINUTES"=some (some (.int 2000000001 t_MOST_MINUTES)))
   {t_LONGEST_NAME:Tok} (g_LONGEST_NAME:PySem.W.nsIn K mainGlobals "LONGEST_NAME"=some (some (.int 8 t_LONGEST_NAME)))
   {t_MOST_PLACES:Tok} (g_MOST_PLACES:PySem.W.nsIn K mainGlobals "MOST_PLACES"=some (some (.int 6 t_MOST_PLACES)))
   {t_MOST_ENTRIES:Tok} (g_MOST_ENTRIES:PySem.W.nsIn K mainGlobals "MOST_ENTRIES"=some (some (.int 60 t_MOST_ENTRIES)))
   {t_MOST_BONDS:Tok} (g_MOST_BONDS:PySem.W.nsIn K mainGlobals "MOST_BONDS"=some (some (.int 100 t_MOST_BONDS)))
   {t_MOST_ROWS:Tok} (g_MOST_ROWS:PySem.W.nsIn K mainGlobals "MOST_ROWS"=some (some (.int 21 t_MOST_ROWS)))
   {t_WIDEST_SHIFT:Tok} (g_WIDEST_SHIFT:PySem.W.nsIn K mainGlobals "WIDEST_SHIFT"=some (some (.int 2880 t_WIDEST_SHIFT)))
   (zV:PySem.W.nsIn K mainGlobals "ValueError"=some none)
   {ob_LogError:Obj}
   (lk_LogError:K.lookup C_LogError=some ob_LogError)
   (xo_LogError:xOb C_LogError ob_LogError=true)
   (cg:PySem.W.specialIn K (.builtin "object.__class__") "__get__"=some (some (.builtin "getset_descriptor.__get__")))
   (ct:PySem.W.takesIn K (.builtin "object.__class__")=some true)
   (sg_LogError:PySem.W.specialIn K (.ref C_LogError) "__getattribute__"=some (some (.builtin "type.__getattribute__")))
   (rd_LogError:PySem.W.readsIn K C_LogError (.type "type")=true)
   (fc_LogError:PySem.W.findCls K (.ref C_LogError) (.type "type") "__init__"=some (.val (.ref f73)))
   (ih_Within_places:PySem.W.findIn K (.ref C_Within) "places"=some (some (.ref f42)))
   (ih_At_places:PySem.W.findIn K (.ref C_At) "places"=some (some (.ref f42)))
   (ih_At_spans:PySem.W.findIn K (.ref C_At) "spans"=some (some (.ref f46)))
   (ih_Read_places:PySem.W.findIn K (.ref C_Read) "places"=some (some (.ref f51)))
   (ih_Read_spans:PySem.W.findIn K (.ref C_Read) "spans"=some (some (.ref f52)))
   (sg_Entry:PySem.W.specialIn K (.ref C_Entry) "__getattribute__"=some (some (.builtin "type.__getattribute__")))
   (rd_Entry:PySem.W.readsIn K C_Entry (.type "type")=true)
   (fc_Entry:PySem.W.findCls K (.ref C_Entry) (.type "type") "__init__"=some (.val (.ref f40)))
   (sg_Within:PySem.W.specialIn K (.ref C_Within) "__getattribute__"=some (some (.builtin "type.__getattribute__")))
   (rd_Within:PySem.W.readsIn K C_Within (.type "type")=true)
   (fc_Within:PySem.W.findCls K (.ref C_Within) (.type "type") "__init__"=some (.val (.ref f44)))
   (sg_Between:PySem.W.specialIn K (.ref C_Between) "__getattribute__"=some (some (.builtin "type.__getattribute__")))
   (rd_Between:PySem.W.readsIn K C_Between (.type "type")=true)
   (fc_Between:PySem.W.findCls K (.ref C_Between) (.type "type") "__init__"=some (.val (.ref f49)))
   {ob_Entry:Obj}
   (lk_Entry:K.lookup C_Entry=some ob_Entry)
   (xm_Entry:qcf [some C_Entry,none] ob_Entry=true)
   (oa_Entry:PySem.W.findIn K (.ref C_Entry) "__class__"=some (some (.builtin "object.__class__")))
   (om_Entry:PySem.W.mroIn K C_Entry (.type "object")=some true)
   {ob_Within:Obj}
   (lk_Within:K.lookup C_Within=some ob_Within)
   (xm_Within:qcf [some C_Within,some C_Entry,none] ob_Within=true)
   (oa_Within:PySem.W.findIn K (.ref C_Within) "__class__"=some (some (.builtin "object.__class__")))
   (om_Within:PySem.W.mroIn K C_Within (.type "object")=some true)
   {ob_At:Obj}
   (lk_At:K.lookup C_At=some ob_At)
   (xm_At:qcf [some C_At,some C_Within,some C_Entry,none] ob_At=true)
   (oa_At:PySem.W.findIn K (.ref C_At) "__class__"=some (some (.builtin "object.__class__")))
   (om_At:PySem.W.mroIn K C_At (.type "object")=some true)
   {ob_Between:Obj}
   (lk_Between:K.lookup C_Between=some ob_Between)
   (xm_Between:qcf [some C_Between,some C_Entry,none] ob_Between=true)
   (oa_Between:PySem.W.findIn K (.ref C_Between) "__class__"=some (some (.builtin "object.__class__")))
   (om_Between:PySem.W.mroIn K C_Between (.type "object")=some true)
   {ob_Read:Obj}
   (lk_Read:K.lookup C_Read=some ob_Read)
   (xm_Read:qcf [some C_Read,some C_Between,some C_Entry,none] ob_Read=true)
   (oa_Read:PySem.W.findIn K (.ref C_Read) "__class__"=some (some (.builtin "object.__class__")))
   (om_Read:PySem.W.mroIn K C_Read (.type "object")=some true)
   {ob_Log:Obj}
   (lk_Log:K.lookup C_Log=some ob_Log)
   (xm_Log:qcf [some C_Log,none] ob_Log=true)
   (oa_Log:PySem.W.findIn K (.ref C_Log) "__class__"=some (some (.builtin "object.__class__")))
   (om_Log:PySem.W.mroIn K C_Log (.type "object")=some true)
   {ob_Table:Obj}
   (lk_Table:K.lookup C_Table=some ob_Table)
   (xm_Table:qcf [some C_Table,none] ob_Table=true)
   (oa_Table:PySem.W.findIn K (.ref C_Table) "__class__"=some (some (.builtin "object.__class__")))
   (om_Table:PySem.W.mroIn K C_Table (.type "object")=some true)
   (icc_Entry:PySem.W.isClsIn K C_Entry=true)
   (itc_Entry:PySem.W.typeIn K (.ref C_Entry)=some (.type "type"))
   (icc_Within:PySem.W.isClsIn K C_Within=true)
   (itc_Within:PySem.W.typeIn K (.ref C_Within)=some (.type "type"))
   (icc_At:PySem.W.isClsIn K C_At=true)
   (itc_At:PySem.W.typeIn K (.ref C_At)=some (.type "type"))
   (icc_Between:PySem.W.isClsIn K C_Between=true)
   (itc_Between:PySem.W.typeIn K (.ref C_Between)=some (.type "type"))
   (icc_Read:PySem.W.isClsIn K C_Read=true)
   (itc_Read:PySem.W.typeIn K (.ref C_Read)=some (.type "type"))
   (icc_Log:PySem.W.isClsIn K C_Log=true)
   (itc_Log:PySem.W.typeIn K (.ref C_Log)=some (.type "type"))
   (icc_Table:PySem.W.isClsIn K C_Table=true)
   (itc_Table:PySem.W.typeIn K (.ref C_Table)=some (.type "type"))
   (ndc_:([C_Entry,C_Within,C_At,C_Between,C_Read,C_Log,C_Table]:List Addr).Nodup)
   : ∃ fd:FuncData,(∀ (s:Shared) (v:Value),BindsTo s fd ⟨[v],[]⟩ [("_law_script",v)])∧∀ base:Heap,K.In base->base.Ns mainGlobals mg->qC l.prog w K mg base CX0 11 fa fd ["_law_script"] (qdO K):=by
 have e:=hfa.symm.trans (PySem.W.mg_of X G a39)
 cases e
 have F0:=qy (st:=QA) l0 c0 k0
 have b0:=F0.binds (ps:=["thing"]) fun _ _ _ _ _ _=>zW fun _=>rfl
 have F1:=qy (st:=Q1) l1 c1 k1
 have b1:=F1.binds (ps:=["thing","low","high"]) fun _ _ _ _ _ _=>qc7 fun _ _ _=>rfl
 have F2:=qy (st:=QB) l2 c2 k2
 have b2:=F2.binds (ps:=["thing"]) fun _ _ _ _ _ _=>zW fun _=>rfl
 have F3:=qy (st:=Qf) l3 c3 k3
 have b3:=F3.binds (ps:=["thing"]) fun _ _ _ _ _ _=>zW fun _=>rfl
 have F4:=qy (st:=Qg) l4 c4 k4
 have b4:=F4.binds (ps:=["thing"]) fun _ _ _ _ _ _=>zW fun _=>rfl
 have F5:=qy (st:=ZD) l5 c5 k5
 have b5:=F5.binds (ps:=["thing"]) fun _ _ _ _ _ _=>zW fun _=>rfl
 have F6:=qy (st:=Qe) l6 c6 k6
 have b6:=F6.binds (ps:=["thing"]) fun _ _ _ _ _ _=>zW fun _=>rfl
 have F7:=qy (st:=q9) l7 c7 k7
 have b7:=F7.binds (ps:=["stretches"]) fun _ _ _ _ _ _=>zW fun _=>rfl
 have F8:=qy (st:=Q0) l8 c8 k8
 have b8:=F8.binds (ps:=["stretches"]) fun _ _ _ _ _ _=>zW fun _=>rfl
 have F9:=qy (st:=Qi) l9 c9 k9
 have b9:=F9.binds (ps:=["thing"]) fun _ _ _ _ _ _=>zW fun _=>rfl
 have F10:=qy (st:=zD) l10 c10 k10
 have b10:=F10.binds (ps:=["thing"]) fun _ _ _ _ _ _=>zW fun _=>rfl
 have F11:=qy (st:=zq) l11 c11 k11
 have b11:=F11.binds (ps:=["thing"]) fun _ _ _ _ _ _=>zW fun _=>rfl
 have F12:=qy (st:=jA) l12 c12 k12
 have b12:=F12.binds (ps:=["thing","keyed"]) fun _ _ _ _ _ _=>Qp fun _ _=>rfl
 have F13:=qy (st:=jz) l13 c13 k13
 have b13:=F13.binds (ps:=["thing","widest"]) fun _ _ _ _ _ _=>Qp fun _ _=>rfl
 have F14:=qy (st:=Qz) l14 c14 k14
 have b14:=F14.binds (ps:=["rows","place"]) fun _ _ _ _ _ _=>Qp fun _ _=>rfl
 have F15:=qy (st:=Qh) l15 c15 k15
 have b15:=F15.binds (ps:=["rows","most","widest"]) fun _ _ _ _ _ _=>qc7 fun _ _ _=>rfl
 have F16:=qy (st:=Qy) l16 c16 k16
 have b16:=F16.binds (ps:=["rows","moment"]) fun _ _ _ _ _ _=>Qp fun _ _=>rfl
 have F17:=qy (st:=JQ) l17 c17 k17
 have b17:=F17.binds (ps:=["_law_script","_law_k"]) fun _ _ _ _ _ _=>Qp fun _ _=>rfl
 have F18:=qy (st:=qbt) l18 c18 k18
 have b18:=F18.binds (ps:=["_law_cell_here","_law_k"]) fun _ _ _ _ _ _=>Qp fun _ _=>rfl
 have F19:=qy (st:=jF) l19 c19 k19
 have b19:=F19.binds (ps:=["_law_cell_here"]) fun _ _ _ _ _ _=>zW fun _=>rfl
 have F20:=qy (st:=JM) l20 c20 k20
 have b20:=F20.binds (ps:=["_law_state","_law_many"]) fun _ _ _ _ _ _=>Qp fun _ _=>rfl
 have F21:=qy (st:=jE) l21 c21 k21
 have b21:=F21.binds (ps:=["_law_state","_law_many"]) fun _ _ _ _ _ _=>Qp fun _ _=>rfl
 have F22:=qy (st:=jD) l22 c22 k22
 have b22:=F22.binds (ps:=["_law_state"]) fun _ _ _ _ _ _=>zW fun _=>rfl
 have F23:=qy (st:=JL) l23 c23 k23
 have b23:=F23.binds (ps:=["_law_state"]) fun _ _ _ _ _ _=>zW fun _=>rfl
 have F24:=qy (st:=ZE) l24 c24 k24
 have b24:=F24.binds (ps:=["_law_rows_here"]) fun _ _ _ _ _ _=>zW fun _=>rfl
 have F25:=qy (st:=ZG) l25 c25 k25
 have b25:=F25.binds (ps:=["_law_stretches"]) fun _ _ _ _ _ _=>zW fun _=>rfl
 have F26:=qy (st:=jC) l26 c26 k26
 have b26:=F26.binds (ps:=["_law_rows_here","_law_low","_law_high"]) fun _ _ _ _ _ _=>qc7 fun _ _ _=>rfl
 have F27:=qy (st:=Qm) l27 c27 k27
 have b27:=F27.binds (ps:=["_law_found","_law_due"]) fun _ _ _ _ _ _=>Qp fun _ _=>rfl
 have F28:=qy (st:=JK) l28 c28 k28
 have b28:=F28.binds (ps:=["_law_found","_law_due"]) fun _ _ _ _ _ _=>Qp fun _ _=>rfl
 have F29:=qy (st:=JN) l29 c29 k29
 have b29:=F29.binds (ps:=["_law_state","_law_rows_here"]) fun _ _ _ _ _ _=>Qp fun _ _=>rfl
 have F30:=qy (st:=JJ) l30 c30 k30
 have b30:=F30.binds (ps:=["_law_state","_law_name","_law_places","_law_tables"]) fun _ _ _ _ _ _=>qfD fun _ _ _ _=>rfl
 have F31:=qy (st:=JO) l31 c31 k31
 have b31:=F31.binds (ps:=["_law_spec_here"]) fun _ _ _ _ _ _=>zW fun _=>rfl
 have F32:=qy (st:=jB) l32 c32 k32
 have b32:=F32.binds (ps:=["_law_spec_here","_law_tables"]) fun _ _ _ _ _ _=>Qp fun _ _=>rfl
 have F33:=qy (st:=Q4) l33 c33 k33
 have b33:=F33.binds (ps:=["_law_state"]) fun _ _ _ _ _ _=>zW fun _=>rfl
 have F34:=qy (st:=zQ) l34 c34 k34
 have b34:=F34.binds (ps:=["_law_state","_law_many"]) fun _ _ _ _ _ _=>Qp fun _ _=>rfl
 have F35:=qy (st:=zR) l35 c35 k35
 have b35:=F35.binds (ps:=["_law_state"]) fun _ _ _ _ _ _=>zW fun _=>rfl
 have F36:=qy (st:=JP) l36 c36 k36
 have b36:=F36.binds (ps:=["_law_log","_law_kept"]) fun _ _ _ _ _ _=>Qp fun _ _=>rfl
 have F37:=qy (st:=ZH) l37 c37 k37
 have b37:=F37.binds (ps:=["_law_log","_law_kept","_law_moment"]) fun _ _ _ _ _ _=>qc7 fun _ _ _=>rfl
 have F38:=qy (st:=JI) l38 c38 k38
 have b38:=F38.binds (ps:=["_law_log","_law_kept"]) fun _ _ _ _ _ _=>Qp fun _ _=>rfl
 have F39:=qy (st:=qev) l39 c39 k39
 have b39:=F39.binds (ps:=["_law_script"]) fun _ _ _ _ _ _=>zW fun _=>rfl
 have F40:=qy (st:=Qo) l40 c40 k40
 have b40:=F40.binds (ps:=["self","name"]) fun _ _ _ _ _ _=>Qp fun _ _=>rfl
 have F41:=qy (st:=Qn) l41 c41 k41
 have b41:=F41.binds (ps:=["self"]) fun _ _ _ _ _ _=>zW fun _=>rfl
 have F42:=qy (st:=zH) l42 c42 k42
 have b42:=F42.binds (ps:=["self"]) fun _ _ _ _ _ _=>zW fun _=>rfl
 have F43:=qy (st:=zS) l43 c43 k43
 have b43:=F43.binds (ps:=["self","tables"]) fun _ _ _ _ _ _=>Qp fun _ _=>rfl
 have F44:=qy (st:=zP) l44 c44 k44
 have b44:=F44.binds (ps:=["self","name","low","high"]) fun _ _ _ _ _ _=>qfD fun _ _ _ _=>rfl
 have F45:=qy (st:=zO) l45 c45 k45
 have b45:=F45.binds (ps:=["self"]) fun _ _ _ _ _ _=>zW fun _=>rfl
 have F46:=qy (st:=zE) l46 c46 k46
 have b46:=F46.binds (ps:=["self","tables"]) fun _ _ _ _ _ _=>Qp fun _ _=>rfl
 have F47:=qy (st:=ZJ) l47 c47 k47
 have b47:=F47.binds (ps:=["self","name","moment"]) fun _ _ _ _ _ _=>qc7 fun _ _ _=>rfl
 have F48:=qy (st:=ZI) l48 c48 k48
 have b48:=F48.binds (ps:=["self"]) fun _ _ _ _ _ _=>zW fun _=>rfl
 have F49:=qy (st:=zJ) l49 c49 k49
 have b49:=F49.binds (ps:=["self","name","place","low","high"]) fun _ _ _ _ _ _=>qjc fun _ _ _ _ _=>rfl
 have F50:=qy (st:=zI) l50 c50 k50
 have b50:=F50.binds (ps:=["self"]) fun _ _ _ _ _ _=>zW fun _=>rfl
 have F51:=qy (st:=zl) l51 c51 k51
 have b51:=F51.binds (ps:=["self"]) fun _ _ _ _ _ _=>zW fun _=>rfl
 have F52:=qy (st:=zu) l52 c52 k52
 have b52:=F52.binds (ps:=["self","tables"]) fun _ _ _ _ _ _=>Qp fun _ _=>rfl
 have F53:=qy (st:=QD) l53 c53 k53
 have b53:=F53.binds (ps:=["self","name","place","reading"]) fun _ _ _ _ _ _=>qfD fun _ _ _ _=>rfl
 have F54:=qy (st:=QC) l54 c54 k54
 have b54:=F54.binds (ps:=["self"]) fun _ _ _ _ _ _=>zW fun _=>rfl
 have F55:=qy (st:=Q2) l55 c55 k55
 have b55:=F55.binds (ps:=["self"]) fun _ _ _ _ _ _=>zW fun _=>rfl
 have F56:=qy (st:=QI) l56 c56 k56
 have b56:=F56.binds (ps:=["self","place","table"]) fun _ _ _ _ _ _=>qc7 fun _ _ _=>rfl
 have F57:=qy (st:=ZF) l57 c57 k57
 have b57:=F57.binds (ps:=["self","entry"]) fun _ _ _ _ _ _=>Qp fun _ _=>rfl
 have F58:=qy (st:=Q3) l58 c58 k58
 have b58:=F58.binds (ps:=["self","later","earlier","minutes"]) fun _ _ _ _ _ _=>qfD fun _ _ _ _=>rfl
 have F59:=qy (st:=za) l59 c59 k59
 have b59:=F59.binds (ps:=["self","name"]) fun _ _ _ _ _ _=>Qp fun _ _=>rfl
 have F60:=qy (st:=QG) l60 c60 k60
 have b60:=F60.binds (ps:=["self"]) fun _ _ _ _ _ _=>zW fun _=>rfl
 have F61:=qy (st:=QH) l61 c61 k61
 have b61:=F61.binds (ps:=["self","name"]) fun _ _ _ _ _ _=>Qp fun _ _=>rfl
 have F62:=qy (st:=QF) l62 c62 k62
 have b62:=F62.binds (ps:=["self","name"]) fun _ _ _ _ _ _=>Qp fun _ _=>rfl
 have F63:=qy (st:=QJ) l63 c63 k63
 have b63:=F63.binds (ps:=["self"]) fun _ _ _ _ _ _=>zW fun _=>rfl
 have F64:=qy (st:=Ql) l64 c64 k64
 have b64:=F64.binds (ps:=["self"]) fun _ _ _ _ _ _=>zW fun _=>rfl
 have F65:=qy (st:=QE) l65 c65 k65
 have b65:=F65.binds (ps:=["self","place"]) fun _ _ _ _ _ _=>Qp fun _ _=>rfl
 have F66:=qy (st:=zG) l66 c66 k66
 have b66:=F66.binds (ps:=["self","moment"]) fun _ _ _ _ _ _=>Qp fun _ _=>rfl
 have F67:=qy (st:=Qk) l67 c67 k67
 have b67:=F67.binds (ps:=["self","rows"]) fun _ _ _ _ _ _=>Qp fun _ _=>rfl
 have F68:=qy (st:=Qj) l68 c68 k68
 have b68:=F68.binds (ps:=["self"]) fun _ _ _ _ _ _=>zW fun _=>rfl
 have F69:=qy (st:=zF) l69 c69 k69
 have b69:=F69.binds (ps:=["self"]) fun _ _ _ _ _ _=>zW fun _=>rfl
 have F70:=qy (st:=zh) l70 c70 k70
 have b70:=F70.binds (ps:=["self","moment"]) fun _ _ _ _ _ _=>Qp fun _ _=>rfl
 have F71:=qy (st:=zt) l71 c71 k71
 have b71:=F71.binds (ps:=["self","moment"]) fun _ _ _ _ _ _=>Qp fun _ _=>rfl
 have F72:=qy (st:=qL) l72 c72 k72
 have b72:=F72.binds (ps:=["self","low","high"]) fun _ _ _ _ _ _=>qc7 fun _ _ _=>rfl
 have F73:=qy (st:=zN) l73 c73 k73
 have b73:=F73.binds (ps:=["self","text"]) fun _ _ _ _ _ _=>Qp fun _ _=>rfl
 refine ⟨_,fun s v=>.of_eq rfl,fun base _ _=>qiw (a:=⟨C_LogError,C_NoSpans,C_NoTable,C_TooMany,C_NoMoment,C_NoReading,C_NoName,C_NoPlace,C_NoEntry,C_Taken,C_NoMinutes,C_Entry,C_Within,C_At,C_Between,C_Read,C_Log,C_Table,f0,_,f1,_,f2,_,f3,_,f4,_,f5,_,f6,_,f7,_,f8,_,f9,_,f10,_,f11,_,f12,_,f13,_,f14,_,f15,_,f16,_,f17,_,f18,_,f19,_,f20,_,f21,_,f22,_,f23,_,f24,_,f25,_,f26,_,f27,_,f28,_,f29,_,f30,_,f31,_,f32,_,f33,_,f34,_,f35,_,f36,_,f37,_,f38,_,fa,_,f40,_,f41,_,f42,_,f43,_,f44,_,f45,_,f46,_,f47,_,f48,_,f49,_,f50,_,f51,_,f52,_,f53,_,f54,_,f55,_,f56,_,f57,_,f58,_,f59,_,f60,_,f61,_,f62,_,f63,_,f64,_,f65,_,f66,_,f67,_,f68,_,f69,_,f70,_,f71,_,f72,_,f73,_⟩) ⟨⟨F0,b0,PySem.W.mg_of X G a0,k0⟩,⟨F1,b1,PySem.W.mg_of X G a1,k1⟩,⟨F2,b2,PySem.W.mg_of X G a2,k2⟩,⟨F3,b3,PySem.W.mg_of X G a3,k3⟩,⟨F4,b4,PySem.W.mg_of X G a4,k4⟩,⟨F5,b5,PySem.W.mg_of X G a5,k5⟩,⟨F6,b6,PySem.W.mg_of X G a6,k6⟩,⟨F7,b7,PySem.W.mg_of X G a7,k7⟩,⟨F8,b8,PySem.W.mg_of X G a8,k8⟩,⟨F9,b9,PySem.W.mg_of X G a9,k9⟩,⟨F10,b10,PySem.W.mg_of X G a10,k10⟩,⟨F11,b11,PySem.W.mg_of X G a11,k11⟩,⟨F12,b12,PySem.W.mg_of X G a12,k12⟩,⟨F13,b13,PySem.W.mg_of X G a13,k13⟩,⟨F14,b14,PySem.W.mg_of X G a14,k14⟩,⟨F15,b15,PySem.W.mg_of X G a15,k15⟩,⟨F16,b16,PySem.W.mg_of X G a16,k16⟩,⟨F17,b17,PySem.W.mg_of X G a17,k17⟩,⟨F18,b18,PySem.W.mg_of X G a18,k18⟩,⟨F19,b19,PySem.W.mg_of X G a19,k19⟩,⟨F20,b20,PySem.W.mg_of X G a20,k20⟩,⟨F21,b21,PySem.W.mg_of X G a21,k21⟩,⟨F22,b22,PySem.W.mg_of X G a22,k22⟩,⟨F23,b23,PySem.W.mg_of X G a23,k23⟩,⟨F24,b24,PySem.W.mg_of X G a24,k24⟩,⟨F25,b25,PySem.W.mg_of X G a25,k25⟩,⟨F26,b26,PySem.W.mg_of X G a26,k26⟩,⟨F27,b27,PySem.W.mg_of X G a27,k27⟩,⟨F28,b28,PySem.W.mg_of X G a28,k28⟩,⟨F29,b29,PySem.W.mg_of X G a29,k29⟩,⟨F30,b30,PySem.W.mg_of X G a30,k30⟩,⟨F31,b31,PySem.W.mg_of X G a31,k31⟩,⟨F32,b32,PySem.W.mg_of X G a32,k32⟩,⟨F33,b33,PySem.W.mg_of X G a33,k33⟩,⟨F34,b34,PySem.W.mg_of X G a34,k34⟩,⟨F35,b35,PySem.W.mg_of X G a35,k35⟩,⟨F36,b36,PySem.W.mg_of X G a36,k36⟩,⟨F37,b37,PySem.W.mg_of X G a37,k37⟩,⟨F38,b38,PySem.W.mg_of X G a38,k38⟩,⟨F39,b39,PySem.W.mg_of X G a39,k39⟩,⟨F40,b40,⟨a40,i40,k40⟩⟩,⟨F41,b41,⟨a41,i41,k41⟩⟩,⟨F42,b42,⟨a42,i42,k42⟩⟩,⟨F43,b43,⟨a43,i43,k43⟩⟩,⟨F44,b44,⟨a44,i44,k44⟩⟩,⟨F45,b45,⟨a45,i45,k45⟩⟩,⟨F46,b46,⟨a46,i46,k46⟩⟩,⟨F47,b47,⟨a47,i47,k47⟩⟩,⟨F48,b48,⟨a48,i48,k48⟩⟩,⟨F49,b49,⟨a49,i49,k49⟩⟩,⟨F50,b50,⟨a50,i50,k50⟩⟩,⟨F51,b51,⟨a51,i51,k51⟩⟩,⟨F52,b52,⟨a52,i52,k52⟩⟩,⟨F53,b53,⟨a53,i53,k53⟩⟩,⟨F54,b54,⟨a54,i54,k54⟩⟩,⟨F55,b55,⟨a55,i55,k55⟩⟩,⟨F56,b56,⟨a56,i56,k56⟩⟩,⟨F57,b57,⟨a57,i57,k57⟩⟩,⟨F58,b58,⟨a58,i58,k58⟩⟩,⟨F59,b59,⟨a59,i59,k59⟩⟩,⟨F60,b60,⟨a60,i60,k60⟩⟩,⟨F61,b61,⟨a61,i61,k61⟩⟩,⟨F62,b62,⟨a62,i62,k62⟩⟩,⟨F63,b63,⟨a63,i63,k63⟩⟩,⟨F64,b64,⟨a64,i64,k64⟩⟩,⟨F65,b65,⟨a65,i65,k65⟩⟩,⟨F66,b66,⟨a66,i66,k66⟩⟩,⟨F67,b67,⟨a67,i67,k67⟩⟩,⟨F68,b68,⟨a68,i68,k68⟩⟩,⟨F69,b69,⟨a69,i69,k69⟩⟩,⟨F70,b70,⟨a70,i70,k70⟩⟩,⟨F71,b71,⟨a71,i71,k71⟩⟩,⟨F72,b72,⟨a72,i72,k72⟩⟩,⟨F73,b73,⟨a73,i73,k73⟩⟩,PySem.W.mg_of X G aC_Entry,⟨pg_Entry,hd_Entry,po_Entry,sa_Entry⟩,⟨mk_Entry,a40,i40,kc_Entry⟩,nf_Entry_name,PySem.W.mg_of X G aC_Within,⟨pg_Within,hd_Within,po_Within,sa_Within⟩,⟨mk_Within,a44,i44,kc_Within⟩,nf_Within_low,nf_Within_high,nf_Within_name,PySem.W.mg_of X G aC_At,⟨pg_At,hd_At,po_At,sa_At⟩,⟨mk_At,a47,i47,kc_At⟩,nf_At_low,nf_At_high,nf_At_name,PySem.W.mg_of X G aC_Between,⟨pg_Between,hd_Between,po_Between,sa_Between⟩,⟨mk_Between,a49,i49,kc_Between⟩,nf_Between_place,nf_Between_low,nf_Between_high,nf_Between_name,PySem.W.mg_of X G aC_Read,⟨pg_Read,hd_Read,po_Read,sa_Read⟩,⟨mk_Read,a53,i53,kc_Read⟩,nf_Read_place,nf_Read_low,nf_Read_high,nf_Read_name,PySem.W.mg_of X G aC_Log,⟨pg_Log,hd_Log,po_Log,sa_Log⟩,⟨mk_Log,a55,i55,kc_Log⟩,nf_Log_tables,nf_Log_entries,nf_Log_bound,PySem.W.mg_of X G aC_Table,⟨pg_Table,hd_Table,po_Table,sa_Table⟩,⟨mk_Table,a67,i67,kc_Table⟩,nf_Table_kept,PySem.W.mg_none_of X G z_len,PySem.W.mg_none_of X G z_max,PySem.W.mg_none_of X G z_min,PySem.W.mg_none_of X G z_isinstance,PySem.W.mg_none_of X G z_range,PySem.W.mg_none_of X G z_enumerate,PySem.W.mg_none_of X G z_int,PySem.W.mg_none_of X G z_bool,PySem.W.mg_none_of X G z_str,PySem.W.mg_none_of X G z_list,PySem.W.mg_none_of X G z_tuple,PySem.W.mg_none_of X G z_dict,PySem.W.mg_none_of X G z_sorted,PySem.W.mg_none_of X G z_zip,PySem.W.mg_none_of X G z_all,⟨t_LAST,PySem.W.mg_of X G g_LAST⟩,⟨t_WIDEST_READING,PySem.W.mg_of X G g_WIDEST_READING⟩,⟨t_MOST_MINUTES,PySem.W.mg_of X G g_MOST_MINUTES⟩,⟨t_LONGEST_NAME,PySem.W.mg_of X G g_LONGEST_NAME⟩,⟨t_MOST_PLACES,PySem.W.mg_of X G g_MOST_PLACES⟩,⟨t_MOST_ENTRIES,PySem.W.mg_of X G g_MOST_ENTRIES⟩,⟨t_MOST_BONDS,PySem.W.mg_of X G g_MOST_BONDS⟩,⟨t_MOST_ROWS,PySem.W.mg_of X G g_MOST_ROWS⟩,⟨t_WIDEST_SHIFT,PySem.W.mg_of X G g_WIDEST_SHIFT⟩,PySem.W.mg_none_of X G zV,PySem.W.mg_of X G aC_LogError,PySem.W.mg_of X G aC_NoSpans,PySem.W.mg_of X G aC_NoTable,PySem.W.mg_of X G aC_TooMany,PySem.W.mg_of X G aC_NoMoment,PySem.W.mg_of X G aC_NoReading,PySem.W.mg_of X G aC_NoName,PySem.W.mg_of X G aC_NoPlace,PySem.W.mg_of X G aC_NoEntry,PySem.W.mg_of X G aC_Taken,PySem.W.mg_of X G aC_NoMinutes,qh8 lk_LogError xo_LogError,⟨sg_LogError,rd_LogError,fc_LogError,k73⟩,⟨ih_Within_places,i42,k42⟩,⟨ih_At_places,i42,k42⟩,⟨ih_At_spans,i46,k46⟩,⟨ih_Read_places,i51,k51⟩,⟨ih_Read_spans,i52,k52⟩,⟨sg_Entry,rd_Entry,fc_Entry,k40⟩,⟨sg_Within,rd_Within,fc_Within,k44⟩,⟨sg_Between,rd_Between,fc_Between,k49⟩,XMro.of lk_Entry xm_Entry,⟨⟨pg_Entry,hd_Entry,po_Entry,sa_Entry⟩,oa_Entry,cg,ct,om_Entry⟩,XMro.of lk_Within xm_Within,⟨⟨pg_Within,hd_Within,po_Within,sa_Within⟩,oa_Within,cg,ct,om_Within⟩,XMro.of lk_At xm_At,⟨⟨pg_At,hd_At,po_At,sa_At⟩,oa_At,cg,ct,om_At⟩,XMro.of lk_Between xm_Between,⟨⟨pg_Between,hd_Between,po_Between,sa_Between⟩,oa_Between,cg,ct,om_Between⟩,XMro.of lk_Read xm_Read,⟨⟨pg_Read,hd_Read,po_Read,sa_Read⟩,oa_Read,cg,ct,om_Read⟩,XMro.of lk_Log xm_Log,⟨⟨pg_Log,hd_Log,po_Log,sa_Log⟩,oa_Log,cg,ct,om_Log⟩,XMro.of lk_Table xm_Table,⟨⟨pg_Table,hd_Table,po_Table,sa_Table⟩,oa_Table,cg,ct,om_Table⟩,⟨icc_Entry,itc_Entry⟩,⟨icc_Within,itc_Within⟩,⟨icc_At,itc_At⟩,⟨icc_Between,itc_Between⟩,⟨icc_Read,itc_Read⟩,⟨icc_Log,itc_Log⟩,⟨icc_Table,itc_Table⟩,ndc_⟩⟩
theorem walk {l:PySem.W.OpenLaw} {q:Program} {loose:List Str} {XP:(Str->Option Value)->Heap->Prop} {YP:World->Heap->Prop} {d:DefRec} {K:Params->PySem.W.Frag} (hn:l.most=some 63) (hdf:d.params.defaults=[])
   (hY:∀ (w:World) (h:Heap),YP w h->(K w.params).In h)
   (F:∀ (w:World) (mg:Str->Option Value) (fa:Addr) (h:Heap),(K w.params).In h->h.Ns mainGlobals mg->mg d.name=some (.ref fa) ->
     ∃ fd:FuncData,(∀ (s:Shared) (u:Value),BindsTo s fd ⟨[u],[]⟩ [("_law_script",u)])∧∀ base:Heap,(K w.params).In base->base.Ns mainGlobals mg->qC l.prog w (K w.params) mg base CX0 11 fa fd ["_law_script"] (qdO (K w.params))) :
   PySem.W.WalkO q loose XP YP l.row.toRowW d [] (fun f vs=>PySem.call f vs) :=
 L2.walk_of (n:=63) (k:=11) (x:="_law_script") (CX:=fun _=>CX0) (sp:=fun w=>qdO (K w.params)) hn (by decide) hdf ⟨rfl,by decide,by decide,rfl⟩ hY F (fun _ _ a ns hl _ hS=>⟨a,ns,rfl,hS,hl,fun _=>rfl⟩) fun _ _ _ _ _ z=>z
end K35
open PySem PySem.W PyProof.Rows
set_option maxHeartbeats 0 in
noncomputable def _root_.PySem.W.Fast.tw13776670870791149675 : Nat := 0
noncomputable def _root_.PySem.W.Fast.tw1725557014372070033 : Nat := 0
noncomputable def _root_.PySem.W.Fast.tw15001266366273061640 : Nat := 0
noncomputable def _root_.PySem.W.Fast.tw16832480885818783587 : Nat := 0
noncomputable def _root_.PySem.W.Fast.tw6468640821243139624 : Nat := 0
noncomputable def _root_.PySem.W.Fast.tw1666862730474344444 : Nat := 0
noncomputable def _root_.PySem.W.Fast.tw9552671830430113158 : Nat := 0
noncomputable def _root_.PySem.W.Fast.tw228207212764040199 : Nat := 0
noncomputable def _root_.PySem.W.Fast.tw17250929425496611310 : Nat := 0
noncomputable def _root_.PySem.W.Fast.tw4940369668385243517 : Nat := 0
noncomputable def _root_.PySem.W.Fast.tw17530087509716045742 : Nat := 0
noncomputable def _root_.PySem.W.Fast.tw8785358929307542329 : Nat := 0
noncomputable def _root_.PySem.W.Fast.tw702779392378652788 : Nat := 0
noncomputable def _root_.PySem.W.Fast.tw12564104183457811201 : Nat := 0
noncomputable def _root_.PySem.W.Fast.tw158115614245101415 : Nat := 0
noncomputable def _root_.PySem.W.Fast.tw874814883662082449 : Nat := 0
noncomputable def _root_.PySem.W.Fast.tw14721280636028818952 : Nat := 0
noncomputable def _root_.PySem.W.Fast.tw4583700031070885278 : Nat := 0
noncomputable def _root_.PySem.W.Fast.tw9328385785079075537 : Nat := 0
noncomputable def _root_.PySem.W.Fast.tw7191636573666400198 : Nat := 0
noncomputable def _root_.PySem.W.Fast.tw1750589442384425045 : Nat := 0
noncomputable def _root_.PySem.W.Fast.tw8072325188909118745 : Nat := 0
noncomputable def _root_.PySem.W.Fast.tw9212667229535366398 : Nat := 0
noncomputable def _root_.PySem.W.Fast.tw3155796610537021243 : Nat := 0
noncomputable def _root_.PySem.W.Fast.tw9396487683494912091 : Nat := 0
noncomputable def _root_.PySem.W.Fast.tw14600225450105461661 : Nat := 0
noncomputable def _root_.PySem.W.Fast.tw16409231895592258451 : Nat := 0
noncomputable def _root_.PySem.W.Fast.tw5583875128191409790 : Nat := 0
noncomputable def _root_.PySem.W.Fast.tw14205933456724743339 : Nat := 0
noncomputable def _root_.PySem.W.Fast.tw16148203300455986856 : Nat := 0
noncomputable def _root_.PySem.W.Fast.tw3571718085222562706 : Nat := 0
noncomputable def _root_.PySem.W.Fast.tw15914799653936289720 : Nat := 0
noncomputable def _root_.PySem.W.Fast.tw12351030489164159892 : Nat := 0
noncomputable def _root_.PySem.W.Fast.tw3156613340403935807 : Nat := 0
noncomputable def _root_.PySem.W.Fast.tw145724633867430279 : Nat := 0
noncomputable def _root_.PySem.W.Fast.tw3111966181591064241 : Nat := 0
noncomputable def _root_.PySem.W.Fast.tw9787477396644941302 : Nat := 0
noncomputable def _root_.PySem.W.Fast.tw7194451310027172282 : Nat := 0
noncomputable def _root_.PySem.W.Fast.tw5501109964928186802 : Nat := 0
noncomputable def _root_.PySem.W.Fast.tw10028191900673033834 : Nat := 0
noncomputable def _root_.PySem.W.Fast.tw16481677281122421200 : Nat := 0
noncomputable def _root_.PySem.W.Fast.tw17918422789610727004 : Nat := 0
noncomputable def _root_.PySem.W.Fast.tw4326059097807094861 : Nat := 0
noncomputable def _root_.PySem.W.Fast.tw12309684213569306029 : Nat := 0
noncomputable def _root_.PySem.W.Fast.tw16657159730304682602 : Nat := 0
noncomputable def _root_.PySem.W.Fast.tw8101951341444806141 : Nat := 0
noncomputable def _root_.PySem.W.Fast.tw8657152290487994625 : Nat := 0
noncomputable def _root_.PySem.W.Fast.tw11189124085125397784 : Nat := 0
noncomputable def _root_.PySem.W.Fast.tw9849978918131357654 : Nat := 0
noncomputable def _root_.PySem.W.Fast.tw18284348876159581643 : Nat := 0
theorem PySem.Challenge.cw_foldlog_k35_deeds_told_back_holds : PySem.Challenge.rw_foldlog_k35_deeds_told_back.Holds := by
 w_on; o_law; z_head; (case hw=>w_witness2)
 k_fill
 refine K35.walkX (fun _=>by kernel_rfl) (K35.walk (l:=PySem.Challenge.rw_foldlog_k35_deeds_told_back) rfl rfl (fun w h Y=>Y) ?F)
 case F =>
   intro w mg fa h KX G hmg
   refine' K35.all_mk KX G hmg ?aC_LogError ?aC_NoSpans ?aC_NoTable ?aC_TooMany ?aC_NoMoment ?aC_NoReading ?aC_NoName ?aC_NoPlace ?aC_NoEntry ?aC_Taken ?aC_NoMinutes ?aC_Entry ?aC_Within ?aC_At ?aC_Between ?aC_Read ?aC_Log ?aC_Table ?a0 ?l0 ?c0 ?k0 ?a1 ?l1 ?c1 ?k1 ?a2 ?l2 ?c2 ?k2 ?a3 ?l3 ?c3 ?k3 ?a4 ?l4 ?c4 ?k4 ?a5 ?l5 ?c5 ?k5 ?a6 ?l6 ?c6 ?k6 ?a7 ?l7 ?c7 ?k7 ?a8 ?l8 ?c8 ?k8 ?a9 ?l9 ?c9 ?k9 ?a10 ?l10 ?c10 ?k10 ?a11 ?l11 ?c11 ?k11 ?a12 ?l12 ?c12 ?k12 ?a13 ?l13 ?c13 ?k13 ?a14 ?l14 ?c14 ?k14 ?a15 ?l15 ?c15 ?k15 ?a16 ?l16 ?c16 ?k16 ?a17 ?l17 ?c17 ?k17 ?a18 ?l18 ?c18 ?k18 ?a19 ?l19 ?c19 ?k19 ?a20 ?l20 ?c20 ?k20 ?a21 ?l21 ?c21 ?k21 ?a22 ?l22 ?c22 ?k22 ?a23 ?l23 ?c23 ?k23 ?a24 ?l24 ?c24 ?k24 ?a25 ?l25 ?c25 ?k25 ?a26 ?l26 ?c26 ?k26 ?a27 ?l27 ?c27 ?k27 ?a28 ?l28 ?c28 ?k28 ?a29 ?l29 ?c29 ?k29 ?a30 ?l30 ?c30 ?k30 ?a31 ?l31 ?c31 ?k31 ?a32 ?l32 ?c32 ?k32 ?a33 ?l33 ?c33 ?k33 ?a34 ?l34 ?c34 ?k34 ?a35 ?l35 ?c35 ?k35 ?a36 ?l36 ?c36 ?k36 ?a37 ?l37 ?c37 ?k37 ?a38 ?l38 ?c38 ?k38 ?a39 ?l39 ?c39 ?k39 ?a40 ?i40 ?l40 ?c40 ?k40 ?a41 ?i41 ?l41 ?c41 ?k41 ?a42 ?i42 ?l42 ?c42 ?k42 ?a43 ?i43 ?l43 ?c43 ?k43 ?a44 ?i44 ?l44 ?c44 ?k44 ?a45 ?i45 ?l45 ?c45 ?k45 ?a46 ?i46 ?l46 ?c46 ?k46 ?a47 ?i47 ?l47 ?c47 ?k47 ?a48 ?i48 ?l48 ?c48 ?k48 ?a49 ?i49 ?l49 ?c49 ?k49 ?a50 ?i50 ?l50 ?c50 ?k50 ?a51 ?i51 ?l51 ?c51 ?k51 ?a52 ?i52 ?l52 ?c52 ?k52 ?a53 ?i53 ?l53 ?c53 ?k53 ?a54 ?i54 ?l54 ?c54 ?k54 ?a55 ?i55 ?l55 ?c55 ?k55 ?a56 ?i56 ?l56 ?c56 ?k56 ?a57 ?i57 ?l57 ?c57 ?k57 ?a58 ?i58 ?l58 ?c58 ?k58 ?a59 ?i59 ?l59 ?c59 ?k59 ?a60 ?i60 ?l60 ?c60 ?k60 ?a61 ?i61 ?l61 ?c61 ?k61 ?a62 ?i62 ?l62 ?c62 ?k62 ?a63 ?i63 ?l63 ?c63 ?k63 ?a64 ?i64 ?l64 ?c64 ?k64 ?a65 ?i65 ?l65 ?c65 ?k65 ?a66 ?i66 ?l66 ?c66 ?k66 ?a67 ?i67 ?l67 ?c67 ?k67 ?a68 ?i68 ?l68 ?c68 ?k68 ?a69 ?i69 ?l69 ?c69 ?k69 ?a70 ?i70 ?l70 ?c70 ?k70 ?a71 ?i71 ?l71 ?c71 ?k71 ?a72 ?i72 ?l72 ?c72 ?k72 ?a73 ?i73 ?l73 ?c73 ?k73 ?pg_Entry ?hd_Entry ?po_Entry ?sa_Entry ?mk_Entry ?kc_Entry ?nf_Entry_name ?pg_Within ?hd_Within ?po_Within ?sa_Within ?mk_Within ?kc_Within ?nf_Within_low ?nf_Within_high ?nf_Within_name ?pg_At ?hd_At ?po_At ?sa_At ?mk_At ?kc_At ?nf_At_low ?nf_At_high ?nf_At_name ?pg_Between ?hd_Between ?po_Between ?sa_Between ?mk_Between ?kc_Between ?nf_Between_place ?nf_Between_low ?nf_Between_high ?nf_Between_name ?pg_Read ?hd_Read ?po_Read ?sa_Read ?mk_Read ?kc_Read ?nf_Read_place ?nf_Read_low ?nf_Read_high ?nf_Read_name ?pg_Log ?hd_Log ?po_Log ?sa_Log ?mk_Log ?kc_Log ?nf_Log_tables ?nf_Log_entries ?nf_Log_bound ?pg_Table ?hd_Table ?po_Table ?sa_Table ?mk_Table ?kc_Table ?nf_Table_kept ?z_len ?z_max ?z_min ?z_isinstance ?z_range ?z_enumerate ?z_int ?z_bool ?z_str ?z_list ?z_tuple ?z_dict ?z_sorted ?z_zip ?z_all ?g_LAST ?g_WIDEST_READING ?g_MOST_MINUTES ?g_LONGEST_NAME ?g_MOST_PLACES ?g_MOST_ENTRIES ?g_MOST_BONDS ?g_MOST_ROWS ?g_WIDEST_SHIFT ?zV ?lk_LogError ?xo_LogError ?cg ?ct ?sg_LogError ?rd_LogError ?fc_LogError ?ih_Within_places ?ih_At_places ?ih_At_spans ?ih_Read_places ?ih_Read_spans ?sg_Entry ?rd_Entry ?fc_Entry ?sg_Within ?rd_Within ?fc_Within ?sg_Between ?rd_Between ?fc_Between ?lk_Entry ?xm_Entry ?oa_Entry ?om_Entry ?lk_Within ?xm_Within ?oa_Within ?om_Within ?lk_At ?xm_At ?oa_At ?om_At ?lk_Between ?xm_Between ?oa_Between ?om_Between ?lk_Read ?xm_Read ?oa_Read ?om_Read ?lk_Log ?xm_Log ?oa_Log ?om_Log ?lk_Table ?xm_Table ?oa_Table ?om_Table ?icc_Entry ?itc_Entry ?icc_Within ?itc_Within ?icc_At ?itc_At ?icc_Between ?itc_Between ?icc_Read ?itc_Read ?icc_Log ?itc_Log ?icc_Table ?itc_Table ?ndc_
   (case aC_LogError=>k_is)
   (case aC_NoSpans=>k_is)
   (case aC_NoTable=>k_is)
   (case aC_TooMany=>k_is)
   (case aC_NoMoment=>k_is)
   (case aC_NoReading=>k_is)
   (case aC_NoName=>k_is)
   (case aC_NoPlace=>k_is)
   (case aC_NoEntry=>k_is)
   (case aC_Taken=>k_is)
   (case aC_NoMinutes=>k_is)
   (case aC_Entry=>k_is)
   (case aC_Within=>k_is)
   (case aC_At=>k_is)
   (case aC_Between=>k_is)
   (case aC_Read=>k_is)
   (case aC_Log=>k_is)
   (case aC_Table=>k_is)
   (case a0=>k_is)
   (case l0=>k_is)
   (case c0=>k_is)
   (case k0=>k_is)
   (case a1=>k_is)
   (case l1=>k_is)
   (case c1=>k_is)
   (case k1=>k_is)
   (case a2=>k_is)
   (case l2=>k_is)
   (case c2=>k_is)
   (case k2=>k_is)
   (case a3=>k_is)
   (case l3=>k_is)
   (case c3=>k_is)
   (case k3=>k_is)
   (case a4=>k_is)
   (case l4=>k_is)
   (case c4=>k_is)
   (case k4=>k_is)
   (case a5=>k_is)
   (case l5=>k_is)
   (case c5=>k_is)
   (case k5=>k_is)
   (case a6=>k_is)
   (case l6=>k_is)
   (case c6=>k_is)
   (case k6=>k_is)
   (case a7=>k_is)
   (case l7=>k_is)
   (case c7=>k_is)
   (case k7=>k_is)
   (case a8=>k_is)
   (case l8=>k_is)
   (case c8=>k_is)
   (case k8=>k_is)
   (case a9=>k_is)
   (case l9=>k_is)
   (case c9=>k_is)
   (case k9=>k_is)
   (case a10=>k_is)
   (case l10=>k_is)
   (case c10=>k_is)
   (case k10=>k_is)
   (case a11=>k_is)
   (case l11=>k_is)
   (case c11=>k_is)
   (case k11=>k_is)
   (case a12=>k_is)
   (case l12=>k_is)
   (case c12=>k_is)
   (case k12=>k_is)
   (case a13=>k_is)
   (case l13=>k_is)
   (case c13=>k_is)
   (case k13=>k_is)
   (case a14=>k_is)
   (case l14=>k_is)
   (case c14=>k_is)
   (case k14=>k_is)
   (case a15=>k_is)
   (case l15=>k_is)
   (case c15=>k_is)
   (case k15=>k_is)
   (case a16=>k_is)
   (case l16=>k_is)
   (case c16=>k_is)
   (case k16=>k_is)
   (case a17=>k_is)
   (case l17=>k_is)
   (case c17=>k_is)
   (case k17=>k_is)
   (case a18=>k_is)
   (case l18=>k_is)
   (case c18=>k_is)
   (case k18=>k_is)
   (case a19=>k_is)
   (case l19=>k_is)
   (case c19=>k_is)
   (case k19=>k_is)
   (case a20=>k_is)
   (case l20=>k_is)
   (case c20=>k_is)
   (case k20=>k_is)
   (case a21=>k_is)
   (case l21=>k_is)
   (case c21=>k_is)
   (case k21=>k_is)
   (case a22=>k_is)
   (case l22=>k_is)
   (case c22=>k_is)
   (case k22=>k_is)
   (case a23=>k_is)
   (case l23=>k_is)
   (case c23=>k_is)
   (case k23=>k_is)
   (case a24=>k_is)
   (case l24=>k_is)
   (case c24=>k_is)
   (case k24=>k_is)
   (case a25=>k_is)
   (case l25=>k_is)
   (case c25=>k_is)
   (case k25=>k_is)
   (case a26=>k_is)
   (case l26=>k_is)
   (case c26=>k_is)
   (case k26=>k_is)
   (case a27=>k_is)
   (case l27=>k_is)
   (case c27=>k_is)
   (case k27=>k_is)
   (case a28=>k_is)
   (case l28=>k_is)
   (case c28=>k_is)
   (case k28=>k_is)
   (case a29=>k_is)
   (case l29=>k_is)
   (case c29=>k_is)
   (case k29=>k_is)
   (case a30=>k_is)
   (case l30=>k_is)
   (case c30=>k_is)
   (case k30=>k_is)
   (case a31=>k_is)
   (case l31=>k_is)
   (case c31=>k_is)
   (case k31=>k_is)
   (case a32=>k_is)
   (case l32=>k_is)
   (case c32=>k_is)
   (case k32=>k_is)
   (case a33=>k_is)
   (case l33=>k_is)
   (case c33=>k_is)
   (case k33=>k_is)
   (case a34=>k_is)
   (case l34=>k_is)
   (case c34=>k_is)
   (case k34=>k_is)
   (case a35=>k_is)
   (case l35=>k_is)
   (case c35=>k_is)
   (case k35=>k_is)
   (case a36=>k_is)
   (case l36=>k_is)
   (case c36=>k_is)
   (case k36=>k_is)
   (case a37=>k_is)
   (case l37=>k_is)
   (case c37=>k_is)
   (case k37=>k_is)
   (case a38=>k_is)
   (case l38=>k_is)
   (case c38=>k_is)
   (case k38=>k_is)
   (case a39=>k_is)
   (case l39=>k_is)
   (case c39=>k_is)
   (case k39=>k_is)
   (case a40=>k_is)
   (case i40=>k_is)
   (case l40=>k_is)
   (case c40=>k_is)
   (case k40=>k_is)
   (case a41=>k_is)
   (case i41=>k_is)
   (case l41=>k_is)
   (case c41=>k_is)
   (case k41=>k_is)
   (case a42=>k_is)
   (case i42=>k_is)
   (case l42=>k_is)
   (case c42=>k_is)
   (case k42=>k_is)
   (case a43=>k_is)
   (case i43=>k_is)
   (case l43=>k_is)
   (case c43=>k_is)
   (case k43=>k_is)
   (case a44=>k_is)
   (case i44=>k_is)
   (case l44=>k_is)
   (case c44=>k_is)
   (case k44=>k_is)
   (case a45=>k_is)
   (case i45=>k_is)
   (case l45=>k_is)
   (case c45=>k_is)
   (case k45=>k_is)
   (case a46=>k_is)
   (case i46=>k_is)
   (case l46=>k_is)
   (case c46=>k_is)
   (case k46=>k_is)
   (case a47=>k_is)
   (case i47=>k_is)
   (case l47=>k_is)
   (case c47=>k_is)
   (case k47=>k_is)
   (case a48=>k_is)
   (case i48=>k_is)
   (case l48=>k_is)
   (case c48=>k_is)
   (case k48=>k_is)
   (case a49=>k_is)
   (case i49=>k_is)
   (case l49=>k_is)
   (case c49=>k_is)
   (case k49=>k_is)
   (case a50=>k_is)
   (case i50=>k_is)
   (case l50=>k_is)
   (case c50=>k_is)
   (case k50=>k_is)
   (case a51=>k_is)
   (case i51=>k_is)
   (case l51=>k_is)
   (case c51=>k_is)
   (case k51=>k_is)
   (case a52=>k_is)
   (case i52=>k_is)
   (case l52=>k_is)
   (case c52=>k_is)
   (case k52=>k_is)
   (case a53=>k_is)
   (case i53=>k_is)
   (case l53=>k_is)
   (case c53=>k_is)
   (case k53=>k_is)
   (case a54=>k_is)
   (case i54=>k_is)
   (case l54=>k_is)
   (case c54=>k_is)
   (case k54=>k_is)
   (case a55=>k_is)
   (case i55=>k_is)
   (case l55=>k_is)
   (case c55=>k_is)
   (case k55=>k_is)
   (case a56=>k_is)
   (case i56=>k_is)
   (case l56=>k_is)
   (case c56=>k_is)
   (case k56=>k_is)
   (case a57=>k_is)
   (case i57=>k_is)
   (case l57=>k_is)
   (case c57=>k_is)
   (case k57=>k_is)
   (case a58=>k_is)
   (case i58=>k_is)
   (case l58=>k_is)
   (case c58=>k_is)
   (case k58=>k_is)
   (case a59=>k_is)
   (case i59=>k_is)
   (case l59=>k_is)
   (case c59=>k_is)
   (case k59=>k_is)
   (case a60=>k_is)
   (case i60=>k_is)
   (case l60=>k_is)
   (case c60=>k_is)
   (case k60=>k_is)
   (case a61=>k_is)
   (case i61=>k_is)
   (case l61=>k_is)
   (case c61=>k_is)
   (case k61=>k_is)
   (case a62=>k_is)
   (case i62=>k_is)
   (case l62=>k_is)
   (case c62=>k_is)
   (case k62=>k_is)
   (case a63=>k_is)
   (case i63=>k_is)
   (case l63=>k_is)
   (case c63=>k_is)
   (case k63=>k_is)
   (case a64=>k_is)
   (case i64=>k_is)
   (case l64=>k_is)
   (case c64=>k_is)
   (case k64=>k_is)
   (case a65=>k_is)
   (case i65=>k_is)
   (case l65=>k_is)
   (case c65=>k_is)
   (case k65=>k_is)
   (case a66=>k_is)
   (case i66=>k_is)
   (case l66=>k_is)
   (case c66=>k_is)
   (case k66=>k_is)
   (case a67=>k_is)
   (case i67=>k_is)
   (case l67=>k_is)
   (case c67=>k_is)
   (case k67=>k_is)
   (case a68=>k_is)
   (case i68=>k_is)
   (case l68=>k_is)
   (case c68=>k_is)
   (case k68=>k_is)
   (case a69=>k_is)
   (case i69=>k_is)
   (case l69=>k_is)
   (case c69=>k_is)
   (case k69=>k_is)
   (case a70=>k_is)
   (case i70=>k_is)
   (case l70=>k_is)
   (case c70=>k_is)
   (case k70=>k_is)
   (case a71=>k_is)
   (case i71=>k_is)
   (case l71=>k_is)
   (case c71=>k_is)
   (case k71=>k_is)
   (case a72=>k_is)
   (case i72=>k_is)
   (case l72=>k_is)
   (case c72=>k_is)
   (case k72=>k_is)
   (case a73=>k_is)
   (case i73=>k_is)
   (case l73=>k_is)
   (case c73=>k_is)
   (case k73=>k_is)
   (case pg_Entry=>k_is)
   (case hd_Entry=>k_is)
   (case po_Entry=>k_is)
   (case sa_Entry=>k_is)
   (case mk_Entry=>k_is)
   (case kc_Entry=>k_is)
   (case nf_Entry_name=>k_is)
   (case pg_Within=>k_is)
   (case hd_Within=>k_is)
   (case po_Within=>k_is)
   (case sa_Within=>k_is)
   (case mk_Within=>k_is)
   (case kc_Within=>k_is)
   (case nf_Within_low=>k_is)
   (case nf_Within_high=>k_is)
   (case nf_Within_name=>k_is)
   (case pg_At=>k_is)
   (case hd_At=>k_is)
   (case po_At=>k_is)
   (case sa_At=>k_is)
   (case mk_At=>k_is)
   (case kc_At=>k_is)
   (case nf_At_low=>k_is)
   (case nf_At_high=>k_is)
   (case nf_At_name=>k_is)
   (case pg_Between=>k_is)
   (case hd_Between=>k_is)
   (case po_Between=>k_is)
   (case sa_Between=>k_is)
   (case mk_Between=>k_is)
   (case kc_Between=>k_is)
   (case nf_Between_place=>k_is)
   (case nf_Between_low=>k_is)
   (case nf_Between_high=>k_is)
   (case nf_Between_name=>k_is)
   (case pg_Read=>k_is)
   (case hd_Read=>k_is)
   (case po_Read=>k_is)
   (case sa_Read=>k_is)
   (case mk_Read=>k_is)
   (case kc_Read=>k_is)
   (case nf_Read_place=>k_is)
   (case nf_Read_low=>k_is)
   (case nf_Read_high=>k_is)
   (case nf_Read_name=>k_is)
   (case pg_Log=>k_is)
   (case hd_Log=>k_is)
   (case po_Log=>k_is)
   (case sa_Log=>k_is)
   (case mk_Log=>k_is)
   (case kc_Log=>k_is)
   (case nf_Log_tables=>k_is)
   (case nf_Log_entries=>k_is)
   (case nf_Log_bound=>k_is)
   (case pg_Table=>k_is)
   (case hd_Table=>k_is)
   (case po_Table=>k_is)
   (case sa_Table=>k_is)
   (case mk_Table=>k_is)
   (case kc_Table=>k_is)
   (case nf_Table_kept=>k_is)
   (case z_len=>k_is)
   (case z_max=>k_is)
   (case z_min=>k_is)
   (case z_isinstance=>k_is)
   (case z_range=>k_is)
   (case z_enumerate=>k_is)
   (case z_int=>k_is)
   (case z_bool=>k_is)
   (case z_str=>k_is)
   (case z_list=>k_is)
   (case z_tuple=>k_is)
   (case z_dict=>k_is)
   (case z_sorted=>k_is)
   (case z_zip=>k_is)
   (case z_all=>k_is)
   (case g_LAST=>k_is)
   (case g_WIDEST_READING=>k_is)
   (case g_MOST_MINUTES=>k_is)
   (case g_LONGEST_NAME=>k_is)
   (case g_MOST_PLACES=>k_is)
   (case g_MOST_ENTRIES=>k_is)
   (case g_MOST_BONDS=>k_is)
   (case g_MOST_ROWS=>k_is)
   (case g_WIDEST_SHIFT=>k_is)
   (case zV=>k_is)
   (case lk_LogError=>k_is)
   (case xo_LogError=>rfl)
   (case cg=>k_is)
   (case ct=>k_is)
   (case sg_LogError=>k_is)
   (case rd_LogError=>k_is)
   (case fc_LogError=>k_is)
   (case ih_Within_places=>k_is)
   (case ih_At_places=>k_is)
   (case ih_At_spans=>k_is)
   (case ih_Read_places=>k_is)
   (case ih_Read_spans=>k_is)
   (case sg_Entry=>k_is)
   (case rd_Entry=>k_is)
   (case fc_Entry=>k_is)
   (case sg_Within=>k_is)
   (case rd_Within=>k_is)
   (case fc_Within=>k_is)
   (case sg_Between=>k_is)
   (case rd_Between=>k_is)
   (case fc_Between=>k_is)
   (case lk_Entry=>k_is)
   (case xm_Entry=>rfl)
   (case oa_Entry=>k_is)
   (case om_Entry=>k_is)
   (case lk_Within=>k_is)
   (case xm_Within=>rfl)
   (case oa_Within=>k_is)
   (case om_Within=>k_is)
   (case lk_At=>k_is)
   (case xm_At=>rfl)
   (case oa_At=>k_is)
   (case om_At=>k_is)
   (case lk_Between=>k_is)
   (case xm_Between=>rfl)
   (case oa_Between=>k_is)
   (case om_Between=>k_is)
   (case lk_Read=>k_is)
   (case xm_Read=>rfl)
   (case oa_Read=>k_is)
   (case om_Read=>k_is)
   (case lk_Log=>k_is)
   (case xm_Log=>rfl)
   (case oa_Log=>k_is)
   (case om_Log=>k_is)
   (case lk_Table=>k_is)
   (case xm_Table=>rfl)
   (case oa_Table=>k_is)
   (case om_Table=>k_is)
   (case icc_Entry=>k_is)
   (case itc_Entry=>k_is)
   (case icc_Within=>k_is)
   (case itc_Within=>k_is)
   (case icc_At=>k_is)
   (case itc_At=>k_is)
   (case icc_Between=>k_is)
   (case itc_Between=>k_is)
   (case icc_Read=>k_is)
   (case itc_Read=>k_is)
   (case icc_Log=>k_is)
   (case itc_Log=>k_is)
   (case icc_Table=>k_is)
   (case itc_Table=>k_is)
   (case ndc_=>decide)
