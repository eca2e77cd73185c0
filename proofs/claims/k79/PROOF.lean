import PyProof.Rows.All
import Wide.All
import OpenK.AllK
import Wide.FinOn
import Lean
import PyProof.EqAt
import PyProof.EqKinds
import PyProof.TupleCall
import PyProof.ZipIter
import PyProof.TupleIter
import PyProof.CompUse
import KE.KRevIter
import KE.KIntText
import PyProof.FString
import PyProof.Rows.StrNews2
import PyProof.Rows.StrSplitCount
import PyProof.Rows.StrClose3
import KE.IntTextText
import PyProof.StrLawsTight
import PyProof.StationsW
import PyProof.PassesOwn
import PyProof.ExcInit
import PyProof.ExcBaseAll.ValueError
import PyProof.InstStoreFacts
import KE.KIsNot
import PyProof.ExcArgs
import PyProof.RulesAs
import KE.KEqDict
import PyProof.NsDelKeeps
import KE.KListMore
import PyProof.ReprRoads
import PyProof.ReprLen
import PyProof.MeetsStr3
import PyProof.StrOps2
import PyProof.Rows.InDataRows
import KE.KSortTup
import KE.KSorted
import KE.KDictList
import KE.KDictSum
import PyProof.Rows.SortStr
import PyProof.Rows.SortWalk
import KE.KDictOf
import PyProof.DictUpdate
import PyProof.AttrMissSeq
import PyProof.Rows.SetFrom
import PyProof.IsInstanceT
import KE.KItemsList
import PyProof.DictItems
import PyProof.DictValues
import PyProof.InstEq
import PyProof.MaxThree
import PyProof.SetScanFacts
import PyProof.SetRoads
import PyProof.CollectWalk
import KE.LcSums
import PyProof.NeKinds
import PySem.Challenge.RW_foldlog_k79_not_put_together
set_option maxHeartbeats 4000000
set_option Elab.async false
set_option linter.all false
set_option maxRecDepth 100000
namespace L2
open PySem PySem.Spec PyProof.Rows
open PySem.W (instObj methodObj Frag lookIn plainGet hasDictIn findIn handedIn plainGet_of isFn plainOver takerIn makesIn emptyDict keepIn kia_one kitx_list kitx_dict callWith_K callWith_K0 fnOf)
abbrev Key:=Sum Int Str
def qcw:Key->Value->Bool
 | .inl k,v=>Value.isInt k v
 | .inr x,v=>Value.isStrOf x v
def qkN (w:World):Key->Int
 | .inl k=>hashInt k
 | .inr x=>hashStr w x
theorem qS:∀ {k:Key}{v:Value},qcw k v=true->(∃ i t,k=Sum.inl i∧v=Value.int i t)∨(∃ x t,k=Sum.inr x∧v=Value.str x t)
 | .inl i,v,h=>by
   obtain⟨t,e⟩:=Value.isInt_shape (k:=i) (v:=v) h;exact .inl ⟨i,t,rfl,e⟩
 | .inr x,v,h=>by
   obtain⟨t,e⟩:=Value.isStrOf_shape (x:=x) (v:=v) h;exact .inr ⟨x,t,rfl,e⟩
theorem qfc (i:Int) (t:Tok):qcw (.inl i) (.int i t)=true:=by simp[qcw,Value.isInt]
theorem qfb (x:Str) (t:Tok):qcw (.inr x) (.str x t)=true:=by simp[qcw,Value.isStrOf]
theorem qjh (a b:Int):decide ((Sum.inl a:Key)=Sum.inl b)=(a == b):=by
 by_cases e:a=b
 · subst e;simp
 · have h:¬ (Sum.inl a:Key)=Sum.inl b:=fun q=>e (Sum.inl.inj q);rw[decide_eq_false h];exact(beq_eq_false_iff_ne.mpr e).symm
theorem qje (a b:Str):decide ((Sum.inr a:Key)=Sum.inr b)=decide (a=b):=by
 by_cases e:a=b
 · subst e;simp
 · have h:¬ (Sum.inr a:Key)=Sum.inr b:=fun q=>e (Sum.inr.inj q);rw[decide_eq_false h,decide_eq_false e]
theorem qjg (a:Int) (b:Str):decide ((Sum.inl a:Key)=Sum.inr b)=false:=decide_eq_false (fun q=>nomatch q)
theorem qjf (a:Str) (b:Int):decide ((Sum.inr a:Key)=Sum.inl b)=false:=decide_eq_false (fun q=>nomatch q)
def qX (prog:Program) (w:World):PySem.KeyKind prog w Key where
 is:=qcw
 hash:=qkN w
 inj:=fun v a b ha hb=>by
   rcases qS ha with ⟨i,t,rfl,rfl⟩|⟨x,t,rfl,rfl⟩
   · rcases qS hb with ⟨j,u,rfl,e⟩|⟨y,u,rfl,e⟩
     · injection e with e1 _;rw[e1]
     · exact nomatch e
   · rcases qS hb with ⟨j,u,rfl,e⟩|⟨y,u,rfl,e⟩
     · exact nomatch e
     · injection e with e1 _;rw[e1]
 byValue:=fun k v h=>by
   rcases qS h with ⟨i,t,rfl,rfl⟩|⟨x,t,rfl,rfl⟩<;>rfl
 pyHash:=fun hv h=>by
   rcases qS hv with ⟨i,t,rfl,rfl⟩|⟨x,t,rfl,rfl⟩
   · exact wpAny_pyHash_int h
   · exact wpAny_pyHash_str h
 eqBool:=fun hu hv h=>by
   rcases qS hu with ⟨i,t,rfl,rfl⟩|⟨x,t,rfl,rfl⟩
   · rcases qS hv with ⟨j,u,rfl,rfl⟩|⟨y,u,rfl,rfl⟩
     · rw[qjh]at h;exact wpAny_eqBool_int h
     · rw[qjg]at h;exact SeqAt.EqAt.int_str i t y u _ _ _ _ h
   · rcases qS hv with ⟨j,u,rfl,rfl⟩|⟨y,u,rfl,rfl⟩
     · rw[qjf]at h;exact SeqAt.EqAt.str_int x t j u _ _ _ _ h
     · rw[qje]at h;exact wpAny_eqBool_str h
 «strs»:=fun k x t v h=>by
   rcases qS h with ⟨i,u,rfl,e⟩|⟨y,u,rfl,e⟩
   · exact nomatch e
   · injection e with e1 _;subst e1;cases v<;>rfl
theorem qcu (prog:Program) (w:World) (i:Int) (t:Tok):(qX prog w).is (.inl i) (.int i t)=true:=qfc i t
theorem qct (prog:Program) (w:World) (x:Str) (t:Tok):(qX prog w).is (.inr x) (.str x t)=true:=qfb x t
inductive V where
 | non|bl (b:Bool)|int (i:Int)|str (x:Str)|byt (b:Array UInt8)|flt (b:UInt64)|ref (a:Addr)|ty (n:String)
 deriving DecidableEq
def RelV:V->Value->Prop
 | .non,u=>u=Value.none
 | .bl b,u=>u=Value.bool b
 | .int i,u=>∃ t,u=Value.int i t
 | .str x,u=>∃ t,u=Value.str x t
 | .byt b,u=>∃ t,u=Value.bytes b t
 | .flt b,u=>∃ t,u=Value.float b t
 | .ref a,u=>u=Value.ref a
 | .ty n,u=>u=Value.type n
abbrev Vals:List V->List Value->Prop:=Paired RelV
theorem Vals.length {xs:List V}{us:List Value} (r:Vals xs us):xs.length=us.length:=Paired.length r
theorem Vals.get:∀ {xs:List V}{us:List Value}{i:Nat}{x:V},Vals xs us->xs[i]?=some x->∃ u,us[i]?=some u∧RelV x u
 | _,_,_,_,.nil,e=>by simp at e
 | _,_,0,_,.cons r _,e=>by simp at e;subst e;exact⟨_,rfl,r⟩
 | _,_,i+1,x,.cons _ t,e=>by
   obtain⟨u,h1,h2⟩:=Vals.get (i:=i) (x:=x) t (by simpa using e);exact⟨u,by simpa using h1,h2⟩
theorem Vals.append:∀ {xs ys:List V}{us ws:List Value},Vals xs us->Vals ys ws->Vals (xs++ys) (us++ws)
 | _,_,_,_,.nil,s=>s
 | _,_,_,_,.cons r t,s=>.cons r (Vals.append t s)
theorem Vals.take:∀ {xs:List V}{us:List Value} (n:Nat),Vals xs us->Vals (xs.take n) (us.take n)
 | _,_,0,_=>.nil
 | _,_,_+1,.nil=>.nil
 | _,_,n+1,.cons r t=>.cons r (Vals.take n t)
theorem Vals.drop:∀ {xs:List V}{us:List Value} (n:Nat),Vals xs us->Vals (xs.drop n) (us.drop n)
 | _,_,0,r=>r
 | _,_,_+1,.nil=>.nil
 | _,_,n+1,.cons _ t=>Vals.drop n t
def RelO:Option V->Option Value->Prop
 | some v,some u=>RelV v u
 | none,none=>True
 | _,_=>False
def KV {κ:Type}:List (κ×V)->List (κ×Value)->Prop:=Paired fun (p:κ×V) (q:κ×Value)=>p.1=q.1∧RelV p.2 q.2
def kV:Key->V
 | .inl i=>.int i
 | .inr x=>.str x
inductive HO where
   | lst (xs:List V)
   | tup (xs:List V)
   | dK (kvs:List (Key×V))|dT (kvs:List (List Key×V))
   | set (S:Int->Bool) (n:Nat)
   | ins (C dx:Addr) (fs:List (Str×V))
   | own (x:Addr)
   | xd (fs:List (Str×V))
   | met (f x:Addr)
   | rng (lo hi:Int)
   | frz (o:Obj) (u:HO)
   | tbl (ps:Array Value)
   | ext (φ:Heap->Prop)
abbrev Hp:=Addr->Option HO
def upd (H:Hp) (a:Addr) (o:HO):Hp:=fun b=>if b=a then some o else H b
theorem qc {H:Hp}{a:Addr}{o:HO}:upd H a o a=some o:=by unfold upd;rw[if_pos rfl]
theorem qg {H:Hp}{a b:Addr}{o:HO} (h:b≠a):upd H a o b=H b:=by unfold upd;rw[if_neg h]
theorem zi {H:Hp}{a b:Addr}{o u:HO} (h:H a=some o) (h':H b=some u) (d:o≠u):a≠b:=by
 intro e;subst e;rw[h]at h';exact d (Option.some.inj h')
theorem qj {H:Hp}{a b:Addr}{o:HO} (h:H a=some o) (h':H b=none):a≠b:=by
 intro e;subst e;rw[h]at h';cases h'
section
variable (P:Program) (w:World)
def ObjOk (H:Hp) (h:Heap) (a:Addr):HO->Prop
 | .lst xs=>xs.length≤sizeLine∧∃ (its:List Value) (n:Nat),Vals xs its∧h.get? a=some { cls:=.type "list",data:=.seq its.toArray n }
 | .tup xs=>xs.length≤sizeLine∧∃ its:List Value,Vals xs its∧IsTup h a its.toArray
 | .dK kvs=>kvs.length≤sizeLine∧(a == sysModules)=false∧∃ vs,KV kvs vs∧h.DictOf (qX P w) a vs
 | .dT kvs=>kvs.length≤sizeLine∧(a == sysModules)=false∧∃ xs:List (List Key×Addr×Value),
     Paired (fun (p:List Key×V) (q:List Key×Addr×Value)=>p.1=q.1∧H q.2.1=some (.tup (p.1.map kV))∧RelV p.2 q.2.2) kvs xs ∧
     ∃ o es ep,h.get? a=some o∧o.ExactDict∧o.data=.dict es ep∧es.toList=xs.map (entryOfKey (tupleKind (qX P w)))∧(xs.map (·.1)).Nodup
 | .set S n=>h.SetOf (intKind P w) a S n
 | .ins C dx fs=>H dx=some (.own a)∧fs.length≤1000∧dx≠a∧h.get? a=some (instObj C dx) ∧
     ∃ mA,h.Ns1 dx mA∧(∀ f,RelO (fs.lookup f) (mA f))∧PySem.Within mA (fs.map (·.1))
 | .own _=>∃ o,h.get? a=some o
 | .xd fs=>∃ mA,h.Ns1 a mA∧∀ f,RelO (fs.lookup f) (mA f)
 | .rng lo hi=>∃ t u v,h.get? a=some { cls:=.type "range",data:=.fields #[.int lo t,.int hi u,.int 1 v] }
 | .frz o u=>h.get? a=some o∧ObjOk H h a u
 | .tbl ps=>h.get? a=some { cls:=.none,data:=.fields ps }
 | .met f x=>h.get? a=some (methodObj (.ref f) (.ref x))
 | .ext φ=>φ h∧(∃ o,h.get? a=some o)∧∀ h1 h2:Heap,φ h1->(∀ o,h1.get? a=some o->h2.get? a=some o)->φ h2
def HOk (H:Hp) (h:Heap):Prop:=∀ a o,H a=some o->ObjOk P w H h a o
end
section
variable {P:Program}{w:World}{H H':Hp}{h h':Heap}{a:Addr}{o:HO}
theorem ObjOk.lt (x:ObjOk P w H h a o):a < h.objs.size:=by
 cases o with
 | lst xs=>obtain⟨_,_,_,_,e⟩:=x;exact Heap.lt_size e
 | tup xs=>obtain⟨_,_,_,p⟩:=x;exact p.lt
 | dK kvs=>obtain⟨_,_,_,_,o,_,_,e,_⟩:=x;exact Heap.lt_size e
 | dT kvs=>obtain⟨_,_,_,_,o,_,_,e,_⟩:=x;exact Heap.lt_size e
 | set S n=>obtain⟨o,_,_,_,e,_⟩:=x;exact Heap.lt_size e
 | ins C dx fs=>obtain⟨_,_,_,e,_⟩:=x;exact Heap.lt_size e
 | own y=>obtain⟨_,e⟩:=x;exact Heap.lt_size e
 | xd fs=>obtain⟨_,⟨_,_,_,e,_⟩,_⟩:=x;exact Heap.lt_size e
 | rng lo hi=>obtain⟨_,_,_,e⟩:=x;exact Heap.lt_size e
 | frz ob u=>obtain⟨e,_⟩:=x;exact Heap.lt_size e
 | tbl ps=>exact Heap.lt_size (show h.get? a=some _ from x)
 | met f y=>exact Heap.lt_size (show h.get? a=some _ from x)
 | ext φ=>obtain⟨_,⟨_,e⟩,_⟩:=x;exact Heap.lt_size e
theorem Paired.mapP {α β:Type}{F G:α->β->Prop}:∀ {l₁:List α}{l₂:List β},Paired F l₁ l₂->(∀ a b,F a b->G a b)->Paired G l₁ l₂
 | _,_,.nil,_=>.nil
 | _,_,.cons r t,f=>.cons (f _ _ r) (Paired.mapP t f)
theorem ObjOk.stay (x:ObjOk P w H h a o) (k:∀ b u,(b=a∨H b=some (.own a))->h.get? b=some u->h'.get? b=some u)
   (ho:∀ b,H b=some (.own a)->H' b=some (.own a)) (ht:∀ b xs,H b=some (.tup xs)->H' b=some (.tup xs)):ObjOk P w H' h' a o:=by
 induction o with
 | lst xs=>obtain⟨z,its,n,r,e⟩:=x;exact⟨z,its,n,r,k _ _ (.inl rfl) e⟩
 | tup xs=>obtain⟨z,its,r,ob,e,c⟩:=x;exact⟨z,its,r,ob,k _ _ (.inl rfl) e,c⟩
 | dK kvs=>obtain⟨z,y,vs,r,ob,es,ep,e,c⟩:=x;exact⟨z,y,vs,r,ob,es,ep,k _ _ (.inl rfl) e,c⟩
 | dT kvs =>
   obtain⟨z,y,xs,r,ob,es,ep,e,c⟩:=x;exact⟨z,y,xs,Paired.mapP r fun p q z=>⟨z.1,ht _ _ z.2.1,z.2.2⟩,ob,es,ep,k _ _ (.inl rfl) e,c⟩
 | set S n=>obtain⟨ob,es,ep,t,e,c⟩:=x;exact⟨ob,es,ep,t,k _ _ (.inl rfl) e,c⟩
 | ins C dx fs =>
   obtain⟨d,z,ne,e,mA,⟨od,es,ep,e2,c⟩,r⟩:=x;exact⟨ho _ d,z,ne,k _ _ (.inl rfl) e,mA,⟨od,es,ep,k _ _ (.inr d) e2,c⟩,r⟩
 | own y=>obtain⟨ob,e⟩:=x;exact⟨ob,k _ _ (.inl rfl) e⟩
 | xd fs=>obtain⟨mA,⟨od,es,ep,e,c⟩,r⟩:=x;exact⟨mA,⟨od,es,ep,k _ _ (.inl rfl) e,c⟩,r⟩
 | rng lo hi=>obtain⟨t,u,v,e⟩:=x;exact⟨t,u,v,k _ _ (.inl rfl) e⟩
 | frz ob u ih=>obtain⟨e,q⟩:=x;exact⟨k _ _ (.inl rfl) e,ih q⟩
 | tbl ps =>
   have e:h.get? a=some { cls:=.none,data:=.fields ps }:=x;show h'.get? a=some { cls:=.none,data:=.fields ps };exact k a _ (.inl rfl) e
 | met f y =>
   have e:h.get? a=some (methodObj (.ref f) (.ref y)):=x;show h'.get? a=some (methodObj (.ref f) (.ref y));exact k a _ (.inl rfl) e
 | ext φ=>obtain⟨p,⟨o,e⟩,st⟩:=x;exact⟨st _ _ p fun o q=>k _ _ (.inl rfl) q,⟨o,k _ _ (.inl rfl) e⟩,st⟩
theorem HOk.lt (x:HOk P w H h) (e:H a=some o):a < h.objs.size:=(x a o e).lt
theorem HOk.fresh (x:HOk P w H h) (e:h.objs.size≤a):H a=none:=by
 cases q:H a with
 | none=>rfl
 | some u=>exact absurd (Nat.lt_of_lt_of_le (x.lt q) e) (Nat.lt_irrefl _)
theorem HOk.kept (x:HOk P w H h) (k:∀ b u,h.get? b=some u->h'.get? b=some u):HOk P w H h':=fun a o e =>
 (x a o e).stay (fun b u _ q=>k b u q) (fun _ q=>q) fun _ _ q=>q
theorem HOk.laid (x:HOk P w H h) (k:∀ b u,h.get? b=some u->h'.get? b=some u) (hp:h.objs.size≤a) (new:ObjOk P w (upd H a o) h' a o):HOk P w (upd H a o) h':=fun b u e=>by
 have hn:=x.fresh hp;by_cases hb:b=a
 · subst hb;rw[qc]at e;cases e;exact new
 · rw[qg hb]at e;exact(x b u e).stay (fun c v _ q=>k c v q) (fun c q=>by rw[qg (qj q hn)];exact q) fun c xs q=>by rw[qg (qj q hn)];exact q
end
def Rd (H:Hp) (a:Addr) (u:HO):Prop:=H a=some u∨∃ o,H a=some (.frz o u)
theorem Rd.ok {P:Program}{w:World}{H:Hp}{h:Heap}{a:Addr}{u:HO} (r:Rd H a u) (x:HOk P w H h):ObjOk P w H h a u:=by
 rcases r with r|⟨o,r⟩
 · exact x a u r
 · obtain⟨_,q⟩:=x a _ r;exact q
def Mut:Option HO->Prop
 | some (.lst _)=>True
 | some (.dK _)=>True
 | some (.dT _)=>True
 | some (.set _ _)=>True
 | some (.ins _ _ _)=>True
 | some (.ext _)=>True
 | _=>False
section
variable {P:Program}{w:World}{H:Hp}{h h':Heap}{x e:Addr}{o':HO}
theorem HOk.write (ok:HOk P w H h) (mu:Mut (H x)) (he:e=x∨H e=some (.own x)) (k:∀ b u,b≠e->h.get? b=some u->h'.get? b=some u) (heo:∃ u,h'.get? e=some u)
   (new:ObjOk P w (upd H x o') h' x o'):HOk P w (upd H x o') h':=fun b u q=>by
 have nown:∀ c y,H c=some (.own y)->c≠x:=fun c y r z=>by subst z;rw[r]at mu;exact mu
 have ntup:∀ c xs,H c=some (.tup xs)->c≠x:=fun c xs r z=>by subst z;rw[r]at mu;exact mu
 by_cases hb:b=x
 · subst hb;rw[qc]at q;cases q;exact new
 · rw[qg hb]at q;by_cases hbe:b=e
   · have q':H b=some (.own x):=by
       rcases he with z|z
       · exact absurd (hbe.trans z) hb
       · rw[hbe];exact z
     rw[q]at q';cases q';obtain⟨v,hv⟩:=heo;exact⟨v,by rw[hbe];exact hv⟩
   · refine(ok b u q).stay (fun c v hc r=>k c v ?_ r) (fun c r=>by rw[qg (nown c b r)];exact r) fun c xs r=>by rw[qg (ntup c xs r)];exact r
     rcases hc with rfl|hc
     · exact hbe
     · rintro rfl;rcases he with z|z
       · exact nown c b hc z
       · rw[hc]at z;cases z;exact hb rfl
end
structure Un (fs ex:List Addr) (H H':Hp) (h h':Heap):Prop where
 keep:∀ b o,h.get? b=some o->H b=none->b∉fs->b∉ex->h'.get? b=some o
 slot:∀ b o,h.get? b=some o->H b=none->b∈fs->b∉ex->∃ sl,h'.get? b=some { o with slots:=sl }
 free:∀ b o,h.get? b=some o->H b=none->b∉ex->H' b=none
 there:∀ b o,h.get? b=some o->b∉ex->∃ o',h'.get? b=some o'
 tups:∀ b xs,H b=some (.tup xs)->H' b=some (.tup xs)
 frzs:∀ b o u,H b=some (.frz o u)->H' b=some (.frz o u)
 tbls:∀ b ps,H b=some (.tbl ps)->∃ more,H' b=some (.tbl (ps++more))
section
variable {fs fs' ex ex':List Addr}{H H1 H2:Hp}{h h1 h2 h':Heap}{a x e:Addr}{o:HO}
theorem Un.any (u:Un fs ex H H1 h h1) {b:Addr}{ob:Obj} (q:h.get? b=some ob) (n:H b=none) (hx:b∉ex):∃ sl,h1.get? b=some { ob with slots:=sl }:=by
 by_cases hb:b∈fs
 · exact u.slot b ob q n hb hx
 · exact⟨ob.slots,u.keep b ob q n hb hx⟩
theorem Un.kept (k:∀ b u,h.get? b=some u->h'.get? b=some u):Un fs ex H H h h' :=
 ⟨fun b ob q _ _ _=>k b ob q,fun b ob q _ _ _=>⟨ob.slots,k b ob q⟩,fun _ _ _ n _=>n,fun b ob q _=>⟨ob,k b ob q⟩,fun _ _ q=>q,fun _ _ _ q=>q,fun _ ps q=>⟨#[],by rw[q];simp⟩⟩
theorem Un.refl:Un fs ex H H h h:=Un.kept fun _ _ q=>q
theorem Un.laid (k:∀ b u,h.get? b=some u->h'.get? b=some u) (hp:h.objs.size≤a) (hn:H a=none):Un fs ex H (upd H a o) h h' where
 keep:=fun b u q _ _ _=>k b u q
 slot:=fun b u q _ _ _=>⟨u.slots,k b u q⟩
 free:=fun b u q n _=>by rw[qg (Nat.ne_of_lt (Nat.lt_of_lt_of_le (Heap.lt_size q) hp))];exact n
 there:=fun b u q _=>⟨u,k b u q⟩
 tups:=fun b xs q=>by rw[qg (qj q hn)];exact q
 frzs:=fun b u xs q=>by rw[qg (qj q hn)];exact q
 tbls:=fun b ps q=>⟨#[],by rw[qg (qj q hn),q];simp⟩
theorem Un.write (mu:Mut (H x)) (he:e=x∨H e=some (.own x)) (k:∀ b u,b≠e->h.get? b=some u->h'.get? b=some u) (heo:∃ u,h'.get? e=some u):Un fs ex H (upd H x o) h h':=by
 have hx:∀ b,H b=none->b≠x:=fun b n z=>by subst z;rw[n]at mu;exact mu
 have hb:∀ b,H b=none->b≠e:=fun b n z=>by
   subst z;rcases he with r|r
   · exact hx b n r
   · rw[n]at r;cases r
 have hm:∀ b u,H b=some u->¬ Mut (some u)->b≠x:=fun b u q nm z=>by subst z;rw[q]at mu;exact nm mu
 refine⟨fun b u q n _ _=>k b u (hb b n) q,fun b u q n _ _=>⟨u.slots,k b u (hb b n) q⟩,fun b u q n _=>by rw[qg (hx b n)];exact n,fun b u q _=>?_,
   fun b xs q=>by rw[qg (hm b _ q fun z=>z)];exact q,fun b u xs q=>by rw[qg (hm b _ q fun z=>z)];exact q,fun b ps q=>⟨#[],by rw[qg (hm b _ q fun z=>z),q];simp⟩⟩
 by_cases hbe:b=e
 · subst hbe;exact heo
 · exact⟨u,k b u hbe q⟩
end
def trk (h:Heap) (H:Hp):List Addr:=(List.range h.objs.size).filter fun a=>(H a).isSome
def qgm (h:Heap) (H:Hp):Heap:=PySem.W.hideAll h (trk h H)
theorem qfl (h:Heap) (H:Hp):(qgm h H).objs.size=h.objs.size:=PySem.W.hideAll_size _ _
theorem qgl {h:Heap}{H:Hp}{b:Addr}{o:Obj} (e:h.get? b=some o) (n:H b=none):(qgm h H).get? b=some o :=
 PySem.W.hideAll_get _ e fun hm=>by
   have q:(H b).isSome=true:=(List.mem_filter.mp hm).2;rw[n]at q;simp at q
theorem qhL {h:Heap}{H:Hp}{b:Addr}{o:Obj} (e:(qgm h H).get? b=some o):h.get? b=some o∧H b=none:=by
 have e':h.get? b=some o:=PySem.W.of_hideAll (trk h H) e;refine⟨e',?_⟩
 cases q:H b with
 | none=>rfl
 | some x =>
   have hm:b∈trk h H:=List.mem_filter.mpr ⟨List.mem_range.mpr (Heap.lt_size e'),by simp[q]⟩;have z:(qgm h H).get? b=none:=PySem.W.hideAll_none (trk h H) hm;rw[z]at e;cases e
structure Mod (K:Frag) (mg:Str->Option Value) (base:Heap):Prop where
 kin:K.In base
 glob:base.Ns mainGlobals mg
 blt:∃ mb,base.Ns builtinsNs mb∧∀ x:Str,x≠"__name__"->mb x=bootBuiltins x
 nolimit:base.NoLimit
structure Cx where
 prog:Program
 w:World
 K:Frag
 mg:Str->Option Value
 base:Heap
 A:Around
 N:List Str
 s₀:Shared
 H₀:Hp
 env:Env
 outer:List Env
 stack:List Env
 ex:List Addr
 fn:Str->Bool
 calm:Bool
 pn:List (Addr×Obj)
 xe:Value->Shared->Prop
def frs (l:List Env):List Addr:=l.filterMap (·.frame)
abbrev Cx.fs (X:Cx):List Addr:=frs X.outer
def Vis (sc:Scope) (x:Str):Prop:=sc.names.lookup x=some .local∨sc.names.lookup x=some .cell∨sc.names.lookup x=some .free
def Loc (sc:Scope) (x:Str):Prop:=sc.names.lookup x=some .local∨sc.names.lookup x=some .cell
def qkU (env:Env) (h:Heap) (m:Str->Option Value) (x:Str) (u:Value):Prop :=
 (env.kindOf x=some .local∧m x=some u)∨((env.kindOf x=some .cell∨env.kindOf x=some .free)∧∃ c,env.cells.lookup x=some c∧h.IsCell c (some u))
structure Cx.Ok (X:Cx):Prop where
 mod:Mod X.K X.mg X.base
 kind:X.env.scope.kind=.function
 glob:X.env.globals=mainGlobals
 blt:X.env.builtins=builtinsNs
 above:X.s₀.heap.objs.size≤X.env.locals
 inj:∀ x y c,X.env.cells.lookup x=some c->X.env.cells.lookup y=some c->x=y
 has:∀ x,(X.env.kindOf x=some .cell∨X.env.kindOf x=some .free)->∃ c,X.env.cells.lookup x=some c
 cab:∀ x c,X.fn x=true->X.env.cells.lookup x=some c->X.s₀.heap.objs.size≤c
 hd:X.calm=true->X.A.handled=none
 frames:X.A.frames=some X.stack
 stk:X.stack=X.outer∨(X.stack=X.env::X.outer∧X.env.frame=some X.env.locals)
 exf:∀ b∈X.ex,b≠X.env.locals∧∀ x c,X.env.cells.lookup x=some c->c≠b
 bs:∀ b o,X.base.get? b=some o->X.s₀.heap.get? b=some o∧X.H₀ b=none
 bsz:X.base.objs.size≤X.s₀.heap.objs.size
 noex:∀ b o,X.base.get? b=some o->b∉X.ex
 exfs:∀ b∈X.ex,b∉X.fs
 funs:X.s₀.heap.FunFrames X.base X.outer
 frf:∀ b∈X.fs,X.H₀ b=none
structure Inv (X:Cx) (pins:List (Addr×Obj)) (σ:List (Option V)) (H:Hp) (s:Shared):Prop where
 ok:X.Ok
 os:s.os=X.s₀.os
 bare:AllBare s.gens
 base:Un X.fs X.ex X.H₀ H X.s₀.heap s.heap
 loc:∃ m,s.heap.Ns X.env.locals m∧∀ (i:Nat) (x:Str) (v:V),X.N[i]?=some x->σ[i]?=some (some v)->Vis X.env.scope x->∃ u,RelV v u∧qkU X.env s.heap m x u
 cell:∀ x c,X.env.cells.lookup x=some c->∃ v,s.heap.IsCell c v
 free:H X.env.locals=none
 freeC:∀ x c,X.env.cells.lookup x=some c->H c=none
 pin:∀ p∈X.pn++pins,s.heap.get? p.1=some p.2∧H p.1=none∧p.1≠X.env.locals∧p.1∉X.fs∧∀ v,p.2.data≠.cell v
 hok:HOk X.prog X.w H s.heap
 len:σ.length=X.N.length
section
variable {X:Cx}{pins:List (Addr×Obj)}{σ:List (Option V)}{H H':Hp}{s:Shared}{h':Heap}
theorem Cx.Ok.nofr (ok:X.Ok) {b:Addr}{o:Obj} (e:X.base.get? b=some o):b∉X.fs:=fun hb=>by
 have:=(ok.funs.mem hb).1
 rw[e]at this;cases this
theorem Inv.bs (I:Inv X pins σ H s):∀ b o,X.base.get? b=some o->s.heap.get? b=some o∧H b=none:=fun b o e =>
 ⟨I.base.keep b o (I.ok.bs b o e).1 (I.ok.bs b o e).2 (I.ok.nofr e) (I.ok.noex b o e),I.base.free b o (I.ok.bs b o e).1 (I.ok.bs b o e).2 (I.ok.noex b o e)⟩
theorem Inv.bk (I:Inv X pins σ H s):∀ b o,X.base.get? b=some o->s.heap.get? b=some o:=fun b o e=>(I.bs b o e).1
theorem Inv.mod (I:Inv X pins σ H s):Mod X.K X.mg X.base:=I.ok.mod
theorem Inv.kIn (I:Inv X pins σ H s):X.K.In s.heap:=I.ok.mod.kin.keeps I.bk
theorem Inv.fr (I:Inv X pins σ H s):∃ m,Fr X.base X.env.locals s.heap m :=
 let ⟨m,hn,_⟩:=I.loc
 ⟨m,hn,I.bk,Nat.le_trans I.ok.bsz I.ok.above⟩
theorem Inv.lt (I:Inv X pins σ H s):X.env.locals < s.heap.objs.size:=let ⟨_,hn,_⟩:=I.loc;hn.lt
theorem Inv.sz (I:Inv X pins σ H s):X.s₀.heap.objs.size≤s.heap.objs.size:=Nat.le_trans I.ok.above (Nat.le_of_lt I.lt)
theorem Inv.nofs (I:Inv X pins σ H s) {a:Addr} (h:s.heap.objs.size≤a):a∉X.fs:=fun hb=>by
 obtain⟨_,o,ho,_⟩:=I.ok.funs.mem hb;exact absurd (Nat.lt_of_lt_of_le (Heap.lt_size ho) (Nat.le_trans I.sz h)) (Nat.lt_irrefl _)
theorem Inv.cne (I:Inv X pins σ H s):∀ x c,X.env.cells.lookup x=some c->c≠X.env.locals:=fun x c e z=>by
 obtain⟨v,o,ho,hd⟩:=I.cell x c e;obtain⟨m,⟨o',es,ep,ho',hd',_⟩,_⟩:=I.loc;rw[z,ho']at ho;cases ho;rw[hd']at hd;cases hd
theorem Inv.funs (I:Inv X pins σ H s):s.heap.FunFrames X.base X.outer:=by
 have all:∀ (l:List Env),(∀ b∈frs l,b∈X.fs)->X.s₀.heap.FunFrames X.base l->s.heap.FunFrames X.base l:=by
   intro l
   induction l with
   | nil=>intro _ _;trivial
   | cons env r ih =>
     intro hs hl;obtain⟨hk,⟨L,o,hf,hn,ho,hd⟩,hr⟩:=hl;have hL:L∈X.fs:=hs L (by unfold frs;rw[List.filterMap_cons,hf];exact List.mem_cons_self);obtain⟨sl,e⟩:=I.base.slot L o ho (I.ok.frf L hL) hL fun z=>I.ok.exfs L z hL;exact⟨hk,⟨L,_,hf,hn,e,hd⟩,ih (fun b hb=>hs b (by unfold frs;rw[List.filterMap_cons,hf];exact List.mem_cons_of_mem _ hb)) hr⟩
 exact all X.outer (fun _ hb=>hb) I.ok.funs
theorem Inv.stack (I:Inv X pins σ H s):s.heap.FunFrames X.base X.stack:=by
 rcases I.ok.stk with e|⟨e,hf⟩
 · rw[e];exact I.funs
 · rw[e];obtain⟨m,hn,_⟩:=I.loc;refine .cons (by rw[I.ok.kind];decide) hf hn ?_ I.funs;exact Heap.get?_none_of_le (Nat.le_trans I.ok.bsz I.ok.above)
theorem Inv.stkSub (I:Inv X pins σ H s):∀ b∈frs X.stack,b∈X.env.locals::X.fs:=fun b hb=>by
 rcases I.ok.stk with e|⟨e,hf⟩
 · rw[e]at hb;exact List.mem_cons_of_mem _ hb
 · rw[e]at hb;unfold frs at hb;rw[List.filterMap_cons,hf]at hb;exact hb
theorem Inv.stkFree (I:Inv X pins σ H s):∀ b∈frs X.stack,H b=none:=fun b hb=>by
 rcases List.mem_cons.mp (I.stkSub b hb) with e|hb
 · rw[e];exact I.free
 · obtain⟨_,o,ho,_⟩:=I.ok.funs.mem hb;exact I.base.free b o ho (I.ok.frf b hb) fun z=>I.ok.exfs b z hb
theorem Inv.step {g':Array GenState}{t':Nat}{d':Drawn}{ch:List Addr} (I:Inv X pins σ H s)
   (hch:∀ b∈ch,(b∈X.ex∨X.s₀.heap.objs.size≤b)∧b≠X.env.locals∧(∀ x c,X.env.cells.lookup x=some c->c≠b)∧∀ p∈X.pn++pins,p.1≠b)
   (keep:∀ b o,b≠X.env.locals->b∉X.fs->b∉ch->s.heap.get? b=some o->H b=none->h'.get? b=some o)
   (slot:∀ b o,b≠X.env.locals->b∈X.fs->b∉ch->s.heap.get? b=some o->H b=none->∃ sl,h'.get? b=some { o with slots:=sl }) (free:∀ b o,b∉ch->s.heap.get? b=some o->H b=none->H' b=none)
   (there:∀ b o,b∉ch->s.heap.get? b=some o->∃ o',h'.get? b=some o')
   (tups:∀ b xs,H b=some (.tup xs)->H' b=some (.tup xs)) (frzs:∀ b o u,H b=some (.frz o u)->H' b=some (.frz o u)) (tbls:∀ b ps,H b=some (.tbl ps)->∃ more,H' b=some (.tbl (ps++more)))
   (ns:∀ m,s.heap.Ns X.env.locals m->h'.Ns X.env.locals m) (hok:HOk X.prog X.w H' h') (hg:AllBare g') :
   Inv X pins σ H' { s with heap:=h',gens:=g',drawn:=d',toks:=t' }:=by
 have neL:∀ b o,X.s₀.heap.get? b=some o->b≠X.env.locals:=fun b o e=>Nat.ne_of_lt (Nat.lt_of_lt_of_le (Heap.lt_size e) I.ok.above)
 have neC:∀ b o,X.s₀.heap.get? b=some o->b∉X.ex->b∉ch:=fun b o e hx hb=>by
   rcases (hch b hb).1 with z|z
   · exact hx z
   · exact absurd (Nat.lt_of_lt_of_le (Heap.lt_size e) z) (Nat.lt_irrefl _)
 have cellK:∀ x c,X.env.cells.lookup x=some c->∀ v,s.heap.IsCell c v->h'.IsCell c v:=fun x c e v ⟨o,ho,hd⟩=>by
   have nch:c∉ch:=fun z=>(hch c z).2.2.1 x c e rfl;by_cases hc:c∈X.fs
   · obtain⟨sl,q⟩:=slot c o (I.cne x c e) hc nch ho (I.freeC x c e);exact⟨_,q,hd⟩
   · exact⟨o,keep c o (I.cne x c e) hc nch ho (I.freeC x c e),hd⟩
 refine⟨I.ok,I.os,hg,⟨fun b o e n hb hx=>?_,fun b o e n hb hx=>?_,fun b o e n hx=>?_,fun b o e hx=>?_,fun b xs e=>tups b xs (I.base.tups b xs e),fun b o xs e=>frzs b o xs (I.base.frzs b o xs e),fun b ps e=>?_⟩,?_,fun x c e=>?_,?_,fun x c e=>?_,fun p hp=>?_,hok,I.len⟩
 · exact keep b o (neL b o e) hb (neC b o e hx) (I.base.keep b o e n hb hx) (I.base.free b o e n hx)
 · obtain⟨sl,e1⟩:=I.base.slot b o e n hb hx;obtain⟨sl',e2⟩:=slot b _ (neL b o e) hb (neC b o e hx) e1 (I.base.free b o e n hx);exact⟨sl',e2⟩
 · obtain⟨o',e1⟩:=I.base.there b o e hx;exact free b o' (neC b o e hx) e1 (I.base.free b o e n hx)
 · obtain⟨o',e1⟩:=I.base.there b o e hx;exact there b o' (neC b o e hx) e1
 · obtain⟨m1,e1⟩:=I.base.tbls b ps e;obtain⟨m2,e2⟩:=tbls b _ e1;exact⟨m1++m2,by rw[e2,Array.append_assoc]⟩
 · obtain⟨m,hn,hl⟩:=I.loc;refine⟨m,ns m hn,fun i x v e1 e2 e3=>?_⟩;obtain⟨u,r,l⟩:=hl i x v e1 e2 e3;refine⟨u,r,?_⟩;rcases l with l|⟨k,c,e,z⟩
   · exact .inl l
   · exact .inr ⟨k,c,e,cellK x c e _ z⟩
 · obtain⟨v,z⟩:=I.cell x c e;exact⟨v,cellK x c e v z⟩
 · obtain⟨m,⟨o,_,_,ho,_⟩,_⟩:=I.loc;exact free _ o (fun z=>(hch _ z).2.1 rfl) ho I.free
 · obtain⟨v,o,ho,hd⟩:=I.cell x c e;exact free c o (fun z=>(hch c z).2.2.1 x c e rfl) ho (I.freeC x c e)
 · obtain⟨e,n,ne,nf,d⟩:=I.pin p hp;have nch:p.1∉ch:=fun z=>(hch p.1 z).2.2.2 p hp rfl;exact⟨keep p.1 p.2 ne nf nch e n,free p.1 p.2 nch e n,ne,nf,d⟩
theorem Inv.un {t':Nat} (I:Inv X pins σ H s) (u:Un X.fs [] H H' s.heap h') (hok:HOk X.prog X.w H' h'):Inv X pins σ H' { s with heap:=h',toks:=t' }:=by
 obtain⟨m,⟨o,es,ep,ho,r⟩,_⟩:=id I.loc;obtain⟨sl,hL⟩:=u.any ho I.free (by simp)
 exact I.step (g':=s.gens) (d':=s.drawn) (ch:=[]) (fun _ z=>nomatch z) (fun b o _ hb _ e n=>u.keep b o e n hb (by simp)) (fun b o _ hb _ e n=>u.slot b o e n hb (by simp)) (fun b o _ e n=>u.free b o e n (by simp)) (fun b o _ e=>u.there b o e (by simp)) u.tups u.frzs u.tbls (fun m' hm=>by
   obtain⟨o',es',ep',ho',r'⟩:=hm;rw[ho]at ho';cases ho'
   exact⟨_,es',ep',hL,r'⟩) hok I.bare
theorem Inv.call {g':Array GenState}{t':Nat}{d':Drawn}{ch:List Addr} (I:Inv X pins σ H s) (u:Un (frs X.stack) ch H H' s.heap h') (hok:HOk X.prog X.w H' h') (hg:AllBare g')
   (hch:∀ b∈ch,(b∈X.ex∨X.s₀.heap.objs.size≤b)∧b≠X.env.locals∧(∀ x c,X.env.cells.lookup x=some c->c≠b)∧∀ p∈X.pn++pins,p.1≠b) :
   Inv X pins σ H' { s with heap:=h',gens:=g',drawn:=d',toks:=t' }:=by
 obtain⟨m,⟨o,es,ep,ho,r⟩,_⟩:=id I.loc;obtain⟨sl,hL⟩:=u.any ho I.free fun z=>(hch _ z).2.1 rfl
 exact I.step (ch:=ch) hch (fun b o hL hb hc e n=>u.keep b o e n (fun z=>(List.mem_cons.mp (I.stkSub b z)).elim hL hb) hc) (fun b o _ _ hc e n=>u.any e n hc) (fun b o hc e n=>u.free b o e n hc) (fun b o hc e=>u.there b o e hc) u.tups u.frzs u.tbls (fun m' hm=>by
   obtain⟨o',es',ep',ho',r'⟩:=hm;rw[ho]at ho';cases ho'
   exact⟨_,es',ep',hL,r'⟩) hok hg
theorem Inv.turned {t':Nat}{it:Addr} (I:Inv X pins σ H s) (k:∀ b o,b≠it->s.heap.get? b=some o->h'.get? b=some o) (hn:H it=none) (hL:it≠X.env.locals)
   (h1:it∈X.ex∨X.s₀.heap.objs.size≤it) (h2:∀ x c,X.env.cells.lookup x=some c->c≠it) (h3:∀ p∈X.pn++pins,p.1≠it):Inv X pins σ H { s with heap:=h',toks:=t' }:=by
 have nit:∀ b u,H b=some u->b≠it:=fun b u e z=>by rw[z,hn]at e;cases e
 refine I.step (g':=s.gens) (d':=s.drawn) (ch:=[it]) (fun b hb=>?_) (fun b o _ _ hc e _=>k b o (fun z=>hc (by simp[z])) e) (fun b o _ _ hc e _=>⟨o.slots,k b o (fun z=>hc (by simp[z])) e⟩) (fun _ _ _ _ n=>n)
   (fun b o hc e=>⟨o,k b o (fun z=>hc (by simp[z])) e⟩) (fun _ _ e=>e) (fun _ _ _ e=>e) (fun b ps e=>⟨#[],by rw[e];simp⟩) (fun m hm=>?_) (fun b u e=>?_) I.bare
 · have e:b=it:=by simpa using hb
   subst e;exact⟨h1,hL,h2,h3⟩
 · obtain⟨o,es,ep,ho,r⟩:=hm;exact⟨o,es,ep,k _ o (Ne.symm hL) ho,r⟩
 · refine(I.hok b u e).stay (fun c v hc q=>k c v ?_ q) (fun _ q=>q) fun _ _ q=>q;rcases hc with z|z
   · rw[z];exact nit b u e
   · exact nit c _ z
theorem Inv.tok (I:Inv X pins σ H s) (t:Nat):Inv X pins σ H { s with toks:=t }:=I.un (h':=s.heap) (t':=t) Un.refl I.hok
theorem Inv.kept {t':Nat} (I:Inv X pins σ H s) (k:∀ b u,s.heap.get? b=some u->h'.get? b=some u):Inv X pins σ H { s with heap:=h',toks:=t' }:=I.un (Un.kept k) (I.hok.kept k)
theorem Inv.laid {a:Addr}{o:HO}{t':Nat} (I:Inv X pins σ H s) (k:∀ b u,s.heap.get? b=some u->h'.get? b=some u) (hp:s.heap.objs.size≤a) (new:ObjOk X.prog X.w (upd H a o) h' a o) :
   Inv X pins σ (upd H a o) { s with heap:=h',toks:=t' }:=I.un (Un.laid k hp (I.hok.fresh hp)) (I.hok.laid k hp new)
theorem Inv.write {x e:Addr}{o:HO}{t':Nat} (I:Inv X pins σ H s) (mu:Mut (H x)) (he:e=x∨H e=some (.own x)) (k:∀ b u,b≠e->s.heap.get? b=some u->h'.get? b=some u) (heo:∃ u,h'.get? e=some u)
   (new:ObjOk X.prog X.w (upd H x o) h' x o):Inv X pins σ (upd H x o) { s with heap:=h',toks:=t' }:=I.un (Un.write mu he k heo) (I.hok.write mu he k heo new)
theorem Inv.pins_of {pins':List (Addr×Obj)} (I:Inv X pins σ H s) (h:∀ p∈pins',s.heap.get? p.1=some p.2∧H p.1=none∧p.1≠X.env.locals∧p.1∉X.fs∧∀ v,p.2.data≠.cell v):Inv X pins' σ H s :=
 ⟨I.ok,I.os,I.bare,I.base,I.loc,I.cell,I.free,I.freeC,fun p hp=>(List.mem_append.mp hp).elim (fun z=>I.pin p (List.mem_append_left _ z)) (h p),I.hok,I.len⟩
theorem qdm {N:List Str} (hN:N.Nodup) {i j:Nat}{x:Str} (a:N[i]?=some x) (b:N[j]?=some x):i=j:=by
 obtain⟨h1,e1⟩:=List.getElem?_eq_some_iff.mp a;obtain⟨h2,e2⟩:=List.getElem?_eq_some_iff.mp b;exact(List.getElem_inj hN).mp (e1.trans e2.symm)
theorem qen {M:Model}{A:Around}{E:Value->Shared->Prop}{i:Nat}{x:Str}{v:V}{u:Value}{Q:Unit->Shared->Prop} (I:Inv X pins σ H s) (hN:X.N.Nodup) (hi:X.N[i]?=some x) (hx:Loc X.env.scope x) (r:RelV v u)
   (h:∀ s',Inv X pins (σ.set i (some v)) H s'->(∃ a,Heap.SameBut a s.heap s'.heap∧(a=X.env.locals∨X.env.cells.lookup x=some a))->Q () s') (hf:X.fn x=true∨X.env.scope.names.lookup x=some .local:=by first|exact .inl rfl|exact .inr rfl|assumption):wpAny M A (storeName X.env x u) Q E s:=by
 obtain⟨m,hn,hl⟩:=id I.loc;have hcls:(X.env.scope.kind == .class || (X.env.scope.kind == .module && X.env.locals != X.env.globals))=false:=by rw[I.ok.kind];rfl
 have hiσ:i < σ.length:=by rw[I.len];exact(List.getElem?_eq_some_iff.mp hi).1
 have cne:=I.cne
 have tracked:∀ {a:Addr}{h':Heap},(∃ o,s.heap.get? a=some o∧H a=none)->Heap.SameBut a s.heap h'->HOk X.prog X.w H h':=fun {a h'} ha hs b ob e=>by
   obtain⟨_,_,hfree⟩:=ha;refine(I.hok b ob e).stay (fun c w' hc q=>(hs.2 c ?_).trans q) (fun _ q=>q) fun _ _ q=>q;rintro rfl;rcases hc with rfl|hc
   · rw[hfree]at e;cases e
   · rw[hfree]at hc;cases hc
 rcases hx with hk|hk
 · refine wpAny_storeName_local hk hn (fun h' hn' hs=>?_) hcls;obtain⟨oL,_,_,hoL,_⟩:=id hn;refine h _ ⟨I.ok,I.os,I.bare,⟨fun b o e n hb hx=>?_,fun b o e n hb hx=>?_,I.base.free,fun b o e hx=>?_,I.base.tups,I.base.frzs,I.base.tbls⟩,⟨_,hn',fun j y v' e1 e2 e3=>?_⟩,fun y c e=>?_,I.free,I.freeC,fun p hp=>?_,tracked ⟨oL,hoL,I.free⟩ hs,by simpa using I.len⟩ ⟨_,hs,.inl rfl⟩
   · exact(hs.2 b (Nat.ne_of_lt (Nat.lt_of_lt_of_le (Heap.lt_size e) I.ok.above))).trans (I.base.keep b o e n hb hx)
   · obtain⟨sl,e1⟩:=I.base.slot b o e n hb hx;exact⟨sl,(hs.2 b (Nat.ne_of_lt (Nat.lt_of_lt_of_le (Heap.lt_size e) I.ok.above))).trans e1⟩
   · obtain⟨o',e1⟩:=I.base.there b o e hx;exact⟨o',(hs.2 b (Nat.ne_of_lt (Nat.lt_of_lt_of_le (Heap.lt_size e) I.ok.above))).trans e1⟩
   · by_cases hj:j=i
     · subst hj;rw[hi]at e1;cases e1;rw[List.getElem?_set_self hiσ]at e2;cases e2;exact⟨u,r,.inl ⟨hk,by simp⟩⟩
     · rw[List.getElem?_set_ne (Ne.symm hj)]at e2;obtain⟨u',r',q⟩:=hl j y v' e1 e2 e3;refine⟨u',r',?_⟩;rcases q with ⟨k,e⟩|⟨k,c,e,z⟩
       · refine .inl ⟨k,?_⟩
         have:y≠x:=fun e=>hj (qdm hN e1 (e▸hi))
         simp[this,e]
       · exact .inr ⟨k,c,e,z.sameBut hs (cne y c e)⟩
   · obtain⟨w',z⟩:=I.cell y c e;exact⟨w',z.sameBut hs (cne y c e)⟩
   · obtain⟨e,n,ne,nf,d⟩:=I.pin p hp;exact⟨(hs.2 p.1 ne).trans e,n,ne,nf,d⟩
 · have hfn:X.fn x=true:=by
     rcases hf with z|z
     · exact z
     · rw[z]at hk;cases hk
   obtain⟨c,hc⟩:=I.ok.has x (.inl hk);obtain⟨w',z⟩:=I.cell x c hc;refine wpAny_storeName_cell I.ok.kind hk hc z (fun h' hc' hs=>?_);obtain⟨oc,hoc,hocd⟩:=id z;refine h { s with heap:=h' } ⟨I.ok,I.os,I.bare,⟨fun b o e n hb hx=>?_,fun b o e n hb hx=>?_,I.base.free,fun b o e hx=>?_,I.base.tups,I.base.frzs,I.base.tbls⟩,⟨m,hn.sameBut hs (Ne.symm (cne x c hc)),fun j y v' e1 e2 e3=>?_⟩,fun y c' e=>?_,I.free,I.freeC,fun p hp=>?_,tracked ⟨oc,hoc,I.freeC x c hc⟩ hs,by simpa using I.len⟩ ⟨c,hs,.inr hc⟩
   · exact(hs.2 b (Nat.ne_of_lt (Nat.lt_of_lt_of_le (Heap.lt_size e) (I.ok.cab x c hfn hc)))).trans (I.base.keep b o e n hb hx)
   · obtain⟨sl,e1⟩:=I.base.slot b o e n hb hx;exact⟨sl,(hs.2 b (Nat.ne_of_lt (Nat.lt_of_lt_of_le (Heap.lt_size e) (I.ok.cab x c hfn hc)))).trans e1⟩
   · obtain⟨o',e1⟩:=I.base.there b o e hx;exact⟨o',(hs.2 b (Nat.ne_of_lt (Nat.lt_of_lt_of_le (Heap.lt_size e) (I.ok.cab x c hfn hc)))).trans e1⟩
   · by_cases hj:j=i
     · subst hj;rw[hi]at e1;cases e1;rw[List.getElem?_set_self hiσ]at e2;cases e2;exact⟨u,r,.inr ⟨.inl hk,c,hc,hc'⟩⟩
     · rw[List.getElem?_set_ne (Ne.symm hj)]at e2;obtain⟨u',r',q⟩:=hl j y v' e1 e2 e3;refine⟨u',r',?_⟩;rcases q with q|⟨k,c',e,z'⟩
       · exact .inl q
       · refine .inr ⟨k,c',e,z'.sameBut hs ?_⟩;rintro rfl;exact hj (qdm hN e1 (I.ok.inj _ _ _ e hc▸hi))
   · by_cases hcc:c'=c
     · subst hcc;exact⟨_,hc'⟩
     · obtain⟨w2,z2⟩:=I.cell y c' e;exact⟨w2,z2.sameBut hs hcc⟩
   · obtain⟨e,n,ne,nf,d⟩:=I.pin p hp;refine⟨(hs.2 p.1 ?_).trans e,n,ne,nf,d⟩;intro q;rw[q,hoc]at e;have q':oc=p.2:=Option.some.inj e;exact d w' (by rw[← q'];exact hocd)
theorem ZM {M:Model}{A:Around}{E:Value->Shared->Prop}{i:Nat}{x:Str}{v:V}{u:Value}{Q:Unit->Shared->Prop} (I:Inv X pins σ H s) (hN:X.N.Nodup) (hi:X.N[i]?=some x) (hx:Loc X.env.scope x) (r:RelV v u)
   (h:∀ s',Inv X pins (σ.set i (some v)) H s'->Q () s') (hf:X.fn x=true∨X.env.scope.names.lookup x=some .local:=by first|exact .inl rfl|exact .inr rfl|assumption):wpAny M A (storeName X.env x u) Q E s :=
 qen I hN hi hx r (fun s' I' _=>h s' I') hf
theorem Inv.call' {s':Shared}{ch:List Addr} (I:Inv X pins σ H s) (ho:s'.os=s.os) (u:Un (frs X.stack) ch H H' s.heap s'.heap) (hok:HOk X.prog X.w H' s'.heap) (hg:AllBare s'.gens)
   (hch:∀ b∈ch,(b∈X.ex∨X.s₀.heap.objs.size≤b)∧b≠X.env.locals∧(∀ x c,X.env.cells.lookup x=some c->c≠b)∧∀ p∈X.pn++pins,p.1≠b):Inv X pins σ H' s':=by
 obtain⟨h',g',d',t',o'⟩:=s';have e:o'=s.os:=ho;subst e;exact I.call (g':=g') (t':=t') (d':=d') u hok hg hch
end
abbrev XK:=Value->Option Addr->Hp->Prop
abbrev St:=List (Option V)
abbrev VK:=V->Hp->Prop
abbrev TE:=St->Hp->VK->Prop
abbrev TT:=St->Hp->(Bool->Hp->Prop)->Prop
abbrev TA:=St->Hp->(List V->Hp->Prop)->Prop
structure qd7 where
 nx:St->Hp->Prop
 rt:VK
 bk:St->Hp->Prop:=fun _ _=>False
 ct:St->Hp->Prop:=fun _ _=>False
abbrev TS:=qd7->St->Hp->Prop
inductive qky (X:Cx) (pins:List (Addr×Obj)) (σ:St) (Q:VK) (u:Value) (s':Shared):Prop
 | mk (v H':_) (h1:Inv X pins σ H' s') (h2:RelV v u) (h3:Q v H'):qky X pins σ Q u s'
def EP (X:Cx) (pins:List (Addr×Obj)) (σ:St) (Q:VK) (u:Value) (s':Shared):Prop:=qky X pins σ Q u s'
def TP (X:Cx) (pins:List (Addr×Obj)) (σ:St) (Q:Bool->Hp->Prop) (b:Bool) (s':Shared):Prop:=∃ H',Inv X pins σ H' s'∧Q b H'
inductive qkz (X:Cx) (pins:List (Addr×Obj)) (σ:St) (Q:List V->Hp->Prop) (us:List Value) (s':Shared):Prop
 | mk (vs H':_) (h1:Inv X pins σ H' s') (h2:Vals vs us) (h3:Q vs H'):qkz X pins σ Q us s'
def AP (X:Cx) (pins:List (Addr×Obj)) (σ:St) (Q:List V->Hp->Prop) (us:List Value) (s':Shared):Prop:=qkz X pins σ Q us s'
def SP (X:Cx) (pins:List (Addr×Obj)) (D:qd7) (f:Flow) (s':Shared):Prop :=
 match f with
 | .next=>∃ σ' H',Inv X pins σ' H' s'∧D.nx σ' H'
 | .brk=>∃ σ' H',Inv X pins σ' H' s'∧D.bk σ' H'
 | .cont=>∃ σ' H',Inv X pins σ' H' s'∧D.ct σ' H'
 | .ret u=>∃ v σ' H',Inv X pins σ' H' s'∧RelV v u∧D.rt v H'
def PE (X:Cx) (e:Expr) (t:TE):Prop :=
 ∀ (pins:List (Addr×Obj)) (s:Shared) (σ:St) (H:Hp) (Q:VK),Inv X pins σ H s->t σ H Q->wpAny (model X.prog X.w) X.A (eval e X.env) (EP X pins σ Q) X.xe s
def PT (X:Cx) (e:Expr) (t:TT):Prop :=
 ∀ (pins:List (Addr×Obj)) (s:Shared) (σ:St) (H:Hp) (Q:Bool->Hp->Prop),Inv X pins σ H s->t σ H Q->wpAny (model X.prog X.w) X.A (isTrue e X.env (eval e X.env)) (TP X pins σ Q) X.xe s
def PW (X:Cx) (e:Expr) (t:TT):Prop :=
 ∀ (whole:Sem Value) (pins:List (Addr×Obj)) (s:Shared) (σ:St) (H:Hp) (Q:Bool->Hp->Prop),Inv X pins σ H s->t σ H Q->wpAny (model X.prog X.w) X.A (isTrue e X.env whole) (TP X pins σ Q) X.xe s
theorem PW.pt {X:Cx}{e:Expr}{t:TT} (h:PW X e t):PT X e t:=h _
def PA (X:Cx) (es:List Expr) (t:TA):Prop :=
 ∀ (pos:Pos) (pins:List (Addr×Obj)) (s:Shared) (σ:St) (H:Hp) (Q:List V->Hp->Prop),Inv X pins σ H s->t σ H Q->wpAny (model X.prog X.w) X.A (spliced (backTo pos (starEach es X.env))) (AP X pins σ Q) X.xe s
def PS (X:Cx) (st:Stmt) (t:TS):Prop :=
 ∀ (pins:List (Addr×Obj)) (s:Shared) (σ:St) (H:Hp) (D:qd7),Inv X pins σ H s->t D σ H->wpAny (model X.prog X.w) X.A (exec st X.env) (SP X pins D) X.xe s
def PSs (X:Cx) (st:List Stmt) (t:TS):Prop :=
 ∀ (pins:List (Addr×Obj)) (s:Shared) (σ:St) (H:Hp) (D:qd7),Inv X pins σ H s->t D σ H->wpAny (model X.prog X.w) X.A (execs st X.env) (SP X pins D) X.xe s
theorem thn {α:Type}{t:Sem α}{Q Q':α->Shared->Prop}{M:Model}{A:Around}{E:Value->Shared->Prop}{s:Shared} (h:wpAny M A t Q E s) (hQ:∀ a s,Q a s->Q' a s):wpAny M A t Q' E s:=wpAny_mono h hQ fun _ _ x=>x
section
variable {X:Cx}
inductive qgz (i:Nat) (σ:St) (H:Hp) (Q:VK):Prop
 | mk (v:_) (h1:σ[i]?=some (some v)) (h2:Q v H):qgz i σ H Q
def qie (i:Nat):TE:=fun σ H Q=>qgz i σ H Q
def tC (v:V):TE:=fun _ H Q=>Q v H
theorem qi0 {i:Nat}{x:Str}{pos:Pos} (hN:X.N[i]?=some x) (hv:Vis X.env.scope x) (hd:(x == ("__debug__":Str))=false:=by decide) (hcd:(x == ("__classdict__":Str))=false:=by decide):PE X (.Name x pos) (qie i):=by
 intro pins s σ H Q I h;obtain⟨v,e,h⟩:=h;obtain⟨m,hn,hl⟩:=I.loc;obtain⟨u,r,l⟩:=hl i x v hN e hv;have fin:EP X pins σ Q u s:=⟨v,H,I,r,h⟩
 rcases l with ⟨hk,hm⟩|⟨hk,c,hc,hcell⟩
 · exact wpAny_Name (wpAny_loadName_local I.ok.kind hk hn hm fin) hd
 · rcases hk with hk|hk
   · exact wpAny_Name (wpAny_loadName_cell I.ok.kind hk hc hcell fin) hd
   · exact wpAny_Name (wpAny_loadName_free I.ok.kind hk hc hcell fin hcd) hd
theorem qd {i j pos}:PE X (.Constant (.int i) j pos) (tC (.int i)):=fun _ _ _ H _ I h=>wpAny_Constant_int ⟨.int i,H,I.tok _,⟨_,rfl⟩,h⟩
theorem qdG {b j pos}:PE X (.Constant (.bool b) j pos) (tC (.bl b)):=fun _ _ _ H _ I h=>Constant_bool ⟨.bl b,H,I,rfl,h⟩
theorem qbJ {j pos}:PE X (.Constant .none j pos) (tC .non):=fun _ _ _ H _ I h=>Constant_none ⟨.non,H,I,rfl,h⟩
theorem zg {x j pos}:PE X (.Constant (.str x) j pos) (tC (.str x)):=fun _ _ _ H _ I h=>Calls.Constant_str ⟨.str x,H,I.tok _,⟨_,rfl⟩,h⟩
def Gl (X:Cx) (x:Str):Prop:=X.env.kindOf x=some .globalImplicit
theorem Zc {E:Value->Shared->Prop}{pins:List (Addr×Obj)}{s:Shared}{σ:St}{H:Hp}{x:Str}{u:Value}{pos:Pos}{Q:Value->Shared->Prop} (I:Inv X pins σ H s) (hg:Gl X x) (hm:X.mg x=some u) (h:Q u s)
   (hd:(x == ("__debug__":Str))=false:=by decide):wpAny (model X.prog X.w) X.A (eval (.Name x pos) X.env) Q E s :=
 Calls.Name_function_global I.ok.kind hg (Calls.loadGlobal_global (by rw[I.ok.glob];exact I.mod.glob.keeps I.bk) hm h) hd
theorem Zd {E:Value->Shared->Prop}{pins:List (Addr×Obj)}{s:Shared}{σ:St}{H:Hp}{x:Str}{u:Value}{pos:Pos}{Q:Value->Shared->Prop} (I:Inv X pins σ H s) (hg:Gl X x) (hm:X.mg x=none) (hv:bootBuiltins x=some u) (h:Q u s)
   (hn:x≠"__name__":=by decide) (hd:(x == ("__debug__":Str))=false:=by decide):wpAny (model X.prog X.w) X.A (eval (.Name x pos) X.env) Q E s:=by
 obtain⟨mb,h1,h2⟩:=I.mod.blt;exact Calls.Name_function_global I.ok.kind hg (Calls.loadGlobal_builtin (by rw[I.ok.glob];exact I.mod.glob.keeps I.bk) hm (by rw[I.ok.blt];exact h1.keeps I.bk) ((h2 x hn).trans hv) h) hd
theorem qQ {x:Str}{v:V}{u:Value}{pos:Pos} (hg:Gl X x) (hm:X.mg x=some u) (r:RelV v u) (hd:(x == ("__debug__":Str))=false:=by decide):PE X (.Name x pos) (tC v) :=
 fun _ _ _ H _ I h=>Zc I hg hm ⟨v,H,I,r,h⟩ hd
theorem Za {x:Str}{v:V}{u:Value}{pos:Pos} (hg:Gl X x) (hm:X.mg x=none) (hv:bootBuiltins x=some u) (r:RelV v u) (hn:x≠"__name__":=by decide) (hd:(x == ("__debug__":Str))=false:=by decide):PE X (.Name x pos) (tC v) :=
 fun _ _ _ H _ I h=>Zd I hg hm hv ⟨v,H,I,r,h⟩ hn hd
variable {a b:Expr}{ta tb:TE}{pos:Pos}
inductive qkh (Q:(Bool->Hp->Prop)) (x:V) (H1:Hp):Prop
 | mk (c:_) (h1:x=.bl c) (h2:Q c H1):qkh Q x H1
def tB (t:TE):TT:=fun σ H Q=>t σ H fun x H1=>qkh Q x H1
theorem zd {e:Expr}{t:TE} (h:PE X e t) (he:∀ whole,isTrue e X.env whole=(do let v ← whole;standAt e.pos;holding [v] (truthy v)):=by intro _;rfl):PT X e (tB t):=by
 intro pins s σ H Q I hw;refine isTrue_plain (thn (h pins s σ H _ I hw) fun v s1 zz_=>?_) (he _);obtain⟨x,H1,I1,r1,q1⟩:=zz_;obtain⟨d,rfl,q⟩:=q1;cases r1;exact wpAny_truthy_bool ⟨H1,I1,q⟩
variable {tA tB':TT}{rest:List Expr}
def qkG (t u:TT):TT:=fun σ H Q=>t σ H fun c H1=>if c=true then u σ H1 Q else Q false H1
def tOr (t u:TT):TT:=fun σ H Q=>t σ H fun c H1=>if c=true then Q true H1 else u σ H1 Q
def qkE (t:TT):TT:=fun σ H Q=>t σ H fun c H1=>Q (!c) H1
theorem qaU (ha:PT X a tA):PW X (.BoolOp .And [a] pos) tA:=by
 intro wh pins s σ H Q I h;refine isTrue_and (thn (ha pins s σ H Q I h) fun c s1 e=>?_)
 cases c with
 | true=>exact isTrue_and_nil e
 | false=>exact e
theorem Z5 (ha:PT X a tA):PW X (.BoolOp .Or [a] pos) tA:=by
 intro wh pins s σ H Q I h;refine isTrue_or (thn (ha pins s σ H Q I h) fun c s1 e=>?_)
 cases c with
 | false=>exact isTrue_or_nil e
 | true=>exact e
theorem qc9 (ha:PT X a tA) (hb:PW X (.BoolOp .And (b::rest) pos) tB'):PW X (.BoolOp .And (a::b::rest) pos) (qkG tA tB'):=by
 intro wh pins s σ H Q I h;refine isTrue_and (thn (ha pins s σ H _ I h) fun c s1 zz_=>?_);obtain⟨H1,I1,q1⟩:=zz_
 cases c with
 | true=>exact hb wh pins s1 σ H1 Q I1 q1
 | false=>exact⟨H1,I1,q1⟩
theorem qaT (ha:PT X a tA) (hb:PW X (.BoolOp .Or (b::rest) pos) tB'):PW X (.BoolOp .Or (a::b::rest) pos) (tOr tA tB'):=by
 intro wh pins s σ H Q I h;refine isTrue_or (thn (ha pins s σ H _ I h) fun c s1 zz_=>?_);obtain⟨H1,I1,q1⟩:=zz_
 cases c with
 | true=>exact⟨H1,I1,q1⟩
 | false=>exact hb wh pins s1 σ H1 Q I1 q1
theorem zu (ha:PT X a tA):PT X (.UnaryOp .Not a pos) (qkE tA):=by
 intro pins s σ H Q I h;exact isTrue_not (ha pins s σ H (fun c H1=>Q (!c) H1) I h)
def qjQ (ta tb:TE):TE:=fun σ H Q=>ta σ H fun x H1=>∃ c,x=.bl c∧if c=true then tb σ H1 Q else Q (.bl false) H1
inductive qek (Q:VK) (x:V) (H1:Hp):Prop
 | mk (c:_) (h1:x=.bl c) (h2:Q (.bl (!c)) H1):qek Q x H1
def qjM (ta:TE):TE:=fun σ H Q=>ta σ H fun x H1=>qek Q x H1
theorem qbI {op}{t:TE} (h:PE X a t):PE X (.BoolOp op [a] pos) t:=fun pins s σ H Q I hw=>BoolOp_one (h pins s σ H Q I hw)
theorem qbK (ha:PE X a ta) (hb:PE X (.BoolOp .And (b::rest) pos) tb):PE X (.BoolOp .And (a::b::rest) pos) (qjQ ta tb):=by
 intro pins s σ H Q I h;refine BoolOp_and (thn (ha pins s σ H _ I h) fun v s1 zz_=>?_);obtain⟨x,H1,I1,r1,q1⟩:=zz_;obtain⟨c,rfl,q1⟩:=q1;cases r1;refine wpAny_truthy_bool ?_
 cases c with
 | true=>exact hb pins s1 σ H1 Q I1 q1
 | false=>exact⟨.bl false,H1,I1,rfl,q1⟩
theorem qi1 (ha:PE X a ta):PE X (.UnaryOp .Not a pos) (qjM ta):=by
 intro pins s σ H Q I h;refine UnaryOp_ (thn (ha pins s σ H _ I h) fun v s1 zz_=>?_);obtain⟨x,H1,I1,r1,q1⟩:=zz_;obtain⟨c,rfl,q1⟩:=q1;cases r1;exact not_of (wpAny_truthy_bool ⟨.bl (!c),H1,I1,rfl,q1⟩)
def tIf (t:TT) (ta tb:TE):TE:=fun σ H Q=>t σ H fun c H1=>if c=true then ta σ H1 Q else tb σ H1 Q
theorem qdf {c:Expr} (hc:PT X c tA) (ha:PE X a ta) (hb:PE X b tb):PE X (.IfExp c a b pos) (tIf tA ta tb):=by
 intro pins s σ H Q I h;refine wpAny_IfExp (thn (hc pins s σ H _ I h) fun d s1 zz_=>?_);obtain⟨H1,I1,q1⟩:=zz_
 cases d with
 | true=>exact ha pins s1 σ H1 Q I1 q1
 | false=>exact hb pins s1 σ H1 Q I1 q1
end
def SqL (K:Frag) (H:Hp) (a:Addr) (xs:List V):Prop :=
 Rd H a (.lst xs) ∨
   ∃ (o:Obj) (its:Array Value) (n:Nat),K.lookup a=some o∧o.cls=.type "list"∧o.dict=none∧o.data=.seq its n∧its.size≤sizeLine∧Vals xs its.toList
def SqT (K:Frag) (H:Hp) (a:Addr) (xs:List V):Prop :=
 Rd H a (.tup xs) ∨
   ∃ (o:Obj) (its:Array Value) (n:Nat),K.lookup a=some o∧o.cls=.type "tuple"∧o.data=.seq its n∧its.size≤sizeLine∧Vals xs its.toList
def qkS:Value->Option V
 | .none=>some .non
 | .bool b=>some (.bl b)
 | .int i _=>some (.int i)
 | .str x _=>some (.str x)
 | .bytes b _=>some (.byt b)
 | .float b _=>some (.flt b)
 | .ref a=>some (.ref a)
 | .type n=>some (.ty n)
 | _=>none
theorem RelV.abs {x:V}{u:Value} (r:RelV x u):qkS u=some x:=by
 cases x with
 | non=>cases r;rfl
 | bl _=>cases r;rfl
 | int _=>obtain⟨t,rfl⟩:=r;rfl
 | str _=>obtain⟨t,rfl⟩:=r;rfl
 | byt _=>obtain⟨t,rfl⟩:=r;rfl
 | flt _=>obtain⟨t,rfl⟩:=r;rfl
 | ref _=>cases r;rfl
 | ty _=>cases r;rfl
theorem RelV.inj {x y:V}{u:Value} (r:RelV x u) (q:RelV y u):x=y:=Option.some.inj (r.abs.symm.trans q.abs)
theorem Vals.inj:∀ {xs ys:List V}{us:List Value},Vals xs us->Vals ys us->xs=ys
 | _,_,_,.nil,.nil=>rfl
 | _,_,_,.cons r t,.cons r' t'=>by rw[r.inj r',Vals.inj t t']
section
variable {X:Cx}{pins:List (Addr×Obj)}{σ:St}{H:Hp}{s:Shared}{a:Addr}{xs ys:List V}
theorem SqL.of {K:Frag} (h:H a=some (.lst xs)):SqL K H a xs:=.inl (.inl h)
theorem SqT.of {K:Frag} (h:H a=some (.tup xs)):SqT K H a xs:=.inl (.inl h)
theorem Inv.list (I:Inv X pins σ H s) (h:SqL X.K H a xs):∃ its:List Value,Vals xs its∧PlainL s.heap a its.toArray∧xs.length≤sizeLine:=by
 rcases h with h|⟨o,its,n,hk,hc,hd,hs,hz,r⟩
 · obtain⟨z,its,n,r,e⟩:=h.ok I.hok;exact⟨its,r,⟨_,n,e,rfl,rfl,rfl⟩,z⟩
 · refine⟨its.toList,r,⟨o,n,I.kIn a o hk,hc,hd,by simpa using hs⟩,?_⟩;have e:=r.length;simp only[Array.length_toList]at e;omega
theorem Inv.tuple (I:Inv X pins σ H s) (h:SqT X.K H a xs):∃ its:List Value,Vals xs its∧IsTup s.heap a its.toArray∧xs.length≤sizeLine:=by
 rcases h with h|⟨o,its,n,hk,hc,hs,hz,r⟩
 · obtain⟨z,its,r,p⟩:=h.ok I.hok;exact⟨its,r,p,z⟩
 · refine⟨its.toList,r,⟨o,I.kIn a o hk,hc,n,by simpa using hs⟩,?_⟩;have e:=r.length;simp only[Array.length_toList]at e;omega
theorem Inv.list_inj (I:Inv X pins σ H s) (h:SqL X.K H a xs) (h':SqL X.K H a ys):xs=ys:=by
 obtain⟨its,r,⟨o,n,e,_,_,d⟩,_⟩:=I.list h;obtain⟨its',r',⟨o',n',e',_,_,d'⟩,_⟩:=I.list h';rw[e]at e';cases e';rw[d]at d';injection d' with d1 _
 have:its=its':=by simpa using congrArg Array.toList d1
 subst this;exact r.inj r'
end
abbrev Cx.wish (X:Cx) (E:Value->Shared->Prop):Cx:={ X with xe:=E }
abbrev Cx.nox (X:Cx):Cx:=X.wish fun _ _=>False
theorem Cx.Ok.wish {X:Cx} (ok:X.Ok) (E:Value->Shared->Prop):(X.wish E).Ok :=
 ⟨ok.mod,ok.kind,ok.glob,ok.blt,ok.above,ok.inj,ok.has,ok.cab,ok.hd,ok.frames,ok.stk,ok.exf,ok.bs,ok.bsz,ok.noex,ok.exfs,ok.funs,ok.frf⟩
theorem Cx.Ok.unwish {X:Cx}{E:Value->Shared->Prop} (ok:(X.wish E).Ok):X.Ok :=
 ⟨ok.mod,ok.kind,ok.glob,ok.blt,ok.above,ok.inj,ok.has,ok.cab,ok.hd,ok.frames,ok.stk,ok.exf,ok.bs,ok.bsz,ok.noex,ok.exfs,ok.funs,ok.frf⟩
section
variable {X:Cx}{pins:List (Addr×Obj)}{σ:St}{H:Hp}{s:Shared}{E:Value->Shared->Prop}
theorem Inv.wish (I:Inv X pins σ H s) (E:Value->Shared->Prop):Inv (X.wish E) pins σ H s:=⟨I.ok.wish E,I.os,I.bare,I.base,I.loc,I.cell,I.free,I.freeC,I.pin,I.hok,I.len⟩
theorem Inv.unwish (I:Inv (X.wish E) pins σ H s):Inv X pins σ H s:=⟨I.ok.unwish,I.os,I.bare,I.base,I.loc,I.cell,I.free,I.freeC,I.pin,I.hok,I.len⟩
theorem SP.unwish {D:qd7}{f:Flow}{s':Shared} (h:SP (X.wish E) pins D f s'):SP X pins D f s':=by
 cases f with
 | next=>obtain⟨σ',H',I,q⟩:=h;exact⟨σ',H',I.unwish,q⟩
 | brk=>obtain⟨σ',H',I,q⟩:=h;exact⟨σ',H',I.unwish,q⟩
 | cont=>obtain⟨σ',H',I,q⟩:=h;exact⟨σ',H',I.unwish,q⟩
 | ret u=>obtain⟨v,σ',H',I,r,q⟩:=h;exact⟨v,σ',H',I.unwish,r,q⟩
theorem PSs.nox {st:List Stmt}{t:TS} (h:PSs X.nox st t):PSs X st t:=fun pins s σ H D I hw =>
 wpAny_mono (h pins s σ H D (I.wish _) hw) (fun _ _ q=>q.unwish) fun _ _ z=>False.elim z
end
section
variable {X:Cx}{st:Stmt}{rest:List Stmt}{t u:TS}{e:Expr}{te:TE}{pos:Pos}
def qM:TS:=fun D σ H=>D.nx σ H
def qjK (t u:TS):TS:=fun D σ H=>t { D with nx:=u D } σ H
theorem qw:PSs X [] qM:=fun _ _ σ H _ I h=>wpAny_execs_nil ⟨σ,H,I,h⟩
theorem qf (h1:PS X st t) (h2:PSs X rest u):PSs X (st::rest) (qjK t u):=by
 intro pins s σ H D I h;refine wpAny_execs_cons (thn (h1 pins s σ H { D with nx:=u D } I h) fun f s1 q=>?_)
 cases f with
 | next =>
   obtain⟨σ',H',I',q⟩:=q;exact h2 pins s1 σ' H' D I' q
 | ret v=>exact q
 | brk=>exact q
 | cont=>exact q
theorem qe (h1:PS X st t):PSs X [st] t:=by
 intro pins s σ H D I h;refine wpAny_execs_cons (thn (h1 pins s σ H D I h) fun f s1 q=>?_)
 cases f with
 | next=>exact wpAny_execs_nil q
 | ret v=>exact q
 | brk=>exact q
 | cont=>exact q
theorem Inv.quiet {pins:List (Addr×Obj)}{σ:St}{H:Hp}{s:Shared} (I:Inv X pins σ H s):interactive X.env=false:=by simp[interactive,I.ok.kind]
def qjO (te:TE):TS:=fun D σ H=>te σ H fun _ H1=>D.nx σ H1
theorem qF (he:PE X e te) (hs:swapsWith e none pos.line X.env=pure false:=by rfl):PS X (.Expr e pos) (qjO te):=by
 intro pins s σ H D I h;exact wpAny_Expr_any (thn (he pins s σ H _ I h) fun v s1 ⟨x,H1,I1,r1,q1⟩=>⟨σ,H1,I1,q1⟩) I.quiet hs
def qjD (te:TE):TS:=fun D σ H=>te σ H D.rt
theorem qu (he:PE X e te):PS X (.Return (some e) pos) (qjD te):=by
 intro pins s σ H D I h;exact wpAny_Return_some (thn (he pins s σ H _ I h) fun v s1 ⟨x,H1,I1,r1,q1⟩=>⟨x,σ,H1,I1,r1,q1⟩)
def qkg (c:TT) (t u:TS):TS:=fun D σ H=>c σ H fun b H1=>if b=true then t D σ H1 else u D σ H1
theorem qN {c:Expr}{a b:List Stmt}{tc:TT} (hc:PT X c tc) (ha:PSs X a t) (hb:PSs X b u):PS X (.If c a b pos) (qkg tc t u):=by
 intro pins s σ H D I h;refine wpAny_If (thn (hc pins s σ H _ I h) fun d s1 zz_=>?_);obtain⟨H1,I1,q1⟩:=zz_
 cases d with
 | true=>exact ha pins s1 σ H1 D I1 q1
 | false=>exact hb pins s1 σ H1 D I1 q1
def qiz:TS:=fun _ _ _=>False
theorem qP:PS X st qiz:=fun _ _ _ _ _ _ h=>h.elim
end
abbrev TG:=V->St->Hp->(St->Hp->Prop)->Prop
abbrev TGs:=List V->St->Hp->(St->Hp->Prop)->Prop
def PG (X:Cx) (target:Expr) (t:TG):Prop :=
 ∀ (pins:List (Addr×Obj)) (s:Shared) (σ:St) (H:Hp) (v:V) (u:Value) (Q:St->Hp->Prop),Inv X pins σ H s->RelV v u->t v σ H Q ->
   wpAny (model X.prog X.w) X.A (assign target X.env u) (fun _ s'=>∃ σ' H',Inv X pins σ' H' s'∧Q σ' H') X.xe s
def PGs (X:Cx) (ts:List Expr) (t:TGs):Prop :=
 ∀ (pins:List (Addr×Obj)) (s:Shared) (σ:St) (H:Hp) (vs:List V) (us:List Value) (Q:St->Hp->Prop),Inv X pins σ H s->Vals vs us->t vs σ H Q ->
   wpAny (model X.prog X.w) X.A (assignInOrder ((assignEach ts X.env).map (·.2)) us) (fun _ s'=>∃ σ' H',Inv X pins σ' H' s'∧Q σ' H') X.xe s
section
variable {X:Cx}{pos:Pos}
def qgo (i:Nat):TG:=fun v σ H Q=>Q (σ.set i (some v)) H
theorem qt {i:Nat}{x:Str} (hN:X.N.Nodup) (hi:X.N[i]?=some x) (hx:Loc X.env.scope x) (hf:X.fn x=true∨X.env.scope.names.lookup x=some .local:=by first|exact .inl rfl|exact .inr rfl|assumption):PG X (.Name x pos) (qgo i):=by
 intro pins s σ H v u Q I r h;exact wpAny_assign_Name (ZM I hN hi hx r (fun s' I'=>⟨_,H,I',h⟩) hf)
def qkQ:TGs:=fun vs σ H Q=>vs=[]∧Q σ H
inductive qfm (t:TG) (u:TGs) (vs:List V) (σ:St) (H:Hp) (Q:(St->Hp->Prop)):Prop
 | mk (v r:_) (h1:vs=v::r) (h2:t v σ H fun σ' H'=>u r σ' H' Q):qfm t u vs σ H Q
def qj7 (t:TG) (u:TGs):TGs:=fun vs σ H Q=>qfm t u vs σ H Q
theorem zw:PGs X [] qkQ:=by
 intro pins s σ H vs us Q I r h;obtain⟨e,h⟩:=h;subst e;cases r;exact assignInOrder_nil ⟨σ,H,I,h⟩
theorem qE {e:Expr}{es:List Expr}{t:TG}{u:TGs} (h1:PG X e t) (h2:PGs X es u)
   (hs:(assignEach (e::es) X.env).map (·.2)=assign e X.env::(assignEach es X.env).map (·.2):=by rfl):PGs X (e::es) (qj7 t u):=by
 intro pins s σ H vs us Q I r h;obtain⟨v,vr,e1,h⟩:=h;subst e1
 cases r with
 | cons r rr =>
   rw[hs];refine assignInOrder_cons (thn (h1 pins s σ H _ _ _ I r h) fun _ s1 zz_=>?_);obtain⟨σ1,H1,I1,q1⟩:=zz_;exact h2 pins s1 σ1 H1 _ _ Q I1 rr q1
inductive qgZ (K:Frag) (n:Nat) (t:TGs) (v:V) (σ:St) (H:Hp) (Q:(St->Hp->Prop)):Prop
 | mk (a xs:_) (h1:v=.ref a) (h2:SqT K H a xs) (h3:xs.length=n) (h4:t xs σ H Q):qgZ K n t v σ H Q
def qjn (K:Frag) (n:Nat) (t:TGs):TG:=fun v σ H Q=>qgZ K n t v σ H Q
theorem Qo {es:List Expr}{k:Nat}{t:TGs}{n:Nat} (hc:X.calm=true) (h:PGs X es t)
   (hn:(assignEach es X.env).length=n:=by rfl) (hst:(assignEach es X.env).findIdx? (·.1)=none:=by rfl):PG X (.Tuple es k pos) (qjn X.K n t):=by
 intro pins s σ H v u Q I r hw;obtain⟨a,xs,e1,hq,hl,hw⟩:=hw;subst e1;cases r;obtain⟨its,rv,ht,hz⟩:=I.tuple hq;refine assign_Tuple_tuple (I.ok.hd hc) ht (by simp[hn,← hl,rv.length]) hst fun h' hx=>?_;have I1:Inv X pins σ H { s with heap:=h' }:=I.kept (t':=s.toks) fun b o e=>hx b o (Nat.ne_of_lt (Heap.lt_size e)) e;exact h pins _ σ H xs _ Q I1 (by simpa using rv) hw
def qjF (te:TE) (g:TG):TS:=fun D σ H=>te σ H fun x H1=>g x σ H1 D.nx
theorem qgT {tg e:Expr}{te:TE}{g:TG} (he:PE X e te) (hg:PG X tg g) (hs:swapsWithSole [tg] e pos.line X.env=pure false:=by rfl) (hw:swappedStores [tg] e X.env=pure none:=by rfl)
   (h1:(assignEach [tg] X.env).map (·.2)=[assign tg X.env]:=by rfl):PS X (.Assign [tg] e pos) (qjF te g):=by
 intro pins s σ H D I h;refine wpAny_Assign_stores (thn (he pins s σ H _ I h) fun v s1 zz_=>?_) hs hw;obtain⟨x,H1,I1,r1,q1⟩:=zz_;rw[h1];exact thn (hg pins s1 σ H1 x v _ I1 r1 q1) fun _ s2 q=>q
theorem qJ {i:Nat}{x:Str}{e:Expr}{te:TE}{pos':Pos} (hN:X.N.Nodup) (hi:X.N[i]?=some x) (hx:Loc X.env.scope x) (he:PE X e te) (hs:swapsWith e (some (.Name x pos')) pos.line X.env=pure false:=by rfl) (hf:X.fn x=true∨X.env.scope.names.lookup x=some .local:=by first|exact .inl rfl|exact .inr rfl|assumption) :
   PS X (.Assign [.Name x pos'] e pos) (qjF te (qgo i)):=by
 intro pins s σ H D I h;refine wpAny_Assign_Name (thn (he pins s σ H _ I h) fun v s1 zz_=>?_) hs;obtain⟨y,H1,I1,r1,q1⟩:=zz_;exact ZM I1 hN hi hx r1 (fun s2 I2=>⟨_,H1,I2,q1⟩) hf
end
structure It where
 go:Nat->Hp->Prop
 yld:Nat->Hp->V->Hp->Prop
 stop:Nat->Hp->Prop
def qd4 (X:Cx) (pins:List (Addr×Obj)) (H:Hp) (b:Addr):Prop :=
 H b=none∧b≠X.env.locals∧b∉X.fs∧(b∈X.ex∨X.s₀.heap.objs.size≤b)∧(∀ x c,X.env.cells.lookup x=some c->c≠b)∧∀ p∈X.pn++pins,p.1≠b
theorem Inv.fpOk {X:Cx}{pins:List (Addr×Obj)}{σ:St}{H H':Hp}{s:Shared}{b:Addr} (I:Inv X pins σ H s) (hb:s.heap.objs.size≤b) (hn:H' b=none):qd4 X pins H' b:=by
 refine⟨hn,Nat.ne_of_gt (Nat.lt_of_lt_of_le I.lt hb),I.nofs hb,.inr (Nat.le_trans I.sz hb),fun x c e z=>?_,fun p hp z=>?_⟩
 · obtain⟨v,q⟩:=I.cell x c e;exact absurd (Nat.lt_of_lt_of_le q.lt (by rw[z];exact hb)) (Nat.lt_irrefl _)
 · exact absurd (Nat.lt_of_lt_of_le (Heap.lt_size (I.pin p hp).1) (by rw[z];exact hb)) (Nat.lt_irrefl _)
structure qjy (P:Program) (w:World) (K:Frag) (tg:Expr) (J:It) (fp:List Addr) (it:Addr) (tn:Nat->Heap->Prop):Prop where
 mem:it∈fp
 obj:∀ i h,tn i h->∀ b∈fp,∃ o,h.get? b=some o∧∀ v,o.data≠.cell v
 keep:∀ i h h',tn i h->(∀ b∈fp,∀ o,h.get? b=some o->h'.get? b=some o)->tn i h'
 item:∀ (X:Cx),X.prog=P->X.w=w->X.K=K->X.calm=true->∀ (i:Nat) (pins:List (Addr×Obj)) (s:Shared) (σ:St) (H:Hp) (E:Value->Shared->Prop),Inv X pins σ H s->(∀ b∈fp,qd4 X pins H b)->tn i s.heap->J.go i H ->
   wpAny (model P w) X.A (pyNext (.ref it)) (fun r s1=>∃ u,r=some u ∧
     wpAny (model P w) X.A (letOwnedTupleGo tg (.ref it) u) (fun _ s2=>∃ x H',Inv X pins σ H' s2∧RelV x u∧J.yld i H x H'∧tn (i+1) s2.heap∧∀ b∈fp,H' b=none) E s1) E s
 done:∀ (X:Cx),X.prog=P->X.w=w->X.K=K->X.calm=true->∀ (i:Nat) (pins:List (Addr×Obj)) (s:Shared) (σ:St) (H:Hp) (E:Value->Shared->Prop),Inv X pins σ H s->(∀ b∈fp,qd4 X pins H b)->tn i s.heap->J.stop i H ->
   wpAny (model P w) X.A (pyNext (.ref it)) (fun r s1=>r=none∧Inv X pins σ H s1) E s
 self:∀ (A:Around) (i:Nat) (s:Shared) (Q:Value->Shared->Prop) (E:Value->Shared->Prop),tn i s.heap->Q (.ref it) s->wpAny (model P w) A (pyIter (.ref it)) Q E s
abbrev TI:=St->Hp->(It->Hp->Prop)->Prop
def PIE (X:Cx) (pins:List (Addr×Obj)) (σ:St) (tg:Expr) (R:It->Hp->Prop) (itv:Value) (s2:Shared):Prop :=
 ∃ (it:Addr) (fp:List Addr) (tn:Nat->Heap->Prop) (J:It) (H':Hp),itv=.ref it∧Inv X pins σ H' s2∧qjy X.prog X.w X.K tg J fp it tn∧tn 0 s2.heap∧(∀ b∈fp,qd4 X pins H' b)∧R J H'
def PI (X:Cx) (tg iter:Expr) (wi:TI):Prop :=
 ∀ (pins:List (Addr×Obj)) (s:Shared) (σ:St) (H:Hp) (R:It->Hp->Prop),Inv X pins σ H s->wi σ H R ->
   wpAny (model X.prog X.w) X.A (eval iter X.env) (fun v s1=>wpAny (model X.prog X.w) X.A (pyIter v) (PIE X pins σ tg R) X.xe s1) X.xe s
theorem qjm {M:Model}{A:Around}{E:Value->Shared->Prop}{s:Shared}{tg:Expr}{it:Addr}{u:Value}{o:Obj}{n:String}{vs:Array Value}{Q:Unit->Shared->Prop} (ho:s.heap.get? it=some o) (hc:o.cls=.type n) (hd:o.data=.fields vs)
   (hn:["enumerate","zip","dict_itemiterator","dict_reverseitemiterator","odict_iterator","itertools.zip_longest","itertools.pairwise"].contains n=false) (hQ:Q () s):wpAny M A (letOwnedTupleGo tg (.ref it) u) Q E s:=by
 unfold letOwnedTupleGo;cases tg<;>first
   | exact wpAny_pure hQ
   | (cases u<;>first
       | exact wpAny_pure hQ
       | (refine wpAny_bind (wpAny_load ho ?_)
          rw[hc,hd];show wpAny M A (if (["enumerate","zip","dict_itemiterator","dict_reverseitemiterator","odict_iterator","itertools.zip_longest","itertools.pairwise"].contains n && vs[0]? == some (rawInt _))=true then _ else _) Q E s;rw[if_neg (by intro h;rw[hn,Bool.false_and]at h;cases h)]
          exact wpAny_pure hQ))
def Itl (K:Frag) (a:Addr):It :=
 ⟨fun i H=>∃ xs x,SqL K H a xs∧xs[i]?=some x,fun i H x H'=>H'=H∧∀ xs,SqL K H a xs->xs[i]?=some x,fun i H=>∃ xs,SqL K H a xs∧xs.length≤i⟩
def Itr (lo:Int) (n:Nat):It:=⟨fun i _=>i < n,fun i H x H'=>H'=H∧x=.int (lo+i),fun i _=>n≤i⟩
theorem qed {P:Program}{w:World}{K:Frag}{tg:Expr} (a it:Addr):qjy P w K tg (Itl K a) [it] it (fun i h=>h.IsListIter it a i) where
 mem:=by simp
 obj:=fun i h st b hb=>by
   have e:b=it:=by simpa using hb
   subst e;obtain⟨o,e,c,d⟩:=st;exact⟨o,e,fun v z=>by rw[d]at z;cases z⟩
 keep:=fun i h h' st k=>st.at fun o e=>k it (by simp) o e
 item:=by
   intro X hP hw hK hc i pins s σ H E I hf st hg;subst hP hw hK;obtain⟨xs,x,hq,hx⟩:=hg;obtain⟨its,rv,p,hz⟩:=I.list hq;obtain⟨u,hu,ru⟩:=rv.get hx;obtain⟨f0,f1,f2,f3,f4,f5⟩:=hf it (by simp);refine wpAny_pyNext_list_item st p.isList (x:=u) (by simpa using hu) fun h' st' sb=>?_;have I1:Inv X pins σ H { s with heap:=h' }:=I.turned (t':=s.toks) (fun b o hb e=>(sb.2 b hb).trans e) f0 f1 f3 f4 f5;obtain⟨o,e,c,d⟩:=id st';exact⟨u,rfl,qjm (s:={ s with heap:=h' }) e c d (by decide) ⟨x,H,I1,ru,⟨rfl,fun ys hy=>by rw[I.list_inj hy hq];exact hx⟩,st',fun b hb=>(hf b hb).1⟩⟩
 done:=by
   intro X hP hw hK hc i pins s σ H E I hf st hg;subst hP hw hK;obtain⟨xs,hq,hx⟩:=hg;obtain⟨its,rv,p,hz⟩:=I.list hq;obtain⟨f0,f1,f2,f3,f4,f5⟩:=hf it (by simp);have hl:=rv.length;exact wpAny_pyNext_list_end (I.ok.hd hc) st p.isList (by simp;omega) fun h' eb=>⟨rfl,I.turned (t':=s.toks) (fun b o hb e=>eb b o hb e) f0 f1 f3 f4 f5⟩
 self:=fun _ _ _ _ _ st h=>wpAny_pyIter_listiter st h
theorem qdx {P:Program}{w:World}{K:Frag}{tg:Expr} (it:Addr) (lo:Int) (n:Nat):qjy P w K tg (Itr lo n) [it] it (fun i h=>IsRangeIter h it (lo+(i:Nat) * 1) ((n:Int) - (i:Nat)) 1) where
 mem:=by simp
 obj:=fun i h st b hb=>by
   have e:b=it:=by simpa using hb
   subst e
   exact⟨_,st,fun v z=>by
     have z':Data.fields _=Data.cell v:=z
     cases z'⟩
 keep:=fun i h h' st k=>k it (by simp) _ st
 item:=by
   intro X hP hw hK hc i pins s σ H E I hf st hg;subst hP hw hK;obtain⟨f0,f1,f2,f3,f4,f5⟩:=hf it (by simp);have W:=Walks.range (prog:=X.prog) (w:=X.w) (I.ok.hd hc) it lo 1 n;refine W.item i s _ _ hg st fun v h' tk hv st' kk=>?_;obtain⟨t,rfl⟩:=hv;have I1:Inv X pins σ H { s with heap:=h',toks:=tk }:=I.turned (fun b o hb e=>kk b o (by simpa using hb) e) f0 f1 f3 f4 f5;refine⟨_,rfl,qjm (s:={ s with heap:=h',toks:=tk }) (n:="range_iterator") st' rfl rfl (by decide) ⟨.int (lo+i),H,I1,⟨t,?_⟩,⟨rfl,rfl⟩,st',fun b hb=>(hf b hb).1⟩⟩;rw[Int.mul_one]
 done:=by
   intro X hP hw hK hc i pins s σ H E I hf st hg;subst hP hw hK;obtain⟨f0,f1,f2,f3,f4,f5⟩:=hf it (by simp);exact wpAny_pyNext_range_end (I.ok.hd hc) st (by have:n≤i:=hg;omega) fun h' eb=>⟨rfl,I.turned (t':=s.toks) (fun b o hb e=>eb b o hb e) f0 f1 f3 f4 f5⟩
 self:=fun _ _ _ _ _ st h=>wpAny_pyIter_rangeiter st h
section
variable {X:Cx}{tg:Expr}
inductive qfj (K:Frag) (R:(It->Hp->Prop)) (x:V) (H1:Hp):Prop
 | mk (a:_) (h1:x=.ref a) (h2:(∃ xs,SqL K H1 a xs)) (h3:R (Itl K a) H1):qfj K R x H1
def qj5 (K:Frag) (tl:TE):TI:=fun σ H R=>tl σ H fun x H1=>qfj K R x H1
theorem qH {l:Expr}{tl:TE} (hl:PE X l tl):PI X tg l (qj5 X.K tl):=by
 intro pins s σ H R I h;refine thn (hl pins s σ H _ I h) fun v s1 zz_=>?_;obtain⟨x,H1,I1,r1,q1⟩:=zz_;obtain⟨a,e,⟨xs,hq⟩,q⟩:=q1;subst e;cases r1;obtain⟨its,rv,p,hz⟩:=I1.list hq;refine wpAny_pyIter_list p.isList ?_;refine⟨s1.heap.objs.size,[s1.heap.objs.size],_,_,H1,rfl,I1.kept (t':=s1.toks) fun b o e=>Heap.get?_push_of_some _ e,qed a _,⟨_,Heap.get?_push_size _ rfl,rfl,rfl⟩,fun b hb=>?_,q⟩;have e:b=s1.heap.objs.size:=by simpa using hb
 subst e;exact I1.fpOk (Nat.le_refl _) (I1.hok.fresh (Nat.le_refl _))
theorem qc4 {pins:List (Addr×Obj)}{σ:St}{H:Hp}{s:Shared}{R:It->Hp->Prop}{E:Value->Shared->Prop}{lo hi:Int}{t u v:Tok}{tk:Nat} (I:Inv X pins σ H s) (h1:-(2 ^ 62)≤lo) (h2:lo < 2 ^ 62) (h3:-(2 ^ 62)≤hi) (h4:hi < 2 ^ 62)
   (q:R (Itr lo (hi - lo).toNat) H):wpAny (model X.prog X.w) X.A (pyIter (.ref s.heap.objs.size)) (PIE X pins σ tg R) E { s with heap:=s.heap.push { cls:=.type "range",data:=.fields #[.int lo t,.int hi u,.int 1 v] },toks:=tk }:=by
 refine wpAny_pyIter_range (IsRange.new ..) (small_one h1 h2 h3 h4) ?_;have I1:Inv X pins σ H { s with heap:=s.heap.push { cls:=.type "range",data:=.fields #[.int lo t,.int hi u,.int 1 v] },toks:=tk }:=I.kept fun b o e=>Heap.get?_push_of_some _ e
 refine⟨(s.heap.push { cls:=.type "range",data:=.fields #[.int lo t,.int hi u,.int 1 v] }).objs.size,[(s.heap.push { cls:=.type "range",data:=.fields #[.int lo t,.int hi u,.int 1 v] }).objs.size],_,_,H,rfl,
   I1.kept (t':=tk) fun b o e=>Heap.get?_push_of_some _ e,qdx _ lo (hi - lo).toNat,?_,fun b hb=>?_,q⟩
 · have e1:lo+((0:Nat):Int) * 1=lo:=by simp
   have e2:(((hi - lo).toNat:Nat):Int) - ((0:Nat):Int)=Builtin.Range.rangeSize lo hi 1:=by rw[rangeSize_one];split<;>omega
   show IsRangeIter _ _ (lo+((0:Nat):Int) * 1) ((((hi - lo).toNat:Nat):Int) - ((0:Nat):Int)) 1;rw[e1,e2];exact Heap.get?_push_size _ rfl
 · have e:b=(s.heap.push { cls:=.type "range",data:=.fields #[.int lo t,.int hi u,.int 1 v] }).objs.size:=by simpa using hb
   subst e;exact I1.fpOk (Nat.le_refl _) (I1.hok.fresh (Nat.le_refl _))
inductive qfi (R:(It->Hp->Prop)) (vs:List V) (H1:Hp):Prop
 | mk (j:Int) (h1:vs=[.int j]) (h2:-(2 ^ 62)≤j) (h3:j < 2 ^ 62) (h4:R (Itr 0 j.toNat) H1):qfi R vs H1
def qj4 (ta:TA):TI:=fun σ H R=>ta σ H fun vs H1=>qfi R vs H1
inductive qfh (R:(It->Hp->Prop)) (vs:List V) (H1:Hp):Prop
 | mk (i j:Int) (h1:vs=[.int i,.int j]) (h2:(-(2 ^ 62)≤i∧i < 2 ^ 62∧-(2 ^ 62)≤j∧j < 2 ^ 62)) (h3:R (Itr i (j - i).toNat) H1):qfh R vs H1
def qj3 (ta:TA):TI:=fun σ H R=>ta σ H fun vs H1=>qfh R vs H1
theorem Qn {a:Expr}{ta:TA}{p pos:Pos} (hg:Gl X "range") (hm:X.mg "range"=none) (ha:PA X [a] ta) (hs:starEach [a] X.env=[(false,eval a X.env)]:=by rfl):PI X tg (.Call (.Name "range" p) [a] [] pos) (qj4 ta):=by
 intro pins s σ H R I h;refine Call_ (Zd I hg hm boot_range (PyProof.Rows.callWith_type1 (thn (ha pos pins s σ H _ I h) fun us s1 zz_=>?_) hs rfl));obtain⟨vs,H1,I1,r1,q1⟩:=zz_;obtain⟨j,e,q1,q2,q⟩:=q1;subst e
 cases r1 with
 | cons r rr =>
   cases rr;obtain⟨t,rfl⟩:=r;exact call_range_1 (qc4 I1 (by omega) (by omega) q1 q2 (by simpa using q))
theorem qeK {a b:Expr}{ta:TA}{p pos:Pos} (hg:Gl X "range") (hm:X.mg "range"=none) (ha:PA X [a,b] ta) (hs:starEach [a,b] X.env=[(false,eval a X.env),(false,eval b X.env)]:=by rfl) (hs2:starEach [b] X.env=[(false,eval b X.env)]:=by rfl) :
   PI X tg (.Call (.Name "range" p) [a,b] [] pos) (qj3 ta):=by
 intro pins s σ H R I h;refine Call_ (Zd I hg hm boot_range (PyProof.Rows.callWith_type1 (thn (ha pos pins s σ H _ I h) fun us s1 zz_=>?_) (by rw[hs,hs2]) (by rw[hs2];rfl)));obtain⟨vs,H1,I1,r1,q1⟩:=zz_;obtain⟨i,j,e,⟨q1,q2,q3,q4⟩,q⟩:=q1;subst e
 cases r1 with
 | cons r rr =>
   cases rr with
   | cons r' rr =>
     cases rr;obtain⟨t,rfl⟩:=r;obtain⟨t',rfl⟩:=r';exact call_range_2 (qc4 I1 q1 q2 q3 q4 q)
def qd5 (wi:TI) (g:TG) (tb:TS):TS:=fun D σ H=>wi σ H fun J H1=>∃ W:Nat->Nat->St->Hp->Prop,(∃ m,W 0 m σ H1)∧∀ i m σ H,W i m σ H ->
 (J.stop i H∧D.nx σ H)∨(J.go i H∧∃ N:St->Hp->Prop,(∀ σ' H',N σ' H'->∃ m',m' < m∧W (i+1) m' σ' H')∧∀ x H',J.yld i H x H'->g x σ H' fun σ2 H2=>tb { D with nx:=N,ct:=N,bk:=D.nx } σ2 H2)
def qat (fp:List Addr) (h:Heap):List (Addr×Obj):=fp.filterMap fun b=>(h.get? b).map fun o=>(b,o)
theorem zB {fp:List Addr}{h:Heap}{b:Addr}{o:Obj} (hb:b∈fp) (e:h.get? b=some o):(b,o)∈qat fp h:=List.mem_filterMap.mpr ⟨b,hb,by rw[e];rfl⟩
theorem qeY {fp:List Addr}{h:Heap}{p:Addr×Obj} (hp:p∈qat fp h):p.1∈fp∧h.get? p.1=some p.2:=by
 obtain⟨b,hb,e⟩:=List.mem_filterMap.mp hp
 cases q:h.get? b with
 | none=>rw[q]at e;cases e
 | some o =>
   rw[q]at e;have e':(b,o)=p:=Option.some.inj e;subst e';exact⟨hb,q⟩
theorem Inv.pinned {pins:List (Addr×Obj)}{σ:St}{H:Hp}{s:Shared}{fp:List Addr} (I:Inv X pins σ H s) (hf:∀ b∈fp,qd4 X pins H b) (ho:∀ b∈fp,∃ o,s.heap.get? b=some o∧∀ v,o.data≠.cell v):Inv X (pins++qat fp s.heap) σ H s :=
 I.pins_of fun p hp=>(List.mem_append.mp hp).elim (fun z=>I.pin p (List.mem_append_right _ z)) fun z=>by
   obtain⟨hb,e⟩:=qeY z;obtain⟨f0,f1,f2,_⟩:=hf p.1 hb;obtain⟨o,e',d⟩:=ho p.1 hb;rw[e]at e';cases e';exact⟨e,f0,f1,f2,d⟩
theorem Inv.unpinned {pins pl:List (Addr×Obj)}{σ:St}{H:Hp}{s:Shared} (I:Inv X (pins++pl) σ H s):Inv X pins σ H s:=I.pins_of fun p hp=>I.pin p (List.mem_append_right _ (List.mem_append_left _ hp))
theorem q9 {iter:Expr}{body:List Stmt}{wi:TI}{g:TG}{tb:TS}{pos:Pos} (hp:PassesOwn (model X.prog X.w) X.A X.env X.xe) (hc:X.calm=true) (hi:PI X tg iter wi) (hg:PG X tg g) (hb:PSs X body tb)
   (hs:∀ x,foldedSetIterable iter X.env x=pure x:=by intro _;rfl):PS X (.For tg iter body [] pos) (qd5 wi g tb):=by
 intro pins s σ H D I h;refine wpAny_For (thn (hi pins s σ H _ I h) fun v s1 h1=>thn h1 fun itv s2 h2=>?_) hs;obtain⟨it,fp,tn,J,H2,e,I2,T,st2,f2,W,⟨m0,w0⟩,turn⟩:=h2;subst e
 -- what stays true of the iterator's objects through the loop
 have stat:∀ {H':Hp},(∀ b∈fp,H' b=none)->∀ b∈fp,qd4 X pins H' b:=fun hn b hb=>⟨hn b hb,(f2 b hb).2⟩
 refine codeAny_forLoop_any (fun n s'=>∃ i σ' H',Inv X pins σ' H' s'∧tn i s'.heap∧(∀ b∈fp,H' b=none)∧W i n σ' H') ?_ m0 ⟨0,σ,H2,I2,st2,fun b hb=>(f2 b hb).1,w0⟩;rintro n s3 ⟨i,σ3,H3,I3,st3,fr3,w3⟩;rcases turn i n σ3 H3 w3 with ⟨stop,qn⟩|⟨go,N,hN,step⟩
 · refine wpAny_passesOwn hp (thn (T.done X rfl rfl rfl hc i pins s3 σ3 H3 X.xe I3 (stat fr3) st3 stop) fun r s4 ⟨hr,I4⟩=>?_);subst hr;exact wpAny_execs_nil ⟨σ3,H3,I4,qn⟩
 · refine wpAny_passesOwn hp (thn (T.item X rfl rfl rfl hc i pins s3 σ3 H3 X.xe I3 (stat fr3) st3 go) fun r s4 ⟨u,hr,h4⟩=>?_);subst hr;refine wpAny_passesOwn hp (thn h4 fun _ s5 zz_=>?_);obtain⟨x,H5,I5,r5,y5,st5,fr5⟩:=zz_;have I5':=I5.pinned (stat fr5) (T.obj _ _ st5);refine wpAny_passesOwn hp (thn (hg _ s5 σ3 H5 x u _ I5' r5 (step x H5 y5)) fun _ s6 zz_=>?_);obtain⟨σ6,H6,I6,q6⟩:=zz_;refine wpAny_passesOwn hp (thn (hb _ s6 σ6 H6 _ I6 q6) fun f s7 q7=>?_)
   have again:∀ {σ7:St}{H7:Hp},Inv X (pins++qat fp s5.heap) σ7 H7 s7->N σ7 H7->∃ m,m < n∧∃ i σ' H',Inv X pins σ' H' s7∧tn i s7.heap∧(∀ b∈fp,H' b=none)∧W i m σ' H':=fun {σ7 H7} I7 n7=>by
     obtain⟨m',hm,w7⟩:=hN σ7 H7 n7;refine⟨m',hm,i+1,σ7,H7,I7.unpinned,T.keep _ _ _ st5 fun b hb o e=>(I7.pin (b,o) (List.mem_append_right _ (List.mem_append_right _ (zB hb e)))).1,fun b hb=>?_,w7⟩;obtain⟨o,e,d⟩:=T.obj _ _ st5 b hb;exact(I7.pin (b,o) (List.mem_append_right _ (List.mem_append_right _ (zB hb e)))).2.1
   cases f with
   | next=>obtain⟨σ7,H7,I7,n7⟩:=q7;exact again I7 n7
   | cont=>obtain⟨σ7,H7,I7,n7⟩:=q7;exact again I7 n7
   | brk=>obtain⟨σ7,H7,I7,q7⟩:=q7;exact⟨σ7,H7,I7.unpinned,q7⟩
   | ret v=>obtain⟨x7,σ7,H7,I7,r7,q7⟩:=q7;exact⟨x7,σ7,H7,I7.unpinned,r7,q7⟩
end
theorem qK {K:Frag}{a:Addr}{xs:List V}{g:TG}{tb:TS}{D:qd7}{σ:St}{H:Hp} (Pv:Nat->St->Hp->Prop) (h0:Pv 0 σ H) (hl:∀ i σ H,i≤xs.length->Pv i σ H->SqL K H a xs)
   (hs:∀ i x σ H,xs[i]?=some x->Pv i σ H->g x σ H fun σ2 H2=>tb { D with nx:=Pv (i+1),ct:=Pv (i+1),bk:=D.nx } σ2 H2) (hd:∀ σ H,Pv xs.length σ H->D.nx σ H) :
   ∃ W:Nat->Nat->St->Hp->Prop,(∃ m,W 0 m σ H)∧∀ i m σ H,W i m σ H ->
     ((Itl K a).stop i H∧D.nx σ H)∨((Itl K a).go i H∧∃ N:St->Hp->Prop,(∀ σ' H',N σ' H'->∃ m',m' < m∧W (i+1) m' σ' H')∧∀ x H',(Itl K a).yld i H x H'->g x σ H' fun σ2 H2=>tb { D with nx:=N,ct:=N,bk:=D.nx } σ2 H2):=by
 refine⟨fun i m σ H=>m=xs.length - i∧i≤xs.length∧Pv i σ H,⟨xs.length,by simp,Nat.zero_le _,h0⟩,?_⟩;rintro i m σ H ⟨rfl,hi,p⟩;have q:=hl i σ H hi p;by_cases hlt:i < xs.length
 · refine .inr ⟨⟨xs,xs[i],q,by simp[hlt]⟩,Pv (i+1),fun σ' H' p'=>⟨xs.length - (i+1),by omega,rfl,hlt,p'⟩,fun x H' y=>?_⟩;obtain⟨e,y⟩:=y;subst e;exact hs i x σ _ (y xs q) p
 · have e:i=xs.length:=by omega
   subst e;exact .inl ⟨⟨xs,q,Nat.le_refl _⟩,hd σ H p⟩
theorem jb {lo:Int}{n:Nat}{g:TG}{tb:TS}{D:qd7}{σ:St}{H:Hp} (Pv:Nat->St->Hp->Prop) (h0:Pv 0 σ H)
   (hs:∀ i σ H,i < n->Pv i σ H->g (.int (lo+i)) σ H fun σ2 H2=>tb { D with nx:=Pv (i+1),ct:=Pv (i+1),bk:=D.nx } σ2 H2) (hd:∀ σ H,Pv n σ H->D.nx σ H) :
   ∃ W:Nat->Nat->St->Hp->Prop,(∃ m,W 0 m σ H)∧∀ i m σ H,W i m σ H ->
     ((Itr lo n).stop i H∧D.nx σ H)∨((Itr lo n).go i H∧∃ N:St->Hp->Prop,(∀ σ' H',N σ' H'->∃ m',m' < m∧W (i+1) m' σ' H')∧∀ x H',(Itr lo n).yld i H x H'->g x σ H' fun σ2 H2=>tb { D with nx:=N,ct:=N,bk:=D.nx } σ2 H2):=by
 refine⟨fun i m σ H=>m=n - i∧i≤n∧Pv i σ H,⟨n,by simp,Nat.zero_le _,h0⟩,?_⟩;rintro i m σ H ⟨rfl,hi,p⟩;by_cases hlt:i < n
 · refine .inr ⟨hlt,Pv (i+1),fun σ' H' p'=>⟨n - (i+1),by omega,rfl,hlt,p'⟩,fun x H' y=>?_⟩;obtain⟨e,y⟩:=y;subst e y;exact hs i σ _ hlt p
 · have e:i=n:=by omega
   subst e;exact .inl ⟨Nat.le_refl _,hd σ H p⟩
abbrev R2:=V->V->Hp->VK->Prop
def OpR (X:Cx) (f:Value->Value->Sem Value) (r:R2):Prop :=
 ∀ (pins:List (Addr×Obj)) (s:Shared) (σ:St) (H:Hp) (x y:V) (v u:Value) (Q:VK),Inv X pins σ H s->RelV x v->RelV y u->r x y H Q ->
   wpAny (model X.prog X.w) X.A (f v u) (EP X pins σ Q) X.xe s
def UnR (X:Cx) (f:Value->Sem Value) (r:V->Hp->VK->Prop):Prop :=
 ∀ (pins:List (Addr×Obj)) (s:Shared) (σ:St) (H:Hp) (x:V) (v:Value) (Q:VK),Inv X pins σ H s->RelV x v->r x H Q ->
   wpAny (model X.prog X.w) X.A (f v) (EP X pins σ Q) X.xe s
def QN (X:Cx) (f:Value) (r:List V->Hp->VK->Prop):Prop :=
 ∀ (pins:List (Addr×Obj)) (s:Shared) (σ:St) (H:Hp) (xs:List V) (us:List Value) (Q:VK),Inv X pins σ H s->Vals xs us->r xs H Q ->
   wpAny (model X.prog X.w) X.A (call f us) (EP X pins σ Q) X.xe s
def qkT (X:Cx) (r:V->Hp->(Bool->Hp->Prop)->Prop):Prop :=
 ∀ (pins:List (Addr×Obj)) (s:Shared) (σ:St) (H:Hp) (x:V) (v:Value) (Q:Bool->Hp->Prop),Inv X pins σ H s->RelV x v->r x H Q ->
   wpAny (model X.prog X.w) X.A (truthy v) (TP X pins σ Q) X.xe s
def tOp (r:R2) (ta tb:TE):TE:=fun σ H Q=>ta σ H fun x H1=>tb σ H1 fun y H2=>r x y H2 Q
def tUn (r:V->Hp->VK->Prop) (ta:TE):TE:=fun σ H Q=>ta σ H fun x H1=>r x H1 Q
inductive qko (C:Int->Int->Prop) (g:Int->Int->V) (x:V) (y:V) (H:Hp) (Q:VK):Prop
 | mk (i j:_) (h1:x=.int i) (h2:y=.int j) (h3:C i j) (h4:Q (g i j) H):qko C g x y H Q
def rI (C:Int->Int->Prop) (g:Int->Int->V):R2:=fun x y H Q=>qko C g x y H Q
inductive qiT (g:Int->Int->V) (x:V) (y:V) (H:Hp) (Q:VK):Prop
 | mk (i j:_) (h1:x=.int i) (h2:y=.int j) (h3:Q (g i j) H):qiT g x y H Q
def rI0 (g:Int->Int->V):R2:=fun x y H Q=>qiT g x y H Q
inductive qkj (g:Int->V) (x:V) (H:Hp) (Q:VK):Prop
 | mk (i:_) (h1:x=.int i) (h2:Q (g i) H):qkj g x H Q
def rU (g:Int->V):V->Hp->VK->Prop:=fun x H Q=>qkj g x H Q
section
variable {X:Cx}{a b c:Expr}{ta tb tc:TE}{pos:Pos}
theorem qkb (ha:PE X a ta) (hb:PE X b tb) {pins:List (Addr×Obj)}{s:Shared}{σ:St}{H:Hp}{R:V->V->Hp->Prop} (I:Inv X pins σ H s)
   (h:ta σ H fun x H1=>tb σ H1 fun y H2=>R x y H2) {Q:Value->Shared->Prop}{f:Value->Value->Sem Value}
   (hf:∀ v u s2 x y H2,Inv X pins σ H2 s2->RelV x v->RelV y u->R x y H2->wpAny (model X.prog X.w) X.A (f v u) Q X.xe s2) :
   wpAny (model X.prog X.w) X.A (eval a X.env) (fun v s₁=>wpAny (model X.prog X.w) X.A (eval b X.env) (fun u s₂=>wpAny (model X.prog X.w) X.A (f v u) Q X.xe s₂) X.xe s₁) X.xe s:=by
 refine thn (ha pins s σ H _ I h) fun v s1 zz_=>?_;obtain⟨x,H1,I1,r1,q1⟩:=zz_;refine thn (hb pins s1 σ H1 _ I1 q1) fun u s2 zz_=>?_;obtain⟨y,H2,I2,r2,q2⟩:=zz_;exact hf v u s2 x y H2 I2 r1 r2 q2
theorem qA {op:Operator}{r:R2} (ho:OpR X (binaryOp op) r) (ha:PE X a ta) (hb:PE X b tb):PE X (.BinOp a op b pos) (tOp r ta tb):=by
 intro pins s σ H Q I h;exact wpAny_BinOp (qkb ha hb I h fun v u s2 x y H2 I2 rx ry q=>ho pins s2 σ H2 x y v u Q I2 rx ry q)
theorem qdD {op:UnaryOp}{r:V->Hp->VK->Prop} (ho:UnR X (unaryOp op) r) (ha:PE X a ta):PE X (.UnaryOp op a pos) (tUn r ta):=by
 intro pins s σ H Q I h;exact UnaryOp_ (thn (ha pins s σ H _ I h) fun v s1 ⟨x,H1,I1,r1,q1⟩=>ho pins s1 σ H1 x v Q I1 r1 q1)
theorem opI {f:Value->Value->Sem Value}{C:Int->Int->Prop}{g:Int->Int->Int}
   (rule:∀ (i j:Int) (t u:Tok) (s:Shared) (Q:Value->Shared->Prop) (E:Value->Shared->Prop),C i j->Q (.int (g i j) s.toks) { s with toks:=s.toks+1 }->wpAny (model X.prog X.w) X.A (f (.int i t) (.int j u)) Q E s) :
   OpR X f (rI C fun i j=>.int (g i j)):=by
 intro pins s σ H x y v u Q I rx ry h;obtain⟨i,j,rfl,rfl,hc,q⟩:=h;obtain⟨t,rfl⟩:=rx;obtain⟨t',rfl⟩:=ry;exact rule i j t t' s _ _ hc ⟨.int (g i j),H,I.tok _,⟨_,rfl⟩,q⟩
theorem qks {f:Value->Value->Sem Value}{g:Int->Int->Int}
   (rule:∀ (i j:Int) (t u:Tok) (s:Shared) (Q:Value->Shared->Prop) (E:Value->Shared->Prop),Q (.int (g i j) s.toks) { s with toks:=s.toks+1 }->wpAny (model X.prog X.w) X.A (f (.int i t) (.int j u)) Q E s) :
   OpR X f (rI0 fun i j=>.int (g i j)):=by
 intro pins s σ H x y v u Q I rx ry h;obtain⟨i,j,rfl,rfl,q⟩:=h;obtain⟨t,rfl⟩:=rx;obtain⟨t',rfl⟩:=ry;exact rule i j t t' s _ _ ⟨.int (g i j),H,I.tok _,⟨_,rfl⟩,q⟩
theorem qjG {f:Value->Value->Sem Value}{g:Int->Int->Bool}
   (rule:∀ (i j:Int) (t u:Tok) (s:Shared) (Q:Value->Shared->Prop) (E:Value->Shared->Prop),Q (.bool (g i j)) s->wpAny (model X.prog X.w) X.A (f (.int i t) (.int j u)) Q E s) :
   OpR X f (rI0 fun i j=>.bl (g i j)):=by
 intro pins s σ H x y v u Q I rx ry h;obtain⟨i,j,rfl,rfl,q⟩:=h;obtain⟨t,rfl⟩:=rx;obtain⟨t',rfl⟩:=ry;exact rule i j t t' s _ _ ⟨.bl (g i j),H,I,rfl,q⟩
def qkX (i j:Int):Prop:=0 < j∧j < 1073741824
def qkW (i j:Int):Prop:=0≤j∧j≤1000000∧i.natAbs < 2 ^ 64
def CMul (i j:Int):Prop:=(-(2 ^ 64) < i∧i < 2 ^ 64)∨(-(2 ^ 64) < j∧j < 2 ^ 64)
theorem CMul.ok {i j:Int} (h:CMul i j):IntMulOk i j:=by
 rcases h with ⟨h1,h2⟩|⟨h1,h2⟩
 · exact .of_left (intBits_le_64 h1 h2)
 · exact .of_right (intBits_le_64 h1 h2)
theorem op_add:OpR X (binaryOp .Add) (rI0 fun i j=>.int (i+j)):=qks fun _ _ _ _ _ _ _ q=>add_int q
theorem QJ:OpR X (binaryOp .Sub) (rI0 fun i j=>.int (i - j)):=qks fun _ _ _ _ _ _ _ q=>sub_int q
theorem Z7:OpR X (binaryOp .Mult) (rI CMul fun i j=>.int (i * j)):=opI fun _ _ _ _ _ _ _ hc q=>mul_int q hc.ok
theorem qeP:OpR X (binaryOp .FloorDiv) (rI qkX fun i j=>.int (i / j)):=opI fun i j _ _ _ _ _ hc q=>by
 have h1:(0:Int) < j:=hc.1;have h2:j < 1073741824:=hc.2;exact floordiv_int (by omega) (by rw[Int.fdiv_eq_ediv_of_nonneg i (by omega)];exact q) (.inl (PyProof.noPylong_small (by omega)))
theorem Qp:OpR X (binaryOp .Mod) (rI (fun _ j=>0 < j) fun i j=>.int (i % j)):=opI fun i j _ _ _ _ _ hc q=>by
 have h1:(0:Int) < j:=hc;exact mod_int' (by omega) (by rw[Int.fmod_eq_emod_of_nonneg i (by omega)];exact q)
theorem qi3:OpR X (binaryOp .Pow) (rI qkW fun i j=>.int (i ^ j.toNat)):=opI fun _ _ _ _ _ _ _ hc q=>pow_int_small hc.1 hc.2.1 hc.2.2 q
theorem unI {f:Value->Sem Value}{g:Int->Int}
   (rule:∀ (i:Int) (t:Tok) (s:Shared) (Q:Value->Shared->Prop) (E:Value->Shared->Prop),Q (.int (g i) s.toks) { s with toks:=s.toks+1 }->wpAny (model X.prog X.w) X.A (f (.int i t)) Q E s) :
   UnR X f (rU fun i=>.int (g i)):=by
 intro pins s σ H x v Q I rx h;obtain⟨i,rfl,q⟩:=h;obtain⟨t,rfl⟩:=rx;exact rule i t s _ _ ⟨.int (g i),H,I.tok _,⟨_,rfl⟩,q⟩
theorem qab:UnR X (unaryOp .USub) (rU fun i=>.int (-i)):=unI fun _ _ _ _ _ q=>neg_int q
end
def qki:V->V->Bool
 | .non,.non=>true|.non,.int _=>true|.int _,.non=>true|.non,.bl _=>true|.bl _,.non=>true|.non,.str _=>true|.str _,.non=>true
 | .int _,.int _=>true|.bl _,.bl _=>true|.str _,.str _=>true|.byt _,.byt _=>true
 | .int _,.str _=>true|.str _,.int _=>true|.bl _,.str _=>true|.str _,.bl _=>true
 | _,_=>false
def rEq:R2:=fun x y H Q=>qki x y=true∧Q (.bl (decide (x=y))) H
def rNe:R2:=fun x y H Q=>qki x y=true∧Q (.bl (!decide (x=y))) H
theorem qfu {i j:Int}:decide (V.int i=V.int j)=(i == j):=by
 rw[Bool.eq_iff_iff];simp
theorem qg1 {i j:Bool}:decide (V.bl i=V.bl j)=(i == j):=by
 rw[Bool.eq_iff_iff];simp
theorem qft {i j:Str}:decide (V.str i=V.str j)=(i == j):=by
 rw[Bool.eq_iff_iff];simp
theorem qfv {i j:Array UInt8}:decide (V.byt i=V.byt j)=(i.toList == j.toList):=by
 rw[Bool.eq_iff_iff];cases i;cases j;simp
section
variable {X:Cx}{a b c:Expr}{ta tb tc:TE}{pos:Pos}
theorem qO {pins:List (Addr×Obj)}{σ:St}{H:Hp}{s:Shared}{Q:VK}{k k':Bool} (I:Inv X pins σ H s) (q:Q (.bl k) H) (e:k=k'):EP X pins σ Q (.bool k') s:=by
 subst e;exact⟨.bl k,H,I,rfl,q⟩
theorem op_eq:OpR X (compareOp .Eq) rEq:=by
 intro pins s σ H x y v u Q I rx ry h;obtain⟨hs,q⟩:=h
 cases x with
 | non =>
   cases rx
   cases y with
   | non=>cases ry;exact PySem.EqNone.eq_none_none (qO I q (by simp))
   | bl j=>cases ry;exact PySem.EqNone.eq_none_bool (qO I q (by simp))
   | int j=>obtain⟨t',rfl⟩:=ry;exact PySem.EqNone.eq_none_int (qO I q (by simp))
   | str j=>obtain⟨t',rfl⟩:=ry;exact PySem.EqNone.eq_none_str (qO I q (by simp))
   | _=>exact absurd (show false=true from hs) Bool.false_ne_true
 | bl i =>
   cases rx
   cases y with
   | non=>cases ry;exact PySem.EqNone.eq_bool_none (qO I q (by simp))
   | bl j=>cases ry;exact eq_bool (qO I q qg1)
   | str j=>obtain⟨t',rfl⟩:=ry;exact PySem.EqMixed.eq_bool_str (qO I q (by simp))
   | _=>exact absurd (show false=true from hs) Bool.false_ne_true
 | int i =>
   obtain⟨t,rfl⟩:=rx
   cases y with
   | non=>cases ry;exact PySem.EqNone.eq_int_none (qO I q (by simp))
   | int j=>obtain⟨t',rfl⟩:=ry;exact eq_int (qO I q qfu)
   | str j=>obtain⟨t',rfl⟩:=ry;exact PySem.EqMixed.eq_int_str (qO I q (by simp))
   | _=>exact absurd (show false=true from hs) Bool.false_ne_true
 | str i =>
   obtain⟨t,rfl⟩:=rx
   cases y with
   | non=>cases ry;exact PySem.EqNone.eq_str_none (qO I q (by simp))
   | bl j=>cases ry;exact PySem.EqMixed.eq_str_bool (qO I q (by simp))
   | int j=>obtain⟨t',rfl⟩:=ry;exact PySem.EqMixed.eq_str_int (qO I q (by simp))
   | str j=>obtain⟨t',rfl⟩:=ry;exact eq_str (qO I q qft)
   | _=>exact absurd (show false=true from hs) Bool.false_ne_true
 | byt i =>
   obtain⟨t,rfl⟩:=rx
   cases y with
   | byt j=>obtain⟨t',rfl⟩:=ry;exact PySem.W.eq_bytes (qO I q qfv)
   | _=>exact absurd (show false=true from hs) Bool.false_ne_true
 | _=>cases y<;>exact absurd (show false=true from hs) Bool.false_ne_true
theorem op_ne:OpR X (compareOp .NotEq) rNe:=by
 intro pins s σ H x y v u Q I rx ry h;obtain⟨hs,q⟩:=h
 cases x with
 | non =>
   cases rx
   cases y with
   | non=>cases ry;exact PySem.EqNone.ne_none_none (qO I q (by simp))
   | bl j=>cases ry;exact PySem.EqNone.ne_none_bool (qO I q (by simp))
   | int j=>obtain⟨t',rfl⟩:=ry;exact PySem.EqNone.ne_none_int (qO I q (by simp))
   | str j=>obtain⟨t',rfl⟩:=ry;exact PySem.EqNone.ne_none_str (qO I q (by simp))
   | _=>exact absurd (show false=true from hs) Bool.false_ne_true
 | bl i =>
   cases rx
   cases y with
   | non=>cases ry;exact PySem.EqNone.ne_bool_none (qO I q (by simp))
   | bl j=>cases ry;exact ne_bool (qO I q (congrArg not qg1))
   | str j=>obtain⟨t',rfl⟩:=ry;exact PySem.EqMixed.ne_bool_str (qO I q (by simp))
   | _=>exact absurd (show false=true from hs) Bool.false_ne_true
 | int i =>
   obtain⟨t,rfl⟩:=rx
   cases y with
   | non=>cases ry;exact PySem.EqNone.ne_int_none (qO I q (by simp))
   | int j=>obtain⟨t',rfl⟩:=ry;exact ne_int (qO I q (congrArg not qfu))
   | str j=>obtain⟨t',rfl⟩:=ry;exact PySem.EqMixed.ne_int_str (qO I q (by simp))
   | _=>exact absurd (show false=true from hs) Bool.false_ne_true
 | str i =>
   obtain⟨t,rfl⟩:=rx
   cases y with
   | non=>cases ry;exact PySem.EqNone.ne_str_none (qO I q (by simp))
   | bl j=>cases ry;exact PySem.EqMixed.ne_str_bool (qO I q (by simp))
   | int j=>obtain⟨t',rfl⟩:=ry;exact PySem.EqMixed.ne_str_int (qO I q (by simp))
   | str j=>obtain⟨t',rfl⟩:=ry;exact ne_str (qO I q (congrArg not qft))
   | _=>exact absurd (show false=true from hs) Bool.false_ne_true
 | byt i =>
   obtain⟨t,rfl⟩:=rx
   cases y with
   | byt j=>obtain⟨t',rfl⟩:=ry;exact PySem.W.ne_bytes (qO I q (congrArg not qfv))
   | _=>exact absurd (show false=true from hs) Bool.false_ne_true
 | _=>cases y<;>exact absurd (show false=true from hs) Bool.false_ne_true
theorem qjZ:OpR X (compareOp .Lt) (rI0 fun i j=>.bl (decide (i < j))):=qjG fun _ _ _ _ _ _ _ q=>lt_int q
theorem qdH:OpR X (compareOp .LtE) (rI0 fun i j=>.bl (decide (i≤j))):=qjG fun _ _ _ _ _ _ _ q=>le_int q
theorem qaY:OpR X (compareOp .Gt) (rI0 fun i j=>.bl (decide (j < i))):=qjG fun _ _ _ _ _ _ _ q=>gt_int q
theorem qf8:OpR X (compareOp .GtE) (rI0 fun i j=>.bl (decide (j≤i))):=qjG fun _ _ _ _ _ _ _ q=>ge_int q
theorem qeO:OpR X (compareOp .IsNot) (fun x y H Q=>y=.non∧Q (.bl (!decide (x=.non))) H):=by
 intro pins s σ H x y v u Q I rx ry h;obtain⟨rfl,q⟩:=h;cases ry;refine isnot_none_gen (qO I q ?_);cases x<;>first
   | (cases rx;rfl)
   | (obtain⟨t,rfl⟩:=rx;rfl)
theorem OpR.or {f:Value->Value->Sem Value}{r r':R2} (h:OpR X f r) (h':OpR X f r'):OpR X f (fun x y H Q=>r x y H Q∨r' x y H Q):=by
 intro pins s σ H x y v u Q I rx ry q;rcases q with q|q
 · exact h pins s σ H x y v u Q I rx ry q
 · exact h' pins s σ H x y v u Q I rx ry q
theorem qI (b:Expr) {op:CmpOp} (h:op≠.In:=by decide) (h2:op≠.NotIn:=by decide):behindInMarks op b=false:=by
 have e1:(op == CmpOp.In)=false:=by cases op<;>first|rfl|exact absurd rfl h
 have e2:(op == CmpOp.NotIn)=false:=by cases op<;>first|rfl|exact absurd rfl h2
 cases b<;>simp[behindInMarks,e1,e2]
theorem Q9 {op:CmpOp}{r:R2} (ho:OpR X (compareOp op) r) (ha:PE X a ta) (hb:PE X b tb) (hm:behindInMarks op b=false):PE X (.Compare a [op] [b] pos) (tOp r ta tb):=by
 intro pins s σ H Q I h;exact wpAny_Compare1 (qkb ha hb I h fun v u s2 x y H2 I2 rx ry q=>ho pins s2 σ H2 x y v u Q I2 rx ry q) hm
inductive qei (Q:(Bool->Hp->Prop)) (x:V) (H':Hp):Prop
 | mk (k:_) (h1:x=.bl k) (h2:Q k H'):qei Q x H'
def qix (t:TE):TT:=fun σ H Q=>t σ H fun x H'=>qei Q x H'
theorem qy {op:CmpOp}{r:R2} (ho:OpR X (compareOp op) r) (ha:PE X a ta) (hb:PE X b tb) (hm:behindInMarks op b=false):PT X (.Compare a [op] [b] pos) (qix (tOp r ta tb)):=by
 intro pins s σ H Q I h
 refine wpAny_isTrue_Compare1 (thn (ha pins s σ H _ I h) fun v s1 ⟨x,H1,I1,r1,q1⟩=>thn (hb pins s1 σ H1 _ I1 q1) fun u s2 ⟨y,H2,I2,r2,q2⟩ =>
   thn (ho pins s2 σ H2 x y v u _ I2 r1 r2 q2) fun c s3 ⟨z,H3,I3,r3,k,e,q3⟩=>?_) hm
 subst e;cases r3;exact wpAny_truthy_bool ⟨H3,I3,q3⟩
def qgB (r r':R2) (ta tb tc:TE):TE:=fun σ H Q=>ta σ H fun x H1=>tb σ H1 fun y H2=>r x y H2 fun z H3=>∃ k,z=.bl k ∧
 (if k=true then tc σ H3 fun w' H4=>r' y w' H4 Q else Q (.bl false) H3)
theorem qdh {op op':CmpOp}{r r':R2} (ho:OpR X (compareOp op) r) (ho':OpR X (compareOp op') r') (ha:PE X a ta) (hb:PE X b tb) (hc:PE X c tc)
   (hm:lastMarks [op,op'] [b,c]=false:=by with_unfolding_all rfl):PE X (.Compare a [op,op'] [b,c] pos) (qgB r r' ta tb tc):=by
 intro pins s σ H Q I h
 refine Compare_chain (thn (ha pins s σ H _ I h) fun v s1 ⟨x,H1,I1,r1,q1⟩=>chain_link (thn (hb pins s1 σ H1 _ I1 q1) fun u s2 ⟨y,H2,I2,r2,q2⟩ =>
   thn (ho pins s2 σ H2 x y v u _ I2 r1 r2 q2) fun d s3 ⟨z,H3,I3,r3,k,e,q3⟩=>?_)) hm
 subst e;cases r3;refine wpAny_truthy_bool ?_
 cases k with
 | false=>exact ite_ff ⟨.bl false,H3,I3,rfl,q3⟩
 | true=>exact ite_tt (chain_last (thn (hc pins s3 σ H3 _ I3 q3) fun w' s4 ⟨z',H4,I4,r4,q4⟩=>ho' pins s4 σ H4 y z' u w' Q I4 r2 r4 q4))
theorem qf3 {op op':CmpOp}{r r':R2} (ho:OpR X (compareOp op) r) (ho':OpR X (compareOp op') r') (ha:PE X a ta) (hb:PE X b tb) (hc:PE X c tc)
   (hm:lastMarks [op,op'] [b,c]=false:=by with_unfolding_all rfl):PT X (.Compare a [op,op'] [b,c] pos) (qix (qgB r r' ta tb tc)):=by
 intro pins s σ H Q I h
 refine isTrue_chain (thn (ha pins s σ H _ I h) fun v s1 ⟨x,H1,I1,r1,q1⟩=>test_link (thn (hb pins s1 σ H1 _ I1 q1) fun u s2 ⟨y,H2,I2,r2,q2⟩ =>
   thn (ho pins s2 σ H2 x y v u _ I2 r1 r2 q2) fun d s3 ⟨z,H3,I3,r3,k,e,q3⟩=>?_)) hm
 subst e;cases r3;refine wpAny_truthy_bool ?_
 cases k with
 | false =>
   obtain⟨k',e',q'⟩:=q3;cases e';exact ite_ff ⟨H3,I3,q'⟩
 | true =>
   refine ite_tt (test_last (thn (hc pins s3 σ H3 _ I3 q3) fun w' s4 ⟨z',H4,I4,r4,q4⟩=>thn (ho' pins s4 σ H4 y z' u w' _ I4 r2 r4 q4) fun d' s5 zz_=>?_));obtain⟨z2,H5,I5,r5,k2,e2,q5⟩:=zz_;subst e2;cases r5;exact wpAny_truthy_bool ⟨H5,I5,q5⟩
def qku (K:Frag) (x:V) (H:Hp) (k:Bool):Prop :=
 match x with
 | .non=>k=false
 | .bl b=>k=b
 | .int i=>k=(i != 0)
 | .str y=>y.length≤sizeLine∧k=((y.length:Int) != 0)
 | .byt y=>y.size≤sizeLine∧k=((y.size:Int) != 0)
 | .ref p=>(∃ xs,SqL K H p xs∧k=!xs.isEmpty)∨(∃ xs,SqT K H p xs∧k=!xs.isEmpty)∨∃ kvs,H p=some (.dK kvs)∧k=!kvs.isEmpty
 | _=>False
theorem qdR {κ:Type}{kvs:List (κ×V)}{vs:List (κ×Value)} (r:KV kvs vs):(!vs.isEmpty)=!kvs.isEmpty:=by
 cases r<;>rfl
theorem qay {xs:List V}{its:List Value} (r:Vals xs its):(!its.toArray.isEmpty)=!xs.isEmpty:=by
 cases r<;>simp
theorem qbT:(sizeLine:Nat) < 2 ^ 63:=by rw[sizeLine_eq];decide
theorem qit:qkT X (fun x H Q=>∃ k,qku X.K x H k∧Q k H):=by
 intro pins s σ H x v Q I rx h;obtain⟨k,e,q⟩:=h;have hl:=qbT;have hs:sizeLine=16777216:=sizeLine_eq
 cases x with
 | non =>
   cases rx;have e':k=false:=e;subst e';exact truthy_none ⟨H,I,q⟩
 | bl b =>
   cases rx;have e':k=b:=e;subst e';exact wpAny_truthy_bool ⟨H,I,q⟩
 | int i =>
   obtain⟨t,rfl⟩:=rx;have e':k=(i != 0):=e;subst e';exact PySem.P.truthy_int ⟨H,I,q⟩
 | str y =>
   obtain⟨t,rfl⟩:=rx;obtain⟨hy,e'⟩:y.length≤sizeLine∧k=((y.length:Int) != 0):=e;subst e';exact PySem.P.truthy_str (by omega) ⟨H,I.tok _,q⟩
 | byt y =>
   obtain⟨t,rfl⟩:=rx;obtain⟨hy,e'⟩:y.size≤sizeLine∧k=((y.size:Int) != 0):=e;subst e';exact PySem.W.truthy_bytes (by omega) ⟨H,I.tok _,q⟩
 | ref p =>
   cases rx;have e':(∃ xs,SqL X.K H p xs∧k=!xs.isEmpty)∨(∃ xs,SqT X.K H p xs∧k=!xs.isEmpty)∨∃ kvs,H p=some (.dK kvs)∧k=!kvs.isEmpty:=e;rcases e' with ⟨xs,hx,e'⟩|⟨xs,hx,e'⟩|⟨kvs,hx,e'⟩
   · subst e';obtain⟨its,r,pl,hz⟩:=I.list hx;have hlen:=r.length;exact wpAny_truthy_list pl.isList (by simp only[List.size_toArray];omega) ⟨H,I.tok _,by rw[qay r];exact q⟩
   · subst e';obtain⟨its,r,pl,hz⟩:=I.tuple hx;have hlen:=r.length;exact truthy_tuple pl (by simp only[List.size_toArray];omega) ⟨H,I.tok _,by rw[qay r];exact q⟩
   · subst e';obtain⟨hz,hS,vs,r,m⟩:kvs.length≤sizeLine∧(p == sysModules)=false∧∃ vs,KV kvs vs∧s.heap.DictOf (qX X.prog X.w) p vs:=I.hok p _ hx;have hlen:kvs.length=vs.length:=Paired.length r;exact wpAny_truthy_dict hS m (by omega) ⟨H,I.tok _,by rw[qdR r];exact q⟩
 | _=>exact(show False from e).elim
theorem qf2 (ha:PE X a ta) (he:∀ whole,isTrue a X.env whole=(do let v ← whole;standAt a.pos;holding [v] (truthy v))) :
   PT X a (fun σ H Q=>ta σ H fun x H'=>∃ k,qku X.K x H' k∧Q k H'):=by
 intro pins s σ H Q I h;exact isTrue_plain (thn (ha pins s σ H _ I h) fun v s1 ⟨x,H1,I1,r1,q1⟩=>qit pins s1 σ H1 x v Q I1 r1 q1) (he _)
theorem qdI:OpR X (binaryOp .Add) (fun x y H Q=>∃ i j,x=.str i∧y=.str j∧i.length+j.length≤sizeLine∧Q (.str (i++j)) H):=by
 intro pins s σ H x y v u Q I rx ry h;obtain⟨i,j,rfl,rfl,hz,q⟩:=h;obtain⟨t,rfl⟩:=rx;obtain⟨t',rfl⟩:=ry;exact add_str (fun t' tk=>⟨.str (i++j),H,I.tok _,⟨_,rfl⟩,q⟩) hz
theorem ji {x:V}{us:List Value} (r:Vals [x] us):∃ u,us=[u]∧RelV x u:=by
 cases r with
 | cons r1 r2=>cases r2;exact⟨_,rfl,r1⟩
theorem qec {x y:V}{us:List Value} (r:Vals [x,y] us):∃ u w',us=[u,w']∧RelV x u∧RelV y w':=by
 cases r with
 | cons r1 r2 =>
   cases r2 with
   | cons r3 r4=>cases r4;exact⟨_,_,rfl,r1,r3⟩
theorem qb3 (hc:X.calm=true):QN X (.builtin "min") (fun xs H Q=>∃ i j,xs=[.int i,.int j]∧Q (.int (if j < i then j else i)) H):=by
 intro pins s σ H xs us Q I r h;obtain⟨i,j,rfl,q⟩:=h;obtain⟨u,w',rfl,⟨t,rfl⟩,⟨t',rfl⟩⟩:=qec r;refine min_two_ints (I.ok.hd hc) fun h' tk k=>⟨_,H,I.kept k,?_,q⟩
 by_cases hj:j < i
 · rw[if_pos hj,if_pos hj];exact⟨_,rfl⟩
 · rw[if_neg hj,if_neg hj];exact⟨_,rfl⟩
theorem JP:QN X (.type "int") (fun xs H Q=>(∃ i,xs=[.int i]∧Q (.int i) H)∨∃ k,xs=[.bl k]∧Q (.int (if k then 1 else 0)) H):=by
 intro pins s σ H xs us Q I r h;rcases h with ⟨i,rfl,q⟩|⟨k,rfl,q⟩
 · obtain⟨u,rfl,t,rfl⟩:=ji r;exact call_int_int ⟨.int i,H,I,⟨_,rfl⟩,q⟩
 · obtain⟨u,rfl,r1⟩:=ji r;cases r1;exact call_int_bool ⟨.int (if k then 1 else 0),H,I.tok _,⟨_,rfl⟩,q⟩
def qkV (K:Frag) (x:V) (H:Hp) (n:Nat):Prop :=
 match x with
 | .str y=>y.length≤sizeLine∧n=y.length
 | .byt y=>y.size≤sizeLine∧n=y.size
 | .ref p=>(∃ xs,SqL K H p xs∧n=xs.length)∨∃ xs,SqT K H p xs∧n=xs.length
 | _=>False
theorem qB:QN X (.builtin "len") (fun xs H Q=>∃ x n,xs=[x]∧qkV X.K x H n∧Q (.int n) H):=by
 intro pins s σ H xs us Q I r h;obtain⟨x,n,rfl,e,q⟩:=h;obtain⟨u,rfl,rx⟩:=ji r;have hl:=qbT;have hs:sizeLine=16777216:=sizeLine_eq
 cases x with
 | str y =>
   obtain⟨t,rfl⟩:=rx;obtain⟨hy,e'⟩:y.length≤sizeLine∧n=y.length:=e;subst e';exact len_str (by omega) ⟨.int _,H,I.tok _,⟨_,rfl⟩,q⟩
 | byt y =>
   obtain⟨t,rfl⟩:=rx;obtain⟨hy,e'⟩:y.size≤sizeLine∧n=y.size:=e;subst e';exact PySem.W.len_bytes (by omega) ⟨.int _,H,I.tok _,⟨_,rfl⟩,q⟩
 | ref p =>
   cases rx;have e':(∃ xs,SqL X.K H p xs∧n=xs.length)∨∃ xs,SqT X.K H p xs∧n=xs.length:=e;rcases e' with ⟨xs,hx,e'⟩|⟨xs,hx,e'⟩
   · subst e';obtain⟨its,r',pl,hz⟩:=I.list hx;have hlen:=r'.length;exact Calls.call_len_list pl.isList (by simp only[List.size_toArray];omega) ⟨.int xs.length,H,I.tok _,⟨_,by simp only[List.size_toArray];rw[hlen]⟩,q⟩
   · subst e';obtain⟨its,r',pl,hz⟩:=I.tuple hx;have hlen:=r'.length;exact len_tuple pl (by simp only[List.size_toArray];omega) ⟨.int xs.length,H,I.tok _,⟨_,by simp only[List.size_toArray];rw[hlen]⟩,q⟩
 | _=>exact(show False from e).elim
end
structure ObjM (h:Heap) (x dx C:Addr) (mA:Str->Option Value):Prop where
 obj:h.get? x=some (instObj C dx)
 ns:h.Ns1 dx mA
 ne:dx≠x
theorem qbS {h:Heap}{dx:Addr}{mA:Str->Option Value} (n:h.Ns1 dx mA):∃ od,h.get? dx=some od∧∀ name,lookIn name od=some (mA name):=by
 obtain⟨o,es,ep,ho,hd,hk,_,hm⟩:=n;refine⟨o,ho,fun name=>?_⟩;have e:=hm name;unfold nsFind findBy at e;rw[← Array.find?_toList]at e;unfold lookIn;rw[hd];dsimp only;split
 · rename_i y q
   rw[q]at e;exact congrArg some e
 · rename_i q
   rw[q]at e
   have a:es.toList.any (·.refKey)=false:=by
     rw[List.any_eq_false];intro y hy;obtain⟨z,t,hkey⟩:=hk y (Array.mem_toList_iff.mp hy);simp[DictEntry.refKey,hkey]
   have a':¬ es.toList.any (·.refKey)=true:=by rw[a];exact Bool.false_ne_true
   rw[if_neg a'];exact congrArg some e
theorem ObjM.look {h:Heap}{x dx C:Addr}{mA:Str->Option Value} (I:ObjM h x dx C mA):∃ od,PySem.W.InstAt h x (instObj C dx) C (some od)∧∀ name,lookIn name od=some (mA name) :=
 let ⟨od,ho,hl⟩:=qbS I.ns
 ⟨od,⟨I.obj,rfl,rfl,ho⟩,hl⟩
section
variable {prog:Program}{w:World}{A:Around}{E:Value->Shared->Prop}{s:Shared}{K:Frag}{x dx C f:Addr}{mA:Str->Option Value}{name:Str}{v:Value}
theorem qh0 {expr:Bool}{Q:Value->Shared->Prop} (X:K.In s.heap) (I:ObjM s.heap x dx C mA) (hg:plainGet K C name=true) (hh:hasDictIn K C=true)
   (ha:findIn K (.ref C) name=some none) (hv:mA name=some v) (hv':handedIn v=true) (h:Q v { s with toks:=s.toks+1 }) :
   wpAny (model prog w) A (getAttr (.ref x) name expr) Q E s:=by
 obtain⟨od,J,hl⟩:=I.look;exact PySem.W.get_value X J (plainGet_of hg).1 (PySem.W.findObj_own hh ha rfl (by rw[hl,hv])) hv' h
theorem qgn {pl:Sem Bool}{Q:Value×List Value->Shared->Prop} (X:K.In s.heap) (I:ObjM s.heap x dx C mA) (hg:plainGet K C name=true)
   (hf:findIn K (.ref C) name=some (some (.ref f))) (ht:isFn K (.ref f)=true) (hv:mA name=none) (h:Q (.ref f,[.ref x]) s) :
   wpAny (model prog w) A (getMethod (.ref x) name pl) Q E s:=by
 obtain⟨od,J,hl⟩:=I.look;exact PySem.W.method_fn X J (plainGet_of hg).1 (plainGet_of hg).2 hf (beq_iff_eq.mp ht) (by show (lookIn name od).map (·.isSome)=some false;rw[hl,hv];rfl) h
theorem qht {ns:List Str}{Q:Unit->Shared->Prop} (X:K.In s.heap) (I:ObjM s.heap x dx C mA)
   (hs:findIn K (.ref C) "__setattr__"=some (some (.builtin "object.__setattr__"))) (hp:plainOver K C=true) (ht:takerIn K C name=some none) (hh:hasDictIn K C=true)
   (hw:PySem.Within mA ns) (hsz:ns.length≤sizeLine)
   (h:∀ h',ObjM h' x dx C (fun y=>if y=name then some v else mA y)->Heap.SameBut dx s.heap h'->Q () { s with heap:=h',toks:=s.toks+2 }) :
   wpAny (model prog w) A (setAttr (.ref x) name v) Q E s:=by
 obtain⟨od,J,hl⟩:=I.look;refine PySem.W.set_plain X J hs (PySem.W.osa_open (s:={ s with toks:=s.toks+1 }) (r:=none) X J hp ht fun b=>?_);obtain⟨cd,hc,hd'⟩:=PySem.W.any_some hh;have hx:s.heap.get? x=some ⟨.ref C,some dx,.plain,#[]⟩:=I.obj;refine wpAny_bind (wpAny_pure (wpAny_bind (wpAny_bind (wpAny_loadPart hx (wpAny_bind (PySem.W.Looks.here (s:={ s with toks:=s.toks+1 }) (PySem.W.looks_clsIn X hc) ?_))))));rw[hd'];refine wpAny_pure (a:=some dx) (wpAny_bind (wpAny_pure (wpAny_bind ?_)));refine wpAny_nsSet1 (s:={ s with toks:=s.toks+1 }) I.ns fun h' hn2 hs2=>?_;obtain⟨oD,esD,epD,hoD,hdD,hcD⟩:=hn2.count (PySem.Within.cons name v hw);refine wpAny_bind (wpAny_lookBehind hoD (by rw[hdD];exact pastItsLine_dict (Nat.le_trans hcD (by rw[List.length_cons];omega))) ?_);exact wpAny_pure (h _ ⟨(hs2.2 _ (Ne.symm I.ne)).trans I.obj,hn2,I.ne⟩ hs2)
theorem qgh {R:Result->Shared->Prop}{vs:List Value}{kw:List (Str×Value)} (X:K.In s.heap) (hm:makesIn K C=true)
   (hi:findIn K (.ref C) "__init__"=some (some (.ref f))) (hf:PySem.W.typeIn K (.ref f)=some (.type "function"))
   (h:codeAny (model prog w) (A.under (.builtin "type.__call__" ⟨.ref C::vs,kw⟩)) (.call (.ref f) ⟨.ref (s.heap.objs.size+1)::vs,kw⟩) (PySem.W.InitBack (s.heap.objs.size+1) R)
     { s with heap:=(s.heap.push emptyDict).push (instObj C s.heap.objs.size) }) :
   codeAny (model prog w) A (.call (.ref C) ⟨vs,kw⟩) R s:=by
 obtain⟨hh,g,d,t,os⟩:=s;exact PySem.W.make_core (PySem.W.makes_of X hm) (PySem.W.looks_findIn X hi) (fun self=>PySem.W.bind_fn X self hf) (.inl rfl) h
end
def qbG (f:Str) (v:V):List (Str×V)->List (Str×V)
 | []=>[(f,v)]
 | (g,x)::r=>if g=f then (g,v)::r else (g,x)::qbG f v r
theorem Qv (f g:Str) (v:V):∀ fs:List (Str×V),(qbG f v fs).lookup g=if g=f then some v else fs.lookup g
 | []=>by
   show List.lookup g [(f,v)]=_;by_cases h:g=f
   · have hb:(g == f)=true:=beq_iff_eq.mpr h;simp only[List.lookup,hb,if_pos h]
   · have hb:(g == f)=false:=beq_eq_false_iff_ne.mpr h;simp only[List.lookup,hb,if_neg h]
 | (k,x)::r=>by
   have ih:=Qv f g v r;rw[show qbG f v ((k,x)::r)=(if k=f then (k,v)::r else (k,x)::qbG f v r) from rfl];by_cases hk:k=f
   · rw[if_pos hk];by_cases h:g=k
     · have hb:(g == k)=true:=beq_iff_eq.mpr h;simp only[List.lookup,hb,if_pos (h.trans hk)]
     · have hb:(g == k)=false:=beq_eq_false_iff_ne.mpr h;simp only[List.lookup,hb,if_neg (fun e:g=f=>h (e.trans hk.symm))]
   · rw[if_neg hk];by_cases h:g=k
     · have hb:(g == k)=true:=beq_iff_eq.mpr h;simp only[List.lookup,hb,if_neg (fun e:g=f=>hk (h.symm.trans e))]
     · have hb:(g == k)=false:=beq_eq_false_iff_ne.mpr h;simp only[List.lookup,hb];exact ih
theorem JI (f:Str) (v:V):∀ fs:List (Str×V),f∈(qbG f v fs).map (·.1)∧∀ g,g∈fs.map (·.1)->g∈(qbG f v fs).map (·.1)
 | []=>⟨by simp[qbG],fun g h=>by simp at h⟩
 | (k,x)::r=>by
   obtain⟨i1,i2⟩:=JI f v r;rw[show qbG f v ((k,x)::r)=(if k=f then (k,v)::r else (k,x)::qbG f v r) from rfl];by_cases hk:k=f
   · rw[if_pos hk];subst hk;exact⟨by simp,fun g h=>by simpa using h⟩
   · rw[if_neg hk];refine⟨?_,fun g h=>?_⟩
     · rw[List.map_cons];exact List.mem_cons_of_mem _ i1
     · rw[List.map_cons]at h ⊢;rcases List.mem_cons.mp h with e|e
       · exact List.mem_cons.mpr (.inl e)
       · exact List.mem_cons_of_mem _ (i2 g e)
theorem JD (f:Str) (v:V):∀ fs:List (Str×V),(qbG f v fs).length≤fs.length+1
 | []=>by simp[qbG]
 | (k,x)::r=>by
   have ih:=JD f v r;rw[show qbG f v ((k,x)::r)=(if k=f then (k,v)::r else (k,x)::qbG f v r) from rfl];by_cases hk:k=f
   · rw[if_pos hk,List.length_cons,List.length_cons];omega
   · rw[if_neg hk,List.length_cons,List.length_cons];omega
theorem RelO.some_of {v:V}{o:Option Value} (r:RelO (some v) o):∃ u,o=some u∧RelV v u:=by
 cases o with
 | none=>exact(show False from r).elim
 | some u=>exact⟨u,rfl,r⟩
theorem RelO.none_of {o:Option Value} (r:RelO none o):o=none:=by
 cases o with
 | none=>rfl
 | some u=>exact(show False from r).elim
theorem qbY {v:V}{u:Value} (r:RelV v u):handedIn u=true:=by
 cases v with
 | non=>cases (show u=Value.none from r);rfl
 | bl b=>cases (show u=Value.bool b from r);rfl
 | int i=>obtain⟨t,e⟩:=(show ∃ t,u=Value.int i t from r);cases e;rfl
 | str x=>obtain⟨t,e⟩:=(show ∃ t,u=Value.str x t from r);cases e;rfl
 | byt b=>obtain⟨t,e⟩:=(show ∃ t,u=Value.bytes b t from r);cases e;rfl
 | flt b=>obtain⟨t,e⟩:=(show ∃ t,u=Value.float b t from r);cases e;rfl
 | ref a=>cases (show u=Value.ref a from r);rfl
 | ty n=>cases (show u=Value.type n from r);rfl
section
variable {P:Program}{w:World}{H H':Hp}{h h':Heap}{a C dx:Addr}{fs fs':List (Str×V)}
theorem qa8 (hok:HOk P w H h) (e:H a=some (.ins C dx fs)):∃ mA,ObjM h a dx C mA∧(∀ f,RelO (fs.lookup f) (mA f))∧PySem.Within mA (fs.map (·.1))∧fs.length≤1000∧H dx=some (.own a):=by
 obtain⟨d,z,ne,ob,mA,n,r,q⟩:=(show ObjOk P w H h a (.ins C dx fs) from hok a _ e)
 exact⟨mA,⟨ob,n,ne⟩,r,q,z,d⟩
end
structure Cls (K:Frag) (C:Addr):Prop where
 pg:plainGet K C Str.empty=true
 hd:hasDictIn K C=true
 po:plainOver K C=true
 sa:findIn K (.ref C) "__setattr__"=some (some (.builtin "object.__setattr__"))
theorem Cls.get {K:Frag}{C:Addr} (c:Cls K C) (f:Str):plainGet K C f=true:=c.pg
def NoAttr (K:Frag) (C:Addr) (f:Str):Prop:=findIn K (.ref C) f=some none
theorem NoAttr.taker {K:Frag}{C:Addr}{f:Str} (n:NoAttr K C f):takerIn K C f=some none:=by
 unfold takerIn;rw[show findIn K (.ref C) f=some none from n];rfl
structure qic (K:Frag) (C:Addr) (m:Str) (f:Addr):Prop where
 at_:findIn K (.ref C) m=some (some (.ref f))
 fn:isFn K (.ref f)=true
 kp:keepIn K (.ref f)=true
section
variable {X:Cx}{pins:List (Addr×Obj)}{σ:St}{H:Hp}{s:Shared}{a C dx:Addr}{fs:List (Str×V)}{f:Str}{v:V}{A:Around}{E:Value->Shared->Prop}
theorem qdS {b:Bool}{Q:Value->Shared->Prop} (I:Inv X pins σ H s) (e:H a=some (.ins C dx fs)) (c:Cls X.K C) (n:NoAttr X.K C f) (l:fs.lookup f=some v)
   (h:∀ u s',Inv X pins σ H s'->RelV v u->Q u s'):wpAny (model X.prog X.w) A (getAttr (.ref a) f b) Q E s:=by
 obtain⟨mA,O,r,_,_,_⟩:=qa8 I.hok e;obtain⟨u,hu,ru⟩:=RelO.some_of (v:=v) (o:=mA f) (by rw[← l];exact r f);exact qh0 I.kIn O (c.get f) c.hd n hu (qbY ru) (h u _ (I.tok _) ru)
theorem qaz {m:Str}{g:Addr}{pl:Sem Bool}{Q:Value×List Value->Shared->Prop} (I:Inv X pins σ H s) (e:H a=some (.ins C dx fs)) (c:Cls X.K C) (k:qic X.K C m g) (l:fs.lookup m=none)
   (h:Q (.ref g,[.ref a]) s):wpAny (model X.prog X.w) A (getMethod (.ref a) m pl) Q E s:=by
 obtain⟨mA,O,r,_,_,_⟩:=qa8 I.hok e;have hn:mA m=none:=RelO.none_of (by rw[← l];exact r m);exact qgn I.kIn O (c.get m) k.at_ k.fn hn h
theorem qdz {y:V}{u:Value}{Q:Unit->Shared->Prop} (I:Inv X pins σ H s) (e:H a=some (.ins C dx fs)) (c:Cls X.K C) (n:NoAttr X.K C f) (hl:fs.length < 1000) (ry:RelV y u)
   (h:∀ s',Inv X pins σ (upd H a (.ins C dx (qbG f y fs))) s'->Q () s'):wpAny (model X.prog X.w) A (setAttr (.ref a) f u) Q E s:=by
 obtain⟨mA,O,r,wi,_,ho⟩:=qa8 I.hok e;have hz:(fs.map (·.1)).length≤sizeLine:=by rw[List.length_map,sizeLine_eq];omega
 refine qht I.kIn O c.sa c.po n.taker c.hd wi hz fun h' O' sb=>h _ ?_;have hd:∃ o,h'.get? dx=some o:=let ⟨o,_,_,e',_⟩:=O'.ns;⟨o,e'⟩;refine I.write (x:=a) (e:=dx) (by rw[e];exact True.intro) (.inr ho) (fun b q hb z=>(sb.2 b hb).trans z) hd ?_;refine⟨by rw[qg O.ne];exact ho,?_,O.ne,O'.obj,_,O'.ns,fun g=>?_,fun g hg=>?_⟩
 · have:=JD f y fs;omega
 · show RelO ((qbG f y fs).lookup g) (if g=f then some u else mA g);rw[Qv];by_cases q:g=f
   · rw[if_pos q,if_pos q];exact ry
   · rw[if_neg q,if_neg q];exact r g
 · by_cases q:g=f
   · rw[q];exact(JI f y fs).1
   · refine(JI f y fs).2 g (wi g fun z=>hg ?_);show (if g=f then some u else mA g)=none;rw[if_neg q];exact z
theorem Inv.made (I:Inv X pins σ H s):Inv X pins σ (upd (upd H s.heap.objs.size (.own (s.heap.objs.size+1))) (s.heap.objs.size+1) (.ins C s.heap.objs.size []))
   { s with heap:=(s.heap.push emptyDict).push (instObj C s.heap.objs.size) }:=by
 have e1:(s.heap.push emptyDict).get? s.heap.objs.size=some emptyDict:=Heap.get?_push_size s.heap rfl
 have e2:((s.heap.push emptyDict).push (instObj C s.heap.objs.size)).get? (s.heap.objs.size+1)=some (instObj C s.heap.objs.size):=by
   have:=Heap.get?_push_size (s.heap.push emptyDict) (o:=instObj C s.heap.objs.size) rfl
   rwa [Heap.size_push]at this
 have e3:(s.heap.push emptyDict).Ns s.heap.objs.size (fun _=>none):=⟨emptyDict,#[],_,e1,rfl,(fun e he=>absurd he (by simp)),fun _=>rfl⟩
 have I1:=I.laid (a:=s.heap.objs.size) (o:=.own (s.heap.objs.size+1)) (h':=s.heap.push emptyDict) (t':=s.toks) (fun b u q=>Heap.get?_push_of_some _ q) (Nat.le_refl _) ⟨_,e1⟩;refine I1.laid (a:=s.heap.objs.size+1) (o:=.ins C s.heap.objs.size []) (t':=s.toks) (fun b u q=>Heap.get?_push_of_some _ q) (Nat.le_of_eq (Heap.size_push _ _)) ?_;have ne:s.heap.objs.size≠s.heap.objs.size+1:=Nat.ne_of_lt (Nat.lt_succ_self _);refine⟨by rw[qg ne,qc],Nat.zero_le _,ne,e2,fun _=>none,(Heap.Ns1.of_empty e3).at fun o q=>Heap.get?_push_of_some _ q,fun _=>True.intro,fun y hy=>absurd rfl hy⟩
theorem qfJ {prog:Program}{w:World}{env:Env}{e:Expr}{f:Str}{pos:Pos}{s:Shared}{Q:Value->Shared->Prop} (hb:attributeBase e f env (eval e env)=eval e env)
   (h:wpAny (model prog w) A (eval e env) (fun o s₁=>wpAny (model prog w) A (getAttr o f true) Q E s₁) E s):wpAny (model prog w) A (eval (.Attribute e f pos) env) Q E s :=
 Attribute_any_ h (by rw[arm_eval_Attribute,hb])
end
inductive qgA (K:Frag) (f:Str) (Q:VK) (x:V) (H1:Hp):Prop
 | mk (a C dx fs v:_) (h1:x=.ref a) (h2:H1 a=some (.ins C dx fs)) (h3:Cls K C) (h4:NoAttr K C f) (h5:fs.lookup f=some v) (h6:Q v H1):qgA K f Q x H1
def qjN (K:Frag) (ta:TE) (f:Str):TE:=fun σ H Q=>ta σ H fun x H1=>qgA K f Q x H1
def qkH (K:Frag) (ta tv:TE) (f:Str):TS:=fun D σ H=>tv σ H fun y H1=>ta σ H1 fun x H2=>∃ a C dx fs,x=.ref a∧H2 a=some (.ins C dx fs)∧Cls K C∧NoAttr K C f∧fs.length < 1000 ∧
 D.nx σ (upd H2 a (.ins C dx (qbG f y fs)))
section
variable {X:Cx}{o e value:Expr}{f:Str}{pos pos' tpos:Pos}{ta tv:TE}
theorem qT (he:PE X e ta) (hb:attributeBase e f X.env (eval e X.env)=eval e X.env):PE X (.Attribute e f pos) (qjN X.K ta f):=by
 intro pins s σ H Q I h;refine qfJ hb (thn (he pins s σ H _ I h) fun u s1 zz_=>?_);obtain⟨x,H1,I1,rx,a,C,dx,fs,v,ex,ea,c,n,l,q⟩:=zz_;subst ex;obtain rfl:u=Value.ref a:=rx;exact qdS I1 ea c n l fun u' s2 I2 ru=>⟨v,H1,I2,ru,q⟩
theorem jO (ha:PE X o ta) (hv:PE X value tv) (hs:swapsWith value (some (.Attribute o f pos')) pos.line X.env=pure false):PS X (.Assign [.Attribute o f pos'] value pos) (qkH X.K ta tv f):=by
 intro pins s σ H D I h;refine plainObj_wpAny_Assign_Attribute (thn (hv pins s σ H _ I h) fun u s1 ⟨y,H1,I1,ry,q⟩=>thn (ha pins s1 σ H1 _ I1 q) fun ov s2 zz_=>?_) hs;obtain⟨x,H2,I2,rx,a,C,dx,fs,ex,ea,c,n,l,q2⟩:=zz_;subst ex;obtain rfl:ov=Value.ref a:=rx;exact qdz I2 ea c n l ry fun s3 I3=>⟨σ,_,I3,q2⟩
end
section
variable {X:Cx}{pins:List (Addr×Obj)}{σ:St}{H:Hp}{s:Shared}{A:Around}{E:Value->Shared->Prop}{Q:Value->Shared->Prop}{c:Value}{b:Bool}
inductive qcd (K:Frag) (H:Hp):V->Value->Prop where
 | non:qcd K H .non (.type "NoneType")
 | bl (x:Bool):qcd K H (.bl x) (.type "bool")
 | int (i:Int):qcd K H (.int i) (.type "int")
 | str (x:Str):qcd K H (.str x) (.type "str")
 | flt (x:UInt64):qcd K H (.flt x) (.type "float")
 | lst {a:Addr}{xs:List V} (e:H a=some (.lst xs)):qcd K H (.ref a) (.type "list")
 | frz {a:Addr}{o:Obj}{xs:List V} (e:H a=some (.frz o (.lst xs))):qcd K H (.ref a) (.type "list")
 | tup {a:Addr}{xs:List V} (e:H a=some (.tup xs)):qcd K H (.ref a) (.type "tuple")
 | dK {a:Addr}{kvs:List (Key×V)} (e:H a=some (.dK kvs)):qcd K H (.ref a) (.type "dict")
 | dT {a:Addr}{kvs:List (List Key×V)} (e:H a=some (.dT kvs)):qcd K H (.ref a) (.type "dict")
 | ins {a C dx:Addr}{fs:List (Str×V)} (e:H a=some (.ins C dx fs)) (cl:Cls K C) (ha:findIn K (.ref C) "__class__"=some (some (.builtin "object.__class__")))
     (hn:PySem.W.specialIn K (.builtin "object.__class__") "__get__"=some (some (.builtin "getset_descriptor.__get__"))) (htk:PySem.W.takesIn K (.builtin "object.__class__")=some true)
     (hm:PySem.W.mroIn K C (.type "object")=some true):qcd K H (.ref a) (.ref C)
theorem qbW {x:V}{u t:Value} (I:Inv X pins σ H s) (rx:RelV x u) (ty:qcd X.K H x t) (e:PySem.W.kitOne X.K t c=some b) (h:∀ tk,Q (.bool b) { s with toks:=tk }) :
   wpAny (model X.prog X.w) A (call (.builtin "isinstance") [u,c]) Q E s:=by
 cases ty with
 | non=>cases (show u=Value.none from rx);exact kia_one PySem.W.kitx_none I.kIn True.intro e (fun z=>nomatch z) h
 | bl y=>cases (show u=Value.bool y from rx);exact kia_one PySem.W.kitx_bool I.kIn True.intro e (fun z=>nomatch z) h
 | int i=>obtain⟨t,q⟩:=(show ∃ t,u=Value.int i t from rx);cases q;exact kia_one PySem.W.kitx_int I.kIn True.intro e (fun z=>nomatch z) h
 | str y=>obtain⟨t,q⟩:=(show ∃ t,u=Value.str y t from rx);cases q;exact kia_one PySem.W.kitx_str I.kIn True.intro e (fun z=>nomatch z) h
 | flt y=>obtain⟨t,q⟩:=(show ∃ t,u=Value.float y t from rx);cases q;exact kia_one PySem.W.kitx_float I.kIn True.intro e (fun z=>nomatch z) h
 | @lst a xs ea =>
   cases (show u=Value.ref a from rx);obtain⟨_,_,n,_,h1⟩:=(show ObjOk X.prog X.w H s.heap a (.lst xs) from I.hok a _ ea)
   exact kia_one kitx_list I.kIn ⟨_,h1,rfl⟩ e (fun z=>nomatch z) h
 | @frz a ob xs ea =>
   cases (show u=Value.ref a from rx);obtain⟨_,_,_,n,_,h1⟩:=(show ObjOk X.prog X.w H s.heap a (.frz ob (.lst xs)) from I.hok a _ ea)
   exact kia_one kitx_list I.kIn ⟨_,h1,rfl⟩ e (fun z=>nomatch z) h
 | @tup a xs ea =>
   cases (show u=Value.ref a from rx);obtain⟨_,_,_,p⟩:=(show ObjOk X.prog X.w H s.heap a (.tup xs) from I.hok a _ ea)
   obtain⟨o,h1,h2,_⟩:=p;exact kia_one PySem.W.kitx_tuple I.kIn ⟨o,h1,h2⟩ e (fun z=>nomatch z) h
 | @dK a kvs ea =>
   cases (show u=Value.ref a from rx);obtain⟨_,_,vs,_,p⟩:=(show ObjOk X.prog X.w H s.heap a (.dK kvs) from I.hok a _ ea)
   obtain⟨o,es,ep,h1,h2,_⟩:=p;exact kia_one kitx_dict I.kIn ⟨o,h1,h2.1⟩ e (fun z=>nomatch z) h
 | @dT a kvs ea =>
   cases (show u=Value.ref a from rx);obtain⟨_,_,xs,_,o,es,ep,h1,h2,_⟩:=(show ObjOk X.prog X.w H s.heap a (.dT kvs) from I.hok a _ ea)
   exact kia_one kitx_dict I.kIn ⟨o,h1,h2.1⟩ e (fun z=>nomatch z) h
 | @ins a C dx fs ea cl ha hn htk hm =>
   cases (show u=Value.ref a from rx);obtain⟨mA,O,_⟩:=qa8 I.hok ea;obtain⟨od,J,_⟩:=O.look;exact kia_one (PySem.W.kitx_own (cl.get _) cl.hd ha hn htk hm) I.kIn J e (fun z=>nomatch z) h
end
structure Room (k:Nat) (A:Around):Prop where
 hd:A.handled=none
 dp:A.depth+3 * k+5 < recursionLimit
 un:A.units+16 * k+200 < cLine
 gd:A.guards=some []
theorem Room.mono {j k:Nat}{A:Around} (r:Room k A) (h:j≤k):Room j A:=⟨r.hd,by have:=r.dp;omega,by have:=r.un;omega,r.gd⟩
theorem Room.deeper {k:Nat}{A:Around} (r:Room (k+1) A) (env:Env):Room k (A.deeper env) :=
 ⟨r.hd,by have:=r.dp;show A.depth+1+3 * k+5 < _;omega,by have:=r.un;show A.units+3+16 * k+200 < _;omega,r.gd⟩
theorem qdP {A:Around}{C:Addr}{us:List Value}{kw:List (Str×Value)}:(A.under (.builtin "type.__call__" ⟨.ref C::us,kw⟩)).depth=A.depth+1:=by
 first|rfl|simp[Around.under,Code.weight,Code.isCreation,Code.isGuard,Code.isCaller,Code.frames,Code.isFrame,guardIds]
theorem qdO {A:Around}{C:Addr}{us:List Value}{kw:List (Str×Value)}:(A.under (.builtin "type.__call__" ⟨.ref C::us,kw⟩)).units=A.units+1:=by
 first|rfl|simp[Around.under,Code.cUnits,Code.frames,Code.isFrame]
theorem Room.make {k:Nat}{A:Around} (r:Room (k+1) A) (C:Addr) (us:List Value) (kw:List (Str×Value)):Room k (A.under (.builtin "type.__call__" ⟨.ref C::us,kw⟩)) :=
 ⟨r.hd,by have:=r.dp;rw[qdP];omega,by have:=r.un;rw[qdO];omega,r.gd⟩
theorem Room.depth {k:Nat}{A:Around} (r:Room k A):A.depth < recursionLimit:=by have:=r.dp;omega
theorem Room.units {k:Nat}{A:Around} (r:Room k A):A.units+64 < cLine:=by have:=r.un;omega
def qjE:TA:=fun _ H Q=>Q [] H
def qiD (ta:TE) (tr:TA):TA:=fun σ H Q=>ta σ H fun x H1=>tr σ H1 fun xs H2=>Q (x::xs) H2
section
variable {X:Cx}{e:Expr}{es:List Expr}{te:TE}{t:TA}{pos:Pos}
theorem qb:PA X [] qjE:=fun _ _ _ _ H Q I h=>Calls.spliced_nil ⟨[],H,I,.nil,h⟩
theorem qa (ha:PE X e te) (hr:PA X es t) (hs:starEach (e::es) X.env=(false,eval e X.env)::starEach es X.env:=by rfl):PA X (e::es) (qiD te t):=by
 intro pos pins s σ H Q I h;rw[hs];show wpAny _ _ (spliced ((false,eval e X.env)::backTo pos (starEach es X.env))) _ _ s;refine Calls.spliced_cons (thn (ha pins s σ H _ I h) fun u s1 zz_=>?_);obtain⟨x,H1,I1,r1,q1⟩:=zz_;exact thn (hr pos pins s1 σ H1 _ I1 q1) fun us s2 ⟨xs,H2,I2,r2,q2⟩=>⟨x::xs,H2,I2,.cons r1 r2,q2⟩
def qkC (t:TA):TE:=fun σ H Q=>t σ H fun xs H1=>xs.length≤sizeLine∧∀ p,H1 p=none->Q (.ref p) (upd H1 p (.tup xs))
def qkF (t:TA):TE:=fun σ H Q=>t σ H fun xs H1=>xs.length≤sizeLine∧∀ p,H1 p=none->Q (.ref p) (upd H1 p (.lst xs))
theorem ze {x1} (h:PA X es t):PE X (.Tuple es x1 pos) (qkC t):=by
 intro pins s σ H Q I hq;refine wpAny_Tuple_spliced (thn (h pos pins s σ H _ I hq) fun us s1 ⟨xs,H1,I1,r,z,q⟩=>⟨by rw[← r.length];exact z,?_⟩);have hf:H1 s1.heap.objs.size=none:=I1.hok.fresh (Nat.le_refl _);refine⟨.ref s1.heap.objs.size,upd H1 s1.heap.objs.size (.tup xs),I1.laid (t':=s1.toks) (fun b u e=>Heap.get?_push_of_some _ e) (Nat.le_refl _) ?_,rfl,q _ hf⟩;exact⟨z,us,r,⟨_,Heap.get?_push_size _ rfl,rfl,_,rfl⟩⟩
theorem qL (h:PA X es t):PE X (.List es pos) (qkF t):=by
 intro pins s σ H Q I hq;refine wpAny_List_spliced (thn (h pos pins s σ H _ I hq) fun us s1 ⟨xs,H1,I1,r,z,q⟩=>⟨by rw[← r.length];exact z,?_⟩);have hf:H1 s1.heap.objs.size=none:=I1.hok.fresh (Nat.le_refl _);refine⟨.ref s1.heap.objs.size,upd H1 s1.heap.objs.size (.lst xs),I1.laid (t':=s1.toks) (fun b u e=>Heap.get?_push_of_some _ e) (Nat.le_refl _) ?_,rfl,q _ hf⟩;exact⟨z,us,0,r,Heap.get?_push_size _ rfl⟩
end
abbrev Sp:=List V->Hp->VK->XK->Prop
abbrev CXT:=List Env->Hp->Shared->XK->Value->Shared->Prop
structure Env0 (P:Program) (w:World) (K:Frag) (mg:Str->Option Value) (base:Heap) (A:Around) (outer:List Env) (s:Shared) (H:Hp):Prop where
 frames:A.frames=some outer
 mod:Mod K mg base
 bs:∀ b o,base.get? b=some o->s.heap.get? b=some o∧H b=none
 bsz:base.objs.size≤s.heap.objs.size
 funs:s.heap.FunFrames base outer
 frf:∀ b∈frs outer,H b=none
 hok:HOk P w H s.heap
 bare:AllBare s.gens
def CE (outer:List Env) (P:Program) (w:World) (H:Hp) (s:Shared) (Q:VK) (u:Value) (s':Shared):Prop :=
 ∃ v H',s'.os=s.os∧AllBare s'.gens∧Un (frs outer) [] H H' s.heap s'.heap∧HOk P w H' s'.heap∧RelV v u∧Q v H'
def CR (CX:CXT) (outer:List Env) (P:Program) (w:World) (H:Hp) (s:Shared) (Q:VK) (E:XK) (r:Result) (s':Shared):Prop :=
 match r with
 | .ok (.ret u)=>CE outer P w H s Q u s'
 | .ok _=>False
 | .error e=>CX outer H s E e s'
structure qx (P:Program) (w:World) (K:Frag) (mg:Str->Option Value) (base:Heap) (CX:CXT) (k:Nat) (f:Addr) (fd:FuncData) (ps:List Str) (sp:Sp):Prop where
 len:∀ vs H Q E,sp vs H Q E->vs.length=ps.length
 run:∀ (A:Around) (outer:List Env) (s:Shared) (H:Hp) (args:Args) (us:List Value) (vs:List V) (Q:VK) (E:XK),Room k A->Env0 P w K mg base A outer s H->BindsTo s fd args (ps.zip us)->Vals vs us->sp vs H Q E ->
   codeAny (model P w) A (.call (.ref f) args) (CR CX outer P w H s Q E) s
theorem Env0.make {P:Program}{w:World}{K:Frag}{mg:Str->Option Value}{base:Heap}{A:Around}{outer:List Env}{s:Shared}{H:Hp} (e:Env0 P w K mg base A outer s H) (C:Addr) (us:List Value) (kw:List (Str×Value)) :
   Env0 P w K mg base (A.under (.builtin "type.__call__" ⟨.ref C::us,kw⟩)) outer s H:=⟨by first|exact e.frames|(simpa[Around.under,Code.envs,Code.isFrame,pushEnvs] using e.frames),e.mod,e.bs,e.bsz,e.funs,e.frf,e.hok,e.bare⟩
section
variable {X:Cx}{pins:List (Addr×Obj)}{σ:St}{H:Hp}{s s':Shared}
theorem Inv.env0 (I:Inv X pins σ H s):Env0 X.prog X.w X.K X.mg X.base X.A X.stack s H :=
 ⟨I.ok.frames,I.ok.mod,I.bs,Nat.le_trans I.ok.bsz I.sz,I.stack,I.stkFree,I.hok,I.bare⟩
theorem Inv.after {Q:VK}{u:Value} (I:Inv X pins σ H s) (h:CE X.stack X.prog X.w H s Q u s'):EP X pins σ Q u s':=by
 obtain⟨v,H',os,bare,un,hok,r,q⟩:=h;obtain⟨hh,g,d,t,os'⟩:=s';obtain rfl:os'=s.os:=os;exact⟨v,H',I.call (h':=hh) (g':=g) (d':=d) (t':=t) (ch:=[]) un hok bare (fun b z=>absurd z (by simp)),r,q⟩
end
def qhl (sp:Sp) (dvs:List V) (E:XK) (t:TA):TE:=fun σ H Q=>t σ H fun vs H1=>sp (vs++dvs) H1 Q E
inductive qel (C:Addr) (m:Str) (sp:Sp) (dvs:List V) (E:XK) (t:TA) (σ:St) (Q:VK) (x:V) (H1:Hp):Prop
 | mk (a dx fs:_) (h1:x=.ref a) (h2:H1 a=some (.ins C dx fs)) (h3:fs.lookup m=none) (h4:t σ H1 fun vs H2=>sp (x::(vs++dvs)) H2 Q E):qel C m sp dvs E t σ Q x H1
def qiA (C:Addr) (m:Str) (sp:Sp) (dvs:List V) (E:XK) (ta:TE) (t:TA):TE:=fun σ H Q=>ta σ H fun x H1=>qel C m sp dvs E t σ Q x H1
def qiB (C:Addr) (sp:Sp) (dvs:List V) (E:XK) (t:TA):TE:=fun σ H Q=>t σ H fun vs H1=>∀ x dx,H1 x=none->H1 dx=none->dx≠x ->
 sp (.ref x::(vs++dvs)) (upd (upd H1 dx (.own x)) x (.ins C dx [])) (fun v H2=>v=.non∧Q (.ref x) H2) E
def Binds (K:Frag) (fd:FuncData) (ps:List Str) (ds:List Value):Prop :=
 ∀ (s:Shared) (us:List Value),K.In s.heap->(us++ds).length=ps.length->BindsTo s fd ⟨us,[]⟩ (ps.zip (us++ds))
theorem Binds.all {K:Frag}{fd:FuncData}{ps:List Str} (h:∀ us:List Value,us.length=ps.length->bindArgs fd ⟨us,[]⟩=pure (ps.zip us)):Binds K fd ps []:=fun s us _ hl=>by
 rw[List.append_nil]at hl ⊢;exact .of_eq (h us hl)
def jh (CX:CXT) (X:Cx) (E:XK):Prop:=∀ (pins:List (Addr×Obj)) (σ:St) (H:Hp) (s:Shared) (e:Value) (s':Shared),Inv X pins σ H s->CX X.stack H s E e s'->X.xe e s'
section
variable {X:Cx}{CX:CXT}{k:Nat}{f C:Addr}{fd:FuncData}{ps:List Str}{sp:Sp}{dvs:List V}{ds:List Value}{E:XK}{x m:Str}{p pos apos:Pos}{e o:Expr}{es:List Expr}{ta:TE}{t:TA}
theorem qc2 {pins:List (Addr×Obj)}{σ:St}{H:Hp}{s:Shared}{Q:VK}{us:List Value}{vs:List V} (F:qx X.prog X.w X.K X.mg X.base CX k f fd ps sp) (hr:Room k X.A) (hb:Binds X.K fd ps ds) (hd:Vals dvs ds) (hx:jh CX X E)
   (I:Inv X pins σ H s) (r:Vals vs us) (h:sp (vs++dvs) H Q E):wpAny (model X.prog X.w) X.A (call (.ref f) us) (EP X pins σ Q) X.xe s:=by
 have r2:Vals (vs++dvs) (us++ds):=r.append hd;have hl:(us++ds).length=ps.length:=by rw[← r2.length];exact F.len _ _ _ _ h
 refine wpAny_call (codeAny_mono (F.run X.A X.stack s H ⟨us,[]⟩ (us++ds) (vs++dvs) Q E hr I.env0 (hb s us I.kIn hl) r2 h) fun r s' hq=>?_)
 cases r with
 | error e=>exact hx pins σ H s e s' I hq
 | ok fl =>
   cases fl with
   | ret u=>exact I.after hq
   | next=>exact False.elim hq
   | brk=>exact False.elim hq
   | cont=>exact False.elim hq
theorem qm (F:qx X.prog X.w X.K X.mg X.base CX k f fd ps sp) (hr:Room k X.A) (hg:Gl X x) (hm:X.mg x=some (.ref f)) (hk:keepIn X.K (.ref f)=true) (hb:Binds X.K fd ps ds) (hd:Vals dvs ds) (hx:jh CX X E)
   (ha:PA X (e::es) t) (hdb:(x == ("__debug__":Str))=false:=by decide) (he:starEach (e::es) X.env=(false,eval e X.env)::starEach es X.env:=by rfl) (hpl:(backTo pos (starEach es X.env)).any (·.1)=false:=by rfl) :
   PE X (.Call (.Name x p) (e::es) [] pos) (qhl sp dvs E t):=by
 intro pins s σ H Q I h;refine wpAny_Call_Name_kw (Zc I hg hm ?_ hdb);refine callWith_K (h₀:=X.base) I.ok.mod.kin hk (thn (ha pos pins s σ H _ I h) fun us s1 ⟨vs,H1,I1,r,q⟩=>⟨I1.kIn,?_⟩) he hpl;exact qc2 F hr hb hd hx I1 r q
theorem zf {pl:Sem Bool} (he:PE X o ta) (c:Cls X.K C) (hm:qic X.K C m f) (F:qx X.prog X.w X.K X.mg X.base CX k f fd ps sp) (hr:Room k X.A) (hb:Binds X.K fd ps ds) (hd:Vals dvs ds) (hx:jh CX X E) (ha:PA X (e::es) t)
   (hst:starEach (e::es) X.env=(false,eval e X.env)::starEach es X.env:=by rfl) (hpl:(backTo pos (starEach es X.env)).any (·.1)=false:=by rfl)
   (ht:eval (.Call (.Attribute o m apos) (e::es) [] pos) X.env=(do
     let ov ← eval o X.env
     standAt apos.atName
     let (f,first) ← holding [ov] (getMethod ov m pl)
     callWith pos f first (backTo pos (starEach (e::es) X.env)) (backToKw pos (keywordEach [] X.env))):=by rfl) :
   PE X (.Call (.Attribute o m apos) (e::es) [] pos) (qiA C m sp dvs E ta t):=by
 intro pins s σ H Q I h;refine PySem.W.methodCall_KW (pl:=pl) (thn (he pins s σ H _ I h) fun u s1 zz_=>?_) ht;obtain⟨x,H1,I1,rx,a,dx,fs,ex,ea,l,q⟩:=zz_;subst ex;obtain rfl:u=Value.ref a:=rx;refine qaz I1 ea c hm l ?_;refine callWith_K (first:=[.ref a]) (h₀:=X.base) I.ok.mod.kin hm.kp (thn (ha pos pins s1 σ H1 _ I1 q) fun us s2 ⟨vs,H2,I2,r,q2⟩=>⟨I2.kIn,?_⟩) hst hpl;exact qc2 (us:=.ref a::us) (vs:=.ref a::vs) F hr hb hd hx I2 (.cons rfl r) q2
theorem qz {pl:Sem Bool} (he:PE X o ta) (c:Cls X.K C) (hm:qic X.K C m f) (F:qx X.prog X.w X.K X.mg X.base CX k f fd ps sp) (hr:Room k X.A) (hb:Binds X.K fd ps ds) (hd:Vals dvs ds) (hx:jh CX X E)
   (ht:eval (.Call (.Attribute o m apos) [] [] pos) X.env=(do
     let ov ← eval o X.env
     standAt apos.atName
     let (f,first) ← holding [ov] (getMethod ov m pl)
     callWith pos f first (backTo pos (starEach [] X.env)) (backToKw pos (keywordEach [] X.env))):=by rfl) :
   PE X (.Call (.Attribute o m apos) [] [] pos) (qiA C m sp dvs E ta qjE):=by
 intro pins s σ H Q I h;refine PySem.W.methodCall_KW (pl:=pl) (thn (he pins s σ H _ I h) fun u s1 zz_=>?_) ht;obtain⟨x,H1,I1,rx,a,dx,fs,ex,ea,l,q⟩:=zz_;subst ex;obtain rfl:u=Value.ref a:=rx;refine qaz I1 ea c hm l ?_;exact callWith_K0 (first:=[.ref a]) I1.kIn hm.kp (qc2 (us:=[.ref a]) (vs:=[.ref a]) F hr hb hd hx I1 (.cons rfl .nil) q)
structure Mk (K:Frag) (C f:Addr):Prop where
 makes:makesIn K C=true
 init:findIn K (.ref C) "__init__"=some (some (.ref f))
 fn:isFn K (.ref f)=true
 kp:keepIn K (.ref C)=true
theorem qc1 {pins:List (Addr×Obj)}{σ:St}{H:Hp}{s:Shared}{Q:VK}{us:List Value}{vs:List V} (M:Mk X.K C f) (F:qx X.prog X.w X.K X.mg X.base CX k f fd ps sp) (hr:Room (k+1) X.A) (hb:Binds X.K fd ps ds) (hd:Vals dvs ds)
   (hx:jh CX X E) (I:Inv X pins σ H s) (r:Vals vs us)
   (h:∀ x dx,H x=none->H dx=none->dx≠x->sp (.ref x::(vs++dvs)) (upd (upd H dx (.own x)) x (.ins C dx [])) (fun v H2=>v=.non∧Q (.ref x) H2) E) :
   wpAny (model X.prog X.w) X.A (call (.ref C) us) (EP X pins σ Q) X.xe s:=by
 have hq:=h (s.heap.objs.size+1) s.heap.objs.size (I.hok.fresh (Nat.le_succ _)) (I.hok.fresh (Nat.le_refl _)) (Nat.ne_of_lt (Nat.lt_succ_self _));have I2:=Inv.made (C:=C) I;have r2:Vals (V.ref (s.heap.objs.size+1)::(vs++dvs)) (Value.ref (s.heap.objs.size+1)::(us++ds)):=.cons rfl (r.append hd)
 have hl:(Value.ref (s.heap.objs.size+1)::us++ds).length=ps.length:=by
   have e:=r2.length;rw[F.len _ _ _ _ hq]at e;exact e.symm
 refine wpAny_call (qgh (f:=f) I.kIn M.makes M.init (beq_iff_eq.mp M.fn) (codeAny_mono (F.run _ X.stack _ _ ⟨Value.ref (s.heap.objs.size+1)::us,[]⟩ (Value.ref (s.heap.objs.size+1)::(us++ds)) _ _ E (hr.make C us [])
   (I2.env0.make C us []) (hb _ (Value.ref (s.heap.objs.size+1)::us) I2.kIn hl) r2 hq) fun r s' hq'=>?_))
 cases r with
 | error e=>exact hx pins σ _ _ e s' I2 hq'
 | ok fl =>
   cases fl with
   | ret u =>
     obtain⟨v,H',I3,rv,ev,q3⟩:=I2.after hq';subst ev;exact⟨rv,⟨V.ref (s.heap.objs.size+1),H',I3,rfl,q3⟩⟩
   | next=>exact False.elim hq'
   | brk=>exact False.elim hq'
   | cont=>exact False.elim hq'
theorem Jq (M:Mk X.K C f) (F:qx X.prog X.w X.K X.mg X.base CX k f fd ps sp) (hr:Room (k+1) X.A) (hg:Gl X x) (hm:X.mg x=some (.ref C)) (hb:Binds X.K fd ps ds) (hd:Vals dvs ds) (hx:jh CX X E)
   (ha:PA X (e::es) t) (hdb:(x == ("__debug__":Str))=false:=by decide) (he:starEach (e::es) X.env=(false,eval e X.env)::starEach es X.env:=by rfl) (hpl:(backTo pos (starEach es X.env)).any (·.1)=false:=by rfl) :
   PE X (.Call (.Name x p) (e::es) [] pos) (qiB C sp dvs E t):=by
 intro pins s σ H Q I h;refine wpAny_Call_Name_kw (Zc I hg hm ?_ hdb);refine callWith_K (h₀:=X.base) I.ok.mod.kin M.kp (thn (ha pos pins s σ H _ I h) fun us s1 ⟨vs,H1,I1,r,q⟩=>⟨I1.kIn,?_⟩) he hpl;exact qc1 M F hr hb hd hx I1 r q
theorem qde (M:Mk X.K C f) (F:qx X.prog X.w X.K X.mg X.base CX k f fd ps sp) (hr:Room (k+1) X.A) (hg:Gl X x) (hm:X.mg x=some (.ref C)) (hb:Binds X.K fd ps ds) (hd:Vals dvs ds) (hx:jh CX X E)
   (hdb:(x == ("__debug__":Str))=false:=by decide):PE X (.Call (.Name x p) [] [] pos) (qiB C sp dvs E qjE):=by
 intro pins s σ H Q I h;refine wpAny_Call_Name_kw (Zc I hg hm ?_ hdb);exact callWith_K0 I.kIn M.kp (qc1 (us:=[]) M F hr hb hd hx I .nil h)
end
section
variable {X:Cx}{CX:CXT}{k:Nat}{f C:Addr}{fd:FuncData}{ps ks:List Str}{sp:Sp}{E:XK}{x m:Str}{p pos apos kpos:Pos}{e o:Expr}{es:List Expr}{kws:List Keyword}{te ta:TE}{t tk:TA}{nm:Option Str}
variable {g:List Value->List Value->List Value}{gV:List V->List V->List V}
end
structure qo (N P:List Str) (sc:Scope):Prop where
 kind:sc.kind=.function
 co:sc.isCoroutine=false
 gen:sc.isGenerator=false
 nd:N.Nodup
 pre:N.take P.length=P
 par:∀ x∈P,sc.names.lookup x=some .local∨sc.names.lookup x=some .cell
 nofree:∀ y∈sc.names,y.2≠.free
theorem qb8 {kindOf:Str->Option NameKind}{x:Str}:∀ {binds:List (Str×Value)}{m:Str->Option Value},(∀ v,(x,v)∉binds)->bindL kindOf binds m x=m x
 | [],_,_=>rfl
 | (n,v)::r,m,h=>by
   unfold bindL;rw[qb8 fun w hw=>h w (List.mem_cons_of_mem _ hw)];split
   · have:x≠n:=by rintro rfl;exact h v List.mem_cons_self
     simp[this]
   · rfl
theorem qca {kindOf:Str->Option NameKind}{x:Str}:∀ {binds:List (Str×Value)}{m:Str->Option Value},(∀ v,(x,v)∉binds)->bindC kindOf binds m x=m x
 | [],_,_=>rfl
 | (n,v)::r,m,h=>by
   unfold bindC;rw[qca fun w hw=>h w (List.mem_cons_of_mem _ hw)];split
   · rfl
   · have:x≠n:=by rintro rfl;exact h v List.mem_cons_self
     simp[this]
theorem qb9 {kindOf:Str->Option NameKind}{x:Str}{v:Value}:∀ {P:List Str}{vs:List Value}{i:Nat}{m:Str->Option Value},P.Nodup->P[i]?=some x->vs[i]?=some v->kindOf x=some .local ->
   bindL kindOf (P.zip vs) m x=some v
 | [],_,_,_,_,h,_,_=>by simp at h
 | _::_,[],_,_,_,_,h,_=>by simp at h
 | p::P,w::vs,0,m,nd,h1,h2,hk=>by
   simp at h1 h2;subst h1;subst h2;show bindL kindOf ((p,w)::P.zip vs) m p=_;unfold bindL;rw[qb8 fun v hv=>(List.nodup_cons.mp nd).1 (List.of_mem_zip hv).1,if_pos hk];simp
 | p::P,w::vs,i+1,m,nd,h1,h2,hk=>by
   show bindL kindOf ((p,w)::P.zip vs) m x=_;unfold bindL;exact qb9 (i:=i) (List.nodup_cons.mp nd).2 (by simpa using h1) (by simpa using h2) hk
theorem qcb {kindOf:Str->Option NameKind}{x:Str}{v:Value}:∀ {P:List Str}{vs:List Value}{i:Nat}{m:Str->Option Value},P.Nodup->P[i]?=some x->vs[i]?=some v->kindOf x≠some .local ->
   bindC kindOf (P.zip vs) m x=some v
 | [],_,_,_,_,h,_,_=>by simp at h
 | _::_,[],_,_,_,_,h,_=>by simp at h
 | p::P,w::vs,0,m,nd,h1,h2,hk=>by
   simp at h1 h2;subst h1;subst h2;show bindC kindOf ((p,w)::P.zip vs) m p=_;unfold bindC;rw[qca fun v hv=>(List.nodup_cons.mp nd).1 (List.of_mem_zip hv).1,if_neg hk];simp
 | p::P,w::vs,i+1,m,nd,h1,h2,hk=>by
   show bindC kindOf ((p,w)::P.zip vs) m x=_;unfold bindC;exact qcb (i:=i) (List.nodup_cons.mp nd).2 (by simpa using h1) (by simpa using h2) hk
def qaH (N:List Str) (vs:List V):St:=vs.map some++List.replicate (N.length - vs.length) none
def qY (CX:CXT) (P:Program) (w:World) (K:Frag) (mg:Str->Option Value) (base:Heap) (N:List Str) (qual:Str) (scope:Scope) (f:Addr) (cd:Value) (A:Around) (outer:List Env) (s:Shared) (H:Hp) (E:XK):Cx where
 prog:=P
 w:=w
 K:=K
 mg:=mg
 base:=base
 A:=A.deeper (envOfC qual scope s.heap.objs.size f cd)
 N:=N
 s₀:=s
 H₀:=H
 env:=envOfC qual scope s.heap.objs.size f cd
 outer:=outer
 stack:=envOfC qual scope s.heap.objs.size f cd::outer
 ex:=[]
 calm:=true
 fn:=fun _=>true
 pn:=[]
 xe:=fun e s'=>wpAny (model P w) (A.deeper (envOfC qual scope s.heap.objs.size f cd)) (leaving (envOfC qual scope s.heap.objs.size f cd) e) (fun _ s''=>CX outer H s E e s'') (fun e' s''=>CX outer H s E e' s'') s'
theorem qdu {sc:Scope}{n:Nat}{x:Str} (h:sc.names.lookup x=some .cell):∃ c,(cellsFrom n sc.names []).lookup x=some c:=by
 have q:=PySem.W.cellsFrom_some sc.names n [] (.inl h);exact Option.isSome_iff_exists.mp q
theorem qfe {CX:CXT}{P:Program}{w:World}{K:Frag}{mg:Str->Option Value}{base:Heap}{N ps:List Str}{qual:Str}{scope:Scope}{f:Addr}{cd:Value}{A:Around}{outer:List Env}{s s1:Shared}{H:Hp}{E:XK}{us:List Value}{vs:List V}
   (S:qo N ps scope) (hd:A.handled=none) (e0:Env0 P w K mg base A outer s H) (hl:vs.length=ps.length) (r:Vals vs us)
   (x:InCallC s s.heap.objs.size (bindL (envOfC qual scope s.heap.objs.size f cd).kindOf (ps.zip us) fun _=>none) (cellsFrom (s.heap.objs.size+1) scope.names []) (bindC (envOfC qual scope s.heap.objs.size f cd).kindOf (ps.zip us) fun _=>none) s1) :
   Inv (qY CX P w K mg base N qual scope f cd A outer s H E) [] (qaH N vs) H s1:=by
 have hpl:ps.length≤N.length:=by have:=congrArg List.length S.pre;rw[List.length_take]at this;omega
 obtain⟨h1,tk,rfl,hk⟩:=x.done;have noA:∀ b:Addr,b∉(qY CX P w K mg base N qual scope f cd A outer s H E).ex:=fun b z=>absurd (show b∈([]:List Addr) from z) (by simp)
 refine⟨⟨e0.mod,S.kind,rfl,rfl,Nat.le_refl _,fun y z c h1 h2=>?_,fun y hy=>?_,fun y c _ h=>?_,fun _=>hd,Around.frames_deeper e0.frames,.inr ⟨rfl,rfl⟩,fun b z=>absurd z (noA b),e0.bs,e0.bsz,fun b _ _=>noA b,fun b z=>absurd z (noA b),e0.funs,e0.frf⟩,
   rfl,e0.bare,Un.kept hk,⟨_,x.toInCall.ns,fun i y v h1 h2 h3=>?_⟩,fun y c h=>⟨_,x.cell y c h⟩,e0.hok.fresh (Nat.le_refl _),fun y c h=>?_,fun p hp=>absurd (show p∈([]:List (Addr×Obj)) from hp) (by simp),e0.hok.kept hk,?_⟩
 · exact name_of_addr x.apart (PySem.mem_of_lookup h1) (PySem.mem_of_lookup h2)
 · have hy:scope.names.lookup y=some .cell∨scope.names.lookup y=some .free:=hy;rcases hy with hy|hy
   · exact qdu hy
   · exact absurd rfl (S.nofree _ (PySem.mem_of_lookup hy))
 · exact Nat.le_of_lt (x.above y c (PySem.mem_of_lookup h))
 · have hi:i < vs.length:=by
     unfold qaH at h2;by_cases hi:i < vs.length
     · exact hi
     · rw[List.getElem?_append_right (by simpa using hi)]at h2;rw[List.getElem?_replicate]at h2;split at h2<;>cases h2
   have ha:vs[i]?=some v:=by
     unfold qaH at h2;rw[List.getElem?_append_left (by simpa using hi),List.getElem?_map]at h2
     cases e:vs[i]? with
     | none=>rw[e]at h2;cases h2
     | some a=>rw[e]at h2;cases h2;rfl
   obtain⟨u,hu,rv⟩:=r.get ha
   have hp:ps[i]?=some y:=by
     rw[← S.pre,List.getElem?_take_of_lt (by omega)];exact h1
   have ndP:ps.Nodup:=by rw[← S.pre];exact S.nd.sublist (List.take_sublist _ _)
   refine⟨u,rv,?_⟩;rcases S.par y (List.mem_of_getElem? hp) with k|k
   · exact .inl ⟨k,qb9 ndP hp hu k⟩
   · obtain⟨c,e⟩:=qdu (n:=s.heap.objs.size+1) k;refine .inr ⟨.inl k,c,e,?_⟩;have q:=x.cell y c e;rw[qcb ndP hp hu (by show scope.names.lookup y≠_;rw[k];decide)]at q;exact q
 · exact e0.hok.fresh (Nat.le_of_lt (x.above y c (PySem.mem_of_lookup h)))
 · unfold qaH;show _=N.length;rw[List.length_append,List.length_map,List.length_replicate];omega
theorem qjp {CX:CXT}{P:Program}{w:World}{K:Frag}{mg:Str->Option Value}{base:Heap}{k:Nat}{f:Addr}{name qual:Str}{params:Arguments}{body:List Stmt}{scope:Scope}{dV kV doc pm cdv ct oc:Value}{an od:Option Addr}
   {osl:Array (Option Value)}{N ps:List Str}{sp:Sp} (lk:K.lookup f=some ⟨oc,od,.func (fnOf name qual params body scope dV kV doc pm an cdv ct),osl⟩) (hcd:PySem.W.codeIn K cdv qual=true) (S:qo N ps scope)
   (len:∀ vs H Q E,sp vs H Q E->vs.length=ps.length)
   (hbody:∀ (A:Around) (outer:List Env) (s:Shared) (H:Hp) (vs:List V) (Q:VK) (E:XK),Room k (A.deeper (envOfC qual scope s.heap.objs.size f cdv))->sp vs H Q E ->
     ∃ t,PSs (qY CX P w K mg base N qual scope f cdv A outer s H E) body t∧t { nx:=fun _ H'=>Q .non H',rt:=Q } (qaH N vs) H) :
   qx P w K mg base CX (k+1) f (fnOf name qual params body scope dV kV doc pm an cdv ct) ps sp:=by
 refine⟨len,fun A outer s H args us vs Q E hr e0 hb r hsp=>?_⟩;have hl:=len _ _ _ _ hsp;have KX:K.In s.heap:=e0.mod.kin.keeps fun b o e=>(e0.bs b o e).1;have lim:s.heap.NoLimit:=e0.mod.nolimit.keeps fun b o e=>(e0.bs b o e).1
 have hkind:∀ y∈ps.zip us,scope.names.lookup y.1=some .local∨(scope.names.lookup y.1=some .cell∧((cellsFrom (s.heap.objs.size+1) scope.names []).lookup y.1).isSome=true):=fun⟨n,v⟩ hy=>by
   rcases S.par n (List.of_mem_zip hy).1 with q|q
   · exact .inl q
   · exact .inr ⟨q,PySem.W.cellsFrom_some _ _ _ (.inl q)⟩
 refine codeAny_call_function hr.depth (KX _ _ lk) rfl S.co S.gen rfl (PySem.W.codeRec_of KX hcd) (hb _ _ _ _ ?_);refine wpAny_newFunctionEnv_cells S.kind hkind fun env he s1 x=>?_;subst he;refine⟨lim.keeps x.toInCall.keep,codeAny_func ?_⟩;obtain⟨t,ht,hq⟩:=hbody A outer s H vs Q E (hr.deeper _) hsp;have I:Inv (qY CX P w K mg base N qual scope f cdv A outer s H E) [] (qaH N vs) H s1:=qfe S hr.hd e0 hl r x;refine wpAny_mono (ht [] s1 (qaH N vs) H _ I hq) (fun fl s' hs=>?_) fun e s' hs=>hs
 have fin:∀ {σ':St}{H':Hp}{v:V}{u:Value},Inv (qY CX P w K mg base N qual scope f cdv A outer s H E) [] σ' H' s'->RelV v u->Q v H'->CE outer P w H s Q u s' :=
   fun {σ' H' v u} J rv q=>⟨v,H',J.os,J.bare,J.base,J.hok,rv,q⟩
 cases fl with
 | ret u =>
   obtain⟨v,σ',H',J,rv,q⟩:=hs;exact fin J rv q
 | next =>
   obtain⟨σ',H',J,q⟩:=hs;exact fin (v:=V.non) (u:=Value.none) J rfl q
 | brk =>
   obtain⟨_,_,_,q⟩:=hs;exact False.elim q
 | cont =>
   obtain⟨_,_,_,q⟩:=hs;exact False.elim q
section
variable {X:Cx}{x:Str}{p pos:Pos}{e:Expr}{es:List Expr}{t:TA}{id T:String}{r:List V->Hp->VK->Prop}
def tCB (r:List V->Hp->VK->Prop) (t:TA):TE:=fun σ H Q=>t σ H fun vs H1=>r vs H1 Q
theorem ql (hc:QN X (.builtin id) r) (hg:Gl X x) (hm:X.mg x=none) (hv:bootBuiltins x=some (.builtin id)) (ha:PA X (e::es) t) (hn:x≠"__name__":=by decide) (hdb:(x == ("__debug__":Str))=false:=by decide)
   (he:starEach (e::es) X.env=(false,eval e X.env)::starEach es X.env:=by rfl) (hpl:(backTo pos (starEach es X.env)).any (·.1)=false:=by rfl):PE X (.Call (.Name x p) (e::es) [] pos) (tCB r t):=by
 intro pins s σ H Q I h;refine wpAny_Call_Name_kw (Zd I hg hm hv ?_ hn hdb);exact PyProof.Rows.callWith_builtin1 (thn (ha pos pins s σ H _ I h) fun us s1 ⟨vs,H1,I1,r1,q1⟩=>hc pins s1 σ H1 vs us Q I1 r1 q1) he hpl
theorem zh (hc:QN X (.type T) r) (hg:Gl X x) (hm:X.mg x=none) (hv:bootBuiltins x=some (.type T)) (ha:PA X (e::es) t) (hn:x≠"__name__":=by decide) (hdb:(x == ("__debug__":Str))=false:=by decide)
   (he:starEach (e::es) X.env=(false,eval e X.env)::starEach es X.env:=by rfl) (hpl:(backTo pos (starEach es X.env)).any (·.1)=false:=by rfl):PE X (.Call (.Name x p) (e::es) [] pos) (tCB r t):=by
 intro pins s σ H Q I h;refine wpAny_Call_Name_kw (Zd I hg hm hv ?_ hn hdb);exact PyProof.Rows.callWith_type1 (thn (ha pos pins s σ H _ I h) fun us s1 ⟨vs,H1,I1,r1,q1⟩=>hc pins s1 σ H1 vs us Q I1 r1 q1) he hpl
end
end L2
namespace HT
open PySem PyProof.Rows
section
open PySem.SeqAt
open PySem.AutoSeq1 (wpAny_loadPart')
open PySem.MeetsSeq PySem.MeetsSeq2 PySem.MeetsSeq3
end
section
variable {prog:Program}{w:World}{A:Around}{E:Value->Shared->Prop}{s:Shared}
def sIx (n d:Nat):Option Int->Nat
 | none=>d
 | some v=>if v < 0 then (v+(n:Int)).toNat else min v.toNat n
theorem sIx_none (n d:Nat):sIx n d none=d:=rfl
theorem sIx_nat (n d k:Nat):sIx n d (some (k:Int))=min k n:=by
 show (if (k:Int) < 0 then ((k:Int)+(n:Int)).toNat else min (k:Int).toNat n)=min k n;rw[if_neg (by omega),Int.toNat_natCast]
end
end HT
namespace L2
open PySem PySem.Spec PyProof.Rows
open PySem.W (Frag)
abbrev TO:=St->Hp->(Option Int->Hp->Prop)->Prop
def PO (X:Cx) (e:Option Expr) (t:TO):Prop :=
 ∀ (pins:List (Addr×Obj)) (s:Shared) (σ:St) (H:Hp) (Q:Option Int->Hp->Prop),Inv X pins σ H s->t σ H Q ->
   wpAny (model X.prog X.w) X.A (evalPart e X.env) (fun u s'=>∃ o H',Inv X pins σ H' s'∧IsPart u o∧Q o H') X.xe s
def qhj:TO:=fun _ H Q=>Q none H
inductive qej (Q:(Option Int->Hp->Prop)) (x:V) (H1:Hp):Prop
 | mk (i:_) (h1:x=.int i) (h2:Q (some i) H1):qej Q x H1
def qjL (t:TE):TO:=fun σ H Q=>t σ H fun x H1=>qej Q x H1
section
variable {X:Cx}{e:Expr}{te:TE}{lo hi:Option Expr}{tl th:TO}{pos p2:Pos}
theorem Jp:PO X none qhj:=by
 intro pins s σ H Q I h;rw[evalPart_none];exact wpAny_pure ⟨none,H,I,.none,h⟩
theorem zl (h:PE X e te):PO X (some e) (qjL te):=by
 intro pins s σ H Q I hw;rw[evalPart_some];refine thn (h pins s σ H _ I hw) fun u s1 zz_=>?_;obtain⟨x,H1,I1,r1,q1⟩:=zz_;obtain⟨i,rfl,q⟩:=q1;obtain⟨t,rfl⟩:=r1;exact⟨some i,H1,I1,.int i t,q⟩
def SlR (X:Cx) (r:V->Option Int->Option Int->Hp->VK->Prop):Prop :=
 ∀ (pins:List (Addr×Obj)) (s:Shared) (σ:St) (H:Hp) (x:V) (v vl vu:Value) (lo hi:Option Int) (sl:Addr) (Q:VK),Inv X pins σ H s->RelV x v->s.heap.IsSliceOf sl vl vu .none->IsPart vl lo->IsPart vu hi->r x lo hi H Q ->
   ∃ T id,typeLookup (.type T) "__getitem__"=pure (some (.builtin id))∧s.TypeIs v T∧wpAny (model X.prog X.w) X.A (getItem v (.ref sl)) (EP X pins σ Q) X.xe s
theorem SlR.or {r r':V->Option Int->Option Int->Hp->VK->Prop} (h:SlR X r) (h':SlR X r'):SlR X (fun x lo hi H Q=>r x lo hi H Q∨r' x lo hi H Q):=by
 intro pins s σ H x v vl vu lo hi sl Q I rx hs pl pu q;rcases q with q|q
 · exact h pins s σ H x v vl vu lo hi sl Q I rx hs pl pu q
 · exact h' pins s σ H x v vl vu lo hi sl Q I rx hs pl pu q
def tSl (r:V->Option Int->Option Int->Hp->VK->Prop) (te:TE) (tl th:TO):TE:=fun σ H Q=>te σ H fun x H1=>tl σ H1 fun l H2=>th σ H2 fun u H3=>r x l u H3 Q
theorem zD {r:V->Option Int->Option Int->Hp->VK->Prop} (hr:SlR X r) (he:PE X e te) (hl:PO X lo tl) (hu:PO X hi th):PE X (.Subscript e (.Slice lo hi none p2) pos) (tSl r te tl th):=by
 intro pins s σ H Q I h;refine Subscript_ (thn (he pins s σ H _ I h) fun v s1 zz_=>?_);obtain⟨x,H1,I1,r1,q1⟩:=zz_;refine wpAny_Slice (thn (hl pins s1 σ H1 _ I1 q1) fun vl s2 ⟨l,H2,I2,pl,q2⟩=>thn (hu pins s2 σ H2 _ I2 q2) fun vu s3 zz_=>?_);obtain⟨u,H3,I3,pu,q3⟩:=zz_;rw[evalPart_none];refine wpAny_pure ?_;have I4:Inv X pins σ H3 { s3 with heap:=s3.heap.push { cls:=.type "slice",data:=.fields #[vl,vu,.none] } }:=I3.kept (t':=s3.toks) fun b ob q=>Heap.get?_push_of_some _ q;obtain⟨T,id,hT,ht,hg⟩:=hr pins { s3 with heap:=s3.heap.push { cls:=.type "slice",data:=.fields #[vl,vu,.none] } } σ H3 x v vl vu l u s3.heap.objs.size Q I4 r1 (Heap.IsSliceOf.new ..) pl pu q3;show wpAny (model X.prog X.w) X.A (subscriptTail e (.Slice lo hi none p2) v (.ref s3.heap.objs.size)) (EP X pins σ Q) X.xe { s3 with heap:=s3.heap.push { cls:=.type "slice",data:=.fields #[vl,vu,.none] } };exact tail_any (ops:=[.ref s3.heap.objs.size,v]) ht hT hg (by with_unfolding_all rfl)
def ju (xs:List V) (lo hi:Option Int):List V:=(xs.drop (HT.sIx xs.length 0 lo)).take (HT.sIx xs.length xs.length hi - HT.sIx xs.length 0 lo)
theorem qcD (xs:List V) (lo hi:Option Int):(ju xs lo hi).length≤xs.length:=by
 unfold ju;refine Nat.le_trans (List.length_take_le' _ _) ?_;rw[List.length_drop];exact Nat.sub_le _ _
end
def ixN (n:Nat) (i:Int):Option Nat:=if 0≤i then (if i < n then some i.toNat else none) else if -(n:Int)≤i then some (i+n).toNat else none
def atI {α:Type} (xs:List α) (i:Int):Option α:=(ixN xs.length i).bind fun j=>xs[j]?
theorem qhV {n:Nat}{i:Int}{j:Nat} (h:ixN n i=some j):seqIndex? i n=some j∧j < n∧-(n:Int)≤i∧i < n:=by
 unfold ixN at h;by_cases h0:0≤i
 · rw[if_pos h0]at h;by_cases h1:i < n
   · rw[if_pos h1]at h;have e:i.toNat=j:=Option.some.inj h;exact⟨by rw[seqIndex_of h0 h1,e],by omega,by omega,h1⟩
   · rw[if_neg h1]at h;cases h
 · rw[if_neg h0]at h;by_cases h1:-(n:Int)≤i
   · rw[if_pos h1]at h;have e:(i+n).toNat=j:=Option.some.inj h;exact⟨by rw[seqIndex_neg (by omega) h1,e],by omega,h1,by omega⟩
   · rw[if_neg h1]at h;cases h
theorem qcF {α:Type}{xs:List α}{i:Int}{v:α} (h:atI xs i=some v):∃ j,seqIndex? i xs.length=some j∧xs[j]?=some v∧j < xs.length∧-(xs.length:Int)≤i∧i < xs.length:=by
 unfold atI at h
 cases e:ixN xs.length i with
 | none=>rw[e]at h;cases h
 | some j =>
   rw[e]at h;obtain⟨h1,h2,h3,h4⟩:=qhV e;exact⟨j,h1,h,h2,h3,h4⟩
theorem Qc {α:Type}{xs:List α}{j:Nat}{v:α} (h:xs[j]?=some v):atI xs (j:Int)=some v:=by
 have hj:j < xs.length:=(List.getElem?_eq_some_iff.mp h).1
 have e:ixN xs.length (j:Int)=some j:=by
   unfold ixN;rw[if_pos (by omega),if_pos (by omega)];simp
 unfold atI;rw[e];exact h
def qib (b:Expr):Prop:=∀ o i,subscripted b false o i=operate [o,i] (getItem o i)
def IxR (X:Cx) (r:R2):Prop :=
 ∀ (value slice:Expr) (pins:List (Addr×Obj)) (s:Shared) (σ:St) (H:Hp) (x y:V) (v u:Value) (Q:VK),Inv X pins σ H s->RelV x v->RelV y u->r x y H Q ->
   subscripted slice false v u=operate [v,u] (getItem v u)->wpAny (model X.prog X.w) X.A (subscriptTail value slice v u) (EP X pins σ Q) X.xe s
def MtR (X:Cx) (id:String) (r:V->List V->Hp->VK->Prop):Prop :=
 ∀ (pins:List (Addr×Obj)) (s:Shared) (σ:St) (H:Hp) (x:V) (xs:List V) (v:Value) (us:List Value) (Q:VK),Inv X pins σ H s->RelV x v->Vals xs us->r x xs H Q ->
   wpAny (model X.prog X.w) X.A (call (.builtin id) (v::us)) (EP X pins σ Q) X.xe s
section
variable {X:Cx}{a b:Expr}{ta tb:TE}{pos:Pos}
theorem IxR.or {r r':R2} (h:IxR X r) (h':IxR X r'):IxR X (fun x y H Q=>r x y H Q∨r' x y H Q):=by
 intro value slice pins s σ H x y v u Q I rx ry q hs;rcases q with q|q
 · exact h value slice pins s σ H x y v u Q I rx ry q hs
 · exact h' value slice pins s σ H x y v u Q I rx ry q hs
theorem qC {r:R2} (hr:IxR X r) (ha:PE X a ta) (hb:PE X b tb) (hs:qib b):PE X (.Subscript a b pos) (tOp r ta tb):=by
 intro pins s σ H Q I h;exact Subscript_ (qkb ha hb I h fun v u s2 x y H2 I2 rx ry q=>hr a b pins s2 σ H2 x y v u Q I2 rx ry q (hs _ _))
inductive qgN (K:Frag) (x:V) (y:V) (H:Hp) (Q:VK):Prop
 | mk (p xs i v:_) (h1:x=.ref p) (h2:y=.int i) (h3:SqL K H p xs) (h4:atI xs i=some v) (h5:Q v H):qgN K x y H Q
def qkn (K:Frag):R2:=fun x y H Q=>qgN K x y H Q
inductive qgM (K:Frag) (x:V) (y:V) (H:Hp) (Q:VK):Prop
 | mk (p xs i v:_) (h1:x=.ref p) (h2:y=.int i) (h3:SqT K H p xs) (h4:atI xs i=some v) (h5:Q v H):qgM K x y H Q
def qkl (K:Frag):R2:=fun x y H Q=>qgM K x y H Q
def qkm:R2:=fun x y H Q=>∃ z i c,x=.str z∧y=.int i∧z.length≤sizeLine∧atI z.cps.toList i=some c∧Q (.str ⟨#[c]⟩) H
theorem ix_list:IxR X (qkn X.K):=by
 intro value slice pins s σ H x y v u Q I rx ry h hs;obtain⟨p,xs,i,z,rfl,rfl,hq,he,q⟩:=h;cases rx;obtain⟨t,rfl⟩:=ry;obtain⟨its,r,pl,hz⟩:=I.list hq;obtain⟨j,h1,h2,h3,h4,h5⟩:=qcF he;obtain⟨w,ew,rw'⟩:=r.get h2;have hl:=r.length;have hn:=qbT;have fin:EP X pins σ Q w s:=⟨z,H,I,rw',q⟩
 by_cases h0:0≤i
 · have hj:i.toNat=j:=by
     rw[seqIndex_of h0 h5]at h1;exact Option.some.inj h1
   exact item_listR pl.isList h0 (by omega) (by rw[hj];simpa using ew) fin hs
 · have hj:(i+(its.toArray.size:Int)).toNat=j:=by
     rw[seqIndex_neg (by omega) h4]at h1;rw[List.size_toArray,← hl];exact Option.some.inj h1
   exact subscriptTail_builtinR (x:=w) pl.isList.typeIs slot_list_getitem.lookup
     (wpAny_getItem_list_neg (Q:=fun r s'=>r=w∧EP X pins σ Q r s') pl.isList (by omega) (by rw[List.size_toArray]<;>omega) (by omega) (by rw[hj];simpa using ew) ⟨rfl,fin⟩) hs
theorem ix_tup:IxR X (qkl X.K):=by
 intro value slice pins s σ H x y v u Q I rx ry h hs;obtain⟨p,xs,i,z,rfl,rfl,hq,he,q⟩:=h;cases rx;obtain⟨t,rfl⟩:=ry;obtain⟨its,r,pl,hz⟩:=I.tuple hq;obtain⟨j,h1,h2,h3,h4,h5⟩:=qcF he;obtain⟨w,ew,rw'⟩:=r.get h2;have hl:=r.length;have hn:=qbT;have fin:EP X pins σ Q w s:=⟨z,H,I,rw',q⟩
 exact subscriptTail_builtinR (x:=w) pl.typeIs slot_tuple_getitem.lookup
   (getItem_tuple (j:=j) (Q:=fun r s'=>r=w∧EP X pins σ Q r s') pl (by omega) (by omega) (by rw[List.size_toArray,← hl];exact h1) (by simpa using ew) ⟨rfl,fin⟩) hs
theorem qji:IxR X qkm:=by
 intro value slice pins s σ H x y v u Q I rx ry h hs;obtain⟨z,i,c,rfl,rfl,hz,he,q⟩:=h;obtain⟨t,rfl⟩:=rx;obtain⟨t',rfl⟩:=ry;obtain⟨j,h1,h2,h3,h4,h5⟩:=qcF he;have hl:z.cps.toList.length=z.length:=by simp[Str.length]
 rw[hl]at h1 h4 h5;have hn:=qbT
 exact tail_any (typeIs_str s z t) slot_str_getitem.lookup (getItem_str (c:=c) (by
   have e1:decide (i < -(2 ^ 63:Int))=false:=decide_eq_false (by omega);have e2:decide (i ≥ 2 ^ 63)=false:=decide_eq_false (by omega)
   rw[e1,e2,Bool.or_false]) (by rw[h1];simpa using h2) ⟨.str ⟨#[c]⟩,H,I.tok _,⟨_,rfl⟩,q⟩) hs
def rIx (K:Frag):R2:=fun x y H Q=>qkn K x y H Q∨qkl K x y H Q∨qkm x y H Q
theorem qq:IxR X (rIx X.K):=ix_list.or (ix_tup.or qji)
theorem tn_ (n:Nat):((-1:Int)+(n:Int)).toNat=n - 1:=by
 rw[Int.add_comm];exact Int.toNat_sub n 1
theorem qgC (i:Int) (n:Nat):max 0 (min (if i < 0 then i+(n:Int) else i) (n:Int))=((if i < 0 then (i+(n:Int)).toNat else min i.toNat n:Nat):Int):=by
 by_cases h:i < 0
 · have h':i+(n:Int)≤n:=by have:=Int.add_le_add_right (Int.le_of_lt h) n;rwa [Int.zero_add]at this
   rw[if_pos h,if_pos h,Int.min_eq_left h',Int.ofNat_toNat,Int.max_comm]
 · obtain⟨k,rfl⟩:=Int.eq_ofNat_of_zero_le (Int.not_lt.mp h);rw[if_neg h,if_neg h,Int.toNat_natCast];rcases Nat.le_total k n with g|g
   · rw[Nat.min_eq_left g,Int.min_eq_left (Int.ofNat_le.mpr g),Int.max_eq_right (Int.natCast_nonneg _)]
   · rw[Nat.min_eq_right g,Int.min_eq_right (Int.ofNat_le.mpr g),Int.max_eq_right (Int.natCast_nonneg _)]
theorem qbo (lo hi:Option Int) (n:Nat):(sliceBounds lo hi none n).1=((HT.sIx n 0 lo:Nat):Int)∧(sliceBounds lo hi none n).2.1=((HT.sIx n n hi:Nat):Int)∧(sliceBounds lo hi none n).2.2=1:=by
 refine⟨?_,?_,rfl⟩
 · cases lo with
   | none=>simp[sliceBounds,HT.sIx]
   | some i =>
     simp only[sliceBounds,HT.sIx,Option.getD_none,show (1:Int) > 0 by decide,if_true];exact qgC i n
 · cases hi with
   | none=>simp[sliceBounds,HT.sIx]
   | some i =>
     simp only[sliceBounds,HT.sIx,Option.getD_none,show (1:Int) > 0 by decide,if_true];exact qgC i n
theorem qaK (its:List Value) (lo hi:Option Int):slicePick its.toArray lo hi none=((its.drop (HT.sIx its.length 0 lo)).take (HT.sIx its.length its.length hi - HT.sIx its.length 0 lo)).toArray:=by
 obtain⟨h1,h2,h3⟩:=qbo lo hi its.toArray.size;unfold slicePick;rw[h1,h2,h3];simp only[sliceRange_one,pick_run,List.size_toArray]<;>rfl
inductive qgJ (K:Frag) (x:V) (lo:Option Int) (hi:Option Int) (H:Hp) (Q:VK):Prop
 | mk (a xs:_) (h1:x=.ref a) (h2:SqL K H a xs) (h3:∀ p,H p=none->Q (.ref p) (upd H p (.lst (ju xs lo hi)))):qgJ K x lo hi H Q
def qig (K:Frag):V->Option Int->Option Int->Hp->VK->Prop:=fun x lo hi H Q=>qgJ K x lo hi H Q
theorem sl_list:SlR X (qig X.K):=by
 intro pins s σ H x v vl vu lo hi sl Q I rx hs pl pu h;obtain⟨a,xs,rfl,hx,q⟩:=h;cases rx;obtain⟨its,r,ht,hz⟩:=I.list hx;have hlen:=r.length;refine⟨"list",_,slot_list_getitem.lookup,ht.isList.typeIs,?_⟩;refine wpAny_getItem_list_slice ht.isList hs pl pu .none (by simp) ?_ (by rw[List.size_toArray]<;>omega);rw[qaK,← hlen];refine⟨.ref s.heap.objs.size,_,I.laid (t':=s.toks) (o:=.lst (ju xs lo hi)) (fun b ob q=>Heap.get?_push_of_some _ q) (Nat.le_refl _) ?_,rfl,q _ (I.hok.fresh (Nat.le_refl _))⟩;exact⟨Nat.le_trans (qcD xs lo hi) hz,_,0,(r.drop (HT.sIx xs.length 0 lo)).take (HT.sIx xs.length xs.length hi - HT.sIx xs.length 0 lo),Heap.get?_push_size _ rfl⟩
def J9:V->Bool
 | .non=>true
 | .bl _=>true
 | .int _=>true
 | .str _=>true
 | _=>false
def eqV:V->V->Bool
 | .non,.non=>true
 | .bl a,.bl b=>a == b
 | .bl a,.int b=>(if a then 1 else 0) == b
 | .int a,.bl b=>a == (if b then 1 else 0)
 | .int a,.int b=>a == b
 | .str a,.str b=>a == b
 | _,_=>false
theorem qjs {A:Around}{s:Shared}{y x:V}{u v:Value} (ry:RelV y u) (rx:RelV x v) (fy:J9 y=true) (fx:J9 x=true):SeqAt.EqAt A s u v (eqV y x):=by
 cases y with
 | non =>
   cases ry
   cases x with
   | non=>cases rx;exact SeqAt.EqAt.same _
   | bl b=>cases rx;exact SeqAt.EqAt.none_bool b
   | int b=>obtain⟨t,rfl⟩:=rx;exact SeqAt.EqAt.none_int b t
   | str b=>obtain⟨t,rfl⟩:=rx;exact SeqAt.EqAt.none_str b t
   | _=>exact absurd (show false=true from fx) Bool.false_ne_true
 | bl a =>
   cases ry
   cases x with
   | non=>cases rx;exact SeqAt.EqAt.bool_none a
   | bl b=>cases rx;exact SeqAt.EqAt.bool_bool a b
   | int b=>obtain⟨t,rfl⟩:=rx;exact SeqAt.EqAt.bool_int a b t
   | str b=>obtain⟨t,rfl⟩:=rx;exact SeqAt.EqAt.bool_str a b t
   | _=>exact absurd (show false=true from fx) Bool.false_ne_true
 | int a =>
   obtain⟨t',rfl⟩:=ry
   cases x with
   | non=>cases rx;exact SeqAt.EqAt.int_none a t'
   | bl b=>cases rx;exact SeqAt.EqAt.int_bool a t' b
   | int b=>obtain⟨t,rfl⟩:=rx;exact SeqAt.EqAt.int_int a t' b t
   | str b=>obtain⟨t,rfl⟩:=rx;exact SeqAt.EqAt.int_str a t' b t
   | _=>exact absurd (show false=true from fx) Bool.false_ne_true
 | str a =>
   obtain⟨t',rfl⟩:=ry
   cases x with
   | non=>cases rx;exact SeqAt.EqAt.str_none a t'
   | bl b=>cases rx;exact SeqAt.EqAt.str_bool a t' b
   | int b=>obtain⟨t,rfl⟩:=rx;exact SeqAt.EqAt.str_int a t' b t
   | str b=>obtain⟨t,rfl⟩:=rx;exact SeqAt.EqAt.str_str a t' b t
   | _=>exact absurd (show false=true from fx) Bool.false_ne_true
 | _=>exact absurd (show false=true from fy) Bool.false_ne_true
def eqU (x:V) (u:Value):Bool:=match u with
 | .none=>eqV .non x
 | .bool b=>eqV (.bl b) x
 | .int i _=>eqV (.int i) x
 | .str z _=>eqV (.str z) x
 | _=>false
theorem qg0 {x y:V}{u:Value} (r:RelV y u) (f:J9 y=true):eqU x u=eqV y x:=by
 cases y with
 | non=>cases r;rfl
 | bl b=>cases r;rfl
 | int i=>obtain⟨t,rfl⟩:=r;rfl
 | str z=>obtain⟨t,rfl⟩:=r;rfl
 | _=>exact absurd (show false=true from f) Bool.false_ne_true
theorem JR {x:V}:∀ {xs:List V}{us:List Value},Vals xs us->xs.all J9=true->us.any (eqU x)=xs.any fun y=>eqV y x
 | _,_,.nil,_=>rfl
 | y::xs,u::us,.cons r t,f=>by
   rw[List.all_cons,Bool.and_eq_true]at f;rw[List.any_cons,List.any_cons,qg0 r f.1,JR t f.2]
theorem ja {A:Around}{s:Shared}{x:V}{v:Value} (rx:RelV x v) (fx:J9 x=true):∀ {xs:List V}{us:List Value},Vals xs us->xs.all J9=true->∀ u∈us,SeqAt.EqAt A s u v (eqU x u)
 | _,_,.nil,_=>fun u hu=>by cases hu
 | y::xs,u::us,.cons r t,f=>fun u' hu=>by
   rw[List.all_cons,Bool.and_eq_true]at f;rcases List.mem_cons.mp hu with rfl|hu
   · rw[qg0 r f.1];exact qjs r rx f.1 fx
   · exact ja rx fx t f.2 u' hu
def inV (x:V) (xs:List V):Bool:=xs.any fun y=>eqV y x
inductive qiS (K:Frag) (neg:Bool) (x:V) (y:V) (H:Hp) (Q:VK):Prop
 | mk (p xs:_) (h1:y=.ref p) (h2:(SqL K H p xs∨SqT K H p xs)) (h3:J9 x=true) (h4:xs.all J9=true) (h5:Q (.bl (if neg then !inV x xs else inV x xs)) H):qiS K neg x y H Q
def rIn (K:Frag) (neg:Bool):R2:=fun x y H Q=>qiS K neg x y H Q
theorem Jr:OpR X (compareOp .In) (rIn X.K false):=by
 intro pins s σ H x y v u Q I rx ry h;obtain⟨p,xs,rfl,hq,fx,fs,q⟩:=h;cases ry;rcases hq with hq|hq
 · obtain⟨its,r,pl,hz⟩:=I.list hq;refine SeqAt.in_listAt (eqU x) pl.isList (fun w hw=>ja rx fx r fs w (by simpa using hw)) ⟨.bl _,H,I,rfl,?_⟩;rw[show its.toArray.any (eqU x)=its.any (eqU x) by simp,JR r fs];exact q
 · obtain⟨its,r,pl,hz⟩:=I.tuple hq;refine SeqAt.in_tupleAt (eqU x) pl (fun w hw=>ja rx fx r fs w (by simpa using hw)) ⟨.bl _,H,I,rfl,?_⟩;rw[show its.toArray.any (eqU x)=its.any (eqU x) by simp,JR r fs];exact q
theorem zF:OpR X (compareOp .NotIn) (rIn X.K true):=by
 intro pins s σ H x y v u Q I rx ry h;obtain⟨p,xs,rfl,hq,fx,fs,q⟩:=h;cases ry;rcases hq with hq|hq
 · obtain⟨its,r,pl,hz⟩:=I.list hq;refine SeqAt.notIn_listAt (eqU x) pl.isList (fun w hw=>ja rx fx r fs w (by simpa using hw)) ⟨.bl _,H,I,rfl,?_⟩;rw[show its.toArray.any (eqU x)=its.any (eqU x) by simp,JR r fs];exact q
 · obtain⟨its,r,pl,hz⟩:=I.tuple hq;refine SeqAt.notIn_tupleAt (eqU x) pl (fun w hw=>ja rx fx r fs w (by simpa using hw)) ⟨.bl _,H,I,rfl,?_⟩;rw[show its.toArray.any (eqU x)=its.any (eqU x) by simp,JR r fs];exact q
theorem zn:QN X (.type "list") (fun xs H Q=>∃ p ys,xs=[.ref p]∧(SqL X.K H p ys∨SqT X.K H p ys)∧∀ l,H l=none->Q (.ref l) (upd H l (.lst ys))):=by
 intro pins s σ H xs us Q I r h;obtain⟨p,ys,rfl,hq,q⟩:=h;obtain⟨u,rfl,rx⟩:=ji r;cases rx;have fin:∀ (its:List Value),Vals ys its->ys.length≤sizeLine->∀ (h':Heap) (c':Nat),(∀ b o',s.heap.get? b=some o'->h'.get? b=some o') ->
     h'.get? s.heap.objs.size=some { cls:=.type "list",dict:=none,data:=.seq its.toArray c',slots:=#[] }->EP X pins σ Q (.ref s.heap.objs.size) { s with heap:=h' }:=fun its r' hz h' c' kp e =>
   ⟨.ref s.heap.objs.size,_,I.laid (t':=s.toks) kp (Nat.le_refl _) (show ObjOk X.prog X.w _ h' _ (.lst ys) from ⟨hz,its,c',r',e⟩),rfl,q _ (I.hok.fresh (Nat.le_refl _))⟩
 rcases hq with hq|hq
 · obtain⟨its,r',pl,hz⟩:=I.list hq;have hlen:=r'.length;obtain⟨o,ho,hc,n,hd⟩:=pl.isList;exact call_list_seq p (.inl rfl) ho hc hd (fun h' c' kp e=>fin its r' hz h' c' kp e) (by simp only[List.size_toArray]<;>omega)
 · obtain⟨its,r',pl,hz⟩:=I.tuple hq;have hlen:=r'.length;obtain⟨o,ho,hc,n,hd⟩:=pl;exact call_list_seq p (.inr rfl) ho hc hd (fun h' c' kp e=>fin its r' hz h' c' kp e) (by simp only[List.size_toArray]<;>omega)
def tyV (K:Frag) (T:String) (x:V) (H:Hp):Prop:=match x with
 | .str _=>T="str"
 | .int _=>T="int"
 | .ref p=>(T="list"∧∃ xs,SqL K H p xs)∨(T="tuple"∧∃ o,K.lookup p=some o∧o.cls=.type "tuple"∧o.dict=none) ∨
     (T="dict"∧((∃ kvs,H p=some (.dK kvs))∨∃ kvs,H p=some (.dT kvs)))∨(T="set"∧∃ S n,H p=some (.set S n))
 | _=>False
theorem qir {pins:List (Addr×Obj)}{σ:St}{H:Hp}{s:Shared}{T:String}{x:V}{v:Value} (I:Inv X pins σ H s) (r:RelV x v) (ty:tyV X.K T x H) :
   s.TypeIs v T∧∀ a,v=.ref a->∃ ob,s.heap.get? a=some ob∧ob.dict=none:=by
 cases x with
 | str z =>
   obtain⟨t,rfl⟩:=r;cases (show T="str" from ty);exact⟨typeIs_str s z t,fun _ e=>nomatch e⟩
 | int i =>
   obtain⟨t,rfl⟩:=r;cases (show T="int" from ty);exact⟨typeIs_int s i t,fun _ e=>nomatch e⟩
 | ref p =>
   cases r;rcases ty with ⟨rfl,xs,hq⟩|⟨rfl,o,hk,hc,hd⟩|⟨rfl,hk⟩|⟨rfl,S,n,hk⟩
   · obtain⟨its,_,pl,_⟩:=I.list hq;refine⟨pl.isList.typeIs,fun a e=>?_⟩;cases e;obtain⟨o,n,e,c,hd,_⟩:=pl;exact⟨o,e,hd⟩
   · refine⟨⟨o,I.kIn p o hk,hc⟩,fun a e=>?_⟩;cases e;exact⟨o,I.kIn _ o hk,hd⟩
   · have z:∃ o,s.heap.get? p=some o∧o.ExactDict:=by
       rcases hk with ⟨kvs,hk⟩|⟨kvs,hk⟩
       · obtain⟨_,_,_,_,o,_,_,e,ex,_⟩:=I.hok p _ hk;exact⟨o,e,ex⟩
       · obtain⟨_,_,_,_,o,_,_,e,ex,_⟩:=I.hok p _ hk;exact⟨o,e,ex⟩
     obtain⟨o,e,ex⟩:=z;refine⟨⟨o,e,ex.1⟩,fun a e2=>?_⟩;cases e2;exact⟨o,e,ex.2.1⟩
   · obtain⟨o,_,_,_,e,ex,_⟩:=I.hok p _ hk;refine⟨⟨o,e,ex.1⟩,fun a e2=>?_⟩;cases e2;exact⟨o,e,ex.2.1⟩
 | _=>exact False.elim ty
def tBM (K:Frag) (T:String) (r:V->List V->Hp->VK->Prop) (to:TE) (t:TA):TE:=fun σ H Q=>to σ H fun x H1=>tyV K T x H1∧t σ H1 fun xs H2=>r x xs H2 Q
variable {o e:Expr}{es:List Expr}{to:TE}{t:TA}{name:Str}{apos cpos:Pos}{T id:String}{r:V->List V->Hp->VK->Prop}
theorem qcq (pa:PlainAttrs T) (slot:Slot T name id) (hty:typeOf (.builtin id)=pure (.type "method_descriptor")) (hm:MtR X id r) (ho:PE X o to) (ha:PA X (e::es) t)
   (hbase:attributeBase o name X.env (eval o X.env)=eval o X.env:=by rfl)
   (hfew:((backTo cpos (starEach (e::es) X.env)).all (fun x=>!x.1) && (backToKw cpos (keywordEach [] X.env)).all (fun x=>x.1.isSome)
     && decide ((e::es).length+([]:List Keyword).length+(if ([]:List Keyword).isEmpty then 0 else 1) < 30))=true:=by rfl)
   (hline:(apos.endLine == cpos.line)=true:=by rfl) (hs:starEach (e::es) X.env=(false,eval e X.env)::starEach es X.env:=by rfl) (hplain:(backTo cpos (starEach es X.env)).any (·.1)=false:=by rfl) :
   PE X (.Call (.Attribute o name apos) (e::es) [] cpos) (tBM X.K T r to t):=by
 intro pins s σ H Q I h;refine wpAny_Call_method_late hbase hfew hline rfl (thn (ho pins s σ H _ I h) fun v s1 zz_=>?_);obtain⟨x,H1,I1,r1,ty,q1⟩:=zz_;obtain⟨h1,h2⟩:=qir I1 r1 ty;refine⟨T,id,pa,slot,hty,h1,h2,?_⟩;have hA:=ha cpos pins s1 σ H1 _ I1 q1;rw[hs]at hA ⊢;refine Calls.callWith_builtin (by show (false || (backTo cpos (starEach es X.env)).any (·.1))=false;rw[hplain]<;>rfl) (Calls.evalArgs_plain ?_);exact thn hA fun us s2 ⟨vs,H2,I2,r2,q2⟩=>hm pins s2 σ H2 x vs v us Q I2 r1 r2 q2
end
def MtM (X:Cx) (id:String) (r:V->List V->Hp->VK->Prop):Prop :=
 ∀ (pins:List (Addr×Obj)) (s:Shared) (σ:St) (H:Hp) (x:V) (xs:List V) (v:Value) (us:List Value) (Q:VK),Inv X pins σ H s->RelV x v->Vals xs us->r x xs H Q ->
   wpAny (model X.prog X.w) X.A (call (.builtin id) (v::us)) (EP X pins σ Q) X.xe s
theorem Vals.one {x:V}{us:List Value} (h:Vals [x] us):∃ u,us=[u]∧RelV x u:=by
 cases h with
 | cons r t=>cases t;exact⟨_,rfl,r⟩
theorem Vals.rep {xs:List V}{us:List Value} (h:Vals xs us):∀ k:Nat,Vals (List.replicate k xs).flatten (List.replicate k us).flatten
 | 0=>.nil
 | k+1=>by
   rw[List.replicate_succ,List.replicate_succ,List.flatten_cons,List.flatten_cons];exact Vals.append h (Vals.rep h k)
theorem qbZ (its:List Value):∀ (k:Nat) (acc:List Value),
   List.foldl (fun x1 x2=>x1++x2) acc.toArray (List.replicate k its.toArray)=(acc++(List.replicate k its).flatten).toArray
 | 0,acc=>by simp
 | k+1,acc=>by
   have e:acc.toArray++its.toArray=(acc++its).toArray:=by simp
   have e2:(acc++its)++(List.replicate k its).flatten=acc++(List.replicate (k+1) its).flatten:=by
     rw[List.replicate_succ,List.flatten_cons,List.append_assoc]
   rw[← e2,← qbZ its k (acc++its),← e,List.replicate_succ,List.foldl_cons]
section
variable {X:Cx}{pins:List (Addr×Obj)}{σ:St}{H:Hp}{s:Shared}{l b:Addr}{xs ys zs:List V}
theorem Inv.lset {its its':List Value}{n:Nat}{f:Array Value->Array Value}{t':Nat} (I:Inv X pins σ H s) (hH:H l=some (.lst xs))
   (e:s.heap.get? l=some { cls:=.type "list",data:=.seq its.toArray n }) (hf:f its.toArray=its'.toArray) (hv:Vals ys its') (hz:ys.length≤sizeLine) :
   Inv X pins σ (upd H l (.lst ys)) { s with heap:=s.heap.update l (Obj.mapSeq f),toks:=t' }:=by
 have q:=PySem.IsL.update e f;rw[hf]at q;refine I.write (x:=l) (e:=l) (by rw[hH];exact trivial) (.inl rfl) (fun b' u hb hu=>(Heap.get?_update_other s.heap (Obj.mapSeq f) (Ne.symm hb)).trans hu) ⟨_,q⟩ ?_;exact⟨hz,its',_,hv,q⟩
theorem Inv.lnew {its:List Value}{t':Nat} (I:Inv X pins σ H s) (hv:Vals ys its) (hz:ys.length≤sizeLine) :
   Inv X pins σ (upd H s.heap.objs.size (.lst ys)) { s with heap:=s.heap.push { cls:=.type "list",data:=.seq its.toArray },toks:=t' } :=
 I.laid (fun _ _ q=>Heap.get?_push_of_some _ q) (Nat.le_refl _) ⟨hz,its,0,hv,Heap.get?_push_size _ rfl⟩
theorem Inv.fresh (I:Inv X pins σ H s):H s.heap.objs.size=none:=I.hok.fresh (Nat.le_refl _)
theorem Inv.lstM (I:Inv X pins σ H s) (hH:H l=some (.lst xs)):xs.length≤sizeLine∧∃ (its:List Value) (n:Nat),Vals xs its∧xs.length=its.length∧s.heap.get? l=some { cls:=.type "list",data:=.seq its.toArray n }:=by
 obtain⟨z,its,n,r,e⟩:=I.hok l _ hH;exact⟨z,its,n,r,r.length,e⟩
theorem qdl {n:Nat} (h:n≤sizeLine):Builtin.List.listTooLong n=false:=by
 unfold Builtin.List.listTooLong;exact decide_eq_false (by omega)
end
section
variable {X:Cx}
inductive qbF (x:V) (vs:List V) (H:Hp) (Q:VK):Prop
 | mk (l xs y:_) (h1:x=.ref l) (h2:vs=[y]) (h3:H l=some (.lst xs)) (h4:xs.length < sizeLine) (h5:Q .non (upd H l (.lst (xs++[y])))):qbF x vs H Q
def qhA:V->List V->Hp->VK->Prop:=fun x vs H Q=>qbF x vs H Q
theorem zG:MtM X "list.append" qhA:=by
 intro pins s σ H x vs v us Q I rx rv h;obtain⟨l,xs,y,rfl,rfl,hH,hz,q⟩:=h;cases rx;obtain⟨u,rfl,ru⟩:=rv.one;obtain⟨z,its,n,r,hl,e⟩:=I.lstM hH;refine call_meets F.slot_list_append ⟨_,e,rfl⟩ F.entry_list_append (F.args_list_append_2 _ _) (PySem.list_append l its.toArray n u (by rw[List.size_toArray];omega)) ⟨e,?_⟩;refine⟨.non,_,I.lset (its':=its++[u]) hH e (by simp) (r.append (.cons ru .nil)) ?_,rfl,q⟩;rw[List.length_append,List.length_singleton];omega
def qhz:V->List V->Hp->VK->Prop:=fun x vs H Q=>∃ l b xs zs,x=.ref l∧vs=[.ref b]∧H l=some (.lst xs)∧H b=some (.lst zs)∧xs.length+zs.length≤sizeLine∧Q .non (upd H l (.lst (xs++zs)))
theorem qe3:MtM X "list.extend" qhz:=by
 intro pins s σ H x vs v us Q I rx rv h;obtain⟨l,b,xs,zs,rfl,rfl,hH,hB,hz,q⟩:=h;cases rx;obtain⟨u,rfl,ru⟩:=rv.one;cases ru;obtain⟨z,its,n,r,hl,e⟩:=I.lstM hH;obtain⟨z2,its2,n2,r2,hl2,e2⟩:=I.lstM hB;have hsz:its.toArray.size+its2.toArray.size≤sizeLine:=by rw[List.size_toArray,List.size_toArray];omega
 have hlong:¬ (!its.toArray.isEmpty && Builtin.List.listTooLong (its.toArray.size+its2.toArray.size))=true:=by
   rw[qdl hsz,Bool.and_false];exact Bool.false_ne_true
 refine call_meets F.slot_list_extend ⟨_,e,rfl⟩ F.entry_list_extend (F.args_list_extend_2 _ _)
   (AutoSeq1.list_extend_list_list_0 l its.toArray n b its2.toArray n2 hlong (by rw[List.size_toArray];omega) (by omega)) ⟨e,e2,?_⟩
 refine⟨.non,_,I.lset (its':=its++its2) hH e (by simp) (r.append r2) ?_,rfl,q⟩;rw[List.length_append];omega
inductive qgR (x:V) (y:V) (H:Hp) (Q:VK):Prop
 | mk (l b xs zs:_) (h1:x=.ref l) (h2:y=.ref b) (h3:H l=some (.lst xs)) (h4:H b=some (.lst zs)) (h5:xs.length+zs.length≤sizeLine) (h6:∀ p,H p=none->Q (.ref p) (upd H p (.lst (xs++zs)))):qgR x y H Q
def qkr:R2:=fun x y H Q=>qgR x y H Q
theorem op_cat:OpR X (binaryOp .Add) qkr:=by
 intro pins s σ H x y v u Q I rx ry h;obtain⟨l,b,xs,zs,rfl,rfl,hH,hB,hz,q⟩:=h;cases rx;cases ry;obtain⟨z,its,n,r,hl,e⟩:=I.lstM hH;obtain⟨z2,its2,n2,r2,hl2,e2⟩:=I.lstM hB;refine PySem.P.add_list e e2 ?_ (by rw[List.size_toArray,List.size_toArray];omega);have ea:its.toArray++its2.toArray=(its++its2).toArray:=by simp
 rw[ea];exact⟨.ref _,_,I.lnew (t':=s.toks) (r.append r2) (by rw[List.length_append];omega),rfl,q _ I.fresh⟩
def qkI:R2:=fun x y H Q=>∃ l k xs,x=.ref l∧y=.int k∧H l=some (.lst xs)∧-(2 ^ 63)≤k∧k < 2 ^ 63∧xs.length * k.toNat≤sizeLine ∧
 ∀ p,H p=none->Q (.ref p) (upd H p (.lst (List.replicate k.toNat xs).flatten))
theorem qhT {α:Type} (xs:List α) (k:Nat):(List.replicate k xs).flatten.length=k * xs.length:=by
 induction k with
 | zero=>simp
 | succ k ih=>rw[List.replicate_succ,List.flatten_cons,List.length_append,ih,Nat.succ_mul,Nat.add_comm]
theorem qeN:OpR X (binaryOp .Mult) qkI:=by
 intro pins s σ H x y v u Q I rx ry h;obtain⟨l,k,xs,rfl,rfl,hH,h1,h2,hz,q⟩:=h;cases rx;obtain⟨t,rfl⟩:=ry;obtain⟨z,its,n,r,hl,e⟩:=I.lstM hH;have hlen:its.toArray.size * k.toNat≤sizeLine:=by rw[List.size_toArray,← hl];exact hz
 have hcap:¬ its.toArray.size * k.toNat > (2 ^ 63 - 1) / 8:=by
   have:(sizeLine:Nat)≤(2 ^ 63 - 1) / 8:=by decide
   omega
 have hfit:¬ (!Builtin.List.listFitsIndex k)=true:=by
   rw[fitsIndex_both h1 h2];exact Bool.false_ne_true
 have hlong:¬ Builtin.List.listTooLong (its.toArray.size * k.toNat)=true:=by
   rw[qdl hlen];exact Bool.false_ne_true
 have hnew:List.foldl (fun x1 x2=>x1++x2) #[] (List.replicate (if its.toArray.isEmpty=true then 0 else k.toNat) its.toArray)=(List.replicate k.toNat its).flatten.toArray:=by
   have f0:∀ m:Nat,List.foldl (fun x1 x2=>x1++x2) #[] (List.replicate m its.toArray)=(List.replicate m its).flatten.toArray:=fun m=>by
     have:=qbZ its m []
     rw[List.nil_append]at this;exact this
   rw[f0]
   cases its with
   | nil=>simp
   | cons a r'=>rw[if_neg (by simp)]
 refine wpAny_binaryOp_repeat_ref (T:="list") (U:="int") (by decide) ⟨_,e,rfl⟩ (fun s'=>typeIs_int s' k t) noFill_list_mul F.fills_int_mul F.slot_int_rmul repeat_list F.slot_int_index.lookup
   (call_meets F.slot_int_rmul (typeIs_int s k t) F.entry_int_rmul (F.args_int_rmul_2 _ _) (int___rmul___int_list k t l its.toArray n)
     ⟨e,rfl,⟨_,e,rfl⟩,call_meets F.slot_list_mul ⟨_,e,rfl⟩ F.entry_list_mul (F.args_list_mul_2 _ _) (AutoListH.list___mul___list_int_3 l its.toArray n k t hfit hcap hlong) ⟨e,?_⟩⟩)
 rw[hnew];exact⟨.ref _,_,I.lnew (t':=s.toks) (r.rep k.toNat) (by rw[qhT,Nat.mul_comm];exact hz),rfl,q _ I.fresh⟩
end
section
variable {κ:Type} [DecidableEq κ]
def qch (kvs:List (κ×V)) (k:κ):Option V:=(kvs.find? fun kv=>decide (kv.1=k)).map (·.2)
def qda (kvs:List (κ×V)) (k:κ) (v:V):List (κ×V) :=
 if (kvs.any fun kv=>decide (kv.1=k))=true then kvs.map (fun kv=>if kv.1=k then (kv.1,v) else kv) else kvs++[(k,v)]
theorem qaD {p:κ×V}{r:List (κ×V)}{k:κ} (e:p.1=k):qch (p::r) k=some p.2:=by simp[qch,List.find?_cons,e]
theorem qaE {p:κ×V}{r:List (κ×V)}{k:κ} (e:¬ p.1=k):qch (p::r) k=qch r k:=by simp[qch,List.find?_cons,e]
theorem qaF (k:κ):∀ kvs:List (κ×V),(kvs.any fun kv=>decide (kv.1=k))=(qch kvs k).isSome
 | []=>rfl
 | p::r=>by
   rw[List.any_cons];by_cases e:p.1=k
   · simp only[qaD e,decide_eq_true e,Bool.true_or,Option.isSome_some]
   · rw[qaE e,decide_eq_false e,Bool.false_or];exact qaF k r
theorem JC (kvs:List (κ×V)) (k:κ) (v:V):(qda kvs k v).length≤kvs.length+1:=by
 unfold qda;split
 · rw[List.length_map];omega
 · rw[List.length_append,List.length_cons,List.length_nil];omega
theorem qf1 {kvs:List (κ×V)}{k:κ} (v:V) (h:qch kvs k=none):qda kvs k v=kvs++[(k,v)]:=by
 unfold qda;rw[qaF,h];exact if_neg (by decide)
theorem RelO.isSome_eq {o:Option V}{u:Option Value} (r:RelO o u):o.isSome=u.isSome:=by
 cases o with
 | none=>cases u with
   | none=>rfl
   | some _=>exact(show False from r).elim
 | some _=>cases u with
   | none=>exact(show False from r).elim
   | some _=>rfl
theorem KV.val {kvs:List (κ×V)}{vs:List (κ×Value)} (r:KV kvs vs) (k:κ):RelO (qch kvs k) (valueAt vs k):=by
 unfold KV at r
 induction r with
 | nil=>exact True.intro
 | @cons p q ps qs h t ih =>
   obtain⟨h1,h2⟩:=h;by_cases e:p.1=k
   · have e':q.1=k:=h1.symm.trans e;have b:valueAt (q::qs) k=some q.2:=by simp[valueAt,List.find?_cons,e']
     rw[qaD e,b];exact h2
   · have e':¬ q.1=k:=fun z=>e (h1.trans z);have b:valueAt (q::qs) k=valueAt qs k:=by simp[valueAt,List.find?_cons,e']
     rw[qaE e,b];exact ih
theorem KV.any {kvs:List (κ×V)}{vs:List (κ×Value)} (r:KV kvs vs) (k:κ):(kvs.any fun kv=>decide (kv.1=k))=vs.any fun kv=>decide (kv.1=k):=by
 unfold KV at r
 induction r with
 | nil=>rfl
 | cons h t ih=>rw[List.any_cons,List.any_cons,ih,h.1]
theorem KV.repl {kvs:List (κ×V)}{vs:List (κ×Value)} (r:KV kvs vs) (k:κ) {y:V}{u:Value} (ry:RelV y u) :
   KV (kvs.map fun kv=>if kv.1=k then (kv.1,y) else kv) (vs.map fun kv=>if kv.1=k then (kv.1,u) else kv):=by
 unfold KV at r ⊢
 induction r with
 | nil=>exact .nil
 | @cons p q ps qs h t ih =>
   rw[List.map_cons,List.map_cons];refine .cons ?_ ih;obtain⟨h1,h2⟩:=h;by_cases e:p.1=k
   · rw[if_pos e,if_pos (h1.symm.trans e)];exact⟨h1,ry⟩
   · rw[if_neg e,if_neg (fun z=>e (h1.trans z))];exact⟨h1,h2⟩
theorem KV.put {kvs:List (κ×V)}{vs:List (κ×Value)} (r:KV kvs vs) (k:κ) {y:V}{u:Value} (ry:RelV y u):KV (qda kvs k y) (stored vs k u):=by
 unfold qda stored;rw[r.any k];by_cases e:(vs.any fun kv=>decide (kv.1=k))=true
 · rw[if_pos e,if_pos e];exact r.repl k ry
 · rw[if_neg e,if_neg e];exact Paired.snoc r ⟨rfl,ry⟩
theorem KV.length {kvs:List (κ×V)}{vs:List (κ×Value)} (r:KV kvs vs):kvs.length=vs.length:=Paired.length r
end
theorem qfd {P:Program}{w:World}{k:Key}{u:Value} (r:RelV (kV k) u):(qX P w).is k u=true:=by
 cases k with
 | inl i=>obtain⟨t,e⟩:=(show ∃ t,u=Value.int i t from r);subst e;exact qcu P w i t
 | inr x=>obtain⟨t,e⟩:=(show ∃ t,u=Value.str x t from r);subst e;exact qct P w x t
theorem qbV {P:Program}{w:World}:∀ {ks:List Key}{us:List Value},Vals (ks.map kV) us->ItemsAre (qX P w) ks us
 | [],_,r=>by rw[List.map_nil]at r;cases r;exact .nil
 | k::ks,_,r=>by
   rw[List.map_cons]at r
   cases r with
   | cons h t=>exact .cons (qfd h) (qbV t)
abbrev KT (H:Hp):List (List Key×V)->List (List Key×Addr×Value)->Prop:=Paired fun p q=>p.1=q.1∧H q.2.1=some (.tup (p.1.map kV))∧RelV p.2 q.2.2
theorem KT.val {H:Hp}{kvs:List (List Key×V)}{xs:List (List Key×Addr×Value)} (r:KT H kvs xs) (k:List Key):RelO (qch kvs k) ((atKey xs k).map (·.2)):=by
 induction r with
 | nil=>exact True.intro
 | @cons p q ps qs h t ih =>
   obtain⟨h1,_,h2⟩:=h;by_cases e:p.1=k
   · have e':q.1=k:=h1.symm.trans e;have b:atKey (q::qs) k=some q.2:=by simp[atKey,List.find?_cons,e']
     rw[qaD e,b];exact h2
   · have e':¬ q.1=k:=fun z=>e (h1.trans z);have b:atKey (q::qs) k=atKey qs k:=by simp[atKey,List.find?_cons,e']
     rw[qaE e,b];exact ih
theorem KT.repl {H:Hp}{kvs:List (List Key×V)}{xs:List (List Key×Addr×Value)} (r:KT H kvs xs) (k:List Key) {y:V}{u:Value} (ry:RelV y u) :
   KT H (kvs.map fun kv=>if kv.1=k then (kv.1,y) else kv) (xs.map (putAt k u)):=by
 induction r with
 | nil=>exact .nil
 | @cons p q ps qs h t ih =>
   rw[List.map_cons,List.map_cons];refine .cons ?_ ih;obtain⟨h1,h2,h3⟩:=h;unfold putAt;by_cases e:p.1=k
   · rw[if_pos e,if_pos (h1.symm.trans e)];exact⟨h1,h2,ry⟩
   · rw[if_neg e,if_neg (fun z=>e (h1.trans z))];exact⟨h1,h2,h3⟩
theorem KT.put {H:Hp}{kvs:List (List Key×V)}{xs:List (List Key×Addr×Value)} (r:KT H kvs xs) (k:List Key) {b:Addr}{y:V}{u:Value} (hb:H b=some (.tup (k.map kV))) (ry:RelV y u) :
   KT H (qda kvs k y) (storedH xs k b u):=by
 have e:(kvs.any fun kv=>decide (kv.1=k))=(atKey xs k).isSome:=by
   rw[qaF,(r.val k).isSome_eq,Option.isSome_map]
 unfold qda storedH;rw[e];by_cases q:(atKey xs k).isSome=true
 · rw[if_pos q,if_pos q];exact r.repl k ry
 · rw[if_neg q,if_neg q];exact Paired.snoc r ⟨rfl,hb,ry⟩
theorem KT.keeps {H H':Hp}{kvs:List (List Key×V)}{xs:List (List Key×Addr×Value)} (r:KT H kvs xs) (ht:∀ b ys,H b=some (.tup ys)->H' b=some (.tup ys)):KT H' kvs xs :=
 Paired.mapP r fun _ _ z=>⟨z.1,ht _ _ z.2.1,z.2.2⟩
section
variable {P:Program}{w:World}{H:Hp}{h:Heap}{a:Addr}
theorem qiN {u:HO} (ok:HOk P w H h) (e:Rd H a u):ObjOk P w H h a u:=e.ok ok
theorem qb2 {kvs:List (Key×V)} (ok:HOk P w H h) (e:Rd H a (.dK kvs)):kvs.length≤sizeLine∧(a == sysModules)=false∧∃ vs,KV kvs vs∧h.DictOf (qX P w) a vs :=
 show ObjOk P w H h a (.dK kvs) from qiN ok e
theorem qj9 {kvs:List (Key×V)} (ok:HOk P w H h) (e:H a=some (.dK kvs)):kvs.length≤sizeLine∧(a == sysModules)=false∧∃ vs,KV kvs vs∧h.DictOf (qX P w) a vs:=qb2 ok (.inl e)
theorem qbU {ks:List Key} (ok:HOk P w H h) (e:H a=some (.tup (ks.map kV))):(tupleKind (qX P w)).is h ks a:=by
 obtain⟨_,its,r,o,h1,h2,n,h3⟩:=(show ObjOk P w H h a (.tup (ks.map kV)) from ok a _ e)
 exact⟨o,its.toArray,n,h1,h2,h3,by simpa using qbV r⟩
theorem qfs {kvs:List (List Key×V)} (ok:HOk P w H h) (e:Rd H a (.dT kvs)):kvs.length≤sizeLine∧(a == sysModules)=false ∧
   ∃ xs,KT H kvs xs∧h.DictOfH (tupleKind (qX P w)) a xs:=by
 obtain⟨z,y,xs,r,o,es,ep,h1,h2,h3,h4,h5⟩:=(show ObjOk P w H h a (.dT kvs) from qiN ok e)
 refine⟨z,y,xs,r,o,es,ep,h1,h2,h3,h4,fun x hx=>?_,h5⟩
 have all:∀ {l:List (List Key×V)}{m:List (List Key×Addr×Value)},KT H l m->∀ x∈m,(tupleKind (qX P w)).is h x.1 x.2.1:=by
   intro l m q
   induction q with
   | nil=>intro x hx;exact nomatch hx
   | @cons p q ps qs hq t ih =>
     intro x hx;rcases List.mem_cons.mp hx with e|hx
     · subst e;exact qbU ok (by rw[← hq.1];exact hq.2.1)
     · exact ih x hx
 exact all r x hx
theorem qj8 {kvs:List (List Key×V)} (ok:HOk P w H h) (e:H a=some (.dT kvs)):kvs.length≤sizeLine∧(a == sysModules)=false ∧
   ∃ xs,KT H kvs xs∧h.DictOfH (tupleKind (qX P w)) a xs:=qfs ok (.inl e)
end
def qd8 (H:Hp) (a:Addr) (y:V) (r:Option V):Prop :=
 (∃ kvs k,Rd H a (.dK kvs)∧y=kV k∧r=qch kvs k)∨∃ kvs k b,Rd H a (.dT kvs)∧y=.ref b∧H b=some (.tup (k.map kV))∧r=qch kvs k
def DPut (H:Hp) (a:Addr) (y v:V) (H':Hp):Prop :=
 (∃ kvs k,H a=some (.dK kvs)∧y=kV k∧kvs.length < sizeLine∧H'=upd H a (.dK (qda kvs k v))) ∨
 ∃ kvs k b,H a=some (.dT kvs)∧y=.ref b∧H b=some (.tup (k.map kV))∧kvs.length < sizeLine∧H'=upd H a (.dT (qda kvs k v))
theorem DPut.k {H:Hp}{a:Addr}{kvs:List (Key×V)}{k:Key}{v:V} (e:H a=some (.dK kvs)) (hl:kvs.length < sizeLine):DPut H a (kV k) v (upd H a (.dK (qda kvs k v))):=.inl ⟨kvs,k,e,rfl,hl,rfl⟩
section
variable {X:Cx}{pins:List (Addr×Obj)}{σ:St}{H:Hp}{s:Shared}{a:Addr}{y v:V}{u r:Value}{o:Option V}{A:Around}{E:Value->Shared->Prop}
theorem Inv.big (I:Inv X pins σ H s):sysModules < s.heap.objs.size:=by
 have h:mainGlobals < s.heap.objs.size:=(I.mod.glob.keeps I.bk).lt;exact Nat.lt_trans (by decide) h
theorem qfy {Q:Value->Shared->Prop} (hu:A.units+1 < cLine) (I:Inv X pins σ H s) (g:qd8 H a y (some v)) (ry:RelV y u) (h:∀ w' s',Inv X pins σ H s'->RelV v w'->Q w' s') :
   wpAny (model X.prog X.w) A (getItem (.ref a) u) Q E s:=by
 rcases g with ⟨kvs,k,e,ey,l⟩|⟨kvs,k,b,e,ey,eb,l⟩
 · subst ey;obtain⟨z,hd,vs,rel,dd⟩:=qb2 I.hok e;obtain⟨w',hw,rw'⟩:=RelO.some_of (v:=v) (o:=valueAt vs k) (by rw[l];exact rel.val k);exact wpAny_getItem_of (qfd ry) dd.mapOf hw (h w' _ (I.tok _) rw')
 · subst ey;cases (show u=Value.ref b from ry);obtain⟨z,hd,xs,rel,dd⟩:=qfs I.hok e;obtain⟨w',hw,rw'⟩:=RelO.some_of (v:=v) (o:=(atKey xs k).map (·.2)) (by rw[l];exact rel.val k);obtain⟨p,hp,hp2⟩:=Option.map_eq_some_iff.mp hw;refine wpAny_getItem_heap (tupleKind_room_in1 hu) (qbU I.hok eb) dd hp ?_;rw[hp2];exact h w' _ (I.tok _) rw'
theorem qkR {Q:Value->Shared->Prop} (hu:A.units+1 < cLine) (I:Inv X pins σ H s) (g:qd8 H a y o) (ry:RelV y u) (h:∀ s',Inv X pins σ H s'->Q (.bool o.isSome) s') :
   wpAny (model X.prog X.w) A (compareOp .In u (.ref a)) Q E s:=by
 rcases g with ⟨kvs,k,e,ey,l⟩|⟨kvs,k,b,e,ey,eb,l⟩
 · subst ey;obtain⟨z,hd,vs,rel,dd⟩:=qb2 I.hok e;refine wpAny_in_of (qfd ry) hd dd.mapOf ?_;rw[← (rel.val k).isSome_eq,← l];exact h _ (I.tok _)
 · subst ey;cases (show u=Value.ref b from ry);obtain⟨z,hd,xs,rel,dd⟩:=qfs I.hok e;refine wpAny_in_heap (tupleKind_room_in1 hu) (qbU I.hok eb) hd dd ?_;have q:=(rel.val k).isSome_eq;rw[Option.isSome_map]at q;rw[← q,← l];exact h _ (I.tok _)
theorem qh7 {Q:Value->Shared->Prop} (hu:A.units+1 < cLine) (I:Inv X pins σ H s) (g:qd8 H a y o) (ry:RelV y u) (h:∀ s',Inv X pins σ H s'->Q (.bool (!o.isSome)) s') :
   wpAny (model X.prog X.w) A (compareOp .NotIn u (.ref a)) Q E s:=by
 rcases g with ⟨kvs,k,e,ey,l⟩|⟨kvs,k,b,e,ey,eb,l⟩
 · subst ey;obtain⟨z,hd,vs,rel,dd⟩:=qb2 I.hok e;refine wpAny_notIn_of (qfd ry) hd dd.mapOf ?_;rw[← (rel.val k).isSome_eq,← l];exact h _ (I.tok _)
 · subst ey;cases (show u=Value.ref b from ry);obtain⟨z,hd,xs,rel,dd⟩:=qfs I.hok e;refine wpAny_notIn_heap (tupleKind_room_in1 hu) (qbU I.hok eb) hd dd ?_;have q:=(rel.val k).isSome_eq;rw[Option.isSome_map]at q;rw[← q,← l];exact h _ (I.tok _)
theorem qfw {h':Heap}{t':Nat}{ob:HO} (I:Inv X pins σ H s) (mu:Mut (H a)) (hs:Heap.SameBut a s.heap h') (he:∃ q,h'.get? a=some q) (new:ObjOk X.prog X.w (upd H a ob) h' a ob) :
   Inv X pins σ (upd H a ob) { s with heap:=h',toks:=t' } :=
 I.write (x:=a) (e:=a) mu (.inl rfl) (fun b q hb z=>(hs.2 b hb).trans z) he new
theorem qjt {P:Program}{w:World}{H':Hp}{h':Heap}{kvs:List (Key×V)}{vs:List (Key×Value)} (z:kvs.length≤sizeLine) (hd:(a == sysModules)=false) (rel:KV kvs vs) (dd:h'.DictOf (qX P w) a vs) :
   ObjOk P w H' h' a (.dK kvs):=⟨z,hd,vs,rel,dd⟩
theorem qfx {H':Hp}{Q:Unit->Shared->Prop} (hu:A.units+1 < cLine) (I:Inv X pins σ H s) (g:DPut H a y v H') (ry:RelV y u) (rv:RelV v r) (h:∀ s',Inv X pins σ H' s'->Q () s') :
   wpAny (model X.prog X.w) A (setItem (.ref a) u r) Q E s:=by
 rcases g with ⟨kvs,k,e,ey,l,eH⟩|⟨kvs,k,b,e,ey,eb,l,eH⟩
 · subst ey eH;obtain⟨z,hd,vs,rel,dd⟩:=qj9 I.hok e;have hz:vs.length≤sizeLine:=by rw[← rel.length];exact z
   have hl:(qda kvs k v).length≤sizeLine:=by have:=JC kvs k v;omega
   refine wpAny_setItem_pairs (hsz:=hz) (qfd ry) dd fun h' dd' hs=>h _ ?_;have he:∃ q,h'.get? a=some q:=let ⟨q,_,_,hq,_⟩:=dd';⟨q,hq⟩;exact qfw I (by rw[e];exact True.intro) hs he (qjt hl hd (rel.put k rv) dd')
 · subst ey eH;cases (show u=Value.ref b from ry);obtain⟨z,hd,xs,rel,dd⟩:=qj8 I.hok e;have hz:xs.length≤sizeLine:=by rw[← Paired.length rel];exact z
   have hl:(qda kvs k v).length≤sizeLine:=by have:=JC kvs k v;omega
   refine wpAny_setItem_heap (hsz:=hz) (tupleKind_room_in1 hu) (qbU I.hok eb) dd fun h' dd' hs=>h _ ?_;obtain⟨q,es,ep,hq,h2,h3,h4,_,h5⟩:=dd';refine qfw I (by rw[e];exact True.intro) hs ⟨q,hq⟩ ⟨hl,hd,_,(rel.put k eb rv).keeps fun c ys ec=>?_,q,es,ep,hq,h2,h3,h4,h5⟩;rw[qg (zi ec e (fun z=>nomatch z))];exact ec
end
section
variable {X:Cx}{pins:List (Addr×Obj)}{σ:St}{H:Hp}{s:Shared}{a:Addr}{kvs:List (Key×V)}{k:Key}{u:Value}{A:Around}{E:Value->Shared->Prop}
theorem qka {Q:Value->Shared->Prop} (I:Inv X pins σ H s) (e:Rd H a (.dK kvs)) (h:∀ t s',Inv X pins σ H s'->Q (.int kvs.length t) s'):wpAny (model X.prog X.w) A (call (.builtin "len") [.ref a]) Q E s:=by
 obtain⟨z,hd,vs,rel,dd⟩:=qb2 I.hok e;refine call_len_dict hd dd (by rw[← rel.length];rw[sizeLine_eq]at z;omega) ?_;rw[← rel.length];exact h _ _ (I.tok _)
end
def qkx (i:Expr):Prop:=∀ ov iv,subscripted i false ov iv=operate [ov,iv] (getItem ov iv)
theorem qhm {prog:Program}{w:World}{A:Around}{E:Value->Shared->Prop}{s:Shared}{env:Env}{value slice:Expr}{pos:Pos}{T id:String}{Q:Value->Shared->Prop}
   (hl:typeLookup (.type T) "__getitem__"=pure (some (.builtin id))) (hs:qkx slice)
   (h:wpAny (model prog w) A (eval value env) (fun o s₁=>wpAny (model prog w) A (eval slice env) (fun i s₂=>s₂.TypeIs o T∧wpAny (model prog w) A (getItem o i) Q E s₂) E s₁) E s) :
   wpAny (model prog w) A (eval (.Subscript value slice pos) env) Q E s:=by
 refine Subscript_ (wpAny_mono h (fun o s₁ h₁=>wpAny_mono h₁ (fun i s₂ h₂=>?_) fun _ _ x=>x) fun _ _ x=>x);obtain⟨hT,h₂⟩:=h₂;unfold subscriptTail;refine wpAny_bind ?_;rw[getitemInPython_of_ne hT.not_modules];refine wpAny_bind (wpAny_specialOf hT hl ?_)
 have fin:wpAny (model prog w) A (subscripted slice false o i) (fun r s₃=>wpAny (model prog w) A (letTemporaryGo value o r >>= fun _=>pure r) Q E s₃) E s₂:=by
   rw[hs o i];exact wpAny_operating (wpAny_mono h₂ (fun r s₃ h₃=>wpAny_bind (wpAny_letTemporaryGo (wpAny_pure h₃))) fun _ _ x=>x)
 first
   | exact wpAny_pure (wpAny_bind fin)
   | exact wpAny_bind (wpAny_pure (wpAny_bind fin))
   | exact wpAny_bind fin
theorem qcC {X:Cx}{pins:List (Addr×Obj)}{σ:St}{H:Hp}{s:Shared}{a:Addr}{y:V}{o:Option V} (I:Inv X pins σ H s) (g:qd8 H a y o):s.TypeIs (.ref a) "dict":=by
 rcases g with ⟨kvs,k,e,_,_⟩|⟨kvs,k,b,e,_,_,_⟩
 · obtain⟨_,_,vs,_,dd⟩:=qb2 I.hok e;exact dd.typeIs
 · obtain⟨_,_,xs,_,dd⟩:=qfs I.hok e;exact dd.typeIs
def qjP (td ty:TE):TE:=fun σ H Q=>td σ H fun x H1=>ty σ H1 fun y H2=>∃ a v,x=.ref a∧qd8 H2 a y (some v)∧Q v H2
def qjU (td ty tv:TE):TS:=fun D σ H=>tv σ H fun v H1=>td σ H1 fun x H2=>ty σ H2 fun y H3=>∃ a H4,x=.ref a∧DPut H3 a y v H4∧D.nx σ H4
section
variable {X:Cx}{o i e value:Expr}{pos pos' tpos:Pos}{td ty tv:TE}
theorem qeL (hu:X.A.units+1 < cLine) (ho:PE X o td) (hi:PE X i ty) (hs:qkx i):PE X (.Subscript o i pos) (qjP td ty):=by
 intro pins s σ H Q I h;refine qhm PySem.F.slot_dict_getitem.lookup hs (thn (ho pins s σ H _ I h) fun u s1 ⟨x,H1,I1,rx,q1⟩=>thn (hi pins s1 σ H1 _ I1 q1) fun iv s2 zz_=>?_);obtain⟨y,H2,I2,ry,a,v,ex,g,q2⟩:=zz_;subst ex;obtain rfl:u=Value.ref a:=rx;exact⟨qcC I2 g,qfy hu I2 g ry fun w' s3 I3 rw'=>⟨v,H2,I3,rw',q2⟩⟩
theorem qeI (hu:X.A.units+1 < cLine) (ho:PE X o td) (hi:PE X i ty) (hv:PE X value tv) (hs:swapsWith value (some (.Subscript o i pos')) pos.line X.env=pure false) :
   PS X (.Assign [.Subscript o i pos'] value pos) (qjU td ty tv):=by
 intro pins s σ H D I h;refine wpAny_Assign_Subscript (thn (hv pins s σ H _ I h) fun r s1 ⟨v,H1,I1,rv,q1⟩=>thn (ho pins s1 σ H1 _ I1 q1) fun u s2 ⟨x,H2,I2,rx,q2⟩=>thn (hi pins s2 σ H2 _ I2 q2) fun iv s3 zz_=>?_) hs;obtain⟨y,H3,I3,ry,a,H4,ex,g,q3⟩:=zz_;subst ex;obtain rfl:u=Value.ref a:=rx;exact qfx hu I3 g ry rv fun s4 I4=>⟨σ,H4,I4,q3⟩
end
theorem qgr {P:Program}{w:World}{H:Hp} (h:Heap) (hb:sysModules < h.objs.size):ObjOk P w H (h.push { cls:=.type "dict",data:=.dict #[] }) h.objs.size (.dK []) :=
 ⟨Nat.zero_le _,beq_eq_false_iff_ne.mpr (Ne.symm (Nat.ne_of_lt hb)),[],.nil,Heap.DictOf.new h⟩
def qiC:TE:=fun _ H Q=>∀ p,H p=none->Q (.ref p) (upd H p (.dK []))
section
variable {X:Cx}{pos:Pos}
theorem qdg:PE X (.Dict [] [] pos) qiC:=fun pins s σ H Q I h =>
 wpAny_Dict_empty ⟨.ref s.heap.objs.size,_,I.laid (a:=s.heap.objs.size) (o:=.dK []) (t':=s.toks) (fun _ _ q=>Heap.get?_push_of_some _ q) (Nat.le_refl _) (qgr s.heap I.big),rfl,h _ (I.hok.fresh (Nat.le_refl _))⟩
end
end L2
namespace Att
open PySem PySem.W PySem.Calls PyProof.Rows
theorem JJ {P:Params}{h:Heap}:∀ (ns:List Int) (vs:List Value),WellAll P h vs (ns.map WData.int)->IntsAre vs ns:=by
 intro ns
 induction ns with
 | nil =>
   intro vs w;rw[List.map_nil]at w;cases w;exact .nil
 | cons n ns ih =>
   intro vs w;rw[List.map_cons]at w
   cases w with
   | cons a b =>
     cases a;exact .cons _ _ (ih _ b)
theorem qet {l:OpenLaw}{n:Nat} (hn:l.most=some n) {P:Params}{h:Heap}{args:List WData}{vals:List Value}
   (hpre:l.row.toRowW.claim.pre args=true) (hwl:WellAll P h vals args) :
   ∃ a vs ns,vals=[Value.ref a]∧args=[WData.list (ns.map WData.int)]∧h.get? a=some { cls:=.type "list",data:=.seq vs.toArray }∧IntsAre vs ns∧ns.length≤n:=by
 have hsh:WShape.hasAll [] args [.list .int]=true:=(pre_splitW hpre).1;have hc:l.pre.holds [] { args:=args }=true:=(pre_splitW hpre).2;obtain⟨d,r,rfl,h1,h2⟩:=hasAllW_cons hsh;obtain rfl:=hasAllW_nil h2;obtain⟨xs,rfl,h3⟩:=hasW_list h1;obtain⟨ns,rfl⟩:=items_int h3
 have hlen:ns.length≤n:=by
   unfold OpenLaw.pre at hc
   have h4:(WTm.not (.lt (.lit (.int (n:Int))) (.len (.arg 0)))).holds [] { args:=[.list (ns.map .int)] }=true:=by
     have h4:=(holds_andW hc).1;rw[hn]at h4;exact h4
   have h5:=condW_of h4 (w_not (w_lt w_lit (w_len_list (w_arg rfl))));rw[List.length_map]at h5;refine Nat.le_of_not_lt fun q=>?_;have q':(n:Int) < ((ns.length:Nat):Int):=by omega
   first
     | (rw[decide_eq_true q']at h5;exact absurd h5 (by decide))
     | (simp at h5;omega)
 cases hwl with
 | cons w1 w2 =>
   cases w2
   cases w1 with
   | list ho hall=>exact⟨_,_,ns,rfl,rfl,ho,JJ ns _ hall,hlen⟩
theorem qeJ (l:OpenLaw) (args:List WData):l.row.toRowW.claim.post args (.bool true) args=true :=
 postW_of (r:=l.row.toRowW) (X:=(true == true))
   (show WShape.has [] (.bool true) .bool=true by first|rfl|decide|simp[WShape.has,WShape.arms,WShape.armsAll])
   (show (WTm.eq .res (.lit (.bool true))).value [] { args:=args,res:=some (.bool true),after:=args }=some (.bool (true == true)) from w_eq_bool (w_res rfl) w_lit) rfl
theorem attach_call {l:OpenLaw}{n:Nat}{q:Program}{loose:List Str}{XP:(Str->Option Value)->Heap->Prop}{YP:World->Heap->Prop}{d:DefRec}
   (hn:l.most=some n) (hdf:d.params.defaults=[])
   (call:∀ (w:World) (s₀ s₁:Shared) (mg mb:Str->Option Value) (fa:Addr) (o:Obj) (pm cd doc:Value) (a:Addr) (vs:List Value) (ns:List Int),
     Ground q loose [] XP w s₀ mg mb s₁.heap->YP w s₁.heap ->
     s₁.heap.get? fa=some o->o.data=.func (docDef d.name d.params d.body d.scope pm cd doc)->s₁.heap.CodeRec cd d.name->mg d.name=some (.ref fa) ->
     s₁.heap.get? a=some { cls:=.type "list",data:=.seq vs.toArray }->IntsAre vs ns->ns.length≤n->s₁.gens=#[] ->
     codeAny (model l.prog w) callerA (.call (.ref fa) ⟨[.ref a],[]⟩) (fun r s'=>r=.ok (.ret (.bool true))∧OldK s₁.heap s'.heap∧s'.os=s₁.os∧AllBare s'.gens) s₁) :
   WalkO q loose XP YP l.row.toRowW d [] (fun f vs=>PySem.call f vs):=by
 intro w s₀ s₁ mg mb G Y fa o pm cd doc dV kV ho hd hcd hD hmg hg args vals as hpre hlay hrd hwl hlo;obtain rfl:dV=.none:=Dflts.none hD hdf;obtain rfl:kV=.none:=Dflts.noKw hD;obtain⟨a,vs,ns,rfl,rfl,hobj,hints,hlen⟩:=qet hn hpre hwl;refine enter_call (codeAny_mono (call w s₀ s₁ mg mb fa o pm cd doc a vs ns G Y ho (fd_plain hd) hcd hmg hobj hints hlen hg) fun r s' hq=>?_);obtain⟨rfl,h2,h3,h4⟩:=hq;exact⟨.inl ⟨.bool true,.bool true,[],rfl,fun _=>rfl,.bool true,qeJ l _,fun _=>⟨List.Pairwise.nil,fun _ hm=>(nomatch hm)⟩⟩,h2,h3,h4⟩
end Att
namespace L2
open PySem PySem.Spec PyProof.Rows
open PySem.W (Frag keepIn kitOne fnOf codeIn)
theorem qbc:∀ {vs:List Value}{ns:List Int},IntsAre vs ns->Vals (ns.map V.int) vs
 | _,_,.nil=>.nil
 | _,_,.cons n t h=>.cons ⟨t,rfl⟩ (qbc h)
def qkf (H:Hp):Prop:=∀ b,H b=none∨∃ o xs,H b=some (.frz o (.lst xs))
theorem law_call {P:Program}{w:World}{K:Frag}{mg mb:Str->Option Value}{CX:CXT}{k:Nat}{fa a:Addr}{fd:FuncData}{x:Str}{sp:Sp}{s₁:Shared}{vs:List Value}{ns:List Int}
   (KX:K.In s₁.heap) (hns:s₁.heap.Ns mainGlobals mg) (hb:s₁.heap.Ns builtinsNs mb) (hbb:∀ x:Str,x≠"__name__"->mb x=bootBuiltins x) (hlim:s₁.heap.NoLimit) (hg:s₁.gens=#[])
   (ha:s₁.heap.get? a=some { cls:=.type "list",data:=.seq vs.toArray }) (hi:IntsAre vs ns) (hl:ns.length≤sizeLine) (hr:Room k callerA)
   (F:∀ base:Heap,K.In base->base.Ns mainGlobals mg->qx P w K mg base CX k fa fd [x] sp) (hbind:∀ (s:Shared) (u:Value),BindsTo s fd ⟨[u],[]⟩ [(x,u)])
   (hsp:∀ H:Hp,qkf H->SqL K H a (ns.map V.int)->sp [.ref a] H (fun v _=>v=.bl true) fun _ _ _=>False)
   (hCX:∀ H e s',CX [] H s₁ (fun _ _ _=>False) e s'->False) :
   codeAny (model P w) callerA (.call (.ref fa) ⟨[.ref a],[]⟩) (fun r s'=>r=.ok (.ret (.bool true))∧OldK s₁.heap s'.heap∧s'.os=s₁.os∧AllBare s'.gens) s₁:=by
 have rv:=qbc hi;have lenV:=hi.length
 -- from an abstract heap in which nothing but the script may be tracked
 have core:∀ H:Hp,qkf H->SqL K H a (ns.map V.int)->HOk P w H s₁.heap->(∀ b,H b≠none->b=a)->(H a≠none->K.lookup a=none) ->
     codeAny (model P w) callerA (.call (.ref fa) ⟨[.ref a],[]⟩) (fun r s'=>r=.ok (.ret (.bool true))∧OldK s₁.heap s'.heap∧s'.os=s₁.os∧AllBare s'.gens) s₁:=by
   intro H hO hS hok hA hK;have base_of:∀ {b:Addr}{o:Obj},s₁.heap.get? b=some o->H b=none->(qgm s₁.heap H).get? b=some o:=fun e n=>qgl e n
   have noA:∀ {b:Addr}{o:Obj}{es:Array DictEntry}{ep:Nat},s₁.heap.get? b=some o->o.data=.dict es ep->H b=none:=fun {b o es ep} e d=>by
     cases q:H b with
     | none=>rfl
     | some u =>
       have e':b=a:=hA b (by rw[q];simp);subst e';rw[ha]at e;cases e;have d':Data.seq vs.toArray _=Data.dict es ep:=d;cases d'
   have nsK:∀ {b:Addr}{m:Str->Option Value},s₁.heap.Ns b m->(qgm s₁.heap H).Ns b m:=fun {b m} ⟨o,es,ep,e,d,r⟩=>⟨o,es,ep,base_of e (noA e d),d,r⟩
   have hKb:K.In (qgm s₁.heap H):=fun b o e=>base_of (KX b o e) (by
     cases q:H b with
     | none=>rfl
     | some u =>
       have e':b=a:=hA b (by rw[q];simp);subst e'
       rw[hK (by rw[q];simp)]at e;cases e)
   have hM:Mod K mg (qgm s₁.heap H):=⟨hKb,nsK hns,⟨mb,nsK hb,hbb⟩,let ⟨mc,h1,h2⟩:=hlim;⟨mc,nsK h1,h2⟩⟩
   have e0:Env0 P w K mg (qgm s₁.heap H) callerA [] s₁ H:=⟨rfl,hM,fun b o e=>qhL e,Nat.le_of_eq (qfl _ _),trivial,fun b hb=>absurd (show b∈([]:List Addr) from hb) (by simp),hok,.of_eq hg⟩
   refine codeAny_mono ((F _ hKb (nsK hns)).run callerA [] s₁ H ⟨[.ref a],[]⟩ [.ref a] [.ref a] _ _ hr e0 (hbind s₁ (.ref a)) (.cons rfl .nil) (hsp H hO hS)) fun r s' h=>?_
   cases r with
   | error e=>exact(hCX H e s' h).elim
   | ok fl =>
     cases fl with
     | next=>exact False.elim h
     | brk=>exact False.elim h
     | cont=>exact False.elim h
     | ret u =>
       obtain⟨v,H',os,bare,un,hok',r',q⟩:=h;have q':v=.bl true:=q;subst q';obtain rfl:u=Value.bool true:=r';refine⟨rfl,OldK.of_keep fun b o e=>?_,os,bare⟩
       cases q:H b with
       | none=>exact un.keep b o e q (by intro z;exact absurd (show b∈([]:List Addr) from z) (by simp)) (by simp)
       | some u =>
         rcases hO b with z|⟨ob,xs,z⟩
         · rw[q]at z;cases z
         · have z2:=un.frzs b ob _ z;obtain⟨e1,_⟩:=hok b _ z;obtain⟨e2,_⟩:=hok' b _ z2;rw[e]at e1;cases e1;exact e2
 cases hk:K.lookup a with
 | some o =>
   -- the script is one of the module's own objects
   have e:=KX a o hk;rw[ha]at e;cases e;refine core (fun _=>none) (fun _=>.inl rfl) (.inr ⟨_,vs.toArray,_,hk,rfl,rfl,rfl,by rw[List.size_toArray,lenV];exact hl,by simpa using rv⟩) (fun b u z=>by have z':(none:Option HO)=some u:=z;cases z') (fun b z=>absurd rfl z) fun z=>absurd rfl z
 | none =>
   refine core (fun b=>if b=a then some (.frz { cls:=.type "list",data:=.seq vs.toArray } (.lst (ns.map V.int))) else none) (fun b=>?_) (.inl (.inr ⟨{ cls:=.type "list",data:=.seq vs.toArray },if_pos rfl⟩)) (fun b u z=>?_) (fun b z=>?_) fun _=>hk
   · by_cases hb:b=a
     · exact .inr ⟨_,_,if_pos hb⟩
     · exact .inl (if_neg hb)
   · by_cases hb:b=a
     · have z':=(if_pos hb).symm.trans z;cases z';subst hb;exact⟨ha,by rw[List.length_map];exact hl,vs,_,rv,ha⟩
     · have z':=(if_neg hb).symm.trans z;cases z'
   · by_cases hb:b=a
     · exact hb
     · exact absurd (if_neg hb) z
theorem walk_of {l:PySem.W.OpenLaw}{n k:Nat}{q:Program}{loose:List Str}{XP:(Str->Option Value)->Heap->Prop}{YP:World->Heap->Prop}{d:DefRec}{K:Params->Frag}{CX:World->CXT}{sp:World->Sp}{x:Str}
   (hn:l.most=some n) (hn2:n≤sizeLine) (hdf:d.params.defaults=[]) (hr:Room k callerA)
   (hY:∀ (w:World) (h:Heap),YP w h->(K w.params).In h)
   (F:∀ (w:World) (mg:Str->Option Value) (fa:Addr) (h:Heap),(K w.params).In h->h.Ns mainGlobals mg->mg d.name=some (.ref fa) ->
     ∃ fd:FuncData,(∀ (s:Shared) (u:Value),BindsTo s fd ⟨[u],[]⟩ [(x,u)]) ∧
       ∀ base:Heap,(K w.params).In base->base.Ns mainGlobals mg->qx l.prog w (K w.params) mg base (CX w) k fa fd [x] (sp w))
   (hsp:∀ (w:World) (H:Hp) (a:Addr) (ns:List Int),ns.length≤n->qkf H->SqL (K w.params) H a (ns.map V.int)->sp w [.ref a] H (fun v _=>v=.bl true) fun _ _ _=>False)
   (hCX:∀ (w:World) (H:Hp) (s:Shared) (e:Value) (s':Shared),CX w [] H s (fun _ _ _=>False) e s'->False) :
   PySem.W.WalkO q loose XP YP l.row.toRowW d [] (fun f vs=>PySem.call f vs):=by
 refine Att.attach_call hn hdf fun w s₀ s₁ mg mb fa o pm cd doc a vs ns G Y ho hd hcd hmg hobj hints hlen hg=>?_;have KX:=hY w _ Y;obtain⟨fd,hb,hF⟩:=F w mg fa _ KX G.T.g hmg;exact law_call KX G.T.g G.T.b G.T.builtins G.T.nolimit hg hobj hints (Nat.le_trans hlen hn2) hr hF hb (fun H hO hS=>hsp w H a ns hlen hO hS) fun H e s'=>hCX w H s₁ e s'
def qR (s:Stmt) (j:Nat):Stmt:=match s with
 | .ClassDef _ _ _ body _ _ _ _ _ _ _=>body.getD j (.Pass ⟨0,0,0,0⟩)
 | _=>.Pass ⟨0,0,0,0⟩
def Qb (s:Stmt):Arguments:=match s with
 | .FunctionDef _ a _ _ _ _ _ _ _ _=>a
 | _=>{ posonlyargs:=[],args:=[],vararg:=none,kwonlyargs:=[],kw_defaults:=[],kwarg:=none,defaults:=[] }
def zK (s:Stmt):List Stmt:=match s with
 | .FunctionDef _ _ b _ _ _ _ _ _ _=>b
 | _=>[]
def qh (s:Stmt):Scope:=match s with
 | .FunctionDef _ _ _ _ _ _ sc _ _ _=>sc
 | _=>{ kind:=.function,names:=[],isGenerator:=false,isCoroutine:=false }
abbrev CX0:CXT:=fun _ _ _ _ _ _=>False
abbrev E0:XK:=fun _ _ _=>False
theorem qp {X:Cx}:jh CX0 X E0:=fun _ _ _ _ _ _ _ h=>h.elim
structure Fun (K:Frag) (x qual:Str) (st:Stmt) (f:Addr) (fd:FuncData):Prop where
 ex:∃ (oc:Value) (od:Option Addr) (kV doc pm:Value) (an:Option Addr) (cdv ct:Value) (osl:Array (Option Value)),
   fd=fnOf x qual (Qb st) (zK st) (qh st) .none kV doc pm an cdv ct∧K.lookup f=some ⟨oc,od,.func fd,osl⟩∧codeIn K cdv qual=true
 kp:keepIn K (.ref f)=true
section
variable {P:Program}{w:World}{K:Frag}{mg:Str->Option Value}{base:Heap}
theorem Fun.ok {x qual:Str}{st:Stmt}{f:Addr}{fd:FuncData}{N ps:List Str}{k:Nat}{sp:Sp} (F:Fun K x qual st f fd) (S:qo N ps (qh st)) (len:∀ vs H Q E,sp vs H Q E->vs.length=ps.length)
   (hbody:∀ (cdv:Value) (A:Around) (outer:List Env) (s:Shared) (H:Hp) (vs:List V) (Q:VK) (E:XK),Room k (A.deeper (envOfC qual (qh st) s.heap.objs.size f cdv))->sp vs H Q E ->
     ∃ t,PSs (qY CX0 P w K mg base N qual (qh st) f cdv A outer s H E).nox (zK st) t∧t { nx:=fun _ H'=>Q .non H',rt:=Q } (qaH N vs) H):qx P w K mg base CX0 (k+1) f fd ps sp:=by
 obtain⟨oc,od,kV,doc,pm,an,cdv,ct,osl,rfl,lk,hcd⟩:=F.ex;refine qjp lk hcd S len fun A outer s H vs Q E hr hsp=>?_;obtain⟨t,h,q⟩:=hbody cdv A outer s H vs Q E hr hsp;exact⟨t,h.nox,q⟩
theorem Fun.binds {x qual:Str}{st:Stmt}{f:Addr}{fd:FuncData}{ps:List Str} (F:Fun K x qual st f fd)
   (h:∀ (kV doc pm:Value) (an:Option Addr) (cdv ct:Value) (us:List Value),us.length=ps.length->bindArgs (fnOf x qual (Qb st) (zK st) (qh st) .none kV doc pm an cdv ct) ⟨us,[]⟩=pure (ps.zip us)):Binds K fd ps []:=by
 obtain⟨oc,od,kV,doc,pm,an,cdv,ct,osl,rfl,lk,hcd⟩:=F.ex;exact .all (h kV doc pm an cdv ct)
theorem qdq {x qual:Str}{st:Stmt}{f:Addr}{oc:Value}{od an:Option Addr}{osl:Array (Option Value)}{kV doc pm cdv ct:Value} (l:K.lookup f=some ⟨oc,od,.func (fnOf x qual (Qb st) (zK st) (qh st) .none kV doc pm an cdv ct),osl⟩)
   (c:codeIn K cdv qual=true) (k:keepIn K (.ref f)=true):Fun K x qual st f (fnOf x qual (Qb st) (zK st) (qh st) .none kV doc pm an cdv ct):=⟨⟨oc,od,kV,doc,pm,an,cdv,ct,osl,rfl,l,c⟩,k⟩
end
theorem qG {A:Around}{k:Nat} (hr:Room k A):A.units+1 < cLine:=Nat.lt_of_le_of_lt (Nat.add_le_add_left (by decide:1≤64) _) hr.units
theorem qD {n:Nat} (h:n≤1000):n < sizeLine:=Nat.lt_of_le_of_lt h (by decide)
section
variable {X:Cx}
theorem pv (i:Nat) {x:Str}{pos:Pos} (hN:X.N[i]?=some x:=by rfl) (hv:Vis X.env.scope x:=by first|exact Or.inl rfl|exact Or.inr (Or.inl rfl)|exact Or.inr (Or.inr rfl)) (hd:(x == ("__debug__":Str))=false:=by decide)
   (hcd:(x == ("__classdict__":Str))=false:=by decide):PE X (.Name x pos) (qie i):=qi0 hN hv hd hcd
theorem qb4:QN X (.builtin "len") (fun xs H Q=>∃ a kvs,xs=[V.ref a]∧H a=some (.dK kvs)∧Q (.int kvs.length) H):=by
 intro pins s σ H xs us Q I r h;obtain⟨a,kvs,rfl,ha,q⟩:=h;obtain⟨u,rfl,ru⟩:=ji r;cases ru;exact qka I (.inl ha) fun t s' I'=>⟨.int kvs.length,H,I',⟨t,rfl⟩,q⟩
end
theorem qcx {A B:Prop} (h:B):if false=true then A else B:=by
 rw[if_neg Bool.false_ne_true];exact h
theorem qa5 {A B:Prop} (h:A):if true=true then A else B:=by
 rw[if_pos rfl];exact h
def Same (H H':Hp):Prop:=∀ b o,H b=some o->H' b=some o
theorem Same.refl (H:Hp):Same H H:=fun _ _ h=>h
theorem Same.trans {H H1 H2:Hp} (a:Same H H1) (b:Same H1 H2):Same H H2:=fun c o h=>b c o (a c o h)
theorem Same.seq {K:Frag}{H H':Hp}{a:Addr}{xs:List V} (e:Same H H') (h:SqL K H a xs):SqL K H' a xs:=by
 rcases h with (h|⟨o,h⟩)|h
 · exact .inl (.inl (e _ _ h))
 · exact .inl (.inr ⟨o,e _ _ h⟩)
 · exact .inr h
section
variable {X:Cx}{pins:List (Addr×Obj)}{σ:St}{H:Hp}{s:Shared}{h':Heap}
theorem Inv.turnLaid {ch:List Addr}{a:Addr}{o:HO}{t':Nat} (I:Inv X pins σ H s) (k:∀ b u,b∉ch->s.heap.get? b=some u->h'.get? b=some u) (hf:∀ b∈ch,qd4 X pins H b)
   (hp:s.heap.objs.size≤a) (new:ObjOk X.prog X.w (upd H a o) h' a o):Inv X pins σ (upd H a o) { s with heap:=h',toks:=t' }:=by
 have hn:H a=none:=I.hok.fresh hp;refine I.step (g':=s.gens) (d':=s.drawn) (ch:=ch) (fun b hb=>?_) (fun b u _ _ hc e _=>k b u hc e) (fun b u _ _ hc e _=>⟨u.slots,k b u hc e⟩)
   (fun b u _ e n=>?_) (fun b u hc e=>⟨u,k b u hc e⟩) (fun b xs e=>?_) (fun b u v e=>?_) (fun b ps e=>?_) (fun m hm=>?_) (fun b u e=>?_) I.bare
 · obtain⟨_,f1,_,f3,f4,f5⟩:=hf b hb;exact⟨f3,f1,f4,f5⟩
 · rw[qg (Nat.ne_of_lt (Nat.lt_of_lt_of_le (Heap.lt_size e) hp))];exact n
 · rw[qg (qj e hn)];exact e
 · rw[qg (qj e hn)];exact e
 · exact⟨#[],by rw[qg (qj e hn),e];simp⟩
 · obtain⟨ob,es,ep,ho,r⟩:=hm;exact⟨ob,es,ep,k _ ob (fun z=>(hf _ z).2.1 rfl) ho,r⟩
 · by_cases hb:b=a
   · subst hb;rw[qc]at e;cases e;exact new
   · rw[qg hb]at e;refine(I.hok b u e).stay (fun c v hc q=>k c v ?_ q) (fun c q=>by rw[qg (qj q hn)];exact q) fun c xs q=>by rw[qg (qj q hn)];exact q
     intro z;have zz:=(hf c z).1;rcases hc with rfl|hc
     · rw[e]at zz;cases zz
     · rw[hc]at zz;cases zz
theorem Inv.turnL {ch:List Addr}{t':Nat} (I:Inv X pins σ H s) (k:∀ b u,b∉ch->s.heap.get? b=some u->h'.get? b=some u) (hf:∀ b∈ch,qd4 X pins H b) :
   Inv X pins σ H { s with heap:=h',toks:=t' }:=by
 refine I.step (g':=s.gens) (d':=s.drawn) (ch:=ch) (fun b hb=>?_) (fun b u _ _ hc e _=>k b u hc e) (fun b u _ _ hc e _=>⟨u.slots,k b u hc e⟩)
   (fun b u _ e n=>n) (fun b u hc e=>⟨u,k b u hc e⟩) (fun b xs e=>e) (fun b u v e=>e) (fun b ps e=>⟨#[],by rw[e];simp⟩) (fun m hm=>?_) (fun b u e=>?_) I.bare
 · obtain⟨_,f1,_,f3,f4,f5⟩:=hf b hb;exact⟨f3,f1,f4,f5⟩
 · obtain⟨ob,es,ep,ho,r⟩:=hm;exact⟨ob,es,ep,k _ ob (fun z=>(hf _ z).2.1 rfl) ho,r⟩
 · refine(I.hok b u e).stay (fun c v hc q=>k c v ?_ q) (fun c q=>q) fun c xs q=>q;intro z;have zz:=(hf c z).1;rcases hc with rfl|hc
   · rw[e]at zz;cases zz
   · rw[hc]at zz;cases zz
end
def Ite (K:Frag) (a:Addr):It :=
 ⟨fun i H=>∃ xs x,SqL K H a xs∧xs[i]?=some x,
  fun i H x H'=>∃ p v,H p=none∧x=.ref p∧(∀ xs,SqL K H a xs->xs[i]?=some v)∧H'=upd H p (.tup [.int i,v]),
  fun i H=>∃ xs,SqL K H a xs∧xs.length≤i⟩
theorem qee {P:Program}{w:World}{K:Frag}{elts:List Expr}{k:Nat}{pos:Pos} (a e it:Addr) (hne:e≠it) :
   qjy P w K (.Tuple elts k pos) (Ite K a) [e,it] e (fun i h=>(∃ old,IsEnum h e it i old)∧h.IsListIter it a i) where
 mem:=by simp
 obj:=fun i h st b hb=>by
   obtain⟨⟨old,he⟩,hit⟩:=st;rcases List.mem_cons.mp hb with rfl|hb
   · exact⟨_,he,fun v z=>by cases z⟩
   · have e1:b=it:=by simpa using hb
     subst e1;obtain⟨o,q,c,d⟩:=hit;exact⟨o,q,fun v z=>by rw[d]at z;cases z⟩
 keep:=fun i h h' st kk=>by
   obtain⟨⟨old,he⟩,hit⟩:=st;exact⟨⟨old,kk e (by simp) _ he⟩,hit.at fun o q=>kk it (by simp) o q⟩
 item:=by
   intro X hP hw hK hc i pins s σ H E I hf st hg;subst hP hw hK;obtain⟨xs,x,hq,hx⟩:=hg;obtain⟨its,rv,p,hz⟩:=I.list hq;obtain⟨u,hu,ru⟩:=rv.get hx;obtain⟨⟨old,he⟩,hit⟩:=st;refine wpAny_pyNext_enum_item he hit p.isList (x:=u) (by simpa using hu) hne fun h1 ho hit1 hT hsz hk=>?_;refine⟨_,rfl,wpAny_letOwnedTupleGo_enum (s:={ s with heap:=h1,toks:=s.toks+1 }) ho fun h2 he2 hs2=>?_⟩;have hel:e < s.heap.objs.size:=Heap.lt_size he;have hil:it < s.heap.objs.size:=by obtain⟨_,q,_⟩:=hit;exact Heap.lt_size q
   have hT2:h2.get? s.heap.objs.size=some { cls:=.type "tuple",data:=.seq #[.int i s.toks,u] }:=(hs2.2 _ (Nat.ne_of_gt hel)).trans hT
   have I1:Inv X pins σ (upd H s.heap.objs.size (.tup [.int i,x])) { s with heap:=h2,toks:=s.toks+1 }:=by
     refine I.turnLaid (ch:=[e,it]) (fun b o hb q=>?_) hf (Nat.le_refl _) ⟨by show 2≤sizeLine;decide,[.int i s.toks,u],.cons ⟨_,rfl⟩ (.cons ru .nil),⟨_,hT2,rfl,_,rfl⟩⟩;have b1:b≠e:=fun z=>hb (by simp[z]);have b2:b≠it:=fun z=>hb (by simp[z]);exact(hs2.2 b b1).trans (hk b o b1 b2 q)
   refine⟨.ref s.heap.objs.size,_,I1,rfl,⟨_,x,I.hok.fresh (Nat.le_refl _),rfl,fun ys hy=>by rw[I.list_inj hy hq];exact hx,rfl⟩,⟨⟨_,by simpa using he2⟩,hit1.at fun o q=>(hs2.2 it hne.symm).trans q⟩,fun b hb=>?_⟩
   have hbl:b < s.heap.objs.size:=by
     rcases List.mem_cons.mp hb with rfl|hb
     · exact hel
     · have e1:b=it:=by simpa using hb
       rw[e1];exact hil
   rw[qg (Nat.ne_of_lt hbl)];exact(hf b hb).1
 done:=by
   intro X hP hw hK hc i pins s σ H E I hf st hg;subst hP hw hK;obtain⟨xs,hq,hx⟩:=hg;obtain⟨its,rv,p,hz⟩:=I.list hq;obtain⟨⟨old,he⟩,hit⟩:=st;have hl:=rv.length;refine wpAny_pyNext_enum_end (I.ok.hd hc) he hit p.isList (by simp;omega) fun h' eb=>⟨rfl,I.turnL (t':=s.toks) (ch:=[e,it]) (fun b o hb q=>eb b o (fun z=>hb (by simp[z])) q) hf⟩
 self:=fun _ _ _ _ _ st h=>by
   obtain⟨⟨old,he⟩,_⟩:=st;exact wpAny_pyIter_enum he h
theorem qfG:bootBuiltins "enumerate"=some (.type "enumerate"):=by decide +kernel
inductive qfk (K:Frag) (R:(It->Hp->Prop)) (vs:List V) (H1:Hp):Prop
 | mk (a:_) (h1:vs=[.ref a]) (h2:(∃ xs,SqL K H1 a xs)) (h3:R (Ite K a) H1):qfk K R vs H1
def qj6 (K:Frag) (ta:TA):TI:=fun σ H R=>ta σ H fun vs H1=>qfk K R vs H1
section
variable {X:Cx}
theorem qhE {a:Expr}{ta:TA}{p pos tp:Pos}{elts:List Expr}{kk:Nat} (hg:Gl X "enumerate") (hm:X.mg "enumerate"=none) (ha:PA X [a] ta) (hs:starEach [a] X.env=[(false,eval a X.env)]:=by rfl) :
   PI X (.Tuple elts kk tp) (.Call (.Name "enumerate" p) [a] [] pos) (qj6 X.K ta):=by
 intro pins s σ H R I h;refine Call_ (Zd I hg hm qfG (PyProof.Rows.callWith_type1 (thn (ha pos pins s σ H _ I h) fun us s1 zz_=>?_) hs rfl));obtain⟨vs,H1,I1,r1,q1⟩:=zz_;obtain⟨l,e,⟨xs,hq⟩,q⟩:=q1;subst e;obtain⟨u,rfl,ru⟩:=ji r1;cases ru;obtain⟨its,rv,pl,hz⟩:=I1.list hq;refine call_enumerate_list pl.isList fun h' he hit hsz hk=>?_;have I2:Inv X pins σ H1 { s1 with heap:=h' }:=I1.kept (t':=s1.toks) hk;refine wpAny_pyIter_enum he ⟨s1.heap.objs.size+1,[s1.heap.objs.size+1,s1.heap.objs.size],_,Ite X.K l,H1,rfl,I2,qee l _ _ (Nat.succ_ne_self _),⟨⟨_,he⟩,hit⟩,fun b hb=>?_,q⟩
 have hb1:s1.heap.objs.size≤b:=by
   rcases List.mem_cons.mp hb with e1|hb
   · rw[e1];exact Nat.le_succ _
   · have e1:b=s1.heap.objs.size:=by simpa using hb
     rw[e1];exact Nat.le_refl _
 exact I1.fpOk hb1 (I1.hok.fresh hb1)
end
theorem qgq {K:Frag}{a:Addr}{xs:List V}{g:TG}{tb:TS}{D:qd7}{σ:St}{H:Hp} (Pv:Nat->St->Hp->Prop) (h0:Pv 0 σ H) (hl:∀ i σ H,i≤xs.length->Pv i σ H->SqL K H a xs)
   (hs:∀ i x σ H p,xs[i]?=some x->Pv i σ H->H p=none->g (.ref p) σ (upd H p (.tup [.int i,x])) fun σ2 H2=>tb { D with nx:=Pv (i+1),ct:=Pv (i+1),bk:=D.nx } σ2 H2) (hd:∀ σ H,Pv xs.length σ H->D.nx σ H) :
   ∃ W:Nat->Nat->St->Hp->Prop,(∃ m,W 0 m σ H)∧∀ i m σ H,W i m σ H ->
     ((Ite K a).stop i H∧D.nx σ H)∨((Ite K a).go i H∧∃ N:St->Hp->Prop,(∀ σ' H',N σ' H'->∃ m',m' < m∧W (i+1) m' σ' H')∧∀ x H',(Ite K a).yld i H x H'->g x σ H' fun σ2 H2=>tb { D with nx:=N,ct:=N,bk:=D.nx } σ2 H2):=by
 refine⟨fun i m σ H=>m=xs.length - i∧i≤xs.length∧Pv i σ H,⟨xs.length,by simp,Nat.zero_le _,h0⟩,?_⟩;rintro i m σ H ⟨rfl,hi,p⟩;have q:=hl i σ H hi p;by_cases hlt:i < xs.length
 · refine .inr ⟨⟨xs,xs[i],q,by simp[hlt]⟩,Pv (i+1),fun σ' H' p'=>⟨xs.length - (i+1),by omega,rfl,hlt,p'⟩,fun x H' y=>?_⟩;obtain⟨t,v,hn,rfl,y,rfl⟩:=y;exact hs i v σ _ t (y xs q) p hn
 · have e:i=xs.length:=by omega
   subst e;exact .inl ⟨⟨xs,q,Nat.le_refl _⟩,hd σ H p⟩
def tyN (H:Hp):V->Option String
 | .non=>some "NoneType"
 | .bl _=>some "bool"
 | .int _=>some "int"
 | .str _=>some "str"
 | .ref a=>match H a with
   | some (.lst _)=>some "list"
   | some (.tup _)=>some "tuple"
   | some (.dK _)=>some "dict"
   | _=>none
 | _=>none
def qkt (c t:String):Bool:=t == c || (t == "bool" && c == "int")
theorem qfS {K:Frag}{H:Hp}{v:V}{t:String} (h:tyN H v=some t):qcd K H v (.type t):=by
 cases v with
 | non=>cases h;exact .non
 | bl b=>cases h;exact .bl b
 | int b=>cases h;exact .int b
 | str b=>cases h;exact .str b
 | byt b=>cases h
 | flt b=>cases h
 | ty b=>cases h
 | ref a =>
   simp only[tyN]at h;split at h
   · rename_i e;cases h;exact .lst e
   · rename_i e;cases h;exact .tup e
   · rename_i e;cases h;exact .dK e
   · cases h
def qci:List String:=["NoneType","bool","int","str","list","tuple","dict"]
theorem qhf {H:Hp}{v:V}{t:String} (h:tyN H v=some t):t∈qci:=by
 cases v with
 | non=>cases h;decide
 | bl b=>cases h;decide
 | int b=>cases h;decide
 | str b=>cases h;decide
 | byt b=>cases h
 | flt b=>cases h
 | ty b=>cases h
 | ref a =>
   simp only[tyN]at h;split at h<;>first|(cases h;decide)|cases h
def qa6:List String:=["bool","int","str","list","tuple","dict"]
theorem qjj (K:Frag) {t c:String} (ht:t∈qci) (hc:c∈qa6):kitOne K (.type t) (.type c)=some (qkt c t):=by
 simp only[qci,qa6,List.mem_cons,List.not_mem_nil,or_false]at ht hc;rcases ht with rfl|rfl|rfl|rfl|rfl|rfl|rfl<;>rcases hc with rfl|rfl|rfl|rfl|rfl|rfl<;>(unfold kitOne PySem.W.kitCls;rfl)
inductive qgO (xs:List V) (H:Hp) (Q:VK):Prop
 | mk (x c t:_) (h1:xs=[x,.ty c]) (h2:c∈qa6) (h3:tyN H x=some t) (h4:Q (.bl (qkt c t)) H):qgO xs H Q
def qkJ:List V->Hp->VK->Prop:=fun xs H Q=>qgO xs H Q
section
variable {X:Cx}
theorem Qz:QN X (.builtin "isinstance") qkJ:=by
 intro pins s σ H xs us Q I r h;obtain⟨x,c,t,rfl,hc,ht,q⟩:=h;obtain⟨u,w',rfl,ru,rw'⟩:=qec r;cases (show w'=Value.type c from rw');exact qbW I ru (qfS ht) (qjj X.K (qhf ht) hc) fun tk=>⟨.bl _,H,I.tok tk,rfl,q⟩
end
mutual
inductive DV (H:Hp):V->PyData->Prop
 | non:DV H .non .none
 | bl (b):DV H (.bl b) (.bool b)
 | int (i):DV H (.int i) (.int i)
 | str (x):DV H (.str x) (.str x)
 | lst {a xs ds}:Rd H a (.lst xs)->DVs H xs ds->DV H (.ref a) (.list ds)
 | tup {a xs ds}:Rd H a (.tup xs)->DVs H xs ds->DV H (.ref a) (.tuple ds)
inductive DVs (H:Hp):List V->List PyData->Prop
 | nil:DVs H [] []
 | cons {x xs d ds}:DV H x d->DVs H xs ds->DVs H (x::xs) (d::ds)
end
section
variable {P:Program}{w:World}{H:Hp}{h:Heap}
mutual
theorem DV.reads (ok:HOk P w H h):∀ {v:V}{d:PyData}{u:Value},DV H v d->RelV v u->∃ as,Reads h u d as
 | _,_,u,.non,r=>by cases (show u=Value.none from r);exact⟨_,.none⟩
 | _,_,u,.bl b,r=>by cases (show u=Value.bool b from r);exact⟨_,.bool b⟩
 | _,_,u,.int i,r=>by obtain⟨t,q⟩:=(show ∃ t,u=Value.int i t from r);cases q;exact⟨_,.int i t⟩
 | _,_,u,.str x,r=>by obtain⟨t,q⟩:=(show ∃ t,u=Value.str x t from r);cases q;exact⟨_,.str x t⟩
 | _,_,u,.lst (a:=a) rd q,r=>by
   cases (show u=Value.ref a from r);obtain⟨_,its,n,rv,e⟩:=rd.ok ok;obtain⟨as,z⟩:=DVs.reads ok q rv;exact⟨_,.list e rfl rfl z⟩
 | _,_,u,.tup (a:=a) rd q,r=>by
   cases (show u=Value.ref a from r);obtain⟨_,its,rv,ob,e,c,n,d⟩:=rd.ok ok;obtain⟨as,z⟩:=DVs.reads ok q rv;exact⟨_,.tuple e c d z⟩
theorem DVs.reads (ok:HOk P w H h):∀ {vs:List V}{ds:List PyData}{us:List Value},DVs H vs ds->Vals vs us->∃ as,ReadsAll h us ds as
 | _,_,_,.nil,.nil=>⟨_,.nil⟩
 | _,_,_,.cons a b,.cons r t=>by
   obtain⟨as,z⟩:=DV.reads ok a r;obtain⟨bs,y⟩:=DVs.reads ok b t;exact⟨_,.cons z y⟩
end
end
section
variable {X:Cx}
inductive qgQ (x:V) (y:V) (H:Hp) (Q:VK):Prop
 | mk (d e:_) (h1:DV H x d) (h2:DV H y e) (h3:SeqAt.shaped d=true) (h4:SeqAt.shaped e=true) (h5:Q (.bl (PyData.eqv d e)) H):qgQ x y H Q
def qkq:R2:=fun x y H Q=>qgQ x y H Q
inductive qgK (x:V) (y:V) (H:Hp) (Q:VK):Prop
 | mk (d e:_) (h1:DV H x d) (h2:DV H y e) (h3:SeqAt.shaped d=true) (h4:SeqAt.shaped e=true) (h5:Q (.bl (!PyData.eqv d e)) H):qgK x y H Q
def qkk:R2:=fun x y H Q=>qgK x y H Q
theorem qi5 (hu:X.A.units+64 < cLine):OpR X (compareOp .Eq) qkq:=by
 intro pins s σ H x y v u Q I rx ry h;obtain⟨d,e,hd,he,sd,se,q⟩:=h;obtain⟨as,ra⟩:=hd.reads I.hok rx;obtain⟨bs,rb⟩:=he.reads I.hok ry;exact eq_dataH ra rb sd se hu ⟨.bl _,H,I,rfl,q⟩
theorem qi4 (hu:X.A.units+64 < cLine):OpR X (compareOp .NotEq) qkk:=by
 intro pins s σ H x y v u Q I rx ry h;obtain⟨d,e,hd,he,sd,se,q⟩:=h;obtain⟨as,ra⟩:=hd.reads I.hok rx;obtain⟨bs,rb⟩:=he.reads I.hok ry;exact ne_dataH ra rb sd se hu ⟨.bl _,H,I,rfl,q⟩
def qjY:R2:=fun x y H Q=>rI0 (fun i j=>.int (i+j)) x y H Q∨qkr x y H Q∨∃ i j,x=.str i∧y=.str j∧i.length+j.length≤sizeLine∧Q (.str (i++j)) H
theorem z8:OpR X (binaryOp .Add) qjY:=op_add.or (op_cat.or qdI)
def qkp:R2:=fun x y H Q=>rEq x y H Q∨qkq x y H Q
def qjW:R2:=fun x y H Q=>rNe x y H Q∨qkk x y H Q
theorem uEq (hU:X.A.units+64 < cLine):OpR X (compareOp .Eq) qkp:=op_eq.or (qi5 hU)
theorem uNe (hU:X.A.units+64 < cLine):OpR X (compareOp .NotEq) qjW:=op_ne.or (qi4 hU)
end
theorem qcE:bootBuiltins "tuple"=some (.type "tuple"):=by decide +kernel
theorem zc:bootBuiltins "list"=some (.type "list"):=by decide +kernel
theorem jf:bootBuiltins "int"=some (.type "int"):=by decide +kernel
theorem qd1:bootBuiltins "bool"=some (.type "bool"):=by decide +kernel
theorem qb5:bootBuiltins "str"=some (.type "str"):=by decide +kernel
theorem qv:bootBuiltins "len"=some (.builtin "len"):=by decide +kernel
theorem JQ:bootBuiltins "min"=some (.builtin "min"):=by decide +kernel
theorem qr:bootBuiltins "isinstance"=some (.builtin "isinstance"):=by decide +kernel
structure Df (K:Frag) (mg:Str->Option Value) (x:Str) (st:Stmt) (ps:List Str) (f:Addr) (fd:FuncData):Prop where
 F:Fun K x x st f fd
 b:Binds K fd ps []
 m:mg x=some (.ref f)
 k:keepIn K (.ref f)=true
theorem Same.new {H:Hp}{p:Addr} (o:HO) (h:H p=none):Same H (upd H p o):=fun b u e=>by rw[qg (qj e h)];exact e
theorem Same.then {H H1:Hp} (s:Same H H1) {p:Addr} (o:HO) (h:H1 p=none):Same H (upd H1 p o):=s.trans (Same.new o h)
def But (p:Addr) (H H':Hp):Prop:=∀ b o,H b=some o->b≠p->H' b=some o
theorem But.refl (p:Addr) (H:Hp):But p H H:=fun _ _ h _=>h
theorem But.put {p:Addr}{H H1:Hp} (s:But p H H1) (o:HO):But p H (upd H1 p o):=fun b u e n=>by rw[qg n];exact s b u e n
theorem qk {n:Nat} (h:n≤1000):n≤sizeLine:=Nat.le_of_lt (qD h)
theorem Qw {b:Bool}{A B:Prop} (e:b=false) (h:B):if b=true then A else B:=by rw[e];exact qcx h
theorem qhX {b:Bool}{A B:Prop} (e:b=true) (h:A):if b=true then A else B:=by rw[e];exact qa5 h
theorem qkO {b:Bool}{A B:Prop} (h1:b=true->A) (h2:b=false->B):if b=true then A else B:=by
 cases b
 · exact qcx (h2 rfl)
 · exact qa5 (h1 rfl)
theorem jr {c A B:Prop} [Decidable c] (h1:c->A) (h2:¬ c->B):if (decide c)=true then A else B:=by
 by_cases h:c
 · rw[decide_eq_true h];exact qa5 (h1 h)
 · rw[decide_eq_false h];exact qcx (h2 h)
theorem jX {c A B:Prop} [Decidable c] (h1:¬ c->A) (h2:c->B):if (!decide c)=true then A else B:=by
 by_cases h:c
 · rw[decide_eq_true h];exact qcx (h2 h)
 · rw[decide_eq_false h];exact qa5 (h1 h)
section
variable {prog:Program}{w:World}{A:Around}{R:Result->Shared->Prop}{s:Shared}
abbrev noE:Value->Shared->Prop:=fun _ _=>False
theorem JO {elt target iter:Expr}{ifs:List Expr}{scope:Scope}{pos:Pos}{it acc:Value}{env:Env} (I:Nat->Shared->Prop)
   (turn:∀ n s,I n s->wpAny (model prog w) A (pyNext it) (fun r s₁=>match r with
     | none=>R (.ok .next) s₁
     | some v=>wpAny (model prog w) A (letOwnedTupleGo target it v) (fun _ s₀=>wpAny (model prog w) A (assign target env v) (fun _ s₂ =>
         wpAny (model prog w) A (forIn ifs true fun c r=>if r=true then do let ok ← isTrue c env (eval c env);pure (ForInStep.yield ok) else pure (ForInStep.yield r)) (fun ok s₃ =>
           if ok=true then wpAny (model prog w) A (eval elt env) (fun x s₄ =>
             wpAny (model prog w) A (call (.builtin "list.append") [acc,x]) (fun _ s₅=>∃ m,m < n∧I m s₅) noE s₄) noE s₃
           else ∃ m,m < n∧I m s₃) noE s₂) noE s₀) noE s₁) noE s)
   (n:Nat) (h:I n s) :
   codeAny (model prog w) A (.compLoop (.ListComp elt [⟨target,iter,ifs,0⟩] scope pos) 0 it acc env) R s:=by
 refine codeAny_loop rfl I (fun n s hI=>?_) n h;show wpAny _ A ((compTurn (.ListComp elt [⟨target,iter,ifs,0⟩] scope pos) 0 it acc env).onRaise (fun x=>do noteFrame x env;theTreesLotGoes x)) _ _ s;refine wpAny_noted ?_;rw[compTurn_list];refine wpAny_bind (wpAny_standAt (wpAny_bind (wpAny_mono (turn n s hI) (fun r s₁ h₁=>?_) fun _ _ h'=>h'.elim)))
 cases r with
 | none=>exact wpAny_pure h₁
 | some v =>
   refine wpAny_bind (wpAny_mono h₁ (fun _ s₀ h₀=>?_) fun _ _ h'=>h'.elim);refine wpAny_bind (wpAny_mono h₀ (fun _ s₂ h₂=>wpAny_bind (wpAny_mono h₂ (fun ok s₃ h₃=>?_) fun _ _ h'=>h'.elim)) fun _ _ h'=>h'.elim)
   cases ok with
   | false=>exact wpAny_pure ⟨rfl,h₃⟩
   | true =>
     exact wpAny_bind (wpAny_bind (wpAny_mono h₃ (fun x s₄ h₄=>wpAny_bind (wpAny_mono h₄ (fun _ s₅ h₅=>wpAny_pure (wpAny_pure ⟨rfl,h₅⟩)) fun _ _ h'=>h'.elim)) fun _ _ h'=>h'.elim))
end
def qU (X:Cx) (scope:Scope) (N:List Str) (cl:List (Str×Addr)) (C:Addr) (s₀:Shared) (H₀:Hp) (ex:List Addr) (pn:List (Addr×Obj)):Cx where
 prog:=X.prog
 w:=X.w
 K:=X.K
 mg:=X.mg
 base:=X.base
 A:=X.A
 N:=N
 s₀:=s₀
 H₀:=H₀
 env:=compEnvC scope cl C X.env
 outer:=X.stack
 stack:=X.stack
 ex:=ex
 fn:=fun x=>!(cl.lookup x).isSome
 calm:=X.calm
 pn:=pn
 xe:=noE
def st0 (js:List (Option Nat)) (σ:St):St:=js.map fun o=>o.bind fun j=>(σ[j]?).join
def PTs (X:Cx) (ifs:List Expr) (t:TT):Prop :=
 ∀ (pins:List (Addr×Obj)) (s:Shared) (σ:St) (H:Hp) (Q:Bool->Hp->Prop),Inv X pins σ H s->t σ H Q ->
   wpAny (model X.prog X.w) X.A (forIn ifs true fun c r=>if r=true then do let ok ← isTrue c X.env (eval c X.env);pure (ForInStep.yield ok) else pure (ForInStep.yield r)) (TP X pins σ Q) X.xe s
def qkB:TT:=fun _ H Q=>Q true H
theorem zU {X:Cx}:PTs X [] qkB:=fun _ _ _ H _ I h=>wpAny_tests_nil ⟨H,I,h⟩
theorem qaV {X:Cx}{c:Expr}{t:TT} (h:PT X c t):PTs X [c] t:=fun pins s σ H Q I q=>wpAny_tests_one (h pins s σ H Q I q)
def jZ (J:It) (g:TG) (tt:TT) (te:TE) (D:Addr) (Q:VK) (σ0:St) (H0:Hp):Prop :=
 ∃ W:Nat->Nat->St->Hp->Prop,(∃ m,W 0 m σ0 H0)∧∀ i m σ' H',W i m σ' H' ->
   (J.stop i H'∧Q (.ref D) H')∨(J.go i H'∧∃ N:St->Hp->Prop,(∀ σ2 H2,N σ2 H2->∃ m',m' < m∧W (i+1) m' σ2 H2) ∧
     ∀ x H2,J.yld i H' x H2->g x σ' H2 fun σ3 H3=>tt σ3 H3 fun ok H4=>if ok=true then te σ3 H4 fun y H5=>∃ ys,H5 D=some (.lst ys)∧ys.length < sizeLine∧N σ3 (upd H5 D (.lst (ys++[y]))) else N σ3 H4)
def qiE (wi:TI) (g:TG) (tt:TT) (te:TE) (js:List (Option Nat)):TE:=fun σ H Q=>wi σ H fun J H1=>∀ D,H1 D=none->jZ J g tt te D Q (st0 js σ) (upd H1 D (.lst []))
structure CompOk (X:Cx) (scope:Scope) (N:List Str) (cl:List (Str×Addr)) (js:List (Option Nat)):Prop where
 clos:closureFor scope X.env=pure cl
 sub:∀ x c,cl.lookup x=some c->X.env.cells.lookup x=some c
 all:∀ x,((relabel scope X.env).names.lookup x=some .cell∨(relabel scope X.env).names.lookup x=some .free)->∃ c,cl.lookup x=some c
 cell:∀ y∈scope.names,y.2≠.cell
 kind:scope.kind=.function
 names:∀ y∈scope.names,y.2=.local->scope.names.lookup y.1=some .local
 len:js.length=N.length
 fr:∀ (i j:Nat) (x:Str),js[i]?=some (some j)->N[i]?=some x->X.N[j]?=some x∧X.env.kindOf x=some .cell∧((relabel scope X.env).names.lookup x=some .cell∨(relabel scope X.env).names.lookup x=some .free)
section
variable {X:Cx}
theorem qhp {js:List (Option Nat)}{σ:St}{i:Nat}{v:V} (h:(st0 js σ)[i]?=some (some v)):∃ j,js[i]?=some (some j)∧σ[j]?=some (some v):=by
 unfold st0 at h;rw[List.getElem?_map]at h
 cases e:js[i]? with
 | none=>rw[e]at h;cases h
 | some o =>
   rw[e]at h
   cases o with
   | none=>cases h
   | some j =>
     refine⟨j,rfl,?_⟩;have h':(σ[j]?).join=some v:=by simpa using h
     cases e2:σ[j]? with
     | none=>rw[e2]at h';cases h'
     | some o2=>rw[e2]at h';cases o2 with
       | none=>cases h'
       | some u=>rw[show u=v by simpa using h']
theorem qh8 {pins:List (Addr×Obj)}{σ:St}{H:Hp}{s:Shared}{scope:Scope}{N:List Str}{cl:List (Str×Addr)}{js:List (Option Nat)}{C:Addr}{fp:List Addr} (k:CompOk X scope N cl js) (I:Inv X pins σ H s)
   (hf:∀ b∈fp,qd4 X pins H b) (hfl:∀ b∈fp,b < s.heap.objs.size) (hC:s.heap.objs.size≤C):(qU X scope N cl C s H fp (X.pn++pins)).Ok where
 mod:=I.ok.mod
 kind:=k.kind
 glob:=I.ok.glob
 blt:=I.ok.blt
 above:=hC
 inj:=fun x y c h1 h2=>I.ok.inj x y c (k.sub _ _ h1) (k.sub _ _ h2)
 has:=fun x h=>k.all x h
 cab:=fun x c h1 h2=>by
   have h1':(!(cl.lookup x).isSome)=true:=h1;have h2':cl.lookup x=some c:=h2;rw[h2']at h1';cases h1'
 hd:=I.ok.hd
 frames:=I.ok.frames
 stk:=.inl rfl
 exf:=fun b hb=>⟨Nat.ne_of_lt (Nat.lt_of_lt_of_le (hfl b hb) hC),fun x c h=>(hf b hb).2.2.2.2.1 x c (k.sub _ _ h)⟩
 bs:=I.bs
 bsz:=Nat.le_trans I.ok.bsz I.sz
 noex:=fun b o e hb=>by
   rcases (hf b hb).2.2.2.1 with z|z
   · exact I.ok.noex b o e z
   · exact absurd (Nat.lt_of_lt_of_le (Heap.lt_size e) (Nat.le_trans I.ok.bsz z)) (Nat.lt_irrefl _)
 exfs:=fun b hb z=>by
   rcases List.mem_cons.mp (I.stkSub b z) with e|e
   · exact(hf b hb).2.1 e
   · exact(hf b hb).2.2.1 e
 funs:=I.stack
 frf:=I.stkFree
theorem qds {pins:List (Addr×Obj)}{σ:St}{H:Hp}{s:Shared}{h1:Heap}{t':Nat}{scope:Scope}{N:List Str}{cl:List (Str×Addr)}{js:List (Option Nat)}{C D:Addr}{fp:List Addr}{m:Str->Option Value} (k:CompOk X scope N cl js) (I:Inv X pins σ H s)
   (hf:∀ b∈fp,qd4 X pins H b) (hfl:∀ b∈fp,b < s.heap.objs.size) (hD:s.heap.objs.size≤D) (hC:s.heap.objs.size≤C) (hDC:D≠C)
   (hn:h1.Ns C m) (hl:h1.get? D=some { cls:=.type "list",data:=.seq ([]:List Value).toArray }) (hk:∀ b o,s.heap.get? b=some o->h1.get? b=some o) :
   Inv (qU X scope N cl C s H fp (X.pn++pins)) [] (st0 js σ) (upd H D (.lst [])) { s with heap:=h1,toks:=t' }:=by
 have fD:H D=none:=I.hok.fresh hD;have fC:H C=none:=I.hok.fresh hC;have nC:∀ b,b < s.heap.objs.size->b≠C:=fun b hb=>Nat.ne_of_lt (Nat.lt_of_lt_of_le hb hC);refine⟨qh8 k I hf hfl hC,rfl,I.bare,?_,?_,?_,?_,?_,?_,?_,?_⟩
 · exact(Un.laid (fs:=frs X.stack) (ex:=fp) (o:=.lst []) hk hD fD)
 · refine⟨m,hn,fun i x v e1 e2 e3=>?_⟩;obtain⟨j,f1,f2⟩:=qhp e2;obtain⟨g1,g2,g3⟩:=k.fr i j x f1 e1;obtain⟨m',hn',hl'⟩:=I.loc;obtain⟨u,ru,lk⟩:=hl' j x v g1 f2 (.inr (.inl g2));refine⟨u,ru,.inr ⟨g3,?_⟩⟩;obtain⟨c,hc⟩:=k.all x g3;rcases lk with ⟨z,_⟩|⟨_,c',hc',ic⟩
   · rw[g2]at z;cases z
   · have e:=k.sub _ _ hc;rw[hc']at e;cases e;obtain⟨o,ho,hd⟩:=ic;exact⟨c,hc,o,hk _ _ ho,hd⟩
 · intro x c h;obtain⟨v,o,ho,hd⟩:=I.cell x c (k.sub _ _ h);exact⟨v,o,hk _ _ ho,hd⟩
 · show (upd H D (.lst [])) C=none;rw[qg hDC.symm];exact fC
 · intro x c h;obtain⟨v,o,ho,hd⟩:=I.cell x c (k.sub _ _ h);rw[qg (Nat.ne_of_lt (Nat.lt_of_lt_of_le (Heap.lt_size ho) hD))];exact I.freeC x c (k.sub _ _ h)
 · intro p hp;have hp':p∈X.pn++pins:=by simpa[qU] using hp
   obtain⟨e,n,ne,nf,d⟩:=I.pin p hp';have lt:=Heap.lt_size e;refine⟨hk _ _ e,by rw[qg (Nat.ne_of_lt (Nat.lt_of_lt_of_le lt hD))];exact n,nC _ lt,fun z=>?_,d⟩;rcases List.mem_cons.mp (I.stkSub _ z) with e|e
   · exact ne e
   · exact nf e
 · exact I.hok.laid hk hD ⟨Nat.zero_le _,[],0,.nil,hl⟩
 · show (st0 js σ).length=N.length;unfold st0;rw[List.length_map];exact k.len
theorem zA {elt iter tg:Expr}{ifs:List Expr}{scope:Scope}{pos:Pos}{wi:TI}{g:TG}{tt:TT}{te:TE}{N:List Str}{cl:List (Str×Addr)}{js:List (Option Nat)} (hc:X.calm=true) (k:CompOk X scope N cl js) (hi:PI X tg iter wi)
   (hg:∀ C s₀ H₀ ex pn,PG (qU X scope N cl C s₀ H₀ ex pn) tg g) (ht:∀ C s₀ H₀ ex pn,PTs (qU X scope N cl C s₀ H₀ ex pn) ifs tt) (he:∀ C s₀ H₀ ex pn,PE (qU X scope N cl C s₀ H₀ ex pn) elt te)
   (hs:∀ x,foldedSetIterable iter X.env x=pure x:=by intro _;rfl) :
   PE X (.ListComp elt [⟨tg,iter,ifs,0⟩] scope pos) (qiE wi g tt te js):=by
 intro pins s σ H Q I h;rw[eval_ListComp];refine wpAny_comprehension_free (use:=none) rfl hs k.clos k.kind k.names ?_;refine thn (hi pins s σ H _ I h) fun v s1 h1=>thn h1 fun itv s2 h2=>?_;obtain⟨it,fp,tn,J,H2,e,I2,T,st2,f2,hD⟩:=h2;subst e;refine wpAny_newObj_type (wpAny_newFunctionEnv k.cell (by intro y hy;simp at hy) (fun h₁ hns₁ hsb₁=>?_) k.kind);dsimp only at hns₁ hsb₁ ⊢;generalize hH2:s2.heap.push { cls:=.type "list",dict:=none,data:=.seq ([]:List Value).toArray }=P2 at hns₁ hsb₁ ⊢;have hC:P2.objs.size=s2.heap.objs.size+1:=by rw[← hH2,Heap.size_push]
 have hDC:s2.heap.objs.size≠P2.objs.size:=by rw[hC];exact Nat.ne_of_lt (Nat.lt_succ_self _)
 have hCle:s2.heap.objs.size≤P2.objs.size:=by rw[hC];exact Nat.le_succ _
 have old:∀ b o,s2.heap.get? b=some o->h₁.get? b=some o:=fun b o e=>hsb₁.extBut b o (Nat.ne_of_lt (Nat.lt_of_lt_of_le (Heap.lt_size e) hCle)) (Heap.get?_push_of_some _ (hH2▸Heap.get?_push_of_some _ e));have hacc:h₁.get? s2.heap.objs.size=some { cls:=.type "list",data:=.seq ([]:List Value).toArray }:=hsb₁.extBut _ _ hDC (Heap.get?_push_of_some _ (hH2▸Heap.get?_push_size _ rfl))
 have hfl:∀ b∈fp,b < s2.heap.objs.size:=fun b hb=>by
   obtain⟨o,e,_⟩:=T.obj _ _ st2 b hb;exact Heap.lt_size e
 have fD:H2 s2.heap.objs.size=none:=I2.hok.fresh (Nat.le_refl _);obtain⟨W,⟨m0,w0⟩,turn⟩:=hD _ fD
 have IX:Inv (qU X scope N cl P2.objs.size s2 H2 fp (X.pn++pins)) [] (st0 js σ) (upd H2 s2.heap.objs.size (.lst [])) { s2 with heap:=h₁,toks:=s2.toks+([]:List (Str×Value)).length } :=
   qds k I2 f2 hfl (Nat.le_refl _) hCle hDC hns₁ hacc old
 have hg':=hg P2.objs.size s2 H2 fp (X.pn++pins);have ht':=ht P2.objs.size s2 H2 fp (X.pn++pins);have he':=he P2.objs.size s2 H2 fp (X.pn++pins)
 have stat:∀ {H':Hp},(∀ b∈fp,H' b=none)->∀ b∈fp,qd4 (qU X scope N cl P2.objs.size s2 H2 fp (X.pn++pins)) [] H' b:=fun hn b hb=>by
   obtain⟨g0,g1,g2,g3,g4,g5⟩:=f2 b hb;refine⟨hn b hb,Nat.ne_of_lt (Nat.lt_of_lt_of_le (hfl b hb) hCle),fun z=>?_,.inl hb,fun x c h=>g4 x c (k.sub _ _ h),fun p hp=>g5 p (by simpa[qU] using hp)⟩;rcases List.mem_cons.mp (I2.stkSub b z) with e|e
   · exact g1 e
   · exact g2 e
 have loop:∀ s₃:Shared,s₃={ s2 with heap:=h₁,toks:=s2.toks+([]:List (Str×Value)).length } ->
     codeAny (model X.prog X.w) X.A (.compLoop (.ListComp elt [⟨tg,iter,ifs,0⟩] scope pos) 0 (.ref it) (.ref s2.heap.objs.size) (compEnvC scope cl P2.objs.size X.env))
       (compPost (model X.prog X.w) X.A X.xe none (EP X pins σ Q) (.ref s2.heap.objs.size) P2.objs.size) s₃:=by
   rintro s₃ rfl;refine JO (fun n s'=>∃ i σ' H',Inv (qU X scope N cl P2.objs.size s2 H2 fp (X.pn++pins)) [] σ' H' s'∧tn i s'.heap∧(∀ b∈fp,H' b=none)∧W i n σ' H') ?_ m0
     ⟨0,st0 js σ,_,IX,T.keep _ _ _ st2 (fun b hb o e=>old b o e),fun b hb=>by rw[qg (Nat.ne_of_lt (hfl b hb))];exact(f2 b hb).1,w0⟩
   rintro n s3 ⟨i,σ3,H3,I3,st3,fr3,w3⟩;rcases turn i n σ3 H3 w3 with ⟨stop,qn⟩|⟨go,N2,hN,step⟩
   · refine thn (T.done (qU X scope N cl P2.objs.size s2 H2 fp (X.pn++pins)) rfl rfl rfl hc i [] s3 σ3 H3 noE I3 (stat fr3) st3 stop) fun r s4 ⟨hr,I4⟩=>?_;subst hr;obtain⟨m4,hn4,_⟩:=id I4.loc;refine⟨m4,hn4,fun h' hsb=>⟨.ref s2.heap.objs.size,H3,?_,rfl,qn⟩⟩;have u4:Un (frs X.stack) fp H2 H3 s2.heap s4.heap:=I4.base;have ltC:∀ b o,s2.heap.get? b=some o->b≠P2.objs.size:=fun b o e=>Nat.ne_of_lt (Nat.lt_of_lt_of_le (Heap.lt_size e) hCle)
     have u5:Un (frs X.stack) fp H2 H3 s2.heap h' :=
       { keep:=fun b o e n hb hx=>hsb.extBut b o (ltC b o e) (u4.keep b o e n hb hx)
         slot:=fun b o e n hb hx=>by
           obtain⟨sl,q⟩:=u4.slot b o e n hb hx;exact⟨sl,hsb.extBut b _ (ltC b o e) q⟩
         free:=u4.free
         there:=fun b o e hx=>by
           obtain⟨o',q⟩:=u4.there b o e hx;exact⟨o',hsb.extBut b _ (ltC b o e) q⟩
         tups:=u4.tups
         frzs:=u4.frzs
         tbls:=u4.tbls }
     have fC:H3 P2.objs.size=none:=I4.free
     have hok5:HOk X.prog X.w H3 h':=fun b u e=>(I4.hok b u e).stay (fun c v hc' q=>hsb.extBut c v (fun z=>by
       rcases hc' with y|y
       · rw[y]at z;rw[z,fC]at e;cases e
       · rw[z,fC]at y;cases y) q) (fun _ q=>q) fun _ _ q=>q
     exact I2.call' (s':={ s4 with heap:=h' }) I4.os u5 hok5 I4.bare fun b hb=>by
       obtain⟨g0,g1,g2,g3,g4,g5⟩:=f2 b hb;exact⟨g3,g1,g4,g5⟩
   · refine thn (T.item (qU X scope N cl P2.objs.size s2 H2 fp (X.pn++pins)) rfl rfl rfl hc i [] s3 σ3 H3 noE I3 (stat fr3) st3 go) fun r s4 ⟨u,hr,h4⟩=>?_;subst hr;refine thn h4 fun _ s5 zz_=>?_;obtain⟨x,H5,I5,r5,y5,st5,fr5⟩:=zz_;have I5':=I5.pinned (stat fr5) (T.obj _ _ st5);refine thn (hg' _ s5 σ3 H5 x u _ I5' r5 (step x H5 y5)) fun _ s6 zz_=>?_;obtain⟨σ6,H6,I6,q6⟩:=zz_;refine thn (ht' _ s6 σ6 H6 _ I6 q6) fun ok s7 zz_=>?_;obtain⟨H7,I7,q7⟩:=zz_;have again:∀ {s8:Shared}{σ8:St}{H8:Hp},Inv (qU X scope N cl P2.objs.size s2 H2 fp (X.pn++pins)) ([]++qat fp s5.heap) σ8 H8 s8->N2 σ8 H8 ->
         ∃ m,m < n∧∃ i σ' H',Inv (qU X scope N cl P2.objs.size s2 H2 fp (X.pn++pins)) [] σ' H' s8∧tn i s8.heap∧(∀ b∈fp,H' b=none)∧W i m σ' H':=fun {s8 σ8 H8} I8 n8=>by
       obtain⟨m',hm,w8⟩:=hN σ8 H8 n8;refine⟨m',hm,i+1,σ8,H8,I8.unpinned,T.keep _ _ _ st5 fun b hb o e=>(I8.pin (b,o) (List.mem_append_right _ (List.mem_append_right _ (zB hb e)))).1,fun b hb=>?_,w8⟩;obtain⟨o,e,d⟩:=T.obj _ _ st5 b hb;exact(I8.pin (b,o) (List.mem_append_right _ (List.mem_append_right _ (zB hb e)))).2.1
     cases ok with
     | false=>exact again I7 (by simpa using q7)
     | true =>
       have q7':te σ6 H7 fun y H5=>∃ ys,H5 s2.heap.objs.size=some (.lst ys)∧ys.length < sizeLine∧N2 σ6 (upd H5 s2.heap.objs.size (.lst (ys++[y]))):=by simpa using q7
       refine thn (he' _ s7 σ6 H7 _ I7 q7') fun xv s8 zz_=>?_;obtain⟨y,H8,I8,r8,ys,hy,hlen,n8⟩:=zz_;refine thn (zG (X:=qU X scope N cl P2.objs.size s2 H2 fp (X.pn++pins)) _ s8 σ6 H8 (.ref s2.heap.objs.size) [y] (.ref s2.heap.objs.size) [xv] (fun _ H9=>N2 σ6 H9) I8 rfl (.cons r8 .nil) ⟨_,ys,y,rfl,rfl,hy,hlen,n8⟩) fun _ s9 ⟨_,H9,I9,_,n9⟩=>again I9 n9
 exact codeAny_compStart_list (loop _ rfl) (T.self _ 0 _ _ _ (T.keep _ _ _ st2 (fun b hb o e=>old b o e)) (loop _ rfl))
end
def Its (x:Str):It:=⟨fun i _=>i < x.cps.size,fun i H v H'=>H'=H∧∃ c,x.cps[i]?=some c∧v=.str ⟨#[c]⟩,fun i _=>x.cps.size≤i⟩
theorem qgY {M:Model}{A:Around}{E:Value->Shared->Prop}{s:Shared}{tg:Expr}{it:Addr}{y:Str}{t:Tok}{Q:Unit->Shared->Prop} (hQ:Q () s):wpAny M A (letOwnedTupleGo tg (.ref it) (.str y t)) Q E s:=by
 unfold letOwnedTupleGo;cases tg<;>exact wpAny_pure hQ
theorem qfT {P:Program}{w:World}{K:Frag}{tg:Expr} (it:Addr) (x:Str) (t:Tok) (ty:String) (hty:ty="str_ascii_iterator"∨ty="str_iterator") :
   qjy P w K tg (Its x) [it] it (fun i h=>h.IsStrIter it ty x t i) where
 mem:=by simp
 obj:=fun i h st b hb=>by
   have e:b=it:=by simpa using hb
   subst e;obtain⟨o,e,c,d⟩:=st;exact⟨o,e,fun v z=>by rw[d]at z;cases z⟩
 keep:=fun i h h' st k=>by
   obtain⟨o,e,r⟩:=st;exact⟨o,k it (by simp) o e,r⟩
 item:=by
   intro X hP hw hK hc i pins s σ H E I hf st hg;subst hP hw hK;obtain⟨f0,f1,f2,f3,f4,f5⟩:=hf it (by simp);have hi:i < x.cps.size:=hg;rcases hty with rfl|rfl
   · refine wpAny_pyNext_ascii_item st (c:=x.cps[i]) (by simp[hi]) fun h' st' sb=>?_;have I1:Inv X pins σ H { s with heap:=h',toks:=s.toks+1 }:=I.turned (fun b o hb e=>sb.extBut b o hb e) f0 f1 f3 f4 f5;exact⟨_,rfl,qgY (s:={ s with heap:=h',toks:=s.toks+1 }) ⟨.str ⟨#[x.cps[i]]⟩,H,I1,⟨_,rfl⟩,⟨rfl,x.cps[i],by simp[hi],rfl⟩,st',fun b hb=>(hf b hb).1⟩⟩
   · refine wpAny_pyNext_wide_item st (c:=x.cps[i]) (by simp[hi]) fun h' st' sb=>?_;have I1:Inv X pins σ H { s with heap:=h',toks:=s.toks+1 }:=I.turned (fun b o hb e=>sb.extBut b o hb e) f0 f1 f3 f4 f5;exact⟨_,rfl,qgY (s:={ s with heap:=h',toks:=s.toks+1 }) ⟨.str ⟨#[x.cps[i]]⟩,H,I1,⟨_,rfl⟩,⟨rfl,x.cps[i],by simp[hi],rfl⟩,st',fun b hb=>(hf b hb).1⟩⟩
 done:=by
   intro X hP hw hK hc i pins s σ H E I hf st hg;subst hP hw hK;obtain⟨f0,f1,f2,f3,f4,f5⟩:=hf it (by simp);have hi:x.cps.size≤i:=hg;rcases hty with rfl|rfl
   · exact wpAny_pyNext_ascii_end (I.ok.hd hc) st (by simp[hi]) fun h' eb=>⟨rfl,I.turned (t':=s.toks) (fun b o hb e=>eb b o hb e) f0 f1 f3 f4 f5⟩
   · exact wpAny_pyNext_wide_end (I.ok.hd hc) st (by simp[hi]) fun h' eb=>⟨rfl,I.turned (t':=s.toks) (fun b o hb e=>eb b o hb e) f0 f1 f3 f4 f5⟩
 self:=fun _ _ _ _ _ st h=>by
   rcases hty with rfl|rfl
   · exact wpAny_pyIter_striter_ascii st h
   · exact wpAny_pyIter_striter_wide st h
def qkP (te:TE):TI:=fun σ H R=>te σ H fun x H1=>∃ z,x=.str z∧R (Its z) H1
section
variable {X:Cx}{tg:Expr}
theorem qiZ {e:Expr}{te:TE} (he:PE X e te):PI X tg e (qkP te):=by
 intro pins s σ H R I h;refine thn (he pins s σ H _ I h) fun v s1 zz_=>?_;obtain⟨x,H1,I1,r1,q1⟩:=zz_;obtain⟨z,e,q⟩:=q1;subst e;obtain⟨t,rfl⟩:=r1
 have fin:∀ ty,(ty="str_ascii_iterator"∨ty="str_iterator")->PIE X pins σ tg R (.ref s1.heap.objs.size) { s1 with heap:=s1.heap.push { cls:=.type ty,data:=.fields #[.str z t,.int 0 0] } }:=fun ty hty=>by
   refine⟨s1.heap.objs.size,[s1.heap.objs.size],_,_,H1,rfl,I1.kept (t':=s1.toks) fun b o e=>Heap.get?_push_of_some _ e,qfT _ z t ty hty,⟨_,Heap.get?_push_size _ rfl,rfl,rfl⟩,fun b hb=>?_,q⟩;have e:b=s1.heap.objs.size:=by simpa using hb
   subst e;exact I1.fpOk (Nat.le_refl _) (I1.hok.fresh (Nat.le_refl _))
 cases ha:z.cps.all (· < 128)
 · exact wpAny_pyIter_wide ha (fin _ (.inr rfl))
 · exact wpAny_pyIter_ascii ha (fin _ (.inl rfl))
end
theorem qgt {x:Str}{g:TG}{tt:TT}{te:TE}{D:Addr}{Q:VK}{σ:St}{H:Hp} (Pv:Nat->St->Hp->Prop) (h0:Pv 0 σ H)
   (hs:∀ i c σ H,x.cps[i]?=some c->Pv i σ H->g (.str ⟨#[c]⟩) σ H fun σ3 H3=>tt σ3 H3 fun ok H4=>if ok=true then te σ3 H4 fun y H5=>∃ ys,H5 D=some (.lst ys)∧ys.length < sizeLine∧Pv (i+1) σ3 (upd H5 D (.lst (ys++[y]))) else Pv (i+1) σ3 H4)
   (hd:∀ σ H,Pv x.cps.size σ H->Q (.ref D) H) :
   jZ (Its x) g tt te D Q σ H:=by
 refine⟨fun i m σ H=>m=x.cps.size - i∧i≤x.cps.size∧Pv i σ H,⟨x.cps.size,by simp,Nat.zero_le _,h0⟩,?_⟩;rintro i m σ H ⟨rfl,hi,p⟩;by_cases hlt:i < x.cps.size
 · refine .inr ⟨hlt,Pv (i+1),fun σ' H' p'=>⟨x.cps.size - (i+1),by omega,rfl,hlt,p'⟩,fun v H' y=>?_⟩;obtain⟨rfl,c,hc,rfl⟩:=y;exact hs i c σ _ hc p
 · have e:i=x.cps.size:=by omega
   subst e;exact .inl ⟨Nat.le_refl _,hd σ H p⟩
theorem jv {lo:Int}{n:Nat}{g:TG}{tt:TT}{te:TE}{D:Addr}{Q:VK}{σ:St}{H:Hp} (Pv:Nat->St->Hp->Prop) (h0:Pv 0 σ H)
   (hs:∀ i σ H,i < n->Pv i σ H->g (.int (lo+i)) σ H fun σ3 H3=>tt σ3 H3 fun ok H4=>if ok=true then te σ3 H4 fun y H5=>∃ ys,H5 D=some (.lst ys)∧ys.length < sizeLine∧Pv (i+1) σ3 (upd H5 D (.lst (ys++[y]))) else Pv (i+1) σ3 H4)
   (hd:∀ σ H,Pv n σ H->Q (.ref D) H) :
   jZ (Itr lo n) g tt te D Q σ H:=by
 refine⟨fun i m σ H=>m=n - i∧i≤n∧Pv i σ H,⟨n,by simp,Nat.zero_le _,h0⟩,?_⟩;rintro i m σ H ⟨rfl,hi,p⟩;by_cases hlt:i < n
 · refine .inr ⟨hlt,Pv (i+1),fun σ' H' p'=>⟨n - (i+1),by omega,rfl,hlt,p'⟩,fun v H' y=>?_⟩;obtain⟨rfl,rfl⟩:=y;exact hs i σ _ hlt p
 · have e:i=n:=by omega
   subst e;exact .inl ⟨Nat.le_refl _,hd σ H p⟩
theorem qW {K:Frag}{a:Addr}{xs:List V}{g:TG}{tt:TT}{te:TE}{D:Addr}{Q:VK}{σ:St}{H:Hp} (Pv:Nat->St->Hp->Prop) (h0:Pv 0 σ H) (hl:∀ i σ H,i≤xs.length->Pv i σ H->SqL K H a xs)
   (hs:∀ i x σ H,xs[i]?=some x->Pv i σ H->g x σ H fun σ3 H3=>tt σ3 H3 fun ok H4=>if ok=true then te σ3 H4 fun y H5=>∃ ys,H5 D=some (.lst ys)∧ys.length < sizeLine∧Pv (i+1) σ3 (upd H5 D (.lst (ys++[y]))) else Pv (i+1) σ3 H4)
   (hd:∀ σ H,Pv xs.length σ H->Q (.ref D) H) :
   jZ (Itl K a) g tt te D Q σ H:=by
 refine⟨fun i m σ H=>m=xs.length - i∧i≤xs.length∧Pv i σ H,⟨xs.length,by simp,Nat.zero_le _,h0⟩,?_⟩;rintro i m σ H ⟨rfl,hi,p⟩;have q:=hl i σ H hi p;by_cases hlt:i < xs.length
 · refine .inr ⟨⟨xs,xs[i],q,by simp[hlt]⟩,Pv (i+1),fun σ' H' p'=>⟨xs.length - (i+1),by omega,rfl,hlt,p'⟩,fun v H' y=>?_⟩;obtain⟨e,y⟩:=y;subst e;exact hs i v σ _ (y xs q) p
 · have e:i=xs.length:=by omega
   subst e;exact .inl ⟨⟨xs,q,Nat.le_refl _⟩,hd σ H p⟩
theorem qfI:∀ {bs:List Bool}{us:List Value},Vals (bs.map V.bl) us->us=bs.map Value.bool
 | [],_,r=>by cases r;rfl
 | b::bs,_,r=>by
   cases r with
   | cons r t =>
     cases r;rw[qfI t];rfl
section
variable {X:Cx}
def qkM (K:Frag):List V->Hp->VK->Prop:=fun xs H Q=>∃ (p:Addr) (bs:List Bool),xs=[.ref p]∧SqL K H p (bs.map V.bl)∧Q (.bl (bs.all id)) H
theorem qcc {α:Type} (f:α->Bool) (d:α):∀ l:List α,(List.range l.length).all (fun i=>f (l.getD i d))=l.all f
 | []=>rfl
 | a::l=>by
   rw[List.length_cons,List.range_succ_eq_map,List.all_cons,List.all_map,List.all_cons,← qcc f d l];rfl
theorem qfD (hc:X.calm=true):QN X (.builtin "all") (qkM X.K):=by
 intro pins s σ H xs us Q I r h;obtain⟨p,bs,rfl,hq,q⟩:=h;obtain⟨u,rfl,ru⟩:=ji r;cases ru;obtain⟨its,rv,pl,hz⟩:=I.list hq;have eits:=qfI rv;subst eits;have hlt:p < s.heap.objs.size:=by obtain⟨_,_,e,_⟩:=pl;exact Heap.lt_size e
 refine call_all_walk (wpAny_pyIter_list pl.isList ?_);have W:=Walks.list (prog:=X.prog) (w:=X.w) (A:=X.A.in1) (I.ok.hd hc) s.heap.objs.size p (Nat.ne_of_lt hlt) (bs.map Value.bool).toArray;refine⟨_,_,_,_,_,_,(fun i=>(bs.getD i true)),rfl,W,⟨⟨_,Heap.get?_push_size _ rfl,rfl,rfl⟩,pl.isList.push _⟩,?_,?_⟩
 · intro i v s' Q' E' hP hQ;have hv:(bs.map Value.bool)[i]?=some v:=by simpa using hP
   rw[List.getElem?_map]at hv
   cases e:bs[i]? with
   | none=>rw[e]at hv;cases hv
   | some b =>
     rw[e]at hv;cases hv;have e2:bs.getD i true=b:=by rw[List.getD_eq_getElem?_getD,e];rfl
     have hQ:Q' (bs.getD i true) s':=hQ;rw[e2]at hQ;exact wpAny_truthy_bool hQ
 · intro h' tk hk;have es:(bs.map Value.bool).toArray.size=bs.length:=by simp
   have ea:(List.range (bs.map Value.bool).toArray.size).all (fun i=>bs.getD i true)=bs.all id:=by rw[es];exact qcc id true bs
   refine⟨.bl _,H,?_,by rw[ea];rfl,q⟩;exact I.kept (t':=tk) fun b o e=>hk b o (by simp;exact Nat.ne_of_lt (Heap.lt_size e)) (Heap.get?_push_of_some _ e)
end
theorem qfH:bootBuiltins "all"=some (.builtin "all"):=by decide +kernel
section
variable {X:Cx}
def qif:V->Option Int->Option Int->Hp->VK->Prop:=fun x lo hi H Q=>∃ z,x=.str z∧z.length≤sizeLine∧Q (.str (Txt.slice z lo hi)) H
theorem qiH:SlR X qif:=by
 intro pins s σ H x v vl vu lo hi sl Q I rx hs pl pu h;obtain⟨z,rfl,hz,q⟩:=h;obtain⟨t,rfl⟩:=rx;refine⟨"str",_,F.slot_str_getitem.lookup,typeIs_str _ _ _,?_⟩;have fin:∀ t' k,EP X pins σ Q (.str (Txt.slice z lo hi) t') { s with toks:=k }:=fun t' k=>⟨.str _,H,I.tok k,⟨_,rfl⟩,q⟩
 obtain⟨o,e1,e2,e3⟩:=hs
 cases pl with
 | none =>
   cases pu with
   | none=>exact wpAny_getItem_str_slice (l:=none) (u:=none) (st:=none) ⟨o,e1,e2,e3⟩ rfl (post_val_or_str ⟨Nat.le_trans (Txt.slice_le z _ _) hz,fin⟩)
   | int j u=>exact wpAny_getItem_str_slice (l:=none) (u:=some (j,u)) (st:=none) ⟨o,e1,e2,e3⟩ rfl (post_val_or_str ⟨Nat.le_trans (Txt.slice_le z _ _) hz,fin⟩)
 | int i ui =>
   cases pu with
   | none=>exact wpAny_getItem_str_slice (l:=some (i,ui)) (u:=none) (st:=none) ⟨o,e1,e2,e3⟩ rfl (post_val_or_str ⟨Nat.le_trans (Txt.slice_le z _ _) hz,fin⟩)
   | int j u=>exact wpAny_getItem_str_slice (l:=some (i,ui)) (u:=some (j,u)) (st:=none) ⟨o,e1,e2,e3⟩ rfl (post_val_or_str ⟨Nat.le_trans (Txt.slice_le z _ _) hz,fin⟩)
theorem uSl:SlR X (fun x lo hi H Q=>qig X.K x lo hi H Q∨qif x lo hi H Q):=sl_list.or qiH
theorem qbM:OpR X (compareOp .LtE) (fun x y H Q=>∃ i j,x=.str i∧y=.str j∧Q (.bl (!decide (j.cps.toList < i.cps.toList))) H):=by
 intro pins s σ H x y v u Q I rx ry h;obtain⟨i,j,rfl,rfl,q⟩:=h;obtain⟨t,rfl⟩:=rx;obtain⟨t',rfl⟩:=ry;exact P.le_str ⟨.bl _,H,I,rfl,q⟩
end
def jc (cells:List (Str×Addr)):List (Str×NameKind)->List (Str×Addr)->List (Str×Addr)
 | [],acc=>acc
 | (n,k)::r,acc=>jc cells r (if k == .free then (n,(cells.lookup n).getD 0)::acc else acc)
def qg4 (env:Env) (x:Str×NameKind) (cs:List (Str×Addr)):Sem (ForInStep (List (Str×Addr))):=match x with
 | (name,kind)=>if (kind == NameKind.free)=true then (do let a ← cellOf env name;pure (ForInStep.yield ((name,a)::cs))) else pure (ForInStep.yield cs)
theorem qfz {env:Env}{n:Str}{k:NameKind}{acc:List (Str×Addr)} (h:k=.free->∃ c,env.cells.lookup n=some c) :
   qg4 env (n,k) acc=pure (ForInStep.yield (if k == .free then (n,(env.cells.lookup n).getD 0)::acc else acc)):=by
 by_cases hk:k=.free
 · subst hk;obtain⟨c,hc⟩:=h rfl;show (do let a ← cellOf env n;pure (ForInStep.yield ((n,a)::acc)))=(pure (ForInStep.yield ((n,(env.cells.lookup n).getD 0)::acc)):Sem _);unfold cellOf;rw[hc];rfl
 · cases k<;>first|exact absurd rfl hk|rfl
theorem qaB {env:Env}:∀ (names:List (Str×NameKind)) (acc:List (Str×Addr)),(∀ y∈names,y.2=.free->∃ c,env.cells.lookup y.1=some c) ->
   (forIn names acc (qg4 env))=(pure (jc env.cells names acc):Sem (List (Str×Addr)))
 | [],acc,_=>rfl
 | (n,k)::r,acc,h=>by
   rw[List.forIn_cons,qfz fun e=>h (n,k) List.mem_cons_self e];exact qaB (env:=env) r _ fun y hy=>h y (List.mem_cons_of_mem _ hy)
theorem qdW {scope:Scope}{env:Env} (h:∀ y∈scope.names,y.2=.free->∃ c,env.cells.lookup y.1=some c):closureFor scope env=pure (jc env.cells scope.names []):=by
 unfold closureFor;exact(congrArg (fun (m:Sem (List (Str×Addr)))=>m >>= fun cs=>pure cs) (qaB (env:=env) scope.names [] h)).trans rfl
theorem zN {cells:List (Str×Addr)}{x:Str}:∀ (names:List (Str×NameKind)) (acc:List (Str×Addr)),(∀ y∈names,y.2=.free->∃ c,cells.lookup y.1=some c)->(∀ c,acc.lookup x=some c->cells.lookup x=some c) ->
   (∀ c,(jc cells names acc).lookup x=some c->cells.lookup x=some c)∧(((x,NameKind.free)∈names∨(acc.lookup x).isSome=true)->((jc cells names acc).lookup x).isSome=true)
 | [],acc,_,ha=>⟨ha,fun h=>h.elim (fun z=>nomatch z) id⟩
 | (n,k)::r,acc,h,ha=>by
   unfold jc;have hr:∀ y∈r,y.2=.free->∃ c,cells.lookup y.1=some c:=fun y hy=>h y (List.mem_cons_of_mem _ hy)
   cases hk:(k == NameKind.free) with
   | false =>
     obtain⟨i1,i2⟩:=zN (cells:=cells) (x:=x) r acc hr ha;refine⟨by simpa using i1,fun z=>?_⟩
     have:((jc cells r acc).lookup x).isSome=true:=i2 (by
       rcases z with z|z
       · rcases List.mem_cons.mp z with e|e
         · cases e;cases hk
         · exact .inl e
       · exact .inr z)
     simpa using this
   | true =>
     obtain⟨c,hc⟩:=h (n,k) List.mem_cons_self (by simpa using hk);have hc:cells.lookup n=some c:=hc;have ek:k=NameKind.free:=by simpa using hk
     subst ek
     have ha':∀ c',((n,(cells.lookup n).getD 0)::acc).lookup x=some c'->cells.lookup x=some c':=fun c' z=>by
       rw[List.lookup_cons]at z
       cases e:x == n with
       | true =>
         rw[e]at z;have e':x=n:=by simpa using e
         rw[e',hc]at *;simpa using z
       | false=>rw[e]at z;exact ha c' z
     obtain⟨i1,i2⟩:=zN (cells:=cells) (x:=x) r _ hr ha';refine⟨i1,fun z=>i2 ?_⟩;by_cases e:x=n
     · right;rw[List.lookup_cons,e];simp
     · rcases z with z|z
       · rcases List.mem_cons.mp z with q|q
         · cases q;exact absurd rfl e
         · exact .inl q
       · right;rw[List.lookup_cons]
         have:(x == n)=false:=by simpa using e
         rw[this];exact z
theorem Zg {x:Str}{k:NameKind}:∀ {names:List (Str×NameKind)},names.lookup x=some k->(x,k)∈names
 | [],h=>by cases h
 | (n,j)::r,h=>by
   rw[List.lookup_cons]at h
   cases e:x == n with
   | true =>
     rw[e]at h;have e':x=n:=by simpa using e
     cases h;rw[e'];exact List.mem_cons_self
   | false=>rw[e]at h;exact List.mem_cons_of_mem _ (Zg h)
theorem Jo {scope:Scope}{env:Env}{x:Str}{k:NameKind} (h:(x,k)∈(relabel scope env).names):(x,k)∈scope.names∨(k=.cell∧(x,NameKind.free)∈scope.names):=by
 have h':(x,k)∈scope.names.map fun (n,k)=>if (k == .free && env.scope.kind == .function && env.kindOf n == some .cell) then (n,.cell) else (n,k):=h
 obtain⟨⟨n,j⟩,hm,e⟩:=List.mem_map.mp h';simp only at e;split at e
 · rename_i c
   cases e
   have:j=.free:=by
     have c1:=(Bool.and_eq_true_iff.mp (Bool.and_eq_true_iff.mp c).1).1;simpa using c1
   subst this;exact .inr ⟨rfl,hm⟩
 · cases e;exact .inl hm
theorem zW {env:Env}{x:Str} (hX:env.scope.kind=.function) (g3:env.kindOf x=some .cell):∀ {names:List (Str×NameKind)},names.lookup x=some .free ->
   (names.map fun (n,k)=>if (k == NameKind.free && env.scope.kind == .function && env.kindOf n == some .cell) then (n,NameKind.cell) else (n,k)).lookup x=some .cell
 | [],h=>by cases h
 | (n,k)::r,h=>by
   have ih:=zW hX g3 (names:=r);show List.lookup x ((if (k == NameKind.free && env.scope.kind == .function && env.kindOf n == some .cell)=true then (n,NameKind.cell) else (n,k))::_)=_;rw[List.lookup_cons]at h
   cases e:x == n with
   | true =>
     rw[e]at h;have e':x=n:=by simpa using e
     have ek:k=.free:=by simpa using h
     rw[ek,← e',if_pos (show (NameKind.free == NameKind.free && env.scope.kind == .function && env.kindOf x == some .cell)=true by rw[hX,g3];decide),List.lookup_cons];simp
   | false =>
     rw[e]at h;by_cases hc:(k == NameKind.free && env.scope.kind == .function && env.kindOf n == some .cell)=true
     · rw[if_pos hc,List.lookup_cons,e];exact ih h
     · rw[if_neg hc,List.lookup_cons,e];exact ih h
theorem CompOk.of {X:Cx}{scope:Scope}{N:List Str}{js:List (Option Nat)} (hkind:scope.kind=.function) (hcell:∀ y∈scope.names,y.2≠.cell) (hnames:∀ y∈scope.names,y.2=.local->scope.names.lookup y.1=some .local)
   (hX:X.env.scope.kind=.function) (hfree:∀ y∈scope.names,y.2=.free->X.env.kindOf y.1=some .cell∧∃ c,X.env.cells.lookup y.1=some c) (len:js.length=N.length)
   (hfr:∀ (i j:Nat) (x:Str),js[i]?=some (some j)->N[i]?=some x->X.N[j]?=some x∧scope.names.lookup x=some .free) :
   CompOk X scope N (jc X.env.cells scope.names []) js where
 clos:=qdW fun y hy z=>(hfree y hy z).2
 sub:=fun x c h=>(zN scope.names [] (fun y hy z=>(hfree y hy z).2) (fun c h=>by cases h)).1 c h
 all:=fun x h=>by
   have hm:(x,NameKind.free)∈scope.names:=by
     rcases h with h|h
     · rcases Jo (Zg h) with z|⟨_,z⟩
       · exact absurd rfl (hcell _ z)
       · exact z
     · rcases Jo (Zg h) with z|⟨e,_⟩
       · exact z
       · cases e
   have:=(zN (cells:=X.env.cells) (x:=x) scope.names [] (fun y hy z=>(hfree y hy z).2) (fun c h=>by cases h)).2 (.inl hm)
   exact Option.isSome_iff_exists.mp this
 cell:=hcell
 kind:=hkind
 names:=hnames
 len:=len
 fr:=fun i j x h1 h2=>by
   obtain⟨g1,g2⟩:=hfr i j x h1 h2;obtain⟨g3,_⟩:=hfree (x,.free) (Zg g2) rfl;refine⟨g1,g3,.inl ?_⟩;exact zW hX g3 g2
def qjo (sc:Scope) (N0 N:List Str) (js:List (Option Nat)):Bool:=(js.zip N).all fun p=>match p.1 with
 | none=>true
 | some j=>N0[j]? == some p.2 && sc.names.lookup p.2 == some .free
theorem qgp {sc:Scope}{N0:List Str}:∀ {js:List (Option Nat)}{N:List Str},qjo sc N0 N js=true->∀ (i j:Nat) (x:Str),js[i]?=some (some j)->N[i]?=some x->N0[j]?=some x∧sc.names.lookup x=some .free:=by
 intro js N h i j x h1 h2
 have hm:(some j,x)∈js.zip N:=by
   refine List.mem_of_getElem? (i:=i) ?_;rw[List.getElem?_zip_eq_some];exact⟨h1,h2⟩
 have:=List.all_eq_true.mp h _ hm
 simpa using this
theorem CompOk.def {CX:CXT}{P:Program}{w:World}{K:Frag}{mg:Str->Option Value}{base:Heap}{N0:List Str}{qual:Str}{sc0:Scope}{f:Addr}{cd:Value}{A:Around}{outer:List Env}{s:Shared}{H:Hp}{E:XK}{scope:Scope}
   (N:List Str) (js:List (Option Nat)) (hk0:sc0.kind=.function:=by rfl) (hk:scope.kind=.function:=by rfl) (hcell:∀ y∈scope.names,y.2≠.cell:=by decide +kernel) (hnames:∀ y∈scope.names,y.2=.local->scope.names.lookup y.1=some .local:=by decide +kernel)
   (hfr0:∀ y∈scope.names,y.2=.free->sc0.names.lookup y.1=some .cell:=by decide +kernel) (len:js.length=N.length:=by rfl) (hfr:qjo scope N0 N js=true:=by decide +kernel) :
   CompOk (qY CX P w K mg base N0 qual sc0 f cd A outer s H E).nox scope N (jc (qY CX P w K mg base N0 qual sc0 f cd A outer s H E).nox.env.cells scope.names []) js :=
 CompOk.of hk hcell hnames hk0 (fun y hy z=>⟨hfr0 y hy z,Option.isSome_iff_exists.mp (PySem.W.cellsFrom_some _ _ _ (.inl (hfr0 y hy z)))⟩) len (qgp hfr)
inductive qc8 (K:Frag) (x:V) (y:V) (H:Hp) (Q:VK):Prop
 | mk (p b xs:_) (h1:x=.ref p) (h2:y=.ref b) (h3:SqL K H p xs) (h4:SqL K H b []) (h5:Q (.bl xs.isEmpty) H):qc8 K x y H Q
def qiU (K:Frag):R2:=fun x y H Q=>qc8 K x y H Q
theorem qf9 {X:Cx} (hu:X.A.units+64 < cLine):OpR X (compareOp .Eq) (qiU X.K):=by
 intro pins s σ H x y v u Q I rx ry h;obtain⟨p,b,xs,rfl,rfl,hp,hb,q⟩:=h;cases rx;cases ry;obtain⟨its,rv,pl,_⟩:=I.list hp;obtain⟨its2,rv2,pl2,_⟩:=I.list hb;cases rv2;have hl:=rv.length
 cases xs with
 | nil =>
   cases rv;exact SeqAt.eq_listAt (e:=fun _=>true) pl.isList pl2.isList rfl (by omega) (fun j h1 h2=>by simp at h1) ⟨.bl true,H,I,rfl,q⟩
 | cons a r=>exact SeqAt.eq_list_lengthsAt pl.isList pl2.isList (by simp;intro z;rw[z]at hl;cases hl) (by omega) ⟨.bl false,H,I,rfl,q⟩
theorem Same.put {G H:Hp}{p:Addr} (s:Same G H) (n:G p=none) (o:HO):Same G (upd H p o):=fun c u e=>by rw[qg (qj e n)];exact s c u e
theorem Same.none {G H:Hp}{p:Addr} (s:Same G H) (n:H p=none):G p=none:=by
 cases e:G p with
 | none=>rfl
 | some o=>rw[s p o e]at n;cases n
theorem But.none {H H':Hp}{p q:Addr} (b:But p H H') (n:H' q=none) (h:q≠p):H q=none:=by
 cases e:H q with
 | none=>rfl
 | some o=>rw[b q o e h]at n;cases n
theorem qaJ {α:Type}{xs:List α}{x y:α}{i:Nat} (h:(xs++[x])[i]?=some y):xs[i]?=some y∨(i=xs.length∧y=x):=by
 rw[List.getElem?_append]at h;by_cases hi:i < xs.length
 · rw[if_pos hi]at h;exact .inl h
 · rw[if_neg hi]at h
   have e:i - xs.length=0:=by
     cases n:i - xs.length with
     | zero=>rfl
     | succ k=>rw[n]at h;simp at h
   rw[e]at h;exact .inr ⟨by omega,by simpa using h.symm⟩
theorem qia {xs:List V}{i:Int} (h0:0≤i) (h1:i < xs.length):∃ v,atI xs i=some v∧v∈xs:=by
 obtain⟨n,rfl⟩:=Int.eq_ofNat_of_zero_le h0;have hn:n < xs.length:=by omega
 exact⟨xs[n],Qc (List.getElem?_eq_getElem hn),List.getElem_mem hn⟩
def qih (K:Frag):List V->Hp->VK->Prop:=fun xs H Q=>∃ p ys,xs=[.ref p]∧(SqL K H p ys∨SqT K H p ys)∧∀ l,H l=none->Q (.ref l) (upd H l (.lst ys))
section
variable {X:Cx}
theorem qeH {i:Nat}{x:Str}{pos' pos:Pos}{elt iter tg:Expr}{ifs:List Expr}{scope:Scope}{cpos:Pos}{wi:TI}{g:TG}{tt:TT}{te:TE}{N:List Str}{cl:List (Str×Addr)}{js:List (Option Nat)} (hN:X.N.Nodup) (hi0:X.N[i]?=some x) (hx:Loc X.env.scope x)
   (hc:X.calm=true) (k:CompOk X scope N cl js) (hi:PI X tg iter wi)
   (hg:∀ C s₀ H₀ ex pn,PG (qU X scope N cl C s₀ H₀ ex pn) tg g) (ht:∀ C s₀ H₀ ex pn,PTs (qU X scope N cl C s₀ H₀ ex pn) ifs tt) (he:∀ C s₀ H₀ ex pn,PE (qU X scope N cl C s₀ H₀ ex pn) elt te)
   (hsw:swapsWith (.ListComp elt [⟨tg,iter,ifs,0⟩] scope cpos) (some (.Name x pos')) pos.line X.env=pure true:=by rfl)
   (hf:X.fn x=true∨X.env.scope.names.lookup x=some .local:=by first|exact .inl rfl|exact .inr rfl|assumption)
   (hs:∀ x,foldedSetIterable iter X.env x=pure x:=by intro _;rfl) :
   PS X (.Assign [.Name x pos'] (.ListComp elt [⟨tg,iter,ifs,0⟩] scope cpos) pos) (qjF (qiE wi g tt te js) (qgo i)):=by
 intro pins s σ H D0 I h;rw[exec_Assign_Name_used _ _ _ _ hsw];refine wpAny_bind (wpAny_standAt (wpAny_bind ?_));show wpAny _ X.A (do let _ ← comprehension (.ListComp elt [⟨tg,iter,ifs,0⟩] scope cpos) scope X.env _ (newList []) false (eval iter X.env) (some (assign (.Name x pos') X.env))) _ _ s;refine wpAny_bind (wpAny_mono (wpAny_comprehension_free (use:=some (assign (.Name x pos') X.env)) (Q:=fun _ s'=>∃ σ' H',Inv X pins σ' H' s'∧D0.nx σ' H') rfl hs k.clos k.kind k.names ?_) (fun _ s' hq=>wpAny_pure (wpAny_pure hq)) fun _ _ e=>e);refine thn (hi pins s σ H _ I h) fun v s1 h1=>thn h1 fun itv s2 h2=>?_;obtain⟨it,fp,tn,J,H2,e,I2,T,st2,f2,hD⟩:=h2;subst e;refine wpAny_newObj_type (wpAny_newFunctionEnv k.cell (by intro y hy;simp at hy) (fun h₁ hns₁ hsb₁=>?_) k.kind);dsimp only at hns₁ hsb₁ ⊢;generalize hH2:s2.heap.push { cls:=.type "list",dict:=none,data:=.seq ([]:List Value).toArray }=P2 at hns₁ hsb₁ ⊢;have hC:P2.objs.size=s2.heap.objs.size+1:=by rw[← hH2,Heap.size_push]
 have hDC:s2.heap.objs.size≠P2.objs.size:=by rw[hC];exact Nat.ne_of_lt (Nat.lt_succ_self _)
 have hCle:s2.heap.objs.size≤P2.objs.size:=by rw[hC];exact Nat.le_succ _
 have old:∀ b o,s2.heap.get? b=some o->h₁.get? b=some o:=fun b o e=>hsb₁.extBut b o (Nat.ne_of_lt (Nat.lt_of_lt_of_le (Heap.lt_size e) hCle)) (Heap.get?_push_of_some _ (hH2▸Heap.get?_push_of_some _ e));have hacc:h₁.get? s2.heap.objs.size=some { cls:=.type "list",data:=.seq ([]:List Value).toArray }:=hsb₁.extBut _ _ hDC (Heap.get?_push_of_some _ (hH2▸Heap.get?_push_size _ rfl))
 have hfl:∀ b∈fp,b < s2.heap.objs.size:=fun b hb=>by
   obtain⟨o,e,_⟩:=T.obj _ _ st2 b hb;exact Heap.lt_size e
 have fD:H2 s2.heap.objs.size=none:=I2.hok.fresh (Nat.le_refl _);obtain⟨W,⟨m0,w0⟩,turn⟩:=hD _ fD
 have IX:Inv (qU X scope N cl P2.objs.size s2 H2 fp (X.pn++pins)) [] (st0 js σ) (upd H2 s2.heap.objs.size (.lst [])) { s2 with heap:=h₁,toks:=s2.toks+([]:List (Str×Value)).length } :=
   qds k I2 f2 hfl (Nat.le_refl _) hCle hDC hns₁ hacc old
 have hg':=hg P2.objs.size s2 H2 fp (X.pn++pins);have ht':=ht P2.objs.size s2 H2 fp (X.pn++pins);have he':=he P2.objs.size s2 H2 fp (X.pn++pins)
 have stat:∀ {H':Hp},(∀ b∈fp,H' b=none)->∀ b∈fp,qd4 (qU X scope N cl P2.objs.size s2 H2 fp (X.pn++pins)) [] H' b:=fun hn b hb=>by
   obtain⟨g0,g1,g2,g3,g4,g5⟩:=f2 b hb;refine⟨hn b hb,Nat.ne_of_lt (Nat.lt_of_lt_of_le (hfl b hb) hCle),fun z=>?_,.inl hb,fun x c h=>g4 x c (k.sub _ _ h),fun p hp=>g5 p (by simpa[qU] using hp)⟩;rcases List.mem_cons.mp (I2.stkSub b z) with e|e
   · exact g1 e
   · exact g2 e
 have loop:∀ s₃:Shared,s₃={ s2 with heap:=h₁,toks:=s2.toks+([]:List (Str×Value)).length } ->
     codeAny (model X.prog X.w) X.A (.compLoop (.ListComp elt [⟨tg,iter,ifs,0⟩] scope cpos) 0 (.ref it) (.ref s2.heap.objs.size) (compEnvC scope cl P2.objs.size X.env))
       (compPost (model X.prog X.w) X.A X.xe (some (assign (.Name x pos') X.env)) (fun _ s'=>∃ σ' H',Inv X pins σ' H' s'∧D0.nx σ' H') (.ref s2.heap.objs.size) P2.objs.size) s₃:=by
   rintro s₃ rfl;refine JO (fun n s'=>∃ i σ' H',Inv (qU X scope N cl P2.objs.size s2 H2 fp (X.pn++pins)) [] σ' H' s'∧tn i s'.heap∧(∀ b∈fp,H' b=none)∧W i n σ' H') ?_ m0
     ⟨0,st0 js σ,_,IX,T.keep _ _ _ st2 (fun b hb o e=>old b o e),fun b hb=>by rw[qg (Nat.ne_of_lt (hfl b hb))];exact(f2 b hb).1,w0⟩
   rintro n s3 ⟨i,σ3,H3,I3,st3,fr3,w3⟩;rcases turn i n σ3 H3 w3 with ⟨stop,qn⟩|⟨go,N2,hN,step⟩
   · refine thn (T.done (qU X scope N cl P2.objs.size s2 H2 fp (X.pn++pins)) rfl rfl rfl hc i [] s3 σ3 H3 noE I3 (stat fr3) st3 stop) fun r s4 ⟨hr,I4⟩=>?_;subst hr;obtain⟨m4,hn4,_⟩:=id I4.loc;have u4:Un (frs X.stack) fp H2 H3 s2.heap s4.heap:=I4.base;have fC:H3 P2.objs.size=none:=I4.free
     have I6:Inv X pins σ H3 s4:=I2.call' (s':=s4) I4.os u4 I4.hok I4.bare fun b hb=>by
       obtain⟨g0,g1,g2,g3,g4,g5⟩:=f2 b hb;exact⟨g3,g1,g4,g5⟩
     have fpC:qd4 X pins H3 P2.objs.size:=I2.fpOk hCle fC;have hn4':s4.heap.Ns P2.objs.size m4:=hn4;obtain⟨oC,esC,epC,gC,rC⟩:=id hn4';have I7:=I6.pinned (fp:=[P2.objs.size]) (fun b hb=>by rw[show b=P2.objs.size by simpa using hb];exact fpC) (fun b hb=>⟨oC,by rw[show b=P2.objs.size by simpa using hb];exact gC,fun v z=>by rw[rC.1]at z;cases z⟩);show wpAny _ X.A (assign (.Name x pos') X.env (.ref s2.heap.objs.size)) _ _ s4;refine wpAny_assign_Name (ZM I7 hN hi0 hx (v:=.ref s2.heap.objs.size) rfl (fun s5 I8=>?_) hf);have g5:=(I8.pin (P2.objs.size,oC) (List.mem_append_right _ (List.mem_append_right _ (zB (by simp) gC)))).1;refine⟨m4,hn4'.at' (fun o e=>by rw[gC]at e;cases e;exact g5),fun h' hsb=>⟨_,H3,?_,qn⟩⟩;exact I8.unpinned.turnL (t':=s5.toks) (ch:=[P2.objs.size]) (fun b o hb e=>hsb.extBut b o (fun z=>hb (by simp[z])) e) (fun b hb=>by rw[show b=P2.objs.size by simpa using hb];exact fpC)
   · refine thn (T.item (qU X scope N cl P2.objs.size s2 H2 fp (X.pn++pins)) rfl rfl rfl hc i [] s3 σ3 H3 noE I3 (stat fr3) st3 go) fun r s4 ⟨u,hr,h4⟩=>?_;subst hr;refine thn h4 fun _ s5 zz_=>?_;obtain⟨x,H5,I5,r5,y5,st5,fr5⟩:=zz_;have I5':=I5.pinned (stat fr5) (T.obj _ _ st5);refine thn (hg' _ s5 σ3 H5 x u _ I5' r5 (step x H5 y5)) fun _ s6 zz_=>?_;obtain⟨σ6,H6,I6,q6⟩:=zz_;refine thn (ht' _ s6 σ6 H6 _ I6 q6) fun ok s7 zz_=>?_;obtain⟨H7,I7,q7⟩:=zz_;have again:∀ {s8:Shared}{σ8:St}{H8:Hp},Inv (qU X scope N cl P2.objs.size s2 H2 fp (X.pn++pins)) ([]++qat fp s5.heap) σ8 H8 s8->N2 σ8 H8 ->
         ∃ m,m < n∧∃ i σ' H',Inv (qU X scope N cl P2.objs.size s2 H2 fp (X.pn++pins)) [] σ' H' s8∧tn i s8.heap∧(∀ b∈fp,H' b=none)∧W i m σ' H':=fun {s8 σ8 H8} I8 n8=>by
       obtain⟨m',hm,w8⟩:=hN σ8 H8 n8;refine⟨m',hm,i+1,σ8,H8,I8.unpinned,T.keep _ _ _ st5 fun b hb o e=>(I8.pin (b,o) (List.mem_append_right _ (List.mem_append_right _ (zB hb e)))).1,fun b hb=>?_,w8⟩;obtain⟨o,e,d⟩:=T.obj _ _ st5 b hb;exact(I8.pin (b,o) (List.mem_append_right _ (List.mem_append_right _ (zB hb e)))).2.1
     cases ok with
     | false=>exact again I7 (by simpa using q7)
     | true =>
       have q7':te σ6 H7 fun y H5=>∃ ys,H5 s2.heap.objs.size=some (.lst ys)∧ys.length < sizeLine∧N2 σ6 (upd H5 s2.heap.objs.size (.lst (ys++[y]))):=by simpa using q7
       refine thn (he' _ s7 σ6 H7 _ I7 q7') fun xv s8 zz_=>?_;obtain⟨y,H8,I8,r8,ys,hy,hlen,n8⟩:=zz_;refine thn (zG (X:=qU X scope N cl P2.objs.size s2 H2 fp (X.pn++pins)) _ s8 σ6 H8 (.ref s2.heap.objs.size) [y] (.ref s2.heap.objs.size) [xv] (fun _ H9=>N2 σ6 H9) I8 rfl (.cons r8 .nil) ⟨_,ys,y,rfl,rfl,hy,hlen,n8⟩) fun _ s9 ⟨_,H9,I9,_,n9⟩=>again I9 n9
 exact codeAny_compStart_list (loop _ rfl) (T.self _ 0 _ _ _ (T.keep _ _ _ st2 (fun b hb o e=>old b o e)) (loop _ rfl))
end
theorem qV {t u:TS}{D:qd7}{σ:St}{H:Hp} (Post:St->Hp->Prop) (h1:∀ N:St->Hp->Prop,(∀ σ' H',Post σ' H'->N σ' H')->t { D with nx:=N } σ H) (h2:∀ σ' H',Post σ' H'->u D σ' H'):qjK t u D σ H:=h1 (u D) h2
inductive qjz {β:Type} (f:β->List V) (H:Hp) (ps:List β) (i:Nat) (z:V):Prop
 | mk (p:β) (t:Addr) (h1:ps[i]?=some p) (h2:z=.ref t) (h3:H t=some (.tup (f p))):qjz f H ps i z
inductive qjA {β:Type} (f:β->List V) (H:Hp) (zs:List V) (i:Nat) (p:β):Prop
 | mk (t:Addr) (h1:zs[i]?=some (.ref t)) (h2:H t=some (.tup (f p))):qjA f H zs i p
def TupL {β:Type} (f:β->List V) (H:Hp) (zs:List V) (ps:List β):Prop:=zs.length=ps.length∧∀ (i:Nat) z p,zs[i]?=some z->ps[i]?=some p->∃ t,z=.ref t∧H t=some (.tup (f p))
section
variable {β:Type}{f:β->List V}{H H':Hp}{zs:List V}{ps:List β}
theorem TupL.nil:TupL f H [] []:=⟨rfl,fun i z p e=>by simp at e⟩
theorem TupL.same (h:TupL f H zs ps) (s:Same H H'):TupL f H' zs ps:=⟨h.1,fun i z p e1 e2=>by
 obtain⟨t,e,q⟩:=h.2 i z p e1 e2
 exact⟨t,e,s _ _ q⟩⟩
theorem TupL.put {q:Addr}{xs ys:List V} (h:TupL f H zs ps) (hq:H q=some (.lst xs)):TupL f (upd H q (.lst ys)) zs ps:=⟨h.1,fun i z y e1 e2=>by
 obtain⟨t,e,r⟩:=h.2 i z y e1 e2
 exact⟨t,e,by rw[qg (zi r hq (by intro z;cases z))];exact r⟩⟩
theorem TupL.snoc {t:Addr}{p:β} (h:TupL f H zs ps) (q:H t=some (.tup (f p))):TupL f H (zs++[.ref t]) (ps++[p]):=⟨by rw[List.length_append,List.length_append,h.1];rfl,fun i z y e1 e2=>by
 rcases qaJ e1 with e|⟨ei,e⟩
 · rcases qaJ e2 with e'|⟨ei',_⟩
   · exact h.2 i z y e e'
   · have:=(List.getElem?_eq_some_iff.mp e).1
     rw[ei',← h.1]at this;exact absurd this (Nat.lt_irrefl _)
 · rcases qaJ e2 with e'|⟨_,e'⟩
   · have:=(List.getElem?_eq_some_iff.mp e').1
     rw[ei,h.1]at this;exact absurd this (Nat.lt_irrefl _)
   · exact⟨t,e,e'▸q⟩⟩
theorem TupL.at_ (h:TupL f H zs ps) {i:Nat}{p:β} (e:ps[i]?=some p):qjA f H zs i p:=by
 have hi:i < zs.length:=by rw[h.1];exact(List.getElem?_eq_some_iff.mp e).1
 obtain⟨t,et,q⟩:=h.2 i _ p (List.getElem?_eq_getElem hi) e;exact⟨t,by rw[List.getElem?_eq_getElem hi,et],q⟩
theorem TupL.of (h:TupL f H zs ps) {i:Nat}{z:V} (e:zs[i]?=some z):qjz f H ps i z:=by
 have hi:i < ps.length:=by rw[← h.1];exact(List.getElem?_eq_some_iff.mp e).1
 obtain⟨t,et,q⟩:=h.2 i z _ e (List.getElem?_eq_getElem hi);exact⟨_,t,List.getElem?_eq_getElem hi,et,q⟩
end
end L2
namespace KC
open PySem L2 PySem.NumText PyProof.Rows
end KC
namespace L2
open PySem PySem.Spec PyProof.Rows
open PySem.W (Frag InstAt hasDictIn findIn isFn set_plain Looks looks_clsIn typeIn looks_findIn keepIn specialIn takesIn mroIn callWith_K clsIn notCls looks_mroIn check_slot osa_eq findObj looks_find findCls subIn looks_typeIn looks_subIn isClsIn)
def ExO (ea C:Addr) (dx:Option Addr) (tb:Value):Heap->Prop:=fun h =>
 ∃ o vs,h.get? ea=some o∧o.cls=.ref C∧o.dict=dx∧o.data=.fields vs∧vs.size=6∧vs[1]?=some tb
def TbO (T:Addr):Heap->Prop:=fun h=>∃ o ts,h.get? T=some o∧o.data=.fields ts∧ts[3]?=some Value.none
def XAt (H:Hp) (ea C:Addr) (dx:Option Addr):Prop :=
 ∃ tb,H ea=some (.ext (ExO ea C dx tb))∧(tb=.none∨∃ T,tb=.ref T∧H T=some (.ext (TbO T))∧T≠ea)
theorem qb1 {P:Program}{w:World}{H:Hp}{h:Heap}{ea C:Addr}{dx:Option Addr}{tb:Value} (x:ExO ea C dx tb h):ObjOk P w H h ea (.ext (ExO ea C dx tb)):=by
 obtain⟨o,vs,e,r⟩:=id x;exact⟨x,⟨o,e⟩,fun h1 h2 ⟨o',vs',e',r'⟩ k=>⟨o',vs',k _ e',r'⟩⟩
theorem qiu {P:Program}{w:World}{H:Hp}{h:Heap}{T:Addr} (x:TbO T h):ObjOk P w H h T (.ext (TbO T)):=by
 obtain⟨o,vs,e,r⟩:=id x;exact⟨x,⟨o,e⟩,fun h1 h2 ⟨o',vs',e',r'⟩ k=>⟨o',vs',k _ e',r'⟩⟩
section
variable {M:Model}{A:Around}{E:Value->Shared->Prop}{s:Shared}
structure qfL (L:List Addr) (e:Addr) (oe:Obj) (h h':Heap) (T:Addr) (fl:Value):Prop where
 new:T=h.objs.size
 keep:∀ b o,b≠e->b∉L->h.get? b=some o->h'.get? b=some o
 slot:∀ b o,b≠e->h.get? b=some o->∃ sl,h'.get? b=some { o with slots:=sl }
 exc:h'.get? e=some (oe.mapFields (·.setIfInBounds 1 (.ref T)))
 tb:∃ oT ts,h'.get? T=some oT∧oT.data=.fields ts∧ts[3]?=some fl
theorem qaA {base:Heap}{env:Env}{outer:List Env}{L e:Addr}{oe:Obj}{vs:Array Value}{head:Value}{hadNext:Bool}{Q:Unit->Shared->Prop}
   (hfr:A.frames=some (env::outer)) (hl:s.heap.FunFrames base (env::outer)) (hf:env.frame=some L)
   (he:s.heap.get? e=some oe) (hd:oe.data=.fields vs) (hsz:1 < vs.size)
   (h:∀ h' T,qfL (frs (env::outer)) e oe s.heap h' T (rawInt L)->Q () { s with heap:=h' }) :
   wpAny M A (do
     let a ← frameOf env;let pl ← entryPlaceOf L hadNext;let b ← EntryCells.newEntry head a .none (rawInt L) .none pl
     setField (.ref e) 1 b) Q E s:=by
 have hene:e∉(env::outer).filterMap (·.frame):=fun hm=>by
   obtain⟨_,o,ho,hnf⟩:=hl.mem hm;rw[he]at ho;cases ho;exact hnf vs hd
 refine wpAny_bind (wpAny_frameOf_fun hfr hl hf fun g1 hs1=>?_);refine wpAny_bind (wpAny_entryPlaceOf fun pl hpl=>?_);unfold EntryCells.newEntry newFields;refine wpAny_bind (wpAny_newObj_type ?_ (hpl.sizeOk5 _ _ _ _ _));have he1:g1.get? e=some oe:=(hs1.2.1 e hene).trans he;generalize hob:({ cls:=.type "traceback",dict:=none,data:=.fields ([head,.ref L,.none,rawInt L,.none]++(if pl.isEmpty then List.replicate 6 Value.none else pl)).toArray }:Obj)=ob;have hobd:ob.data=.fields ([head,.ref L,.none,rawInt L,.none]++(if pl.isEmpty then List.replicate 6 Value.none else pl)).toArray:=by rw[← hob]
 have hof:ob.isFreed=false:=by rw[← hob];rfl
 have he2:=Heap.get?_push_of_some (h:=g1) ob he1;refine wpAny_setField he2 hd hsz (h _ g1.objs.size ?_);have hTe:g1.objs.size≠e:=Nat.ne_of_gt (Heap.lt_size he1);have hd3:=Obj.data_mapFields hd (·.setIfInBounds 1 (Value.ref g1.objs.size))
 have keep:∀ b o,b≠e->g1.get? b=some o->((g1.push ob).update e (Obj.mapFields (·.setIfInBounds 1 (Value.ref g1.objs.size)))).get? b=some o:=fun b o hbe hb=>by
   rw[Heap.get?_update_other _ _ (Ne.symm hbe)];exact Heap.get?_push_of_some _ hb
 refine⟨hs1.1,fun b o hbe hbL hb=>keep b o hbe ((hs1.2.1 b hbL).trans hb),fun b o hbe hb=>?_,Heap.get?_update_self _ he2 (Obj.isFreed_of_fields hd3),ob,_,?_,hobd,?_⟩
 · obtain⟨sl,q⟩:=hs1.2.2 b o hb;exact⟨sl,keep b _ hbe q⟩
 · rw[Heap.get?_update_other _ _ (Ne.symm hTe)];exact Heap.get?_push_size g1 hof
 · simp
theorem qeZ {base:Heap}{env:Env}{outer:List Env}{L e:Addr}{oe:Obj}{vs:Array Value}{tb:Value}{Q:Unit->Shared->Prop}
   (hfr:A.frames=some (env::outer)) (hl:s.heap.FunFrames base (env::outer)) (hf:env.frame=some L)
   (he:s.heap.get? e=some oe) (hd:oe.data=.fields vs) (h1:vs[1]?=some tb) (ht:tb=.none∨∃ T,tb=.ref T∧TbO T s.heap)
   (h:∀ h' T,qfL (frs (env::outer)) e oe s.heap h' T (rawInt L)->Q () { s with heap:=h' }):wpAny M A (noteFrame (.ref e) env) Q E s:=by
 unfold noteFrame;simp only[hf];refine wpAny_bind (wpAny_field he hd h1 ?_);have hsz:=(Array.getElem?_eq_some_iff.mp h1).1;rcases ht with rfl|⟨T,rfl,oT,ts,hT,hdT,h3⟩
 · rw[if_neg (by decide)];exact qaA hfr hl hf he hd hsz h
 · rw[if_pos (show (Value.ref T != Value.none)=true from by simp)];refine wpAny_bind (wpAny_field hT hdT h3 ?_);rw[if_neg (show ¬ ((Value.none == rawInt L)=true) from by simp[rawInt])];refine wpAny_bind (wpAny_setField hT hdT (Array.getElem?_eq_some_iff.mp h3).1 ?_);rw[Heap.update_setField_same s.heap T oT ts 3 Value.none hT hdT h3];exact qaA hfr hl hf he hd hsz h
theorem qe7 {base:Heap}{env:Env}{outer:List Env}{L e:Addr}{oe:Obj}{vs:Array Value}{tb:Value}{Q:Unit->Shared->Prop}
   (hfr:A.frames=some (env::outer)) (hl:s.heap.FunFrames base (env::outer)) (hf:env.frame=some L)
   (he:s.heap.get? e=some oe) (hd:oe.data=.fields vs) (h1:vs[1]?=some tb) (ht:tb=.none∨∃ T,tb=.ref T∧TbO T s.heap)
   (h:∀ h' T,qfL (frs (env::outer)) e oe s.heap h' T .none->Q () { s with heap:=h' }) :
   wpAny M A (noteFrame (.ref e) env) (fun _ s2=>wpAny M A (setFlight (.ref e) none) Q E s2) E s:=by
 refine qeZ hfr hl hf he hd h1 ht fun h' T K=>?_;obtain⟨k1,k2,k3,k4,oT,ts,k5,k6,k7⟩:=K;have hsz:=(Array.getElem?_eq_some_iff.mp h1).1;have h3:3 < ts.size:=(Array.getElem?_eq_some_iff.mp k7).1;have hTe:e≠T:=by rw[k1];exact Nat.ne_of_lt (Heap.lt_size he)
 unfold setFlight;refine wpAny_bind (wpAny_field k4 (Obj.data_mapFields hd _) (x:=.ref T) (by simp[hsz]) ?_);rw[if_pos (show (Value.ref T != Value.none)=true from by simp)];refine wpAny_setField k5 k6 h3 (h _ T ⟨k1,fun b o hbe hbL hb=>?_,fun b o hbe hb=>?_,?_,_,_,Heap.get?_update_self _ k5 (Obj.isFreed_of_fields (Obj.data_mapFields k6 _)),Obj.data_mapFields k6 _,by simp[h3]⟩)
 · have:T≠b:=by rw[k1];exact Nat.ne_of_gt (Heap.lt_size hb)
   rw[Heap.get?_update_other _ _ this];exact k2 b o hbe hbL hb
 · have:T≠b:=by rw[k1];exact Nat.ne_of_gt (Heap.lt_size hb)
   rw[Heap.get?_update_other _ _ this];exact k3 b o hbe hb
 · rw[Heap.get?_update_other _ _ (Ne.symm hTe)];exact k4
end
section
variable {X:Cx}{pins:List (Addr×Obj)}{σ:St}{H:Hp}{s:Shared}{ea C:Addr}{dx:Option Addr}
def QM (H:Hp) (ea C:Addr) (dx:Option Addr) (T:Addr):Hp:=upd (upd H ea (.ext (ExO ea C dx (.ref T)))) T (.ext (TbO T))
theorem JB {T:Addr}{b:Addr}{o:HO} (hT:H T=none) (hb:b≠ea) (e:H b=some o):QM H ea C dx T b=some o:=by
 unfold QM;rw[qg (qj e hT),qg hb];exact e
theorem qe8 {T:Addr} (hT:H T=none) (hne:T≠ea):XAt (QM H ea C dx T) ea C dx:=by
 refine⟨.ref T,?_,.inr ⟨T,rfl,?_,hne⟩⟩
 · unfold QM;rw[qg (Ne.symm hne),qc]
 · unfold QM;rw[qc]
theorem qe6 {M:Model}{A:Around}{E:Value->Shared->Prop}{Q:Unit->Shared->Prop} (I:Inv X pins σ H s) (hst:X.stack=X.env::X.outer) (hf:X.env.frame=some X.env.locals) (hfr:A.frames=some X.stack) (x:XAt H ea C dx)
   (h:∀ s' T,H T=none->T≠ea->Inv X pins σ (QM H ea C dx T) s'->Q () s') :
   wpAny M A (noteFrame (.ref ea) X.env) (fun _ s2=>wpAny M A (setFlight (.ref ea) none) Q E s2) E s:=by
 obtain⟨tb,e1,e2⟩:=x;obtain⟨⟨oe,vs,he,hc,hdx,hd,hz,h1⟩,_,_⟩:=(show ObjOk X.prog X.w H s.heap ea (.ext (ExO ea C dx tb)) from I.hok ea _ e1)
 have ht:tb=.none∨∃ T,tb=.ref T∧TbO T s.heap:=by
   rcases e2 with e2|⟨T,e2,e3,_⟩
   · exact .inl e2
   · obtain⟨q,_,_⟩:=(show ObjOk X.prog X.w H s.heap T (.ext (TbO T)) from I.hok T _ e3)
     exact .inr ⟨T,e2,q⟩
 have hl:=I.stack;rw[hst]at hl hfr;have hea:ea∉frs X.stack:=fun z=>by have:=I.stkFree ea z;rw[e1]at this;cases this
 refine qe7 hfr hl hf he hd h1 ht fun h' T K=>?_;obtain⟨k1,k2,k3,k4,oT,ts,k5,k6,k7⟩:=K;rw[← hst]at k2;have hT:H T=none:=I.hok.fresh (by rw[k1];exact Nat.le_refl _);have hTe:T≠ea:=by rw[k1];exact Nat.ne_of_gt (Heap.lt_size he)
 have nT:∀ b ob,s.heap.get? b=some ob->b≠T:=fun b ob e=>by rw[k1];exact Nat.ne_of_lt (Heap.lt_size e)
 have trk:∀ b u,H b=some u->b∉frs X.stack:=fun b u e z=>by have:=I.stkFree b z;rw[e]at this;cases this
 have nex:∀ b u,H b=some u->(∀ φ,u≠.ext φ)->b≠ea:=fun b u e n z=>by subst z;rw[e1]at e;cases e;exact n _ rfl
 have old:∀ b u,H b=some u->(∀ φ,u≠.ext φ)->QM H ea C dx T b=some u:=fun b u e n=>JB hT (nex b u e n) e
 have un:Un (frs X.stack) [] H (QM H ea C dx T) s.heap h':=by
   refine⟨fun b o e n hb _=>k2 b o (fun z=>by subst z;rw[e1]at n;cases n) hb e,fun b o e n hb _=>k3 b o (fun z=>by subst z;rw[e1]at n;cases n) e,fun b o e n _=>?_,fun b o e _=>?_,
     fun b xs e=>old b _ e fun φ z=>(nomatch z),fun b o u e=>old b _ e fun φ z=>(nomatch z),fun b ps e=>⟨#[],by rw[old b _ e fun φ z=>(nomatch z)];simp⟩⟩
   · unfold QM;rw[qg (nT b o e),qg fun z=>by subst z;rw[e1]at n;cases n];exact n
   · by_cases z:b=ea
     · subst z;exact⟨_,k4⟩
     · obtain⟨sl,q⟩:=k3 b o z e;exact⟨_,q⟩
 have hok:HOk X.prog X.w (QM H ea C dx T) h':=fun b u e=>by
   by_cases z:b=T
   · subst z;unfold QM at e;rw[qc]at e;cases e;exact qiu ⟨oT,ts,k5,k6,k7⟩
   · by_cases z2:b=ea
     · subst z2;unfold QM at e;rw[qg z,qc]at e;cases e;refine qb1 ⟨_,_,k4,(Obj.cls_mapFields _ _).trans hc,?_,Obj.data_mapFields hd _,by simp[hz],by simp[hz]⟩;rw[← hdx];obtain⟨oc,od,odt,osl⟩:=oe;have hd':odt=.fields vs:=hd;subst hd';rfl
     · have e':H b=some u:=by
         unfold QM at e;rw[qg z,qg z2]at e;exact e
       refine(I.hok b u e').stay (fun c v hc q=>?_) (fun c q=>old c _ q fun φ z=>(nomatch z)) fun c xs q=>old c _ q fun φ z=>(nomatch z)
       rcases hc with hc|hc
       · subst hc;exact k2 c v z2 (trk c u e') q
       · exact k2 c v (nex c _ hc fun φ z=>(nomatch z)) (trk c _ hc) q
 exact h _ T hT hTe (I.call' (s':={ s with heap:=h' }) rfl un hok I.bare fun b z=>absurd z (by simp))
def Sure (E:XK) (C ea:Addr) (dx:Option Addr) (H:Hp):Prop:=∀ H',(∀ b o,b≠ea->H b=some o->H' b=some o)->XAt H' ea C dx->E (.ref C) (some ea) H'
theorem Sure.look {E:XK}{T:Addr} (h:Sure E C ea dx H) (hT:H T=none):Sure E C ea dx (QM H ea C dx T):=fun H' k x=>h H' (fun b o hb e=>k b o hb (JB hT hb e)) x
inductive qjB (P:Program) (w:World) (outer:List Env) (H:Hp) (s:Shared) (E:XK) (e:Value) (s':Shared):Prop
 | mk (ea C dx H':_) (h1:e=.ref ea) (h2:s'.os=s.os) (h3:AllBare s'.gens) (h4:Un (frs outer) [] H H' s.heap s'.heap) (h5:HOk P w H' s'.heap) (h6:XAt H' ea C dx) (h7:Sure E C ea dx H'):qjB P w outer H s E e s'
def CX1 (P:Program) (w:World):CXT:=fun outer H s E e s'=>qjB P w outer H s E e s'
def Throws (X:Cx) (E:XK):Prop:=∀ (pins:List (Addr×Obj)) (σ:St) (H:Hp) (s:Shared) (ea C:Addr) (dx:Option Addr),Inv X pins σ H s->XAt H ea C dx->Sure E C ea dx H->X.xe (.ref ea) s
theorem Throws.passes {E:XK} (t:Throws X E):jh (CX1 X.prog X.w) X E:=by
 intro pins σ H s e s' I ⟨ea,C,dx,H',e1,os,bare,un,hok,x,q⟩;subst e1;exact t pins σ H' s' ea C dx (I.call' os un hok bare fun b z=>absurd z (by simp)) x q
theorem throws_cx {P:Program}{w:World}{K:Frag}{mg:Str->Option Value}{base:Heap}{N:List Str}{qual:Str}{scope:Scope}{f:Addr}{cd:Value}{A:Around}{outer:List Env}{s₀:Shared}{H₀:Hp}{E:XK} :
   Throws (qY (CX1 P w) P w K mg base N qual scope f cd A outer s₀ H₀ E) E:=by
 intro pins σ H s ea C dx I x q;show wpAny _ _ (leaving _ _) _ _ _;unfold leaving;refine wpAny_bind (qe6 I rfl rfl I.ok.frames x fun s' T hT hne J=>?_);exact⟨ea,C,dx,_,rfl,J.os,J.bare,J.base,J.hok,qe8 hT hne,q.look hT⟩
end
def tyS:Value->String
 | .type a=>a
 | _=>""
theorem qis {v:Value}{s:String} (h:tyS v=s) (n:s≠""):v=.type s:=by
 cases v with
 | type a=>exact congrArg _ h
 | _=>exact absurd h.symm n
theorem qhe {l:List Value}:∀ {ss:List String},l.map tyS=ss->(∀ s∈ss,s≠"")->l=ss.map Value.type:=by
 induction l with
 | nil=>intro ss h _;rw[← h];rfl
 | cons v l ih =>
   intro ss h n
   cases ss with
   | nil=>cases h
   | cons s ss =>
     have h1:tyS v=s:=(List.cons.inj h).1;have h2:l.map tyS=ss:=(List.cons.inj h).2;rw[qis h1 (n s List.mem_cons_self),ih h2 fun x m=>n x (List.mem_cons_of_mem _ m)];rfl
def jU:List Value->Bool
 | []=>false
 | x::r=>match x with
   | .ref _=>jU r
   | _=>(x::r).map tyS == ["ValueError","Exception","BaseException","object"]
theorem j0 {l:List Value} (e:jU l=true):(∃ c r,l=.ref c::r∧jU r=true)∨l=[.type "ValueError",.type "Exception",.type "BaseException",.type "object"]:=by
 cases l with
 | nil=>cases e
 | cons x r =>
   unfold jU at e;split at e
   · exact .inl ⟨_,r,rfl,e⟩
   · exact .inr (qhe (eq_of_beq e) (by decide))
theorem zO {T:String}{v:Bool} (h4:([.type "ValueError",.type "Exception",.type "BaseException",.type "object"]:List Value).contains (.type T)=v) {l:List Value}:jU l=true->l.contains (.type T)=v:=by
 induction l with
 | nil=>intro e;cases e
 | cons x r ih =>
   intro e;rcases j0 e with ⟨c,r',h,e'⟩|h
   · cases h;rw[List.contains_cons,ih e',show (Value.type T == Value.ref c)=false from rfl,Bool.false_or]
   · rw[h];exact h4
inductive qg7 (K:Frag) (C:Addr):Prop
 | mk (nm qn:Str) (N:Addr) (bs bm:List Value) (sn:List Str) (sub:List Value) (ab:Bool) (col:Option Bool) (dd:Option Addr) (k0 k1 k2 k3 k5:Option Value) (h1:K.lookup C=some (excClassObj nm qn C N bs bm true sn sub ab col dd k0 k1 k2 k3 k5 "ValueError.__new__")) (h2:jU bm=true):qg7 K C
def qkc (K:Frag) (C:Addr):Prop:=qg7 K C
noncomputable def xIn (K:Frag) (C:Addr):Bool:=@decide (qkc K C) (Classical.propDecidable _)
theorem xIn_iff {K:Frag}{C:Addr}:xIn K C=true↔qkc K C:=@decide_eq_true_iff (qkc K C) (Classical.propDecidable _)
theorem qjC {K:Frag}{h:Heap}{C:Addr} (X:K.In h) (q:xIn K C=true):∃ nm qn N bs bm sn sub ab col dd k0 k1 k2 k3 k5,
   h.get? C=some (excClassObj nm qn C N bs bm true sn sub ab col dd k0 k1 k2 k3 k5 "ValueError.__new__")∧jU bm=true:=by
 obtain⟨nm,qn,N,bs,bm,sn,sub,ab,col,dd,k0,k1,k2,k3,k5,ho,hx⟩:=xIn_iff.mp q;exact⟨nm,qn,N,bs,bm,sn,sub,ab,col,dd,k0,k1,k2,k3,k5,X _ _ ho,hx⟩
section
variable {M:Model}{A:Around}{E:Value->Shared->Prop}{h:Heap}{g:Array GenState}{d:Drawn}{t:Nat}{os:OsState}
variable {nm q:Str}{C N:Addr}{bs bm bmB:List Value}{sn:List Str}{sub:List Value}{ab:Bool}{col:Option Bool}{dd:Option Addr}{k0 k1 k2 k3 k5:Option Value}{B newId initId:String}
theorem qcf (F:ExcBaseFacts B newId initId bmB) {rest:List Value}{Q:Unit->Shared->Prop} (hC:h.get? C=some (excClassObj nm q C N bs bm true sn sub ab col dd k0 k1 k2 k3 k5 newId))
   (hcont:(Value.ref C::bm).contains (.type B)=true) (hq:Q () ⟨h,g,d,t,os⟩):wpAny M A (checkBuiltinCall newId ⟨.ref C::rest,[]⟩) Q E ⟨h,g,d,t,os⟩:=by
 have hstar:=F.noStar;simp only[checkBuiltinCall,F.newKind,F.newSplit,F.newRow]
 repeat (first
   | refine wpAny_loadPart_at hC ?_
   | (refine wpAny_isSubtype_exc hC ?_;rw[hcont])
   | refine wpAny_staticBase_exc hC ?_
   | refine wpAny_madeBy_exc hC ?_
   | simp only[bne_self_eq_false,Bool.false_eq_true,if_false]
   | wp_step)
 exact hq
end
section
variable {prog:Program}{w:World}{A:Around}{R:Result->Shared->Prop}{E:Value->Shared->Prop}{h:Heap}{g:Array GenState}{d:Drawn}{t:Nat}{os:OsState}
variable {nm q:Str}{C N:Addr}{bs bm bmB:List Value}{sn:List Str}{sub:List Value}{ab:Bool}{col:Option Bool}{dd:Option Addr}{k0 k1 k2 k3 k5:Option Value}{B newId initId:String}
abbrev ZH (C:Addr) (t:Addr):Obj:={ cls:=.ref C,data:=.fields #[.ref t,.none,.none,.none,.bool false,.none] }
theorem qjH (F:ExcBaseFacts B newId initId bmB) {rest:List Value} (hC:h.get? C=some (excClassObj nm q C N bs bm true sn sub ab col dd k0 k1 k2 k3 k5 newId))
   (hcB:(Value.ref C::bm).contains (.type B)=true) (hcA:(Value.ref C::bm).contains (.type "AttributeError")=false) (hcN:(Value.ref C::bm).contains (.type "NameError")=false)
   (hq:R (.ok (.ret (.ref (h.objs.size+1)))) ⟨(h.push { cls:=.type "tuple",data:=.seq rest.toArray }).push (ZH C h.objs.size),g,d,t,os⟩) (hrest:rest.length≤sizeLine) :
   codeAny (model prog w) A (.builtin newId ⟨.ref C::rest,[]⟩) R ⟨h,g,d,t,os⟩:=by
 have hends:=F.ends;refine codeAny_builtinAt F.entry ?_;unfold Builtin.«BaseException.__new__»;refine PySem.wpAt_bind ?_;show PySem.wpAt _ _ _ (stack >>= _) _ _ _;refine PySem.wpAt_bind (PySem.wpAt_stack fun p below=>PySem.wpAt_of_wpAny ?_)
 wp_walk
 refine PySem.wpAt_of_wpAny ?_;rw[F.owner]
 repeat (first
   | with_reducible refine wpAny_madeHere_exc F.canon hC ?_
   | with_reducible refine wpAny_loadPart_at hC ?_
   | (with_reducible refine wpAny_isSubtype_exc hC ?_;first|rw[hcB]|rw[hcA]|rw[hcN])
   | wp_step)
 show R _ _;rw[Heap.size_push];exact hq
theorem qin {K:Frag}{rest:List Value}{fI:Addr}{Q:Value->Shared->Prop} (X:K.In h) (xi:xIn K C=true)
   (hi:findIn K (.ref C) "__init__"=some (some (.ref fI))) (hf:typeIn K (.ref fI)=some (.type "function"))
   (hq:wpAny (model prog w) (A.under (.builtin "type.__call__" ⟨.ref C::rest,[]⟩)) (call (.ref fI) (.ref (h.objs.size+1)::rest)) (fun r s'=>r=.none∧Q (.ref (h.objs.size+1)) s') E
     ⟨(h.push { cls:=.type "tuple",data:=.seq rest.toArray }).push (ZH C h.objs.size),g,d,t,os⟩) (hrest:rest.length≤sizeLine) :
   wpAny (model prog w) A (call (.ref C) rest) Q E ⟨h,g,d,t,os⟩:=by
 obtain⟨nm,qn,N,bs,bm,sn,sub,ab,col,dd,k0,k1,k2,k3,k5,hC,hx⟩:=qjC X xi;have F:=PySem.F.excBase_ValueError;have f1:=tc_lookup;have f2:=tc_bind (.ref C);have hT:(⟨h,g,d,t,os⟩:Shared).TypeIs (.ref C) "type":=⟨_,hC,rfl⟩
 have hcB:(Value.ref C::bm).contains (.type "ValueError")=true:=by rw[List.contains_cons,zO (v:=true) (by decide +kernel) hx,Bool.or_true]
 have hcA:(Value.ref C::bm).contains (.type "AttributeError")=false:=by rw[List.contains_cons,zO (v:=false) (by decide +kernel) hx];rfl
 have hcN:(Value.ref C::bm).contains (.type "NameError")=false:=by rw[List.contains_cons,zO (v:=false) (by decide +kernel) hx];rfl
 refine wpAny_call (codeAny_of_tree ?_);show wpAny _ _ (callAny (.ref C) _) _ _ _
 repeat (any_goals (first
   | assumption
   | with_reducible refine wpAny_loadPart_at hC ?_
   | wp_step))
 refine⟨rfl,?_⟩;refine codeAny_call_builtin_at (Code.quiet_builtin _ (by decide +kernel)) entry_typeCall (wpAny_check_type_call_sub hC ?_)
 repeat (first
   | with_reducible refine wpAny_loadPart_at hC ?_
   | with_reducible refine wpAny_madeBy_exc hC ?_
   | wp_step)
 refine codeAny_call_builtin_code (Code.quiet_builtin _ F.quiet) (qcf F hC hcB ?_);refine qjH F hC hcB hcA hcN ?_ hrest;show wpAny _ _ _ _ _ (⟨(h.push { cls:=.type "tuple",data:=.seq rest.toArray }).push (ZH C h.objs.size),g,d,t,os⟩:Shared);have kp:∀ b o,h.get? b=some o->((h.push { cls:=.type "tuple",data:=.seq rest.toArray }).push (ZH C h.objs.size)).get? b=some o:=fun b o e=>Heap.get?_push_of_some _ (Heap.get?_push_of_some _ e);have hC1:=kp _ _ hC;have X1:=X.keeps kp;have hget:((h.push { cls:=.type "tuple",data:=.seq rest.toArray }).push (ZH C h.objs.size)).get? (h.objs.size+1)=some (ZH C h.objs.size):=by heap_get
 have hcC:(Value.ref C::bm).contains (.ref C)=true:=by simp
 unfold isInstance
 repeat (first
   | with_reducible refine wpAny_loadPart_at hget ?_
   | (show wpAny _ _ (isSubtype (.ref C) _) _ _ _;with_reducible refine wpAny_isSubtype_exc hC1 ?_;rw[hcC])
   | wp_step)
 show wpAny _ _ (typeLookup (.ref C) _) _ _ _;refine(looks_findIn X1 hi).at ?_;refine wpAny_holding (wpAny_bind ((PySem.W.bind_fn X1 _ hf).at ?_));refine wpAny_bind (wpAny_mono hq (fun r s' hr=>?_) fun _ _ x=>x);obtain⟨rfl,hQ⟩:=hr
 wp_walk
 exact hQ
end
theorem xcd {K:Frag}{C:Addr} (q:xIn K C=true):∃ cd bm,clsIn K C=some cd∧cd.mro=.ref C::bm∧jU bm=true∧cd.hasDict=true:=by
 obtain⟨nm,qn,N,bs,bm,sn,sub,ab,col,dd,k0,k1,k2,k3,k5,ho,hx⟩:=xIn_iff.mp q
 have e:∃ cd,clsIn K C=some cd∧cd.mro=.ref C::bm∧cd.hasDict=true:=by
   unfold clsIn;rw[ho];exact⟨_,rfl,rfl,rfl⟩
 obtain⟨cd,h1,h2,h3⟩:=e;exact⟨cd,bm,h1,h2,hx,h3⟩
theorem qid {K:Frag}{C:Addr}{T:String} (q:xIn K C=true) (h4:([.type "ValueError",.type "Exception",.type "BaseException",.type "object"]:List Value).contains (.type T)=true):mroIn K C (.type T)=some true:=by
 obtain⟨cd,bm,h1,h2,h3,_⟩:=xcd q;unfold mroIn;rw[h1,Option.bind_some,h2,if_neg (by simp),List.contains_cons,zO h4 h3,Bool.or_true]
section
variable {M:Model}{A:Around}{E:Value->Shared->Prop}{s:Shared}{env:Env}
theorem qg9 {x:Sem Value}{Q:Flow->Shared->Prop} (hh:A.handled=none)
   (h:wpAny M A x (fun v s1=>∃ (ea C:Addr) (o:Obj) (vs:Array Value) (K:Frag),v=.ref ea∧K.In s1.heap∧xIn K C=true∧s1.heap.get? ea=some o∧o.cls=.ref C∧o.data=.fields vs∧vs[1]?=some .none∧E (.ref ea) s1) E s) :
   wpAny M A (raiseStmt env (some x) none) Q E s:=by
 unfold raiseStmt;refine wpAny_bind (wpAny_mono h (fun v s1 h1=>?_) fun _ _ x=>x);obtain⟨ea,C,o,vs,K,rfl,X,xi,he,hc,hd,hv,hE⟩:=h1;obtain⟨nm,qn,N,bs,bm,sn,sub,ab,col,dd,k0,k1,k2,k3,k5,hC,hx⟩:=qjC X xi;have hcB:(Value.ref C::bm).contains (.type "BaseException")=true:=by rw[List.contains_cons,zO (v:=true) (by decide +kernel) hx,Bool.or_true]
 obtain⟨oc,od,odt,osl⟩:=o;dsimp only at hc hd;subst hc hd;obtain⟨hp,g,d,tk,os⟩:=s1
 repeat (first
   | with_reducible refine wpAny_field he rfl hv ?_
   | with_reducible refine wpAny_loadPart_at he ?_
   | with_reducible refine wpAny_loadPart_at hC ?_
   | (with_reducible refine wpAny_isSubtype_exc hC ?_;rw[hcB])
   | wp_step)
 exact wpAny_raiseNew_none hh hE
end
section
variable {prog:Program}{w:World}{A:Around}{E:Value->Shared->Prop}{s:Shared}{K:Frag}{C x:Addr}{ox:Obj}{name:Str}{v:Value}
theorem qhc {rest:List Value}{vs:Array Value}{Q:Value->Shared->Prop} (X:K.In s.heap) (xi:xIn K C=true) (hx:s.heap.get? x=some ox) (hc:ox.cls=.ref C) (hd:ox.data=.fields vs) (hz:vs.size=6) (hl:rest.length≤sizeLine)
   (h:∀ h' tp,(∀ b o,b≠x->s.heap.get? b=some o->h'.get? b=some o)->h'.get? x=some (ox.mapFields (·.setIfInBounds 0 tp))->Q .none { s with heap:=h' }) :
   wpAny (model prog w) A (call (.builtin "ValueError.__init__") (.ref x::rest)) Q E s:=by
 obtain⟨hp,g,d,tk,os⟩:=s;have F:=PySem.F.excBase_ValueError;obtain⟨nm,qn,N,bs,bm,sn,sub,ab,col,dd,k0,k1,k2,k3,k5,hC,hxt⟩:=qjC X xi;have hcB:(Value.ref C::bm).contains (.type "ValueError")=true:=by rw[List.contains_cons,zO (v:=true) (by decide +kernel) hxt,Bool.or_true]
 have hshort:=F.noStar
 have chk:wpAny (model prog w) A.in1 (checkBuiltinCall "ValueError.__init__" ⟨.ref x::rest,[]⟩) (fun _ s'=>s'=⟨hp,g,d,tk,os⟩) (fun _ _=>False) ⟨hp,g,d,tk,os⟩:=by
   simp only[checkBuiltinCall,F.initKind,F.initSplit,F.initRow]
   repeat (first
     | (with_reducible refine wpAny_loadPart_at hx ?_;rw[hc])
     | with_reducible refine wpAny_loadPart_at hC ?_
     | (with_reducible refine wpAny_isSubtype_exc hC ?_;rw[hcB])
     | wp_step)
   refine wpAny_onRaise ?_
   rw[show ∀ (a b:String) (n:Nat),Bind.check ⟨.positional,"*","ValueError",.self,[⟨"args",.varPos,false⟩]⟩ a b n (List.map (fun x=>x.fst) ({ pos:=Value.ref x::rest }:Args).kw)=pure () from
     fun a b n=>check_star_args _ _ _ _ _ _]
   exact wpAny_pure rfl
 refine wpAny_call (codeAny_call_builtin F.init.plain F.initEntry (wpAny_mono chk (fun _ s1 e=>?_) fun _ _ z=>z.elim));subst e;unfold Builtin.«BaseException.__init__»
 repeat (first
   | with_reducible refine wpAny_loadPart_at hx ?_
   | wp_step)
 obtain⟨a0,h0⟩:∃ a0,vs[0]?=some a0:=⟨_,Array.getElem?_eq_getElem (by omega)⟩
 rw[hd];refine wpAny_pure ?_;rw[h0];refine wpAny_pure ?_;have hx1:(hp.push { cls:=.type "tuple",data:=.seq rest.toArray }).get? x=some ox:=Heap.get?_push_of_some _ hx;refine wpAny_bind (wpAny_setField hx1 hd (by omega) ?_)
 have fin:=h ((hp.push { cls:=.type "tuple",data:=.seq rest.toArray }).update x (Obj.mapFields (·.setIfInBounds 0 (.ref hp.objs.size)))) (.ref hp.objs.size) (fun b o hb e=>by
   rw[Heap.get?_update_other _ _ (Ne.symm hb)]
   exact Heap.get?_push_of_some _ e) (Heap.get?_update_self _ hx1 (Obj.isFreed_of_fields (Obj.data_mapFields hd _)))
 cases a0<;>(repeat wp_step)<;>exact fin
end
theorem qcI (self:Value) {l:List Value}:jU l=true->refuseLoop self "__setattr__" l=pure ():=by
 induction l with
 | nil=>intro e;cases e
 | cons x r ih =>
   intro e;rcases j0 e with ⟨c,r',h,e'⟩|h
   · cases h;rw[refuseLoop_ref];exact ih e'
   · rw[h];exact PySem.F.store_ValueError.passes self
section
variable {prog:Program}{w:World}{A:Around}{E:Value->Shared->Prop}{s:Shared}{K:Frag}{C x:Addr}{ox:Obj}{name:Str}{v:Value}
theorem qim {vs:Array Value}{Q:Unit->Shared->Prop} (X:K.In s.heap) (xi:xIn K C=true) (hx:s.heap.get? x=some ox) (hc:ox.cls=.ref C) (hd:ox.data=.fields vs) (hdn:ox.dict=none)
   (hs:findIn K (.ref C) "__setattr__"=some (some (.builtin "object.__setattr__"))) (ha:findIn K (.ref C) name=some none)
   (h:∀ h' dx,s.heap.objs.size≤dx->h'.get? x=some { ox with dict:=some dx }->h'.Ns1 dx (fun y=>if y=name then some v else none)->(∀ b o,b≠x->s.heap.get? b=some o->h'.get? b=some o) ->
     Q () { s with heap:=h',toks:=s.toks+2 }) :
   wpAny (model prog w) A (setAttr (.ref x) name v) Q E s:=by
 have SF:=PySem.F.store_object;obtain⟨cd,bm,hcd,hmro,hxt,hdict⟩:=xcd xi;have I:InstAt s.heap x ox C none:=⟨hx,hc,by unfold notCls;rw[hd],by rw[hdn];exact True.intro⟩
 refine set_plain X I hs ?_;have sub:Looks (model prog w) s.heap (isInstance (.ref x) (.type "object")) true:=I.type.andThen (looks_mroIn X (qid xi (by decide +kernel)));refine codeAny_call_builtin SF.slot.plain SF.entry (@check_slot (model prog w) _ _ { s with toks:=s.toks+1 } "object.__setattr__" "object" "__setattr__" (.ref x) [.str name s.toks,v] [] _ SF.kind SF.split sub (SF.args (.ref x) (.str name s.toks) v) ?_);have hm:Looks (model prog w) s.heap (mroOf (.ref C)) cd.mro:=(looks_clsIn X hcd).andThen .now;rw[osa_eq,refuse_eq];refine wpAny_bind (wpAny_bind (I.type.here (s:={ s with toks:=s.toks+1 }) (wpAny_bind (hm.here (s:={ s with toks:=s.toks+1 }) ?_))));rw[hmro,refuseLoop_ref,qcI _ hxt];refine wpAny_pure (wpAny_bind (I.type.here (s:={ s with toks:=s.toks+1 }) (wpAny_bind ((looks_findIn X ha).here (s:={ s with toks:=s.toks+1 }) (wpAny_bind (wpAny_pure ?_))))));dsimp only;unfold PySem.Builtin.ObjectAttr.storeInOwnDict;refine wpAny_bind (wpAny_pure ?_);rw[if_neg (by simp)];refine wpAny_bind (wpAny_bind (wpAny_loadPart hx ?_));rw[hc];dsimp only;refine wpAny_bind ((looks_clsIn X hcd).here (s:={ s with toks:=s.toks+1 }) ?_);rw[hdict,hdn,if_neg (by decide)];dsimp only;rw[if_neg (by simp[typeHasDict]),hd];dsimp only;have hx1:(s.heap.push { cls:=.type "dict",data:=.dict #[] }).get? x=some ox:=Heap.get?_push_of_some _ hx;have hxs:x≠s.heap.objs.size:=Nat.ne_of_lt (Heap.lt_size hx);refine wpAny_bind (wpAny_alloc' ?_);refine wpAny_bind (wpAny_update' hx1 ?_);refine wpAny_pure (a:=some s.heap.objs.size) ?_;generalize hg:((s.heap.push { cls:=.type "dict",data:=.dict #[] }).update x fun o=>{ cls:=o.cls,dict:=some s.heap.objs.size,data:=o.data,slots:=o.slots })=g1
 have hgd:g1.get? s.heap.objs.size=some { cls:=.type "dict",data:=.dict #[] }:=by
   rw[← hg];exact(Heap.get?_update_ne _ _ _ _ hxs.symm).trans (Heap.get?_push_at rfl rfl)
 have hnd:g1.Ns s.heap.objs.size (fun _=>none):=⟨_,#[],_,hgd,rfl,fun e he=>absurd he (by simp),fun _=>rfl⟩
 have hgx:g1.get? x=some { ox with dict:=some s.heap.objs.size }:=by
   rw[← hg];refine Heap.get?_update_self _ hx1 ?_;have hfr:=(Heap.get?_some_iff.mp hx).2;obtain⟨oc,od,odt,osl⟩:=ox;cases odt<;>first|rfl|exact hfr
 have hgo:∀ b o,b≠x->s.heap.get? b=some o->g1.get? b=some o:=fun b o hb e=>by
   rw[← hg];exact(Heap.get?_update_ne _ _ _ _ hb).trans (Heap.get?_push_of_some _ e)
 show wpAny _ _ (PySem.Builtin.ObjectAttr.storeInDict s.heap.objs.size (.str name s.toks) name v) _ _ _;unfold PySem.Builtin.ObjectAttr.storeInDict PySem.Builtin.ObjectAttr.newKeyGuard;refine wpAny_bind (wpAny_pure (wpAny_bind (wpAny_nsSet1 (Heap.Ns1.of_empty hnd) fun h' hn' hs'=>?_)));obtain⟨oD,esD,epD,hoD,hdD,hcD⟩:=hn'.count (Within.cons name v Within.nil);refine wpAny_bind (wpAny_lookBehind hoD (by rw[hdD];exact pastItsLine_dict (Nat.le_trans hcD (by rw[List.length_cons,List.length_nil,sizeLine_eq];omega))) ?_);refine wpAny_pure (h h' s.heap.objs.size (Nat.le_refl _) ((hs'.2 x hxs).trans hgx) hn' fun b o hb e=>(hs'.2 b (Nat.ne_of_lt (Heap.lt_size e))).trans (hgo b o hb e))
end
section
variable {prog:Program}{w:World}{A:Around}{E:Value->Shared->Prop}{s:Shared}{K:Frag}{C x:Addr}{ox:Obj}{od:Option Obj}{name:Str}{v:Value}
theorem qea {tk:Tok}{fill expr:Bool}{Q:Value->Shared->Prop} (X:K.In s.heap) (I:InstAt s.heap x ox C od) (xi:xIn K C=true)
   (hga:findIn K (.ref C) "__getattribute__"=some (some (.builtin "BaseException.__getattribute__"))) (hna:findIn K (.ref C) "__getattr__"=some none)
   (h:wpAny (model prog w) A.in1 (Builtin.«object.__getattribute__» ⟨[.ref x,.str name tk],[]⟩) (fun fin s'=>match fin with|.done (.ret v)=>wpAny (model prog w) A (handedOut v) Q E s'|_=>False) (fun _ _=>False) s) :
   wpAny (model prog w) A (getAttrBy (.ref x) (.str name tk) fill expr) Q E s:=by
 have hx2:(Value.builtin "BaseException.__getattribute__" == Value.builtin "object.__getattribute__")=false:=by decide +kernel
 unfold getAttrBy;refine wpAny_holding (wpAny_bind (I.type.here (wpAny_bind ((looks_findIn X hga).here ?_))));dsimp only;rw[hx2,Bool.and_false,if_neg (by decide)];unfold getAttrByItsOwn;refine wpAny_bind ((PySem.W.looks_hook X (r:=none) (by rw[if_pos (by rfl)];exact hna)).here (wpAny_bind (wpAny_attempt (wpAny_holding ?_))));unfold callGetattribute;rw[show (expr && onTheHeap (Value.builtin "BaseException.__getattribute__"))=false from by cases expr<;>rfl,if_neg (by decide)];unfold boundAndCalled;rw[PySem.F.excAttr_ValueError.ga.bind];refine wpAny_bind (wpAny_pure ?_);show wpAny _ _ (call (.builtin "BaseException.__getattribute__") [.ref x,.str name tk]) _ _ _;refine wpAny_call (codeAny_call_builtin PySem.F.excAttr_ValueError.ga.plain PySem.F.entry_bexc_ga ?_);refine @check_slot (model prog w) _ _ s "BaseException.__getattribute__" "BaseException" "__getattribute__" (.ref x) [.str name tk] [] _ (by decide +kernel) (by decide +kernel) (I.type.andThen (looks_mroIn X (qid xi (by decide +kernel)))) (PySem.F.args_bexc_ga (.ref x) (.str name tk)) ?_;refine wpAny_mono h (fun fin s' z=>?_) fun _ _ z=>z.elim;rcases fin with (_|_|_|_)|_<;>first|exact z|exact z.elim
theorem qjI {expr:Bool}{Q:Value->Shared->Prop} (X:K.In s.heap) (I:InstAt s.heap x ox C od) (xi:xIn K C=true)
   (hga:findIn K (.ref C) "__getattribute__"=some (some (.builtin "BaseException.__getattribute__"))) (hna:findIn K (.ref C) "__getattr__"=some none)
   (hf:findObj K C od name=some (.value v)) (hh:PySem.W.handedIn v=true) (h:Q v { s with toks:=s.toks+1 }):wpAny (model prog w) A (getAttr (.ref x) name expr) Q E s:=by
 unfold getAttr;refine wpAny_bind (wpAny_mkText (qea (s:={ s with toks:=s.toks+1 }) X I xi hga hna ?_));have L1:=looks_find (M:=model prog w) X I hf;unfold Builtin.«object.__getattribute__»;refine wpAny_bind (wpAny_pure (wpAny_bind (wpAny_pure (wpAny_bind (I.type.here (s:={ s with toks:=s.toks+1 }) (wpAny_bind (L1.here (s:={ s with toks:=s.toks+1 }) ?_)))))));refine wpAny_pure ?_;show wpAny _ _ (handedOut v) _ _ _;rw[PySem.W.handedOut_of hh];exact wpAny_pure h
end
structure XC (K:Frag) (C:Addr):Prop where
 xi:xIn K C=true
 ga:findIn K (.ref C) "__getattribute__"=some (some (.builtin "BaseException.__getattribute__"))
 na:findIn K (.ref C) "__getattr__"=some none
 sa:findIn K (.ref C) "__setattr__"=some (some (.builtin "object.__setattr__"))
 cl:findIn K (.ref C) "__class__"=some (some (.builtin "object.__class__"))
 gt:specialIn K (.builtin "object.__class__") "__get__"=some (some (.builtin "getset_descriptor.__get__"))
 tk:takesIn K (.builtin "object.__class__")=some true
section
variable {prog:Program}{w:World}{A:Around}{E:Value->Shared->Prop}{s:Shared}{K:Frag}{C x:Addr}{ox:Obj}{od:Option Obj}
theorem qhb {Q:Option Value->Shared->Prop} (X:K.In s.heap) (I:InstAt s.heap x ox C od) (c:XC K C) (hn:specialIn K (.builtin "object.__class__") "__get__"=some (some (.builtin "getset_descriptor.__get__")))
   (htk:takesIn K (.builtin "object.__class__")=some true) (h:Q (some (.ref C)) { s with toks:=s.toks+1 }):wpAny (model prog w) A (getAttr? (.ref x) "__class__") Q E s:=by
 obtain⟨cd,bm,hcd,hmro,hxt,hdict⟩:=xcd c.xi
 have hf:findObj K C od "__class__"=some (.bind (.builtin "getset_descriptor.__get__") (.builtin "object.__class__")):=by
   unfold findObj;rw[hcd,Option.bind_some,c.cl,Option.bind_some];simp[hn,htk]
 have L1:=looks_find (M:=model prog w) X I hf;unfold getAttr? getAttrBy?;refine wpAny_bind (wpAny_mkText (wpAny_bind (wpAny_attempt (qea (s:={ s with toks:=s.toks+1 }) X I c.xi c.ga c.na ?_))));unfold Builtin.«object.__getattribute__»;refine wpAny_bind (wpAny_pure (wpAny_bind (wpAny_pure (wpAny_bind (I.type.here (s:={ s with toks:=s.toks+1 }) (wpAny_bind (L1.here (s:={ s with toks:=s.toks+1 }) ?_)))))));show wpAny _ _ (holding [.builtin "object.__class__"] (call (.builtin "getset_descriptor.__get__") [.builtin "object.__class__",.ref x,.ref C]) >>= ret) _ _ _;refine wpAny_bind (wpAny_holding (wpAny_call (PySem.W.class_get (s:={ s with toks:=s.toks+1 }) (ox:=ox) (od:=od) X I (qid c.xi (by decide +kernel)) ?_)));refine wpAny_pure ?_;exact PySem.W.handed_on rfl (wpAny_pure h)
theorem qfM {cc:Value}{dep:Int}{tk:Tok}{b:Bool}{Q:Fin->Shared->Prop} (X:K.In s.heap) (I:InstAt s.heap x ox C od) (c:XC K C) (hn:specialIn K (.builtin "object.__class__") "__get__"=some (some (.builtin "getset_descriptor.__get__")))
   (htk:takesIn K (.builtin "object.__class__")=some true)
   (hty:Looks (model prog w) s.heap (typeOf cc) (.type "type")) (his:Looks (model prog w) s.heap (isType cc) true)
   (hne:(Value.ref C == cc)=true->b=true) (hsub:Looks (model prog w) s.heap (isSubtype (.ref C) cc) b) (h:∀ t,Q (.done (.ret (.bool b))) { s with toks:=t }) :
   wpAny (model prog w) A (Builtin.«isinstance.nested» ⟨[.ref x,cc,.int dep tk],[]⟩) Q E s:=by
 obtain⟨cd,bm,hcd,hmro,hxt,hdict⟩:=xcd c.xi
 have hisD:Looks (model prog w) s.heap (isType (.ref C)) true:=by
   unfold clsIn at hcd;split at hcd
   · rename_i c' d' cd' sl' ho
     intro A' Q' E' s' k q;unfold isType loadHead;exact wpAny_bind (wpAny_loadPart (k _ _ (X _ _ ho)) (wpAny_pure q))
   · cases hcd
 obtain⟨h0,g,d,tt,os⟩:=s;have L0:=I.type (M:=model prog w);have LI:Looks (model prog w) h0 (isInstance (.ref x) cc) b:=L0.andThen hsub;unfold Builtin.«isinstance.nested»;refine wpAny_bind (L0.at ?_);by_cases hq:(Value.ref C == cc)=true
 · rw[if_pos hq];have hb:=hne hq;subst hb;exact wpAny_pure (M:=model prog w) (E:=E) (h tt)
 rw[if_neg hq];refine wpAny_bind (hty.at ?_);rw[if_pos (by decide)]
 k_delta "plainIsInstance"
 refine wpAny_bind (wpAny_bind (his.at ?_));simp only[Bool.not_true,Bool.false_eq_true,if_false];refine wpAny_bind (LI.at ?_)
 cases b with
 | true =>
   simp only[if_true]
   first
     | exact wpAny_pure (h tt)
     | exact wpAny_pure (wpAny_pure (h tt))
     | exact wpAny_bind (wpAny_pure (wpAny_pure (h tt)))
 | false =>
   simp only[Bool.false_eq_true,if_false];refine wpAny_bind (qhb X I c hn htk ?_);refine wpAny_bind (hisD.at ?_);simp only[Bool.not_true,Bool.false_eq_true,if_false];refine wpAny_bind (wpAny_rule ?_);refine hsub.at ?_
   first
     | exact wpAny_pure (h _)
     | exact wpAny_pure (wpAny_pure (h _))
     | exact wpAny_bind (wpAny_pure (wpAny_pure (h _)))
theorem qfN {cc:Value}{b:Bool}{Q:Value->Shared->Prop} (X:K.In s.heap) (I:InstAt s.heap x ox C od) (c:XC K C) (hn:specialIn K (.builtin "object.__class__") "__get__"=some (some (.builtin "getset_descriptor.__get__")))
   (htk:takesIn K (.builtin "object.__class__")=some true)
   (hty:∀ (M:Model) h',K.In h'->Looks M h' (typeOf cc) (.type "type")) (his:∀ (M:Model) h',K.In h'->Looks M h' (isType cc) true)
   (hne:(Value.ref C == cc)=true->b=true) (hsub:∀ (M:Model) h',K.In h'->Looks M h' (isSubtype (.ref C) cc) b) (h:∀ t,Q (.bool b) { s with toks:=t }) :
   wpAny (model prog w) A (call (.builtin "isinstance") [.ref x,cc]) Q E s :=
 call_isinstance (S:=fun _ R s=>(K.In s.heap∧InstAt s.heap x ox C od)∧∀ t,R (.ok (.ret (.bool b))) { s with toks:=t })
   (fun _ _ _ _ _ hs=>isinstance_outer (qfM hs.1.1 hs.1.2 c hn htk (hty _ _ hs.1.1) (his _ _ hs.1.1) hne (hsub _ _ hs.1.1) hs.2) (by intro q;cases q)) ⟨⟨X,I⟩,h⟩
end
section
variable {X:Cx}{pins:List (Addr×Obj)}{σ:St}{H:Hp}{s:Shared}{h':Heap}
theorem Inv.two {x a:Addr}{o1 o2:HO}{t':Nat} (I:Inv X pins σ H s) (mu:Mut (H x)) (hp:s.heap.objs.size≤a) (k:∀ b u,b≠x->s.heap.get? b=some u->h'.get? b=some u) (hx:∃ u,h'.get? x=some u)
   (n1:ObjOk X.prog X.w (upd (upd H x o1) a o2) h' x o1) (n2:ObjOk X.prog X.w (upd (upd H x o1) a o2) h' a o2):Inv X pins σ (upd (upd H x o1) a o2) { s with heap:=h',toks:=t' }:=by
 have ha:H a=none:=I.hok.fresh hp;have ne:∀ b,H b=none->b≠x:=fun b n z=>by subst z;rw[n]at mu;exact mu
 have nm:∀ b u,H b=some u->¬ Mut (some u)->b≠x:=fun b u q n z=>by subst z;rw[q]at mu;exact n mu
 have old:∀ b u,H b=some u->¬ Mut (some u)->upd (upd H x o1) a o2 b=some u:=fun b u q n=>by rw[qg (qj q ha),qg (nm b u q n)];exact q
 refine I.un ⟨fun b u e n _ _=>k b u (ne b n) e,fun b u e n _ _=>⟨u.slots,k b u (ne b n) e⟩,fun b u e n _=>?_,fun b u e _=>?_,fun b xs e=>old b _ e fun z=>z,fun b o u e=>old b _ e fun z=>z,fun b ps e=>⟨#[],by rw[old b _ e fun z=>z];simp⟩⟩ fun b u e=>?_
 · rw[qg (Nat.ne_of_lt (Nat.lt_of_lt_of_le (Heap.lt_size e) hp)),qg (ne b n)];exact n
 · by_cases z:b=x
   · subst z;exact hx
   · exact⟨u,k b u z e⟩
 · by_cases z:b=a
   · subst z;rw[qc]at e;cases e;exact n2
   · rw[qg z]at e;by_cases z2:b=x
     · subst z2;rw[qc]at e;cases e;exact n1
     · rw[qg z2]at e;refine(I.hok b u e).stay (fun c v hc q=>?_) (fun c q=>old c _ q fun z=>z) fun c xs q=>old c _ q fun z=>z;rcases hc with hc|hc
       · subst hc;exact k c v z2 q
       · exact k c v (nm c _ hc fun z=>z) q
end
section
variable {X:Cx}{o e value:Expr}{es:List Expr}{f x:Str}{p apos pos pos' tpos:Pos}{ta tv:TE}{t:TA}{C fa:Addr}
structure XMk (K:Frag) (C f:Addr):Prop where
 c:XC K C
 init:findIn K (.ref C) "__init__"=some (some (.ref f))
 fn:isFn K (.ref f)=true
 kp:keepIn K (.ref C)=true
def qiv (C:Addr) (sp:Sp) (t:TA):TE:=fun σ H Q=>t σ H fun vs H1=>vs.length≤10∧∀ ea,H1 ea=none ->
 sp (.ref ea::vs) (upd H1 ea (.ext (ExO ea C none .none))) (fun v H2=>v=.non∧Q (.ref ea) H2) E0
theorem qeB {k:Nat}{fd:FuncData}{ps:List Str}{sp:Sp}{pins:List (Addr×Obj)}{σ:St}{H:Hp}{s:Shared}{Q:VK}{us:List Value}{vs:List V} (M:XMk X.K C fa) (F:qx X.prog X.w X.K X.mg X.base CX0 k fa fd ps sp)
   (hr:Room (k+1) X.A) (hb:Binds X.K fd ps []) (I:Inv X pins σ H s) (r:Vals vs us) (hl10:vs.length≤10)
   (h:∀ ea,H ea=none->sp (.ref ea::vs) (upd H ea (.ext (ExO ea C none .none))) (fun v H2=>v=.non∧Q (.ref ea) H2) E0) :
   wpAny (model X.prog X.w) X.A (call (.ref C) us) (EP X pins σ Q) X.xe s:=by
 have hq:=h (s.heap.objs.size+1) (I.hok.fresh (Nat.le_succ _));have hul:us.length≤sizeLine:=by rw[← r.length,sizeLine_eq];omega
 have kp:∀ b o,s.heap.get? b=some o->((s.heap.push { cls:=.type "tuple",data:=.seq us.toArray }).push (ZH C s.heap.objs.size)).get? b=some o:=fun b o e=>Heap.get?_push_of_some _ (Heap.get?_push_of_some _ e);have hget:((s.heap.push { cls:=.type "tuple",data:=.seq us.toArray }).push (ZH C s.heap.objs.size)).get? (s.heap.objs.size+1)=some (ZH C s.heap.objs.size):=by heap_get
 have I2:Inv X pins σ (upd H (s.heap.objs.size+1) (.ext (ExO (s.heap.objs.size+1) C none .none))) { s with heap:=(s.heap.push { cls:=.type "tuple",data:=.seq us.toArray }).push (ZH C s.heap.objs.size) } :=
   I.laid (t':=s.toks) kp (Nat.le_succ _) (qb1 ⟨_,_,hget,rfl,rfl,rfl,rfl,rfl⟩)
 have r2:Vals (V.ref (s.heap.objs.size+1)::vs) (Value.ref (s.heap.objs.size+1)::us):=.cons rfl r
 have hl:(Value.ref (s.heap.objs.size+1)::us++[]).length=ps.length:=by
   have e:=r2.length;rw[F.len _ _ _ _ hq]at e;rw[List.append_nil];exact e.symm
 obtain⟨hp,g,d,tk,os⟩:=s
 refine qin I.kIn M.c.xi M.init (beq_iff_eq.mp M.fn) (wpAny_call (codeAny_mono (F.run _ X.stack _ _ ⟨Value.ref (hp.objs.size+1)::us,[]⟩ (Value.ref (hp.objs.size+1)::us) _ _ E0 (hr.make C us [])
   (I2.env0.make C us []) (by have:=hb _ (Value.ref (hp.objs.size+1)::us) I2.kIn hl;rw[List.append_nil]at this;exact this) r2 hq) fun r s' hq'=>?_)) hul
 cases r with
 | error e=>exact False.elim hq'
 | ok fl =>
   cases fl with
   | ret u =>
     obtain⟨v,H',I3,rv,ev,q3⟩:=I2.after hq';subst ev;exact⟨rv,⟨V.ref (hp.objs.size+1),H',I3,rfl,q3⟩⟩
   | next=>exact False.elim hq'
   | brk=>exact False.elim hq'
   | cont=>exact False.elim hq'
theorem qdd {k:Nat}{fd:FuncData}{ps:List Str}{sp:Sp} (M:XMk X.K C fa) (F:qx X.prog X.w X.K X.mg X.base CX0 k fa fd ps sp) (hr:Room (k+1) X.A) (hg:Gl X x) (hm:X.mg x=some (.ref C)) (hb:Binds X.K fd ps [])
   (ha:PA X (e::es) t) (hdb:(x == ("__debug__":Str))=false:=by decide) (he:starEach (e::es) X.env=(false,eval e X.env)::starEach es X.env:=by rfl) (hpl:(backTo pos (starEach es X.env)).any (·.1)=false:=by rfl) :
   PE X (.Call (.Name x p) (e::es) [] pos) (qiv C sp t):=by
 intro pins s σ H Q I h;refine wpAny_Call_Name_kw (Zc I hg hm ?_ hdb);refine callWith_K (h₀:=X.base) I.ok.mod.kin M.kp (thn (ha pos pins s σ H _ I h) fun us s1 ⟨vs,H1,I1,r,q⟩=>⟨I1.kIn,?_⟩) he hpl;exact qeB M F hr hb I1 r q.1 q.2
inductive qcM (K:Frag) (E:XK) (x:V) (H1:Hp):Prop
 | mk (ea C dx:_) (h1:x=.ref ea) (h2:xIn K C=true) (h3:H1 ea=some (.ext (ExO ea C dx .none))) (h4:Sure E C ea dx H1):qcM K E x H1
def qiy (K:Frag) (E:XK) (te:TE):TS:=fun _ σ H=>te σ H fun x H1=>qcM K E x H1
theorem qdb {E:XK}{te:TE} (th:Throws X E) (hc:X.calm=true) (he:PE X e te):PS X (.Raise (some e) none pos) (qiy X.K E te):=by
 intro pins s σ H D I h;rw[arm_exec_Raise];refine wpAny_bind (wpAny_standAt ?_);simp only[evalOpt,Option.map];refine qg9 (I.ok.hd hc) (wpAny_bind (thn (he pins s σ H _ I h) fun u s1 ⟨x,H1,I1,rx,ea,C,dx,ex,xi,e1,sr⟩=>wpAny_bind (wpAny_standAt (wpAny_pure ?_))));subst ex;obtain rfl:u=Value.ref ea:=rx;obtain⟨⟨oe,vs,hx,hcl,hdx,hd,hz,h1⟩,_,_⟩:=(show ObjOk X.prog X.w H1 s1.heap ea (.ext (ExO ea C dx .none)) from I1.hok ea _ e1)
 exact⟨ea,C,oe,vs,X.K,rfl,I1.kIn,xi,hx,hcl,hd,h1,th pins σ H1 s1 ea C dx I1 ⟨.none,e1,.inl rfl⟩ sr⟩
inductive qcL (K:Frag) (Q:VK) (vs:List V) (H1:Hp):Prop
 | mk (ea C dx tb rest:_) (h1:vs=.ref ea::rest) (h2:rest.length≤10) (h3:H1 ea=some (.ext (ExO ea C dx tb))) (h4:xIn K C=true) (h5:Q .non H1):qcL K Q vs H1
def qiw (K:Frag) (t:TA):TE:=fun σ H Q=>t σ H fun vs H1=>qcL K Q vs H1
theorem qfQ {H:Hp}{a:Addr}{o:HO} (h:H a=some o):upd H a o=H:=by
 funext b;unfold upd;split
 · rename_i e;rw[e,h]
 · rfl
theorem qeb:findCls [] (.type "ValueError") (.type "type") "__init__"=some (.val (.builtin "ValueError.__init__")):=by kernel_rfl
theorem qf7 {pl:Sem Bool} (hg:Gl X x) (hm:X.mg x=none) (hv:bootBuiltins x=some (.type "ValueError")) (ha:PA X (e::es) t) (hn:x≠"__name__":=by decide) (hdb:(x == ("__debug__":Str))=false:=by decide)
   (hst:starEach (e::es) X.env=(false,eval e X.env)::starEach es X.env:=by rfl) (hpl:(backTo pos (starEach es X.env)).any (·.1)=false:=by rfl)
   (ht:eval (.Call (.Attribute (.Name x p) "__init__" apos) (e::es) [] pos) X.env=(do
     let ov ← eval (.Name x p) X.env
     standAt apos.atName
     let (f,first) ← holding [ov] (getMethod ov "__init__" pl)
     callWith pos f first (backTo pos (starEach (e::es) X.env)) (backToKw pos (keywordEach [] X.env))):=by rfl) :
   PE X (.Call (.Attribute (.Name x p) "__init__" apos) (e::es) [] pos) (qiw X.K t):=by
 intro pins s σ H Q I h;refine PySem.W.methodCall_KW (pl:=pl) (Zd I hg hm hv ?_ hn hdb) ht;obtain⟨m,F⟩:=I.fr;refine PySem.W.method_type (v:=.builtin "ValueError.__init__") F I.mod.kin (by kernel_rfl) (by decide +kernel) qeb rfl ?_;have I0:=I.tok (s.toks+1);refine PyProof.Rows.callWith_builtin1 (thn (ha pos pins _ σ H _ I0 h) fun us s1 zz_=>?_) hst hpl;obtain⟨vs,H1,I1,r,ea,C,dx,tb,rest,ev,hl,e1,xi,q⟩:=zz_;subst ev
 obtain⟨u0,us0,rfl,r0,r1⟩:∃ u0 us0,us=u0::us0∧RelV (.ref ea) u0∧Vals rest us0:=by
   cases r with
   | cons a b=>exact⟨_,_,rfl,a,b⟩
 obtain rfl:u0=Value.ref ea:=r0;obtain⟨⟨oe,vs,hx,hcl,hdx,hd,hz,h1⟩,_,_⟩:=(show ObjOk X.prog X.w H1 s1.heap ea (.ext (ExO ea C dx tb)) from I1.hok ea _ e1)
 refine qhc I1.kIn xi hx hcl hd hz (by rw[← r1.length,sizeLine_eq];omega) fun h' tp k1 k2=>⟨.non,H1,?_,rfl,q⟩
 have J:Inv X pins σ (upd H1 ea (.ext (ExO ea C dx tb))) { s1 with heap:=h',toks:=s1.toks }:=by
   refine I1.write (x:=ea) (e:=ea) (by rw[e1];exact True.intro) (.inl rfl) k1 ⟨_,k2⟩ (qb1 ⟨_,_,k2,(Obj.cls_mapFields _ _).trans hcl,?_,Obj.data_mapFields hd _,by simp[hz],?_⟩)
   · rw[← hdx];obtain⟨oc,od,odt,osl⟩:=oe;have hd':odt=.fields vs:=hd;subst hd';rfl
   · rw[Array.getElem?_setIfInBounds_ne (by decide)];exact h1
 rw[qfQ e1]at J;exact J
structure qgx (K:Frag) (C f:Addr):Prop where
 sp:specialIn K (.ref C) "__getattribute__"=some (some (.builtin "type.__getattribute__"))
 rd:PySem.W.readsIn K C (.type "type")=true
 at_:findCls K (.ref C) (.type "type") "__init__"=some (.val (.ref f))
 kp:keepIn K (.ref f)=true
theorem Z6 {k:Nat}{fd:FuncData}{ps:List Str}{sp:Sp}{pl:Sem Bool} (c:qgx X.K C fa) (F:qx X.prog X.w X.K X.mg X.base CX0 k fa fd ps sp) (hr:Room k X.A) (hb:Binds X.K fd ps []) (hg:Gl X x) (hm:X.mg x=some (.ref C))
   (ha:PA X (e::es) t) (hdb:(x == ("__debug__":Str))=false:=by decide)
   (hst:starEach (e::es) X.env=(false,eval e X.env)::starEach es X.env:=by rfl) (hpl:(backTo pos (starEach es X.env)).any (·.1)=false:=by rfl)
   (ht:eval (.Call (.Attribute (.Name x p) "__init__" apos) (e::es) [] pos) X.env=(do
     let ov ← eval (.Name x p) X.env
     standAt apos.atName
     let (f,first) ← holding [ov] (getMethod ov "__init__" pl)
     callWith pos f first (backTo pos (starEach (e::es) X.env)) (backToKw pos (keywordEach [] X.env))):=by rfl) :
   PE X (.Call (.Attribute (.Name x p) "__init__" apos) (e::es) [] pos) (qhl sp [] E0 t):=by
 intro pins s σ H Q I h;refine PySem.W.methodCall_KW (pl:=pl) (Zc I hg hm ?_ hdb) ht;refine PySem.W.method_cls I.kIn c.sp (PySem.W.cls_value I.kIn c.rd c.at_ rfl ?_);have I0:=I.tok (s.toks+1);refine callWith_K (h₀:=X.base) I.ok.mod.kin c.kp (thn (ha pos pins _ σ H _ I0 h) fun us s1 ⟨vs,H1,I1,r,q⟩=>⟨I1.kIn,?_⟩) hst hpl;exact qc2 F hr hb .nil qp I1 r q
def qjT (K:Frag) (ta tv:TE) (f:Str):TS:=fun D σ H=>tv σ H fun y H1=>ta σ H1 fun x H2=>∃ ea C tb,x=.ref ea∧H2 ea=some (.ext (ExO ea C none tb))∧XC K C∧NoAttr K C f ∧
 ∀ dx,H2 dx=none->dx≠ea->D.nx σ (upd (upd H2 ea (.ext (ExO ea C (some dx) tb))) dx (.xd [(f,y)]))
theorem qhC (ha:PE X o ta) (hv:PE X value tv) (hs:swapsWith value (some (.Attribute o f pos')) pos.line X.env=pure false):PS X (.Assign [.Attribute o f pos'] value pos) (qjT X.K ta tv f):=by
 intro pins s σ H D I h;refine plainObj_wpAny_Assign_Attribute (thn (hv pins s σ H _ I h) fun u s1 ⟨y,H1,I1,ry,q⟩=>thn (ha pins s1 σ H1 _ I1 q) fun ov s2 zz_=>?_) hs;obtain⟨x,H2,I2,rx,ea,C,tb,ex,e1,c,n,q2⟩:=zz_;subst ex;obtain rfl:ov=Value.ref ea:=rx;obtain⟨⟨oe,vs,hx,hcl,hdx,hd,hz,h1⟩,_,_⟩:=(show ObjOk X.prog X.w H2 s2.heap ea (.ext (ExO ea C none tb)) from I2.hok ea _ e1)
 refine qim I2.kIn c.xi hx hcl hd hdx c.sa n fun h' dx hp k1 k2 k3=>⟨σ,_,?_,q2 dx (I2.hok.fresh hp) (Nat.ne_of_gt (Nat.lt_of_lt_of_le (Heap.lt_size hx) hp))⟩
 refine I2.two (by rw[e1];exact True.intro) hp k3 ⟨_,k1⟩ (qb1 ⟨_,_,k1,hcl,rfl,hd,hz,h1⟩) ⟨_,k2,fun g=>?_⟩;by_cases z:g=f
 · subst z;simp[List.lookup];exact ry
 · have:(g == f)=false:=by simp[z]
   simp[List.lookup,this,z];exact True.intro
inductive qeh (K:Frag) (f:Str) (Q:VK) (x:V) (H1:Hp):Prop
 | mk (ea C dx fs v:_) (h1:x=.ref ea) (h2:XAt H1 ea C (some dx)) (h3:H1 dx=some (.xd fs)) (h4:XC K C) (h5:NoAttr K C f) (h6:fs.lookup f=some v) (h7:Q v H1):qeh K f Q x H1
def qfU (K:Frag) (ta:TE) (f:Str):TE:=fun σ H Q=>ta σ H fun x H1=>qeh K f Q x H1
theorem qgy {pins:List (Addr×Obj)}{σ:St}{H:Hp}{s:Shared}{ea C dx:Addr}{fs:List (Str×V)} (I:Inv X pins σ H s) (x:XAt H ea C (some dx)) (hd:H dx=some (.xd fs)) :
   ∃ (ox od:Obj) (mA:Str->Option Value),InstAt s.heap ea ox C (some od)∧(∀ name,PySem.W.lookIn name od=some (mA name))∧∀ f,RelO (fs.lookup f) (mA f):=by
 obtain⟨tb,e1,_⟩:=x;obtain⟨⟨oe,vs,hx,hcl,hdx,hdt,hz,h1⟩,_,_⟩:=(show ObjOk X.prog X.w H s.heap ea (.ext (ExO ea C (some dx) tb)) from I.hok ea _ e1)
 obtain⟨mA,n,r⟩:=(show ObjOk X.prog X.w H s.heap dx (.xd fs) from I.hok dx _ hd)
 obtain⟨od,ho,hl⟩:=qbS n;exact⟨oe,od,mA,⟨hx,hcl,by unfold notCls;rw[hdt],by rw[hdx];exact ho⟩,hl,r⟩
theorem qcp (he:PE X e ta) (hb:attributeBase e f X.env (eval e X.env)=eval e X.env):PE X (.Attribute e f pos) (qfU X.K ta f):=by
 intro pins s σ H Q I h;refine qfJ hb (thn (he pins s σ H _ I h) fun u s1 zz_=>?_);obtain⟨x,H1,I1,rx,ea,C,dx,fs,v,ex,xa,hd,c,n,l,q⟩:=zz_;subst ex;obtain rfl:u=Value.ref ea:=rx;obtain⟨ox,od,mA,J,hl,r⟩:=qgy I1 xa hd;obtain⟨uv,hu,ru⟩:=RelO.some_of (v:=v) (o:=mA f) (by rw[← l];exact r f)
 have hh:hasDictIn X.K C=true:=by
   obtain⟨cd,bm,hcd,_,_,hdict⟩:=xcd c.xi;unfold hasDictIn;rw[hcd];exact hdict
 exact qjI I1.kIn J c.xi c.ga c.na (PySem.W.findObj_own hh n rfl (by rw[hl,hu])) (qbY ru) ⟨v,H1,I1.tok _,ru,q⟩
def qce (K:Frag) (C:Addr):V->Option Bool
 | .ref D=>if (clsIn K D).isSome && typeIn K (.ref D) == some (.type "type") then subIn K (.ref C) (.ref D) else none
 | .ty T=>if T == "ValueError" then some true else none
 | _=>none
inductive qgP (K:Frag) (xs:List V) (H:Hp) (Q:VK):Prop
 | mk (ea C dx fs c b:_) (h1:xs=[.ref ea,c]) (h2:XAt H ea C (some dx)) (h3:H dx=some (.xd fs)) (h4:XC K C) (h5:qce K C c=some b) (h6:Q (.bl b) H):qgP K xs H Q
def qkK (K:Frag):List V->Hp->VK->Prop:=fun xs H Q=>qgP K xs H Q
theorem qgv:QN X (.builtin "isinstance") (qkK X.K):=by
 intro pins s σ H xs us Q I r h;obtain⟨ea,C,dx,fs,c,b,rfl,xa,hd,xc,hi,q⟩:=h;obtain⟨u,w',rfl,ru,rw'⟩:=qec r;cases (show u=Value.ref ea from ru);obtain⟨ox,od,mA,J,hl,_⟩:=qgy I xa hd
 cases c with
 | ref D =>
   cases (show w'=Value.ref D from rw');simp only[qce]at hi;split at hi
   · rename_i hq
     simp only[Bool.and_eq_true,beq_iff_eq]at hq;obtain⟨q1,q2⟩:=hq;refine qfN I.kIn J xc xc.gt xc.tk (b:=b) (fun _ h' X'=>looks_typeIn X' q2) (fun _ h' X'=>?_) (fun z=>?_) (fun _ h' X'=>looks_subIn X' hi) fun t=>⟨.bl b,H,I.tok t,rfl,q⟩
     · unfold clsIn at q1;split at q1
       · rename_i c' d' cd' sl' ho
         intro A' Q' E' s' k q;unfold isType loadHead;exact wpAny_bind (wpAny_loadPart (k _ _ (X' _ _ ho)) (wpAny_pure q))
       · cases q1
     · have z':C=D:=Value.ref.inj (beq_iff_eq.mp z);subst z';obtain⟨cd,bm,hcd,hmro,_,_⟩:=xcd xc.xi
       have e2:mroIn X.K C (.ref C)=some true:=by
         unfold mroIn;rw[hcd,Option.bind_some,hmro,if_neg (by simp)];simp
       have e3:subIn X.K (.ref C) (.ref C)=some true:=e2;rw[e3]at hi;exact(Option.some.inj hi).symm
   · cases hi
 | ty T =>
   cases (show w'=Value.type T from rw');simp only[qce]at hi;split at hi
   · rename_i hq
     rw[beq_iff_eq]at hq;subst hq;cases hi;refine qfN I.kIn J xc xc.gt xc.tk (b:=true) (fun _ h' X'=>Looks.of_pure (by kernel_rfl)) (fun _ h' X'=>Looks.of_pure rfl) (fun _=>rfl) (fun _ h' X'=>looks_mroIn X' (qid xc.xi (by decide +kernel))) fun t=>⟨.bl true,H,I.tok t,rfl,q⟩
   · cases hi
 | non=>cases hi
 | bl _=>cases hi
 | int _=>cases hi
 | str _=>cases hi
 | byt _=>cases hi
 | flt _=>cases hi
end
abbrev qh6 (X:Cx):Cx:={ X with xe:=fun _ _=>False }
abbrev qgg (X:Cx) (ea:Addr):Cx:={ X with A:=X.A.mark (some (.ref ea)),calm:=false,xe:=fun _ _=>False }
section
variable {X:Cx}{pins:List (Addr×Obj)}{σ:St}{H:Hp}{s:Shared}
theorem Inv.dead (I:Inv X pins σ H s):Inv (qh6 X) pins σ H s:=by
 obtain⟨⟨a1,a2,a3,a4,a5,a6,a7,a8,a9,a10,a11,a12,a13,a14,a15,a16,a17,a18⟩,b1,b2,b3,b4,b5,b6,b7,b8,b9,b10⟩:=I;exact⟨⟨a1,a2,a3,a4,a5,a6,a7,a8,a9,a10,a11,a12,a13,a14,a15,a16,a17,a18⟩,b1,b2,b3,b4,b5,b6,b7,b8,b9,b10⟩
theorem Inv.live (I:Inv (qh6 X) pins σ H s):Inv X pins σ H s:=by
 obtain⟨⟨a1,a2,a3,a4,a5,a6,a7,a8,a9,a10,a11,a12,a13,a14,a15,a16,a17,a18⟩,b1,b2,b3,b4,b5,b6,b7,b8,b9,b10⟩:=I;exact⟨⟨a1,a2,a3,a4,a5,a6,a7,a8,a9,a10,a11,a12,a13,a14,a15,a16,a17,a18⟩,b1,b2,b3,b4,b5,b6,b7,b8,b9,b10⟩
theorem Inv.mark (I:Inv X pins σ H s) (ea:Addr):Inv (qgg X ea) pins σ H s:=by
 obtain⟨⟨a1,a2,a3,a4,a5,a6,a7,a8,a9,a10,a11,a12,a13,a14,a15,a16,a17,a18⟩,b1,b2,b3,b4,b5,b6,b7,b8,b9,b10⟩:=I;exact⟨⟨a1,a2,a3,a4,a5,a6,a7,a8,fun z=>(nomatch z),a10,a11,a12,a13,a14,a15,a16,a17,a18⟩,b1,b2,b3,b4,b5,b6,b7,b8,b9,b10⟩
theorem Inv.unmark {ea:Addr}{A0:Prop} (k:X.Ok) (I:Inv (qgg X ea) pins σ H s):Inv X pins σ H s:=by
 obtain⟨_,b1,b2,b3,b4,b5,b6,b7,b8,b9,b10⟩:=I;exact⟨k,b1,b2,b3,b4,b5,b6,b7,b8,b9,b10⟩
theorem Inv.lose {h':Heap}{m':Str->Option Value}{t':Nat} (I:Inv X pins σ H s) (hn:h'.Ns X.env.locals m') (hs:Heap.SameBut X.env.locals s.heap h'):Inv X pins (List.replicate X.N.length none) H { s with heap:=h',toks:=t' }:=by
 have neL:∀ b o,X.s₀.heap.get? b=some o->b≠X.env.locals:=fun b o e=>Nat.ne_of_lt (Nat.lt_of_lt_of_le (Heap.lt_size e) I.ok.above);have up:∀ b o,b≠X.env.locals->s.heap.get? b=some o->h'.get? b=some o:=fun b o hb e=>(hs.2 b hb).trans e
 refine⟨I.ok,I.os,I.bare,⟨fun b o e n hb hx=>up b o (neL b o e) (I.base.keep b o e n hb hx),fun b o e n hb hx=>?_,I.base.free,fun b o e hx=>?_,I.base.tups,I.base.frzs,I.base.tbls⟩,
   ⟨m',hn,fun i x v _ e2 _=>?_⟩,fun x c e=>?_,I.free,I.freeC,fun p hp=>?_,fun b u e=>?_,by simp⟩
 · obtain⟨sl,q⟩:=I.base.slot b o e n hb hx;exact⟨sl,up b _ (neL b o e) q⟩
 · obtain⟨o',q⟩:=I.base.there b o e hx;exact⟨o',up b _ (neL b o e) q⟩
 · rw[List.getElem?_replicate]at e2;split at e2<;>cases e2
 · obtain⟨v,o,ho,hd⟩:=I.cell x c e;exact⟨v,o,up c o (I.cne x c e) ho,hd⟩
 · obtain⟨e,n,ne,nf,d⟩:=I.pin p hp;exact⟨up p.1 p.2 ne e,n,ne,nf,d⟩
 · refine(I.hok b u e).stay (fun c v hc q=>up c v (fun z=>?_) q) (fun _ q=>q) fun _ _ q=>q;rcases hc with hc|hc
   · rw[← hc,z,I.free]at e;cases e
   · rw[z,I.free]at hc;cases hc
end
section
variable {M:Model}{A:Around}{E:Value->Shared->Prop}{s:Shared}
theorem qd9 {K:Frag}{C L x:Addr}{ox:Obj}{Q:Bool->Shared->Prop} (X:K.In s.heap) (xc:xIn K C=true) (xl:xIn K L=true) (hm:mroIn K C (.ref L)=some true) (hx:s.heap.get? x=some ox) (hc:ox.cls=.ref C)
   (h:Q true s):wpAny M A (excMatches (.ref x) (.ref L)) Q E s:=by
 obtain⟨hp,g,d,tk,os⟩:=s;obtain⟨nm,qn,N,bs,bm,sn,sub,ab,col,dd,k0,k1,k2,k3,k5,hC,hxt⟩:=qjC X xl;have hcB:(Value.ref L::bm).contains (.type "BaseException")=true:=by rw[List.contains_cons,zO (v:=true) (by decide +kernel) hxt,Bool.or_true]
 have f:=tc_notTuple;have LL:=looks_mroIn (M:=M) X hm;unfold excMatches
 repeat (first
   | (with_reducible refine wpAny_loadPart_at hx ?_;rw[hc])
   | with_reducible refine wpAny_loadPart_at hC ?_
   | (with_reducible refine wpAny_isSubtype_exc hC ?_;rw[hcB])
   | (with_reducible refine LL.at ?_)
   | wp_step)
 exact h
end
abbrev XTE:=St->Hp->VK->XK->Prop
abbrev XTS:=qd7->XK->St->Hp->Prop
def qkd (X:Cx) (pins:List (Addr×Obj)) (σ:St) (E:XK) (Ex:Value->Shared->Prop):Prop :=
 ∀ (ea C:Addr) (dx:Option Addr) (H':Hp) (s':Shared),Inv X pins σ H' s'->XAt H' ea C dx->Sure E C ea dx H'->Ex (.ref ea) s'
def PEX (X:Cx) (e:Expr) (t:XTE):Prop :=
 ∀ (pins:List (Addr×Obj)) (s:Shared) (σ:St) (H:Hp) (Q:VK) (E:XK) (Ex:Value->Shared->Prop),Inv X pins σ H s->t σ H Q E->qkd X pins σ E Ex->wpAny (model X.prog X.w) X.A (eval e X.env) (EP X pins σ Q) Ex s
def PX (X:Cx) (st:List Stmt) (t:XTS):Prop :=
 ∀ (pins:List (Addr×Obj)) (s:Shared) (σ:St) (H:Hp) (D:qd7) (E:XK) (Ex:Value->Shared->Prop),Inv X pins σ H s->t D E σ H->qkd X pins σ E Ex->wpAny (model X.prog X.w) X.A (execs st X.env) (SP X pins D) Ex s
section
variable {X:Cx}{e o c:Expr}{es:List Expr}{a b:List Stmt}{x m:Str}{p pos apos:Pos}{ta:TE}{t:TA}{tc:TT}{f C:Addr}{fd:FuncData}{ps:List Str}{sp:Sp}{k:Nat}
theorem qcG {α:Type}{u:Sem α}{Q:α->Shared->Prop}{M:Model}{A:Around}{Ex:Value->Shared->Prop}{s:Shared} (h:wpAny M A u Q (fun _ _=>False) s):wpAny M A u Q Ex s:=wpAny_mono h (fun _ _ z=>z) fun _ _ z=>z.elim
theorem qhw {pins:List (Addr×Obj)}{σ:St}{H:Hp}{s:Shared}{Q:VK}{E:XK}{Ex:Value->Shared->Prop}{us:List Value}{vs:List V} (F:qx X.prog X.w X.K X.mg X.base (CX1 X.prog X.w) k f fd ps sp) (hr:Room k X.A) (hb:Binds X.K fd ps [])
   (I:Inv X pins σ H s) (r:Vals vs us) (h:sp vs H Q E) (w:qkd X pins σ E Ex):wpAny (model X.prog X.w) X.A (call (.ref f) us) (EP X pins σ Q) Ex s:=by
 have hl:(us++[]).length=ps.length:=by rw[List.append_nil,← r.length];exact F.len _ _ _ _ h
 have hbb:=hb s us I.kIn hl;rw[List.append_nil]at hbb;refine wpAny_call (codeAny_mono (F.run X.A X.stack s H ⟨us,[]⟩ us vs Q E hr I.env0 hbb r h) fun r s' hq=>?_)
 cases r with
 | error e =>
   obtain⟨ea,C,dx,H',e1,os,bare,un,hok,x,q⟩:=hq;subst e1;exact w ea C dx H' s' (I.call' os un hok bare fun b z=>absurd z (by simp)) x q
 | ok fl =>
   cases fl with
   | ret u=>exact I.after hq
   | next=>exact False.elim hq
   | brk=>exact False.elim hq
   | cont=>exact False.elim hq
def qjJ (sp:Sp) (t:TA):XTE:=fun σ H Q E=>t σ H fun vs H1=>sp vs H1 Q E
theorem qf6 (F:qx X.prog X.w X.K X.mg X.base (CX1 X.prog X.w) k f fd ps sp) (hr:Room k X.A) (hg:Gl X x) (hm:X.mg x=some (.ref f)) (hk:keepIn X.K (.ref f)=true) (hb:Binds X.K fd ps [])
   (ha:PA (qh6 X) (e::es) t) (hdb:(x == ("__debug__":Str))=false:=by decide) (he:starEach (e::es) X.env=(false,eval e X.env)::starEach es X.env:=by rfl) (hpl:(backTo pos (starEach es X.env)).any (·.1)=false:=by rfl) :
   PEX X (.Call (.Name x p) (e::es) [] pos) (qjJ sp t):=by
 intro pins s σ H Q E Ex I h w;refine wpAny_Call_Name_kw (Zc I hg hm ?_ hdb);refine callWith_K (h₀:=X.base) I.ok.mod.kin hk (thn (qcG (ha pos pins s σ H _ I.dead h)) fun us s1 ⟨vs,H1,I1,r,q⟩=>⟨I1.kIn,?_⟩) he hpl;exact qhw F hr hb I1.live r q w
def qkD (K:Frag) (LC:Addr) (i:Nat) (tb:XTS) (th:TS):TS:=fun D σ H=>tb D (fun Cv eo H'=>∃ C ea,Cv=.ref C∧eo=some ea∧xIn K C=true∧mroIn K C (.ref LC)=some true ∧
 th { nx:=fun _ _=>False,rt:=D.rt } (σ.set i (some (.ref ea))) H') σ H
theorem qiW {body suite:List Stmt}{b₀:Stmt}{lx n:Str}{np hpos:Pos}{i:Nat}{LC:Addr}{tb:XTS}{th:TS} (hst:X.stack=X.env::X.outer) (hfr:X.env.frame=some X.env.locals)
   (hb:PX X body tb) (hg:Gl X lx) (hm:X.mg lx=some (.ref LC)) (xl:xIn X.K LC=true) (hN:X.N.Nodup) (hi:X.N[i]?=some n) (hx:Loc X.env.scope n) (hloc:X.env.kindOf n=some .local)
   (hh:∀ ea,PSs (qgg X ea) (b₀::suite) th) (hdb:(lx == ("__debug__":Str))=false:=by decide) (hf:X.fn n=true∨X.env.scope.names.lookup n=some .local:=by first|exact .inl rfl|exact .inr rfl) :
   PS X (.Try body [.ExceptHandler (some (.Name lx np)) (some n) (b₀::suite) hpos] [] [] pos) (qkD X.K LC i tb th):=by
 intro pins s σ H D I h;refine wpAny_Try_except ?_;refine wpAny_mono (hb pins s σ H D _ (fun e s₁=>wpAny (model X.prog X.w) X.A (noteFrame e X.env) (fun _ s₂=>wpAny (model X.prog X.w) X.A (setFlight e none) (fun _ s₃=>wpAny (model X.prog X.w) X.A (handleBy e X.env [.ExceptHandler (some (.Name lx np)) (some n) (b₀::suite) hpos]) (SP X pins D) X.xe s₃) X.xe s₂) X.xe s₁) I h ?_)
   (fun f s1 q=>?_) fun e s1 q=>q
 · intro ea C dx H' s' J xa sr;refine qe6 J hst hfr J.ok.frames xa fun s2 T hT hne J2=>?_;obtain⟨C1,ea1,e1,e2,xc,hmr,q⟩:=sr _ (fun b o hb e=>JB hT hb e) (qe8 hT hne);cases e1;cases e2;have tb1:QM H' ea C dx T ea=some (.ext (ExO ea C dx (.ref T))):=by unfold QM;rw[qg (Ne.symm hne),qc]
   have tb2:QM H' ea C dx T T=some (.ext (TbO T)):=by unfold QM;rw[qc]
   obtain⟨⟨oe,vs,hx1,hcl,hdx,hd,hz,h1⟩,_,_⟩:=(show ObjOk X.prog X.w _ s2.heap ea (.ext (ExO ea C dx (.ref T))) from J2.hok ea _ tb1)
   obtain⟨⟨oT,ts,hT1,hTd,hT3⟩,_,_⟩:=(show ObjOk X.prog X.w _ s2.heap T (.ext (TbO T)) from J2.hok T _ tb2)
   have JM:=J2.mark ea;refine wpAny_handleBy_cons (codeAny_handlers_test (Zc (X:=qgg X ea) JM hg hm ?_ hdb)) (by intro z;cases z);refine qd9 J2.kIn xc xl hmr hx1 hcl ?_;refine codeAny_handlers_suite_as ?_;unfold setFlight;refine wpAny_bind (wpAny_field hx1 hd h1 ?_);rw[if_pos (show (Value.ref T != Value.none)=true from by simp)];refine wpAny_setField hT1 hTd (Array.getElem?_eq_some_iff.mp hT3).1 ?_;rw[show s2.heap.update T (Obj.mapFields (·.setIfInBounds 3 ((none:Option Addr).elim Value.none fun f=>rawInt f)))=s2.heap from Heap.update_setField_same s2.heap T oT ts 3 Value.none hT1 hTd hT3];refine ZM (v:=.ref ea) J2 hN hi hx rfl (fun s3 J3=>?_) hf;refine wpAny_mono (hh ea pins s3 _ _ _ (J3.mark ea) q) (fun fl s4 q4=>?_) fun _ _ z=>z.elim
   cases fl with
   | next=>obtain⟨_,_,_,z⟩:=q4;exact z.elim
   | brk=>obtain⟨_,_,_,z⟩:=q4;exact z.elim
   | cont=>obtain⟨_,_,_,z⟩:=q4;exact z.elim
   | ret u =>
     obtain⟨v,σ',H4,J4,rv,z⟩:=q4;have J5:=Inv.unmark (A0:=True) J2.ok J4;obtain⟨m,hn,_⟩:=J5.loc;refine wpAny_nameGoes hloc hn (by rw[J2.ok.kind];rfl) fun h' m' hn' hs'=>?_;exact⟨v,_,H4,J5.lose hn' hs',rv,z⟩
 · cases f with
   | next=>exact wpAny_execs_nil q
   | ret v=>exact q
   | brk=>exact q
   | cont=>exact q
end
def qhY (v:Value):Bool:=match v with
 | .type s=>s == "type"
 | _=>false
def qhZ (v:Option Value):Bool:=match v with
 | some (.builtin s)=>s == "ValueError.__new__"
 | _=>false
def qj2 (C:Addr) (l:List Value):Bool:=match l with
 | .ref C1::bm=>C1 == C && jU bm
 | _=>false
def xOb (C:Addr) (o:Obj):Bool:=match o.data with
 | .cls cd=>qhY o.cls && qj2 C cd.mro && !cd.hasDel && cd.hasDict && o.slots.size == 6 && qhZ (o.slots.getD 4 none)
 | _=>false
theorem qgi {v:Value} (h:qhY v=true):v=.type "type":=by
 cases v with
 | type s=>rw[eq_of_beq (show (s == "type")=true from h)]
 | _=>cases h
theorem qgj {v:Option Value} (h:qhZ v=true):v=some (.builtin "ValueError.__new__"):=by
 cases v with
 | none=>cases h
 | some v =>
   cases v with
   | builtin s=>rw[eq_of_beq (show (s == "ValueError.__new__")=true from h)]
   | _=>cases h
theorem qhN {C:Addr}{l:List Value} (h:qj2 C l=true):∃ bm,l=.ref C::bm∧jU bm=true:=by
 cases l with
 | nil=>cases h
 | cons v bm =>
   cases v with
   | ref C1 =>
     have h':(C1 == C && jU bm)=true:=h;rw[Bool.and_eq_true]at h';exact⟨bm,by rw[eq_of_beq h'.1],h'.2⟩
   | _=>cases h
theorem six {α:Type}{l:List α} (h:l.length=6):∃ a b c d e f,l=[a,b,c,d,e,f]:=by
 obtain⟨a,l,rfl⟩:=List.exists_cons_of_length_eq_add_one h;obtain⟨b,l,rfl⟩:=List.exists_cons_of_length_eq_add_one (Nat.succ.inj h);obtain⟨c,l,rfl⟩:=List.exists_cons_of_length_eq_add_one (Nat.succ.inj (Nat.succ.inj h));obtain⟨d,l,rfl⟩:=List.exists_cons_of_length_eq_add_one (Nat.succ.inj (Nat.succ.inj (Nat.succ.inj h)));obtain⟨e,l,rfl⟩:=List.exists_cons_of_length_eq_add_one (Nat.succ.inj (Nat.succ.inj (Nat.succ.inj (Nat.succ.inj h))));obtain⟨f,l,rfl⟩:=List.exists_cons_of_length_eq_add_one (Nat.succ.inj (Nat.succ.inj (Nat.succ.inj (Nat.succ.inj (Nat.succ.inj h)))))
 have:l=[]:=List.eq_nil_of_length_eq_zero (Nat.succ.inj (Nat.succ.inj (Nat.succ.inj (Nat.succ.inj (Nat.succ.inj (Nat.succ.inj h))))))
 subst this;exact⟨a,b,c,d,e,f,rfl⟩
theorem xIn_of {K:Frag}{C:Addr}{o:Obj} (h:K.lookup C=some o) (q:xOb C o=true):xIn K C=true:=by
 obtain⟨oc,dd,od,⟨sl⟩⟩:=o
 cases od with
 | cls cd =>
   have q':(qhY oc && qj2 C cd.mro && !cd.hasDel && cd.hasDict && sl.length == 6 && qhZ ((Array.mk sl).getD 4 none))=true:=q;simp only[Bool.and_eq_true,beq_iff_eq,Bool.not_eq_true']at q';obtain⟨⟨⟨⟨⟨q0,q1⟩,q2⟩,q3⟩,q4⟩,q5⟩:=q';obtain⟨bm,hm,hx⟩:=qhN q1;obtain⟨k0,k1,k2,k3,k4,k5,rfl⟩:=six q4;have e4:k4=some (.builtin "ValueError.__new__"):=qgj q5;have e0:=qgi q0;obtain⟨nm,bs,mro,ns,qn,hdc,sn,sub,ab,col,del⟩:=cd;dsimp only at hm q2 q3;subst hm q2 q3 e4 e0;exact xIn_iff.mpr ⟨nm,qn,ns,bs,bm,sn,sub,ab,col,dd,k0,k1,k2,k3,k5,h,hx⟩
 | _=>cases q
theorem xIsa_of {K:Frag}{C D:Addr}{b:Bool} (h1:isClsIn K D=true) (h2:typeIn K (.ref D)=some (.type "type")) (h3:subIn K (.ref C) (.ref D)=some b):qce K C (.ref D)=some b:=by
 unfold qce;have h1':(clsIn K D).isSome=true:=h1;simp only[h1',h2,Bool.true_and,beq_self_eq_true,if_true];exact h3
def Rz (C:Addr) (f:Str) (v:V) (H:Hp) (E:XK):Prop:=∀ (ea dx:Addr) (H':Hp),Same H H'->H ea=none->H dx=none->H' dx=some (.xd [(f,v)])->XAt H' ea C (some dx)->E (.ref C) (some ea) H'
theorem Rz.same {C:Addr}{f:Str}{v:V}{H G:Hp}{E:XK} (h:Rz C f v H E) (s:Same H G):Rz C f v G E:=fun ea dx H' s' n1 n2 e x=>h ea dx H' (s.trans s') (s.none n1) (s.none n2) e x
theorem Rz.sure {C:Addr}{f:Str}{v:V}{H:Hp}{E:XK} (h:Rz C f v H E) {ea dx:Addr}{tb:Value} (n1:H ea=none) (n2:H dx=none) (ne:dx≠ea) :
   Sure E C ea (some dx) (upd (upd (upd H ea (.ext (ExO ea C none .none))) ea (.ext (ExO ea C (some dx) tb))) dx (.xd [(f,v)])):=by
 intro H' k x;refine h ea dx H' (fun b o e=>k b o (qj e n1) ?_) n1 n2 (k dx _ ne qc) x;rw[qg (qj e n2),qg (qj e n1),qg (qj e n1)];exact e
section
variable {P:Program}{w:World}{K:Frag}{mg:Str->Option Value}{base:Heap}
theorem Fun.okX {x qual:Str}{st:Stmt}{f:Addr}{fd:FuncData}{N ps:List Str}{k:Nat}{sp:Sp} (F:Fun K x qual st f fd) (S:qo N ps (qh st)) (len:∀ vs H Q E,sp vs H Q E->vs.length=ps.length)
   (hbody:∀ (cdv:Value) (A:Around) (outer:List Env) (s:Shared) (H:Hp) (vs:List V) (Q:VK) (E:XK),Room k (A.deeper (envOfC qual (qh st) s.heap.objs.size f cdv))->sp vs H Q E ->
     ∃ t,PSs (qY (CX1 P w) P w K mg base N qual (qh st) f cdv A outer s H E) (zK st) t∧t { nx:=fun _ H'=>Q .non H',rt:=Q } (qaH N vs) H):qx P w K mg base (CX1 P w) (k+1) f fd ps sp:=by
 obtain⟨oc,od,kV,doc,pm,an,cdv,ct,osl,rfl,lk,hcd⟩:=F.ex;exact qjp lk hcd S len fun A outer s H vs Q E hr hsp=>hbody cdv A outer s H vs Q E hr hsp
end
section
variable {X:Cx}{e:Expr}{es:List Expr}{pos:Pos}{te:XTE}{ta:TE}
def qkA (te:XTE) (i:Nat):XTS:=fun D E σ H=>te σ H (fun v H1=>D.nx (σ.set i (some v)) H1) E
theorem qiV {i:Nat}{x:Str}{pos':Pos} (hN:X.N.Nodup) (hi:X.N[i]?=some x) (hx:Loc X.env.scope x) (he:PEX X e te) (hs:swapsWith e (some (.Name x pos')) pos.line X.env=pure false:=by rfl)
   (hf:X.fn x=true∨X.env.scope.names.lookup x=some .local:=by first|exact .inl rfl|exact .inr rfl):PX X [.Assign [.Name x pos'] e pos] (qkA te i):=by
 intro pins s σ H D E Ex I h w;refine wpAny_execs_cons (wpAny_Assign_Name (thn (he pins s σ H _ E Ex I h w) fun v s1 zz_=>?_) hs);obtain⟨y,H1,I1,r1,q1⟩:=zz_;exact ZM I1 hN hi hx r1 (fun s2 I2=>wpAny_execs_nil (show SP X pins D .next s2 from ⟨_,H1,I2,q1⟩)) hf
end
section
variable {prog:Program}{w:World}{A:Around}{E:Value->Shared->Prop}{s:Shared}{K:Frag}{C x dx:Addr}{ox:Obj}{name:Str}{v:Value}{mA:Str->Option Value}{ns:List Str}
theorem qil {vs:Array Value}{Q:Unit->Shared->Prop} (X:K.In s.heap) (xi:xIn K C=true) (hx:s.heap.get? x=some ox) (hc:ox.cls=.ref C) (hd:ox.data=.fields vs) (hdn:ox.dict=some dx) (hN:s.heap.Ns1 dx mA) (hW:PySem.Within mA ns) (hl:ns.length≤100)
   (hs:findIn K (.ref C) "__setattr__"=some (some (.builtin "object.__setattr__"))) (ha:findIn K (.ref C) name=some none)
   (h:∀ h',h'.Ns1 dx (fun y=>if y=name then some v else mA y)->(∀ b o,b≠dx->s.heap.get? b=some o->h'.get? b=some o) ->
     Q () { s with heap:=h',toks:=s.toks+2 }) :
   wpAny (model prog w) A (setAttr (.ref x) name v) Q E s:=by
 have SF:=PySem.F.store_object;obtain⟨cd,bm,hcd,hmro,hxt,hdict⟩:=xcd xi;obtain⟨od,_,_,hod,_⟩:=id hN;have I:InstAt s.heap x ox C (some od):=⟨hx,hc,by unfold notCls;rw[hd],by rw[hdn];exact hod⟩
 refine set_plain X I hs ?_;have sub:Looks (model prog w) s.heap (isInstance (.ref x) (.type "object")) true:=I.type.andThen (looks_mroIn X (qid xi (by decide +kernel)));refine codeAny_call_builtin SF.slot.plain SF.entry (@check_slot (model prog w) _ _ { s with toks:=s.toks+1 } "object.__setattr__" "object" "__setattr__" (.ref x) [.str name s.toks,v] [] _ SF.kind SF.split sub (SF.args (.ref x) (.str name s.toks) v) ?_);have hm:Looks (model prog w) s.heap (mroOf (.ref C)) cd.mro:=(looks_clsIn X hcd).andThen .now;rw[osa_eq,refuse_eq];refine wpAny_bind (wpAny_bind (I.type.here (s:={ s with toks:=s.toks+1 }) (wpAny_bind (hm.here (s:={ s with toks:=s.toks+1 }) ?_))));rw[hmro,refuseLoop_ref,qcI _ hxt];refine wpAny_pure (wpAny_bind (I.type.here (s:={ s with toks:=s.toks+1 }) (wpAny_bind ((looks_findIn X ha).here (s:={ s with toks:=s.toks+1 }) (wpAny_bind (wpAny_pure ?_))))));dsimp only;unfold PySem.Builtin.ObjectAttr.storeInOwnDict;refine wpAny_bind (wpAny_pure ?_);rw[if_neg (by simp)];refine wpAny_bind (wpAny_bind (wpAny_loadPart hx ?_));rw[hc];dsimp only;refine wpAny_bind ((looks_clsIn X hcd).here (s:={ s with toks:=s.toks+1 }) ?_);rw[hdict,hdn];refine wpAny_pure (a:=some dx) ?_;show wpAny _ _ (PySem.Builtin.ObjectAttr.storeInDict dx (.str name s.toks) name v) _ _ _;unfold PySem.Builtin.ObjectAttr.storeInDict PySem.Builtin.ObjectAttr.newKeyGuard;refine wpAny_bind (wpAny_pure (wpAny_bind (wpAny_nsSet1 (s:={ s with toks:=s.toks+1 }) hN fun h' hn' hs'=>?_)));obtain⟨oD,esD,epD,hoD,hdD,hcD⟩:=hn'.count (Within.cons name v hW);refine wpAny_bind (wpAny_lookBehind hoD (by rw[hdD];exact pastItsLine_dict (Nat.le_trans hcD (by rw[List.length_cons,sizeLine_eq];omega))) ?_);exact wpAny_pure (h h' hn' fun b o hb e=>(hs'.2 b hb).trans e)
end
def XdE (dx:Addr) (fs:List (Str×V)):Heap->Prop:=fun h=>∃ mA,h.Ns1 dx mA∧∀ f,RelO (fs.lookup f) (mA f)
theorem qik {P:Program}{w:World}{H:Hp}{h:Heap}{dx:Addr}{fs:List (Str×V)} (x:XdE dx fs h):ObjOk P w H h dx (.ext (XdE dx fs)):=by
 obtain⟨mA,⟨od,es,ep,e,c⟩,r⟩:=id x;exact⟨x,⟨od,e⟩,fun h1 h2 ⟨mA,⟨od,es,ep,e,c⟩,r⟩ k=>⟨mA,⟨od,es,ep,k _ e,c⟩,r⟩⟩
theorem qdQ {fs:List (Str×V)}{f:Str} (h:f∉fs.map (·.1)):fs.lookup f=none:=by
 induction fs with
 | nil=>rfl
 | cons p r ih =>
   simp only[List.map_cons,List.mem_cons,not_or]at h;rw[List.lookup_cons,show (f == p.1)=false from beq_eq_false_iff_ne.mpr h.1];exact ih h.2
section
variable {X:Cx}{o e value:Expr}{es:List Expr}{f x:Str}{p apos pos pos' tpos:Pos}{ta tv:TE}{t:TA}{C fa:Addr}
def qiL (K:Frag) (ta tv:TE) (f:Str):TS:=fun D σ H=>tv σ H fun y H1=>ta σ H1 fun x H2=>∃ ea C tb,x=.ref ea∧H2 ea=some (.ext (ExO ea C none tb))∧XC K C∧NoAttr K C f ∧
 ∀ dx,H2 dx=none->dx≠ea->D.nx σ (upd (upd H2 ea (.ext (ExO ea C (some dx) tb))) dx (.ext (XdE dx [(f,y)])))
theorem qf4 (ha:PE X o ta) (hv:PE X value tv) (hs:swapsWith value (some (.Attribute o f pos')) pos.line X.env=pure false):PS X (.Assign [.Attribute o f pos'] value pos) (qiL X.K ta tv f):=by
 intro pins s σ H D I h;refine plainObj_wpAny_Assign_Attribute (thn (hv pins s σ H _ I h) fun u s1 ⟨y,H1,I1,ry,q⟩=>thn (ha pins s1 σ H1 _ I1 q) fun ov s2 zz_=>?_) hs;obtain⟨x,H2,I2,rx,ea,C,tb,ex,e1,c,n,q2⟩:=zz_;subst ex;obtain rfl:ov=Value.ref ea:=rx;obtain⟨⟨oe,vs,hx,hcl,hdx,hd,hz,h1⟩,_,_⟩:=(show ObjOk X.prog X.w H2 s2.heap ea (.ext (ExO ea C none tb)) from I2.hok ea _ e1)
 refine qim I2.kIn c.xi hx hcl hd hdx c.sa n fun h' dx hp k1 k2 k3=>⟨σ,_,?_,q2 dx (I2.hok.fresh hp) (Nat.ne_of_gt (Nat.lt_of_lt_of_le (Heap.lt_size hx) hp))⟩
 refine I2.two (by rw[e1];exact True.intro) hp k3 ⟨_,k1⟩ (qb1 ⟨_,_,k1,hcl,rfl,hd,hz,h1⟩) (qik ⟨_,k2,fun g=>?_⟩);by_cases z:g=f
 · subst z;simp[List.lookup];exact ry
 · have:(g == f)=false:=by simp[z]
   simp[List.lookup,this,z];exact True.intro
def qiM (K:Frag) (ta tv:TE) (f:Str):TS:=fun D σ H=>tv σ H fun y H1=>ta σ H1 fun x H2=>∃ ea C tb dx fs,x=.ref ea∧H2 ea=some (.ext (ExO ea C (some dx) tb))∧H2 dx=some (.ext (XdE dx fs))∧fs.length≤100∧XC K C∧NoAttr K C f ∧
 D.nx σ (upd H2 dx (.xd ((f,y)::fs)))
theorem qf5 (ha:PE X o ta) (hv:PE X value tv) (hs:swapsWith value (some (.Attribute o f pos')) pos.line X.env=pure false):PS X (.Assign [.Attribute o f pos'] value pos) (qiM X.K ta tv f):=by
 intro pins s σ H D I h;refine plainObj_wpAny_Assign_Attribute (thn (hv pins s σ H _ I h) fun u s1 ⟨y,H1,I1,ry,q⟩=>thn (ha pins s1 σ H1 _ I1 q) fun ov s2 zz_=>?_) hs;obtain⟨x,H2,I2,rx,ea,C,tb,dx,fs,ex,e1,e2,hl,c,n,q2⟩:=zz_;subst ex;obtain rfl:ov=Value.ref ea:=rx;obtain⟨⟨oe,vs,hx,hcl,hdx,hd,hz,h1⟩,_,_⟩:=(show ObjOk X.prog X.w H2 s2.heap ea (.ext (ExO ea C (some dx) tb)) from I2.hok ea _ e1)
 obtain⟨⟨mA,hN,hr⟩,_,_⟩:=(show ObjOk X.prog X.w H2 s2.heap dx (.ext (XdE dx fs)) from I2.hok dx _ e2)
 have hW:PySem.Within mA (fs.map (·.1)):=fun g hg=>by
   rcases Classical.em (g∈fs.map (·.1)) with z|z
   · exact z
   · have:=hr g
     rw[qdQ z]at this
     cases hm:mA g with
     | none=>exact absurd hm hg
     | some u=>rw[hm]at this;exact False.elim this
 refine qil I2.kIn c.xi hx hcl hd hdx hN hW (by rw[List.length_map];exact hl) c.sa n fun h' k1 k2=>⟨σ,_,?_,q2⟩
 obtain⟨od,_,_,hod,_⟩:=id k1;refine I2.write (x:=dx) (e:=dx) (by rw[e2];exact True.intro) (.inl rfl) k2 ⟨_,hod⟩ ⟨_,k1,fun g=>?_⟩;by_cases z:g=f
 · subst z;simp[List.lookup];exact ry
 · have:(g == f)=false:=by simp[z]
   simp only[List.lookup,this,z,if_false];exact hr g
inductive qeG (K:Frag) (xs:List V) (H:Hp) (Q:VK):Prop
 | mk (ea C c b:_) (h1:xs=[.ref ea,c]) (h2:XAt H ea C none) (h4:XC K C) (h5:qce K C c=some b) (h6:Q (.bl b) H):qeG K xs H Q
def qjX (K:Frag):List V->Hp->VK->Prop:=fun xs H Q=>qeG K xs H Q
theorem qha {pins:List (Addr×Obj)}{σ:St}{H:Hp}{s:Shared}{ea C:Addr} (I:Inv X pins σ H s) (x:XAt H ea C none):∃ (ox:Obj),InstAt s.heap ea ox C none:=by
 obtain⟨tb,e1,_⟩:=x;obtain⟨⟨oe,vs,hx,hcl,hdx,hdt,hz,h1⟩,_,_⟩:=(show ObjOk X.prog X.w H s.heap ea (.ext (ExO ea C none tb)) from I.hok ea _ e1)
 exact⟨oe,hx,hcl,by unfold notCls;rw[hdt],by rw[hdx];exact True.intro⟩
theorem qfC:QN X (.builtin "isinstance") (qjX X.K):=by
 intro pins s σ H xs us Q I r h;obtain⟨ea,C,c,b,rfl,xa,xc,hi,q⟩:=h;obtain⟨u,w',rfl,ru,rw'⟩:=qec r;cases (show u=Value.ref ea from ru);obtain⟨ox,J⟩:=qha I xa
 cases c with
 | ref D =>
   cases (show w'=Value.ref D from rw');simp only[qce]at hi;split at hi
   · rename_i hq
     simp only[Bool.and_eq_true,beq_iff_eq]at hq;obtain⟨q1,q2⟩:=hq;refine qfN I.kIn J xc xc.gt xc.tk (b:=b) (fun _ h' X'=>looks_typeIn X' q2) (fun _ h' X'=>?_) (fun z=>?_) (fun _ h' X'=>looks_subIn X' hi) fun t=>⟨.bl b,H,I.tok t,rfl,q⟩
     · unfold clsIn at q1;split at q1
       · rename_i c' d' cd' sl' ho
         intro A' Q' E' s' k q;unfold isType loadHead;exact wpAny_bind (wpAny_loadPart (k _ _ (X' _ _ ho)) (wpAny_pure q))
       · cases q1
     · have z':C=D:=Value.ref.inj (beq_iff_eq.mp z);subst z';obtain⟨cd,bm,hcd,hmro,_,_⟩:=xcd xc.xi
       have e2:mroIn X.K C (.ref C)=some true:=by
         unfold mroIn;rw[hcd,Option.bind_some,hmro,if_neg (by simp)];simp
       have e3:subIn X.K (.ref C) (.ref C)=some true:=e2;rw[e3]at hi;exact(Option.some.inj hi).symm
   · cases hi
 | ty T =>
   cases (show w'=Value.type T from rw');simp only[qce]at hi;split at hi
   · rename_i hq
     rw[beq_iff_eq]at hq;subst hq;cases hi;refine qfN I.kIn J xc xc.gt xc.tk (b:=true) (fun _ h' X'=>Looks.of_pure (by kernel_rfl)) (fun _ h' X'=>Looks.of_pure rfl) (fun _=>rfl) (fun _ h' X'=>looks_mroIn X' (qid xc.xi (by decide +kernel))) fun t=>⟨.bl true,H,I.tok t,rfl,q⟩
   · cases hi
 | non=>cases hi
 | bl _=>cases hi
 | int _=>cases hi
 | str _=>cases hi
 | byt _=>cases hi
 | flt _=>cases hi
end
def qjV:Value->Option Addr
 | .ref a=>some a
 | _=>none
theorem qeE (D:Addr):∀ l:List Value,l.contains (.ref D)=(l.map qjV).contains (some D)
 | []=>rfl
 | v::l=>by
   rw[List.map_cons,List.contains_cons,List.contains_cons,qeE D l];congr 1
   cases v with
   | ref c =>
     show (Value.ref D == Value.ref c)=(some D == some c);by_cases e:D=c
     · subst e;simp
     · rw[beq_eq_false_iff_ne.mpr (fun z=>e (Value.ref.inj z)),beq_eq_false_iff_ne.mpr (fun z=>e (Option.some.inj z))]
   | _=>rfl
def XMro (K:Frag) (C:Addr) (l:List (Option Addr)):Prop:=∃ cd,clsIn K C=some cd∧cd.mro.map qjV=l
def qjb (l:List (Option Addr)) (o:Obj):Bool:=match o.data with
 | .cls cd=>cd.mro.map qjV == l
 | _=>false
theorem XMro.of {K:Frag}{C:Addr}{o:Obj}{l:List (Option Addr)} (h:K.lookup C=some o) (q:qjb l o=true):XMro K C l:=by
 obtain⟨oc,od,odt,osl⟩:=o;unfold qjb at q
 cases odt with
 | cls cd =>
   refine⟨cd,?_,eq_of_beq q⟩;unfold clsIn;rw[h]
 | _=>cases q
def qg8 (K:Frag) (D:Addr):Prop:=isClsIn K D=true∧typeIn K (.ref D)=some (.type "type")
theorem qfO {K:Frag}{C D:Addr}{l:List (Option Addr)} (m:XMro K C l) (hl:l≠[]) (d:qg8 K D):qce K C (.ref D)=some (l.contains (some D)):=by
 obtain⟨cd,h1,h2⟩:=m;refine xIsa_of d.1 d.2 ?_;show mroIn K C (.ref D)=_;unfold mroIn;rw[h1,Option.bind_some,if_neg,qeE,h2];intro z;rw[List.isEmpty_iff]at z;rw[z]at h2;exact hl h2.symm
def XE (K:Frag) (H:Hp) (e:V) (C:Addr):Prop:=XC K C∧∃ ea,e=.ref ea∧(XAt H ea C none∨∃ dx fs,XAt H ea C (some dx)∧H dx=some (.xd fs))
section
variable {X:Cx}{o e e2 value:Expr}{es:List Expr}{f g x:Str}{p apos pos pos' tpos:Pos}{ta tv:TE}{t:TA}{C fa:Addr}
def qeF (K:Frag):List V->Hp->VK->Prop:=fun xs H Q=>∃ e C c b,xs=[e,c]∧XE K H e C∧qce K C c=some b∧Q (.bl b) H
theorem jd:QN X (.builtin "isinstance") (qeF X.K):=by
 intro pins s σ H xs us Q I r h;obtain⟨e,C,c,b,rfl,⟨xc,ea,rfl,h⟩,hi,q⟩:=h;rcases h with h|⟨dx,fs,h,hd⟩
 · exact qfC pins s σ H _ us Q I r ⟨ea,C,c,b,rfl,h,xc,hi,q⟩
 · exact qgv pins s σ H _ us Q I r ⟨ea,C,dx,fs,c,b,rfl,h,hd,xc,hi,q⟩
end
end L2
namespace Srt
open PySem PySem.W PyProof.Rows
def RunP {α:Type} (lt:Nat->Nat->Bool) (n:Nat):KasT α->(α->Prop)->Prop
 | .ret a,P=>P a
 | .ask i j k,P=>i < n∧j < n∧RunP lt n (k (lt i j)) P
section
variable {lt:Nat->Nat->Bool}{n:Nat}
theorem RunP.bind {α β:Type}{f:α->KasT β}{P:β->Prop}:∀ {t:KasT α},RunP lt n t (fun a=>RunP lt n (f a) P)->RunP lt n (t.bind f) P
 | .ret _,h=>h
 | .ask i j k,h=>⟨h.1,h.2.1,RunP.bind (t:=k (lt i j)) h.2.2⟩
theorem RunP.mono {α:Type}{P P':α->Prop} (hp:∀ a,P a->P' a):∀ {t:KasT α},RunP lt n t P->RunP lt n t P'
 | .ret _,h=>hp _ h
 | .ask i j k,h=>⟨h.1,h.2.1,RunP.mono hp (t:=k (lt i j)) h.2.2⟩
theorem RunP.wp {α:Type}{cmp:Nat->Nat->(Bool->Shared->Prop)->Shared->Prop}{Q:α->Shared->Prop}{P:α->Prop}{s:Shared} (hc:∀ i j (C:Bool->Shared->Prop),i < n->j < n->C (lt i j) s->cmp i j C s) (hq:∀ a,P a->Q a s):∀ {t:KasT α},RunP lt n t P->t.kasWp cmp Q s
 | .ret _,h=>hq _ h
 | .ask i j k,h=>hc i j _ h.1 h.2.1 (RunP.wp hc hq (t:=k (lt i j)) h.2.2)
theorem RunP.ite {α:Type}{c:Prop} [Decidable c] {t u:KasT α}{P:α->Prop} (h1:c->RunP lt n t P) (h2:¬ c->RunP lt n u P):RunP lt n (if c then t else u) P:=by
 by_cases h:c
 · rw[if_pos h];exact h1 h
 · rw[if_neg h];exact h2 h
def Bd (n:Nat) (p:Array Nat):Prop:=∀ x,p.getD x 0 < n
theorem JK {p q:Array Nat}{x y:Nat} (h:p[x]?=q[y]?):p.getD x 0=q.getD y 0:=by
 simp only[Array.getD_eq_getD_getElem?,h]
theorem qas {p:Array Nat}{i j:Nat} (hj:j≤p.size) (x:Nat):(kas_rev p i j).getD x 0=if i≤x∧x < j then p.getD (i+j - 1 - x) 0 else p.getD x 0:=by
 have h:=getElem?_mirror_all (xs:=p) (i:=i) hj x;by_cases c:i≤x∧x < j
 · rw[if_pos c]at h ⊢;exact JK h
 · rw[if_neg c]at h ⊢;exact JK h
theorem Bd.rev {p:Array Nat}{i j:Nat} (h:Bd n p) (hj:j≤p.size):Bd n (kas_rev p i j):=fun x=>by
 rw[qas hj];split<;>exact h _
theorem qfE {p:Array Nat}{k d:Nat} (hk:k < p.size) (hd:d≤k) (x:Nat):(bubble p k d).getD x 0=if x=k - d then p.getD k 0 else if k - d < x∧x≤k then p.getD (x - 1) 0 else p.getD x 0:=by
 have h:=getElem?_bubble (xs:=p) hk d hd x;by_cases c:x=k - d
 · rw[if_pos c]at h ⊢;exact JK h
 · rw[if_neg c]at h ⊢;by_cases c2:k - d < x∧x≤k
   · rw[if_pos c2]at h ⊢;exact JK h
   · rw[if_neg c2]at h ⊢;exact JK h
theorem Bd.bub {p:Array Nat}{k d:Nat} (h:Bd n p) (hk:k < p.size) (hd:d≤k):Bd n (bubble p k d):=fun x=>by
 rw[qfE hk hd];by_cases c:x=k - d
 · rw[if_pos c];exact h _
 · rw[if_neg c];by_cases c2:k - d < x∧x≤k
   · rw[if_pos c2];exact h _
   · rw[if_neg c2];exact h _
structure Ord (lt:Nat->Nat->Bool):Prop where
 tr:∀ a b c,lt b a=false->lt c b=false->lt c a=false
 asy:∀ a b,lt a b=true->lt b a=false
theorem Ord.irr (O:Ord lt) (a:Nat):lt a a=false:=by
 cases h:lt a a with
 | false=>rfl
 | true=>rw[← h];exact O.asy _ _ h
def Up (lt:Nat->Nat->Bool) (p:Array Nat) (k:Nat):Prop:=∀ x,x+1 < k->lt (p.getD (x+1) 0) (p.getD x 0)=false
def Dn (lt:Nat->Nat->Bool) (p:Array Nat) (k:Nat):Prop:=∀ x,x+1 < k->lt (p.getD x 0) (p.getD (x+1) 0)=false
def Eqv (lt:Nat->Nat->Bool) (a b:Nat):Prop:=lt a b=false∧lt b a=false
theorem Eqv.not (O:Ord lt) {a a' b b':Nat} (h1:Eqv lt a a') (h2:Eqv lt b b') (h:lt a b=false):lt a' b'=false:=O.tr _ _ _ (O.tr _ _ _ h2.1 h) h1.2
theorem Up.le (O:Ord lt) {p:Array Nat}{k:Nat} (h:Up lt p k) {x:Nat}:∀ d,x+d < k->lt (p.getD (x+d) 0) (p.getD x 0)=false
 | 0,_=>O.irr _
 | d+1,hd=>O.tr _ _ _ (Up.le O h d (by omega)) (h (x+d) (by omega))
theorem qfK (p:Array Nat) (hb:Bd n p):∀ (f m:Nat),1≤m->Up lt p m->RunP lt n (kas_asc p f m) fun r=>m≤r∧r≤m+f∧Up lt p r∧(r < m+f->lt (p.getD r 0) (p.getD (r - 1) 0)=true)
 | 0,m,_,hu=>⟨Nat.le_refl _,Nat.le_refl _,hu,fun h=>absurd h (by omega)⟩
 | f+1,m,h1,hu=>by
   refine⟨hb _,hb _,RunP.ite (fun c=>?_) (fun c=>?_)⟩
   · exact⟨Nat.le_refl _,by omega,hu,fun _=>c⟩
   · have c:lt (p.getD m 0) (p.getD (m - 1) 0)=false:=by simpa using c
     refine RunP.mono (fun r h=>?_) (qfK p hb f (m+1) (by omega) (fun x hx=>?_))
     · exact⟨by omega,by omega,h.2.2.1,fun z=>h.2.2.2 (by omega)⟩
     · by_cases e:x+1=m
       · have e1:x=m - 1:=by omega
         rw[e1,show m - 1+1=m by omega];exact c
       · exact hu x (by omega)
def Blk (lt:Nat->Nat->Bool) (p:Array Nat) (m q:Nat):Prop:=q+1≤m∧∀ x,m - (q+1)≤x->x < m->Eqv lt (p.getD x 0) (p.getD (m - 1) 0)
theorem Blk.rev (O:Ord lt) {p:Array Nat}{m q:Nat} (hm:m≤p.size) (h:Blk lt p m q) (x:Nat) (hx:x < m):Eqv lt (p.getD x 0) ((kas_rev p (m - (q+1)) m).getD x 0):=by
 rw[qas hm];by_cases c:m - (q+1)≤x∧x < m
 · rw[if_pos c];have h1:=h.2 x c.1 c.2;have hq:=h.1;have h2:=h.2 (m - (q+1)+m - 1 - x) (by omega) (by omega);exact⟨O.tr _ _ _ h2.2 h1.1,O.tr _ _ _ h1.2 h2.1⟩
 · rw[if_neg c];exact⟨O.irr _,O.irr _⟩
theorem Dn.eqv (O:Ord lt) {p p':Array Nat}{m:Nat} (h:Dn lt p m) (e:∀ x,x < m->Eqv lt (p.getD x 0) (p'.getD x 0)):Dn lt p' m:=fun x hx=>(e x (by omega)).not O (e (x+1) hx) (h x hx)
theorem qba (O:Ord lt):∀ (f:Nat) (p:Array Nat) (m q:Nat),Bd n p->1≤m->m+f≤p.size->Dn lt p m->Blk lt p m q->RunP lt n (kas_desc f p m q) fun r =>
   Bd n r.1∧r.1.Perm p∧r.1.size=p.size∧m≤r.2.1∧r.2.1≤m+f∧Dn lt r.1 r.2.1∧Blk lt r.1 r.2.1 r.2.2
 | 0,p,m,q,hb,h1,hs,hd,bl=>⟨hb,Array.Perm.refl _,rfl,Nat.le_refl _,Nat.le_refl _,hd,bl⟩
 | f+1,p,m,q,hb,h1,hs,hd,bl=>by
   have one:∀ p':Array Nat,p'.getD m 0=p'.getD (m+1 - 1) 0:=fun p'=>rfl;refine⟨hb _,hb _,RunP.ite (fun c=>RunP.ite (fun hq=>?_) (fun hq=>?_)) (fun c=>⟨hb _,hb _,RunP.ite (fun d=>?_) (fun d=>?_)⟩)⟩
   · have hm:m≤p.size:=by omega
     have ev:=bl.rev O hm;have sz:(kas_rev p (m - (q+1)) m).size=p.size:=kas_rev_size _ _;have out:(kas_rev p (m - (q+1)) m).getD m 0=p.getD m 0:=by rw[qas hm,if_neg (by omega)]
     refine RunP.mono (fun r h=>?_) (qba O f (kas_rev p (m - (q+1)) m) (m+1) 0 (hb.rev hm) (by omega) (by omega) (fun x hx=>?_) ⟨by omega,fun x h0 h2=>?_⟩)
     · exact⟨h.1,h.2.1.trans (mirror_perm _ _ _ _),by rw[h.2.2.1,sz],by omega,by omega,h.2.2.2.2.2.1,h.2.2.2.2.2.2⟩
     · by_cases e:x+1=m
       · have e1:x=m - 1:=by omega
         subst e1;rw[show m - 1+1=m by omega,out];exact(ev (m - 1) (by omega)).not O ⟨O.irr _,O.irr _⟩ (O.asy _ _ c)
       · exact hd.eqv O ev x (by omega)
     · have e:x=m:=by omega
       subst e;exact⟨O.irr _,O.irr _⟩
   · refine RunP.mono (fun r h=>?_) (qba O f p (m+1) 0 hb (by omega) (by omega) (fun x hx=>?_) ⟨by omega,fun x h0 h2=>?_⟩)
     · exact⟨h.1,h.2.1,h.2.2.1,by omega,by omega,h.2.2.2.2.2.1,h.2.2.2.2.2.2⟩
     · by_cases e:x+1=m
       · have e1:x=m - 1:=by omega
         subst e1;rw[show m - 1+1=m by omega];exact O.asy _ _ c
       · exact hd x (by omega)
     · have e:x=m:=by omega
       subst e;exact⟨O.irr _,O.irr _⟩
   · exact⟨hb,Array.Perm.refl _,rfl,Nat.le_refl _,(by show m≤m+(f+1);omega),hd,bl⟩
   · have c:lt (p.getD m 0) (p.getD (m - 1) 0)=false:=by simpa using c
     have d:lt (p.getD (m - 1) 0) (p.getD m 0)=false:=by simpa using d
     refine RunP.mono (fun r h=>?_) (qba O f p (m+1) (q+1) hb (by omega) (by omega) (fun x hx=>?_) ⟨by have:=bl.1;omega,fun x h0 h2=>?_⟩)
     · exact⟨h.1,h.2.1,h.2.2.1,by omega,by omega,h.2.2.2.2.2.1,h.2.2.2.2.2.2⟩
     · by_cases e:x+1=m
       · have e1:x=m - 1:=by omega
         subst e1;rw[show m - 1+1=m by omega];exact d
       · exact hd x (by omega)
     · show Eqv lt (p.getD x 0) (p.getD m 0);by_cases e:x=m
       · rw[e];exact⟨O.irr _,O.irr _⟩
       · have:=bl.2 x (by omega) (by omega)
         exact⟨O.tr _ _ _ d this.1,O.tr _ _ _ this.2 c⟩
theorem Dn.rev {p:Array Nat}{m:Nat} (h:Dn lt p m) (hm:m≤p.size):Up lt (kas_rev p 0 m) m:=fun x hx=>by
 rw[qas hm,qas hm,if_pos ⟨Nat.zero_le _,by omega⟩,if_pos ⟨Nat.zero_le _,by omega⟩]
 have:=h (m - 2 - x) (by omega)
 rw[show m - 2 - x+1=0+m - 1 - x by omega]at this;rw[show 0+m - 1 - (x+1)=m - 2 - x by omega];exact this
def Cnt (lt:Nat->Nat->Bool) (n N:Nat) (p:Array Nat) (r:Nat×Array Nat):Prop:=Bd n r.2∧r.2.Perm p∧r.2.size=p.size∧1≤r.1∧r.1≤N∧Up lt r.2 r.1
theorem qcK {N m:Nat}{p:Array Nat} (hb:Bd n p) (h1:1≤m) (hm:m≤N) (hs:N≤p.size) (hd:Dn lt p m):RunP lt n (kas_tail3 m N p) (Cnt lt n N p):=by
 unfold kas_tail3;refine RunP.bind (RunP.mono (fun r h=>?_) (qfK (kas_rev p 0 m) (hb.rev (by omega)) (N - m) m h1 (hd.rev (by omega))));exact⟨hb.rev (by omega),mirror_perm _ _ _ _,kas_rev_size _ _,by omega,by omega,h.2.2.1⟩
theorem JL (O:Ord lt) {N m:Nat}{p:Array Nat} (hb:Bd n p) (h1:1≤m) (hm:m < N) (hs:N≤p.size) (hd:Dn lt p (m+1)):RunP lt n (kas_descPart m N p) (Cnt lt n N p):=by
 unfold kas_descPart
 refine RunP.bind (RunP.mono (fun r h=>?_) (qba O (N - (m+1)) p (m+1) 0 hb (by omega) (by omega) hd ⟨by omega,fun x h0 h2=>by
   have e:x=m:=by omega
   subst e
   exact⟨O.irr _,O.irr _⟩⟩))
 obtain⟨g1,g2,g3,g4,g5,g6,g7⟩:=h;refine RunP.ite (fun hq=>?_) (fun hq=>?_)
 · have hm2:r.2.1≤r.1.size:=by omega
   refine RunP.mono (fun z hz=>?_) (qcK (g1.rev hm2) (by omega) (by omega) (by rw[kas_rev_size];omega) (g6.eqv O (g7.rev O hm2)));exact⟨hz.1,(hz.2.1.trans (mirror_perm _ _ _ _)).trans g2,by rw[hz.2.2.1,kas_rev_size,g3],hz.2.2.2⟩
 · refine RunP.mono (fun z hz=>?_) (qcK g1 (by omega) (by omega) (by omega) g6);exact⟨hz.1,hz.2.1.trans g2,by rw[hz.2.2.1,g3],hz.2.2.2⟩
theorem qgs (O:Ord lt) {N:Nat}{p:Array Nat} (hb:Bd n p) (h2:1≤N) (hs:N≤p.size):RunP lt n (kas_count N p) (Cnt lt n N p):=by
 unfold kas_count;refine RunP.bind (RunP.mono (fun m h=>?_) (qfK p hb (N - 1) 1 (Nat.le_refl _) (fun x hx=>by omega)));obtain⟨m1,mN,up,stop⟩:=h;refine RunP.ite (fun c=>?_) (fun c=>?_)
 · exact⟨hb,Array.Perm.refl _,rfl,m1,by omega,up⟩
 · have c:m≠N:=by simpa using c
   have st:=stop (by omega);refine RunP.ite (fun g=>⟨hb _,hb _,RunP.ite (fun e=>?_) (fun e=>?_)⟩) (fun g=>?_)
   · exact⟨hb,Array.Perm.refl _,rfl,m1,by omega,up⟩
   · have e:lt (p.getD 0 0) (p.getD (m - 1) 0)=false:=by simpa using e
     -- all of the first m are alike
     have alike:∀ x,x < m->Eqv lt (p.getD x 0) (p.getD (m - 1) 0):=fun x hx=>by
       have a1:=up.le O (x:=x) (m - 1 - x) (by omega);rw[show x+(m - 1 - x)=m - 1 by omega]at a1;have a2:=up.le O (x:=0) x (by omega);rw[Nat.zero_add]at a2;exact⟨O.tr _ _ _ e a2,a1⟩
     have hmp:m≤p.size:=by omega
     have blk:Blk lt p m (m - 1):=⟨by omega,fun x _ hx=>alike x hx⟩
     have ev:=blk.rev O hmp;rw[show m - (m - 1+1)=0 by omega]at ev;have dn0:Dn lt p m:=fun x hx=>O.tr _ _ _ (alike (x+1) hx).2 (alike x (by omega)).1
     have dn:Dn lt (kas_rev p 0 m) (m+1):=fun x hx=>by
       by_cases e1:x+1=m
       · have e2:x=m - 1:=by omega
         subst e2;have out:(kas_rev p 0 m).getD (m - 1+1) 0=p.getD m 0:=by rw[qas hmp,if_neg (by omega),show m - 1+1=m by omega]
         rw[out];exact(ev (m - 1) (by omega)).not O ⟨O.irr _,O.irr _⟩ (O.asy _ _ st)
       · exact dn0.eqv O ev x (by omega)
     refine RunP.mono (fun z hz=>?_) (JL O (hb.rev hmp) m1 (by omega) (by rw[kas_rev_size];exact hs) dn);exact⟨hz.1,hz.2.1.trans (mirror_perm _ _ _ _),by rw[hz.2.2.1,kas_rev_size],hz.2.2.2⟩
   · have e1:m=1:=by omega
     subst e1
     exact JL O hb (Nat.le_refl _) (by omega) hs (fun x hx=>by
       have:x=0:=by omega
       subst this
       exact O.asy _ _ st)
theorem qaW (O:Ord lt) {p:Array Nat}{k:Nat} (hb:Bd n p) (up:Up lt p k):∀ (f l r:Nat),l≤r->r≤k->r - l≤f->(∀ x,x < l->lt (p.getD k 0) (p.getD x 0)=false)->(∀ x,r≤x->x < k->lt (p.getD k 0) (p.getD x 0)=true) ->
   RunP lt n (kas_place p k f l r) fun m=>m≤k∧(∀ x,x < m->lt (p.getD k 0) (p.getD x 0)=false)∧∀ x,m≤x->x < k->lt (p.getD k 0) (p.getD x 0)=true
 | 0,l,r,h1,h2,h3,a,b=>⟨by omega,a,fun x hx=>b x (by omega)⟩
 | f+1,l,r,h1,h2,h3,a,b=>by
   refine RunP.ite (fun c=>?_) (fun c=>⟨hb _,hb _,RunP.ite (fun d=>?_) (fun d=>?_)⟩)
   · exact⟨by omega,a,fun x hx=>b x (by omega)⟩
   · refine qaW O hb up f l ((l+r) / 2) (by omega) (by omega) (by omega) a fun x hx hk=>?_
     cases hz:lt (p.getD k 0) (p.getD x 0) with
     | true=>rfl
     | false =>
       have q:=up.le O (x:=(l+r) / 2) (x - (l+r) / 2) (by omega);rw[show (l+r) / 2+(x - (l+r) / 2)=x by omega]at q
       have:=O.tr _ _ _ q hz
       rw[d]at this;cases this
   · have d:lt (p.getD k 0) (p.getD ((l+r) / 2) 0)=false:=by simpa using d
     refine qaW O hb up f ((l+r) / 2+1) r (by omega) h2 (by omega) (fun x hx=>?_) b;have q:=up.le O (x:=x) ((l+r) / 2 - x) (by omega);rw[show x+((l+r) / 2 - x)=(l+r) / 2 by omega]at q;exact O.tr _ _ _ q d
theorem qg5 (O:Ord lt):∀ (f:Nat) (p:Array Nat) (k:Nat),Bd n p->k+f≤p.size->Up lt p k->RunP lt n (kas_bin f p k) fun r=>r.Perm p∧Up lt r (k+f)
 | 0,p,k,hb,hs,up=>⟨Array.Perm.refl _,up⟩
 | f+1,p,k,hb,hs,up=>by
   refine RunP.bind (RunP.mono (fun l h=>?_) (qaW O hb up k 0 k (Nat.zero_le _) (Nat.le_refl _) (by omega) (fun x hx=>absurd hx (by omega)) (fun x h1 h2=>absurd h1 (by omega))));obtain⟨lk,lo,hi⟩:=h;have hk:k < p.size:=by omega
   refine RunP.mono (fun r h=>⟨h.1.trans (bubble_perm _ _ _),by rw[show k+(f+1)=k+1+f by omega];exact h.2⟩) (qg5 O f (bubble p k (k - l)) (k+1) (hb.bub hk (by omega)) (by rw[bubble_size];omega) (fun x hx=>?_));have e:k - (k - l)=l:=by omega
   rw[qfE hk (by omega),qfE hk (by omega),e];by_cases c1:x+1=l
   · rw[if_pos c1,if_neg (by omega),if_neg (by omega)];exact lo x (by omega)
   · rw[if_neg c1];by_cases c2:x=l
     · rw[if_pos c2,if_pos ⟨by omega,by omega⟩,show x+1 - 1=x by omega];exact O.asy _ _ (hi x (by omega) (by omega))
     · rw[if_neg c2];by_cases c3:l < x
       · rw[if_pos ⟨by omega,by omega⟩,if_pos ⟨c3,by omega⟩]
         have:=up (x - 1) (by omega)
         rw[show x - 1+1=x by omega]at this;rw[show x+1 - 1=x by omega];exact this
       · rw[if_neg (by omega),if_neg (by omega)];exact up x (by omega)
theorem sort_ok (O:Ord lt) (h:1≤n):RunP lt n (kas_sort n) fun r=>r.Perm (List.toArray (List.range n))∧Up lt r n:=by
 have hb:Bd n (List.toArray (List.range n)):=fun x=>by
   simp only[Array.getD_eq_getD_getElem?,List.getElem?_toArray];by_cases hx:x < n
   · rw[List.getElem?_range hx];exact hx
   · rw[List.getElem?_eq_none (by simp;omega)];exact h
 have sz:(List.toArray (List.range n)).size=n:=by simp
 unfold kas_sort;refine RunP.bind (RunP.mono (fun r hr=>?_) (qgs O hb h (by omega)));obtain⟨g1,g2,g3,g4,g5,g6⟩:=hr;refine RunP.ite (fun c=>?_) (fun c=>?_)
 · have e:max r.1 1=r.1:=by omega
   rw[e];refine RunP.mono (fun z hz=>⟨hz.1.trans g2,?_⟩) (qg5 O (n - r.1) r.2 r.1 g1 (by omega) g6)
   have:=hz.2
   rw[show r.1+(n - r.1)=n by omega]at this;exact this
 · have e:r.1=n:=by omega
   rw[e]at g6;exact⟨g2,g6⟩
end
end Srt
namespace L2
open PySem PySem.Spec PyProof.Rows
open PySem.W (Frag kitOne kdl_dict)
theorem ObjOk.lies {P:Program}{w:World}{H:Hp}{h:Heap}{a:Addr}{o:HO} (x:ObjOk P w H h a o):∃ ob,h.get? a=some ob:=by
 cases o with
 | lst xs=>obtain⟨_,_,_,_,e⟩:=x;exact⟨_,e⟩
 | tup xs=>obtain⟨_,_,_,o,e,_⟩:=x;exact⟨_,e⟩
 | dK kvs=>obtain⟨_,_,_,_,o,_,_,e,_⟩:=x;exact⟨_,e⟩
 | dT kvs=>obtain⟨_,_,_,_,o,_,_,e,_⟩:=x;exact⟨_,e⟩
 | set S n=>obtain⟨o,_,_,_,e,_⟩:=x;exact⟨_,e⟩
 | ins C dx fs=>obtain⟨_,_,_,e,_⟩:=x;exact⟨_,e⟩
 | own y=>obtain⟨_,e⟩:=x;exact⟨_,e⟩
 | xd fs=>obtain⟨_,⟨_,_,_,e,_⟩,_⟩:=x;exact⟨_,e⟩
 | rng lo hi=>obtain⟨_,_,_,e⟩:=x;exact⟨_,e⟩
 | frz ob u=>obtain⟨e,_⟩:=x;exact⟨_,e⟩
 | tbl ps=>exact⟨_,(show h.get? a=some _ from x)⟩
 | met f y=>exact⟨_,(show h.get? a=some _ from x)⟩
 | ext φ=>obtain⟨_,⟨_,e⟩,_⟩:=x;exact⟨_,e⟩
section
variable {X:Cx}{pins:List (Addr×Obj)}{σ:List (Option V)}{H:Hp}{s:Shared}{h':Heap}
theorem Inv.unlaid {a:Addr} (I:Inv X pins σ H s) (e:s.heap.get? a=none):H a=none:=by
 cases q:H a with
 | none=>rfl
 | some o =>
   obtain⟨ob,z⟩:=(I.hok a o q).lies;rw[e]at z;cases z
theorem Inv.laidL {a:Addr}{o:HO}{t':Nat} (I:Inv X pins σ H s) (k:∀ b u,b≠X.env.locals->s.heap.get? b=some u->h'.get? b=some u) (ns:∀ m,s.heap.Ns X.env.locals m->h'.Ns X.env.locals m)
   (hp:s.heap.get? a=none) (new:ObjOk X.prog X.w (upd H a o) h' a o):Inv X pins σ (upd H a o) { s with heap:=h',toks:=t' }:=by
 have hn:H a=none:=I.unlaid hp;have nL:∀ b u,H b=some u->b≠X.env.locals:=fun b u e z=>by rw[z,I.free]at e;cases e
 have na:∀ b u,s.heap.get? b=some u->b≠a:=fun b u q z=>by rw[z,hp]at q;cases q
 refine I.step (g':=s.gens) (d':=s.drawn) (ch:=[]) (fun _ z=>nomatch z) (fun b o hb _ _ e _=>k b o hb e) (fun b o hb _ _ e _=>⟨o.slots,k b o hb e⟩) (fun b o _ e n=>by rw[qg (na b o e)];exact n) (fun b o _ e=>?_)
   (fun b xs q=>by rw[qg (qj q hn)];exact q) (fun b u xs q=>by rw[qg (qj q hn)];exact q) (fun b ps q=>⟨#[],by rw[qg (qj q hn),q];simp⟩) ns (fun b u e=>?_) I.bare
 · by_cases z:b=X.env.locals
   · obtain⟨m,hm,_⟩:=I.loc;obtain⟨o',_,_,ho',_⟩:=ns m hm;exact⟨o',by rw[z];exact ho'⟩
   · exact⟨o,k b o z e⟩
 · by_cases z:b=a
   · subst z;rw[qc]at e;cases e;exact new
   · rw[qg z]at e;refine(I.hok b u e).stay (fun c v hc q=>k c v ?_ q) (fun c q=>by rw[qg (qj q hn)];exact q) fun c xs q=>by rw[qg (qj q hn)];exact q
     rcases hc with z|z
     · rw[z];exact nL b u e
     · exact nL c _ z
end
def qcH (base h:Heap) (L:Addr):List (Addr×Obj):=(List.range h.objs.size).filterMap fun a=>if a=L then none else if (base.get? a).isSome then none else (h.get? a).map fun o=>(a,o)
theorem qaC (base h:Heap) (L:Addr):News base L h (qcH base h L):=by
 intro p hp;unfold qcH at hp;obtain⟨a,_,e⟩:=List.mem_filterMap.mp hp;by_cases c1:a=L
 · rw[if_pos c1]at e;cases e
 · rw[if_neg c1]at e;by_cases c2:(base.get? a).isSome=true
   · rw[if_pos c2]at e;cases e
   · rw[if_neg c2]at e
     cases q:h.get? a with
     | none=>rw[q]at e;cases e
     | some o =>
       rw[q]at e;cases e;refine⟨q,c1,?_⟩
       cases z:base.get? a with
       | none=>rfl
       | some _=>rw[z]at c2;exact absurd rfl c2
theorem JS {base h:Heap}{L b:Addr}{o:Obj} (e:h.get? b=some o) (ne:b≠L) (n:base.get? b=none):(b,o)∈qcH base h L:=by
 unfold qcH;refine List.mem_filterMap.mpr ⟨b,List.mem_range.mpr (Heap.lt_size e),?_⟩;rw[if_neg ne,n,e];rfl
theorem qi9 {h:Heap}{a:Addr}{m m':Str->Option Value} (x:h.Ns a m) (y:h.Ns a m'):m=m':=by
 obtain⟨o,es,ep,ho,hd,_,f⟩:=x;obtain⟨o',es',ep',ho',hd',_,f'⟩:=y;rw[ho]at ho';cases ho';rw[hd]at hd';cases hd';exact funext fun n=>(f n).symm.trans (f' n)
section
variable {X:Cx}{pins:List (Addr×Obj)}{σ:List (Option V)}{H:Hp}{s:Shared}{h':Heap}
theorem Inv.laidN {D:Addr}{m:Str->Option Value}{vs:List Value}{c:Nat}{ys:List V} (I:Inv X pins σ H s) (F:Fr X.base X.env.locals s.heap m) (F':Fr X.base X.env.locals h' m)
   (N':News X.base X.env.locals h' ((D,PySem.W.listOf vs.toArray c)::qcH X.base s.heap X.env.locals)) (hD:∀ q∈qcH X.base s.heap X.env.locals,q.1 < D) (r:Vals ys vs) (hz:ys.length≤sizeLine) :
   H D=none∧Inv X pins σ (upd H D (.lst ys)) { s with heap:=h' }:=by
 obtain⟨e1,e2,e3⟩:=N' _ (.head _)
 have free:s.heap.get? D=none:=by
   cases q:s.heap.get? D with
   | none=>rfl
   | some o=>exact absurd (hD _ (JS q e2 e3)) (Nat.lt_irrefl _)
 have kp:∀ b u,b≠X.env.locals->s.heap.get? b=some u->h'.get? b=some u:=fun b u ne q=>by
   cases z:X.base.get? b with
   | some o =>
     have:=I.bk b o z
     rw[q]at this;cases this;exact F'.keep b _ z
   | none=>exact(N' _ (List.mem_cons_of_mem _ (JS q ne z))).1
 refine⟨I.unlaid free,I.laidL (t':=s.toks) kp (fun m' hm=>?_) free ⟨hz,vs,c,r,?_⟩⟩
 · rw[qi9 hm F.ns];exact F'.ns
 · exact e1
theorem qa7:∀ {ns:List Int}{vs:List Value},Vals (ns.map V.int) vs->IntsAre vs ns
 | [],_,.nil=>.nil
 | n::ns,_,.cons r t=>by
   obtain⟨tk,rfl⟩:=(show ∃ t,_=Value.int n t from r)
   exact .cons n tk (qa7 t)
theorem qcy:∀ {ns:List Int}{vs:List Value},IntsAre vs ns->Vals (ns.map V.int) vs
 | _,_,.nil=>.nil
 | _,_,.cons n t r=>.cons ⟨t,rfl⟩ (qcy r)
inductive qc6 (K:Frag) (xs:List V) (H:Hp) (Q:VK):Prop
 | mk (l:Addr) (ns:List Int) (h1:xs=[.ref l]) (h2:SqL K H l (ns.map V.int)) (h3:ns.length < 64) (h4:∀ (p:Addr) (ns':List Int),H p=none->ns'.Perm ns->ns'.Pairwise (·≤·)->Q (.ref p) (upd H p (.lst (ns'.map V.int)))):qc6 K xs H Q
def qiO (K:Frag):List V->Hp->VK->Prop:=fun xs H Q=>qc6 K xs H Q
theorem qdY:QN X (.builtin "sorted") (qiO X.K):=by
 intro pins s σ H xs us Q I r h;obtain⟨l,ns,rfl,hq,h64,q⟩:=h;obtain⟨u,rfl,ru⟩:=ji r;cases (show u=Value.ref l from ru);obtain⟨its,rv,p,hz⟩:=I.list hq;obtain⟨m,F⟩:=I.fr;refine PySem.W.kso_sorted F (qaC X.base s.heap X.env.locals) p.isList (qa7 rv) h64 fun D vs' ns' c h' F' N' hD hi hl hp ho _=>?_;obtain⟨hn,I'⟩:=I.laidN F F' N' hD (qcy hi) (by rw[List.length_map,hl,← List.length_map (f:=V.int)];exact hz);exact⟨.ref D,_,I',rfl,q D ns' hn hp ho⟩
end
section
variable {X:Cx}{pins:List (Addr×Obj)}{σ:List (Option V)}{H:Hp}{s:Shared}
theorem Inv.kpN {h':Heap}{m:Str->Option Value}{x:Addr×Obj} (I:Inv X pins σ H s) (F':Fr X.base X.env.locals h' m) (N':News X.base X.env.locals h' (x::qcH X.base s.heap X.env.locals)) :
   ∀ b u,b≠X.env.locals->s.heap.get? b=some u->h'.get? b=some u:=fun b u ne q=>by
 cases z:X.base.get? b with
 | some o =>
   have:=I.bk b o z
   rw[q]at this;cases this;exact F'.keep b _ z
 | none=>exact(N' _ (List.mem_cons_of_mem _ (JS q ne z))).1
end
theorem Zf {α β:Type}{F:α->β->Prop}:∀ {xs:List α}{ys:List β}{i:Nat}{d:α}{e:β},Paired F xs ys->i < xs.length->F (xs.getD i d) (ys.getD i e)
 | _,_,_,_,_,.nil,h=>by simp at h
 | _,_,0,_,_,.cons r _,_=>by simpa using r
 | _,_,i+1,_,_,.cons _ t,h=>by
   simp only[List.getD_cons_succ];exact Zf t (by simpa using h)
theorem qau {α β:Type}{F:α->β->Prop}{xs:List α}{ys:List β}{d:α}{e:β} (r:Paired F xs ys):∀ {is:List Nat},(∀ i∈is,i < xs.length)->Paired F (is.map fun i=>xs.getD i d) (is.map fun i=>ys.getD i e)
 | [],_=>.nil
 | i::is,h=>.cons (Zf r (h i List.mem_cons_self)) (qau r fun j hj=>h j (List.mem_cons_of_mem _ hj))
theorem ZE {α:Type} (l:List α) (d:α):(List.range l.length).map (fun i=>l.getD i d)=l:=by
 apply List.ext_getElem
 · simp
 · intro i h1 h2;simp[h2]
section
variable {prog:Program}{w:World}{A:Around}{E:Value->Shared->Prop}{s:Shared}
theorem qfX {a:Addr}{vs:List Value}{n:Nat}{P:PySem.Fin->Shared->Prop} (ho:s.heap.get? a=some (seqObj "list" vs.toArray n)) (h2:vs.length < 2)
   (h:∀ c h',(∀ b o,b≠a->s.heap.get? b=some o->h'.get? b=some o)->h'.get? a=some (seqObj "list" vs.toArray c)->P (.done (.ret .none)) { s with heap:=h' }) :
   wpAny (model prog w) A (Builtin.«list.sort» ⟨[.ref a],[]⟩) P E s:=by
 obtain⟨e1,ho1⟩:∃ e1,(s.heap.update a (Obj.mapSeq fun _=>(#[]:Array Value))).get? a=some (seqObj "list" #[] e1):=⟨_,get?_update_seq ho fun _=>#[]⟩
 have s1:=Heap.SameBut.update s.heap a (Obj.mapSeq fun _=>(#[]:Array Value));rw[list_sort_plain];refine wpAny_bind (listItems_at ho rfl ?_);refine wpAny_bind (listUpdate_at ho rfl ?_ (by rw[List.size_toArray,sizeLine_eq];omega) (Nat.zero_le _));refine wpAny_bind (seqEpoch_at ho1 rfl ?_);refine wpAny_bind (wpAny_newTuple ?_ (by show vs.length≤_;rw[sizeLine_eq];omega));refine wpAny_bind (wpAny_newList ?_ (Nat.zero_le _));refine wpAny_holding ?_;dsimp only;have hn2:vs.toArray.size < 2:=by rw[List.size_toArray];omega
 rw[if_pos hn2];refine wpAny_bind (wpAny_pure ?_);rw[if_pos hn2];refine wpAny_bind (wpAny_pure ?_);have ho2:(((s.heap.update a (Obj.mapSeq fun _=>(#[]:Array Value))).push (seqObj "tuple" vs.toArray 0)).push (seqObj "list" #[] 0)).get? a=some (seqObj "list" #[] e1):=Heap.get?_push_of_some _ (Heap.get?_push_of_some _ ho1)
 have hsnd:Array.map (fun x:Keyed=>x.snd) (arrOf (SortSt.mk' general' (vs.toArray.zip vs.toArray) #[] 7 none))=vs.toArray:=by
   show Array.map (fun x:Value×Value=>x.snd) (vs.toArray.zip vs.toArray)=vs.toArray;apply Array.toList_inj.mp;simp only[Array.toList_map,Array.toList_zip];exact List.map_snd_zip (Nat.le_refl _)
 refine wpAny_bind (seqEpoch_at ho2 rfl ?_);dsimp only;rw[hsnd];refine wpAny_bind (listUpdate_at ho2 rfl ?_ (Nat.zero_le _) (by rw[List.size_toArray,sizeLine_eq];omega));show wpAny (model prog w) A (if (e1 != e1)=true then _ else ret Value.none) P E _;rw[if_neg (by simp)];refine wpAny_pure (h _ _ (fun b o hb q=>?_) (get?_update_seq ho2 fun _=>vs.toArray));rw[(Heap.SameBut.update _ a _).2 b hb];exact Heap.get?_push_of_some _ (Heap.get?_push_of_some _ ((s1.2 b hb).trans q))
theorem qdy {l:Addr}{vs:List Value}{Q:Value->Shared->Prop} (hl:s.heap.IsList l vs.toArray) (h2:vs.length < 2)
   (h:∀ D c h',s.heap.get? D=none->(∀ b o,s.heap.get? b=some o->h'.get? b=some o)->h'.get? D=some (seqObj "list" vs.toArray c)->Q (.ref D) { s with heap:=h' }) :
   wpAny (model prog w) A (call (.builtin "sorted") [.ref l]) Q E s:=by
 refine Calls.call_function_entry kind_sorted plain_sorted entry_sorted (args_sorted1 _) ?_;unfold Builtin.«sorted»;refine wpAny_bind (m:=checkCount "sorted" 1 1 _) (wpAny_pure ?_);refine wpAny_bind (collect_list hl ?_ (by rw[sizeLine_eq];omega));refine wpAny_bind (wpAny_newList ?_ (by rw[sizeLine_eq];omega))
 have hsz:((s.heap.push (seqObj "list" #[] 0)).update s.heap.objs.size (Obj.mapSeq (·++vs.toArray))).objs.size=s.heap.objs.size+1:=by
   rw[Heap.size_update,size_push']
 have hoL:(((s.heap.push (seqObj "list" #[] 0)).update s.heap.objs.size (Obj.mapSeq (·++vs.toArray))).push (seqObj "list" vs.toArray 0)).get? (s.heap.objs.size+1)=some (seqObj "list" vs.toArray 0):=by
   rw[← hsz];exact Heap.get?_push_size _ rfl
 have keep:∀ b o,s.heap.get? b=some o->(((s.heap.push (seqObj "list" #[] 0)).update s.heap.objs.size (Obj.mapSeq (·++vs.toArray))).push (seqObj "list" vs.toArray 0)).get? b=some o:=fun b o q=>by
   have hlt:b < s.heap.objs.size:=Heap.lt_size q;rw[Heap.get?_push_ne _ _ _ (by rw[hsz];exact Nat.ne_of_lt (Nat.lt_succ_of_lt hlt)),Heap.get?_update_ne _ _ _ _ (Nat.ne_of_lt hlt),Heap.get?_push_ne _ _ _ (Nat.ne_of_lt hlt)];exact q
 show wpAny _ _ _ _ _ { s with heap:=((s.heap.push (seqObj "list" #[] 0)).update s.heap.objs.size (Obj.mapSeq (·++vs.toArray))).push (seqObj "list" vs.toArray 0) };rw[hsz];refine wpAny_bind (wpAny_holding (wpAny_call_entry slot_list_sort ⟨_,hoL,rfl⟩ entry_list_sort ?body (args_list_sort _)))
 case body =>
   refine qfX (s:={ s with heap:=((s.heap.push (seqObj "list" #[] 0)).update s.heap.objs.size (Obj.mapSeq (·++vs.toArray))).push (seqObj "list" vs.toArray 0) }) hoL h2 fun c h' k e=>?_;exact⟨_,rfl,wpAny_pure ⟨_,rfl,h (s.heap.objs.size+1) c h' (Heap.get?_none_of_le (Nat.le_succ _)) (fun b o q=>k b o (Nat.ne_of_lt (Nat.lt_succ_of_lt (Heap.lt_size q))) (keep b o q)) e⟩⟩
end
theorem qcg:∀ {xs:List V}{us:List Value},us.length=xs.length->(∀ (i:Nat) (x:V) (u:Value),xs[i]?=some x->us[i]?=some u->RelV x u)->Vals xs us
 | [],[],_,_=>.nil
 | [],_::_,h,_=>by cases h
 | _::_,[],h,_=>by cases h
 | x::xs,u::us,h,r=>.cons (r 0 x u rfl rfl) (qcg (Nat.succ.inj h) fun i y v e1 e2=>r (i+1) y v e1 e2)
theorem qfa {k:Key}{v:Value} (h:qcw k v=true):RelV (kV k) v:=by
 rcases qS h with ⟨i,t,rfl,rfl⟩|⟨x,t,rfl,rfl⟩
 · exact⟨t,rfl⟩
 · exact⟨t,rfl⟩
theorem qe9:∀ {kvs:List (Key×V)}{vs:List (Key×Value)},KV kvs vs->∀ {i:Nat}{k:Key}{x:Value},vs[i]?=some (k,x)->∃ y,kvs[i]?=some (k,y)∧RelV y x
 | _,_,.nil,i,k,x,e=>by cases e
 | _,_,.cons (a:=a) (b:=b) r t,i,k,x,e=>by
   cases i with
   | zero =>
     cases e;exact⟨a.2,by rw[List.getElem?_cons_zero];obtain⟨a1,a2⟩:=a;have:=r.1;simp at this;rw[this],r.2⟩
   | succ i=>exact qe9 t e
theorem qdo:∀ {kvs:List (Key×V)}{vs:List (Key×Value)},KV kvs vs->vs.length=kvs.length
 | _,_,.nil=>rfl
 | _,_,.cons _ t=>by rw[List.length_cons,List.length_cons,qdo t]
section
variable {X:Cx}
def qgL:List V->Hp->VK->Prop:=fun xs H Q=>∃ a kvs,xs=[V.ref a]∧Rd H a (.dK kvs)∧∀ l,H l=none->Q (.ref l) (upd H l (.lst (kvs.map fun p=>kV p.1)))
theorem qd0 (hc:X.calm=true):QN X (.type "list") qgL:=by
 intro pins s σ H xs us Q I r h;obtain⟨a,kvs,rfl,hq,q⟩:=h;obtain⟨u,rfl,ru⟩:=ji r;cases ru;obtain⟨hz,hS,vs,rel,o,es,ep,e,x,d,k,p,n⟩:=qb2 I.hok hq;have D:s.heap.DictAt (qX X.prog X.w) a vs ep:=⟨o,es,e,x,d,k,p,n⟩
 refine PySem.W.kdl_call (kdl_dict (knd:=qX X.prog X.w) (kvs:=vs) (ep:=ep) hS) (I.ok.hd hc) D (by rw[qdo rel];exact hz) fun h' tk acc' c' kp e' it=>?_;obtain⟨al,ag⟩:=it
 have rv:Vals (kvs.map fun p=>kV p.1) acc'.toList:=by
   refine qcg (by rw[Array.length_toList,al,List.length_map,qdo rel]) fun i y v e1 e2=>?_;obtain⟨k',x',e3,e4⟩:=ag i v (by rw[← Array.getElem?_toList];exact e2);obtain⟨y',e5,_⟩:=qe9 rel e3;rw[List.getElem?_map,e5]at e1;cases e1;exact qfa e4
 refine⟨.ref s.heap.objs.size,_,I.laid (t':=tk) kp (Nat.le_refl _) (show ObjOk X.prog X.w _ h' _ (.lst _) from ⟨by rw[List.length_map];exact hz,acc'.toList,c',rv,?_⟩),rfl,q _ (I.hok.fresh (Nat.le_refl _))⟩;rw[Array.toArray_toList];exact e'
theorem qcN:∀ {ss:List Str}{vs:List Value},Vals (ss.map V.str) vs->StrsAre vs ss
 | [],_,.nil=>.nil
 | n::ns,_,.cons r t=>by
   obtain⟨tk,rfl⟩:=(show ∃ t,_=Value.str n t from r)
   exact .cons n tk (qcN t)
theorem qbe:∀ {ss:List Str}{vs:List Value},StrsAre vs ss->Vals (ss.map V.str) vs
 | _,_,.nil=>.nil
 | _,_,.cons n t r=>.cons ⟨t,rfl⟩ (qbe r)
def qgI:List V->Hp->VK->Prop:=fun xs H Q=>∃ (a:Addr) (kvs:List (Str×V)),xs=[V.ref a]∧Rd H a (.dK (kvs.map fun p=>(.inr p.1,p.2)))∧kvs.length < 64∧∀ (p:Addr) (ss':List Str),H p=none->ss'.Perm (kvs.map (·.1))->sortedS ss'=true->Q (.ref p) (upd H p (.lst (ss'.map V.str)))
theorem qdZ (hc:X.calm=true):QN X (.builtin "sorted") qgI:=by
 intro pins s σ H xs us Q I r h;obtain⟨a,kvs,rfl,hq,h64,q⟩:=h;obtain⟨u,rfl,ru⟩:=ji r;cases ru;obtain⟨hz,hS,vs,rel,o,es,ep,e,x,d,k,p,n⟩:=qb2 I.hok hq;have D:s.heap.DictAt (qX X.prog X.w) a vs ep:=⟨o,es,e,x,d,k,p,n⟩
 have ln:vs.length=kvs.length:=by rw[qdo rel,List.length_map]
 refine Calls.call_function_entry kind_sorted plain_sorted entry_sorted (args_sorted1 _) ?_;unfold Builtin.«sorted»;refine wpAny_bind (m:=checkCount "sorted" 1 1 _) (wpAny_pure ?_);refine wpAny_bind (PySem.W.kdu_collect (A:=X.A.in1) (kdl_dict (knd:=qX X.prog X.w) (kvs:=vs) (ep:=ep) hS) (I.ok.hd hc) D (by rw[ln,sizeLine_eq];omega) fun h' tk acc hk it=>?_);obtain⟨al,ag⟩:=it
 have rv:Vals ((kvs.map (·.1)).map V.str) acc.toList:=by
   refine qcg (by rw[Array.length_toList,al,List.length_map,List.length_map,ln]) fun i y v e1 e2=>?_;obtain⟨k',x',e3,e4⟩:=ag i v (by rw[← Array.getElem?_toList];exact e2);obtain⟨y',e5,_⟩:=qe9 rel e3;rw[List.getElem?_map]at e5;rw[List.getElem?_map,List.getElem?_map]at e1
   cases z:kvs[i]? with
   | none=>rw[z]at e1;cases e1
   | some w' =>
     rw[z]at e1 e5;cases e1;cases e5;exact qfa (k:=.inr w'.1) e4
 have hA:=qcN rv;have hl:acc.toList.length < 64:=by rw[Array.length_toList,al,ln];exact h64
 refine wpAny_bind (wpAny_newList ?_ (by rw[sizeLine_eq];omega));have hoL:(h'.push (seqObj "list" acc.toList.toArray 0)).get? h'.objs.size=some (seqObj "list" acc.toList.toArray 0):=Heap.get?_push_size _ rfl;refine wpAny_bind (wpAny_holding (wpAny_call_entry slot_list_sort ⟨_,hoL,rfl⟩ entry_list_sort (list_sort_treeK strKind_oneLt hoL hA.keysOf (fun v₁ v₂ rest e=>keyKind_strs (by rw[← e];exact hA)) hl fun st' a1 a2=>⟨_,rfl,?_⟩) (args_list_sort _)));refine wpAny_pure ⟨_,rfl,?_⟩;obtain⟨ss',b1,b2,b3⟩:=sorted_out_str hA a1 a2;obtain⟨e',he⟩:=sortedHeap_at (out:=(arrOf st').map (·.2)) hoL
 have free:s.heap.get? h'.objs.size=none:=by
   cases z:s.heap.get? h'.objs.size with
   | none=>rfl
   | some o=>exact absurd (Heap.lt_size (hk _ _ z)) (Nat.lt_irrefl _)
 have kp:∀ b u,s.heap.get? b=some u->(sortedHeap (h'.push (seqObj "list" acc.toList.toArray 0)) h'.objs.size acc.toList ((arrOf st').map (·.2))).get? b=some u:=fun b u z=>by
   have z':=hk _ _ z;have lt:=Heap.lt_size z';rw[sortedHeap_old (Nat.ne_of_lt lt) (Nat.lt_of_lt_of_eq (Nat.lt_succ_of_lt lt) (Heap.size_push ..).symm)];exact Heap.get?_push_of_some _ z'
 have I':Inv X pins σ (upd H h'.objs.size (.lst (ss'.map V.str))) { s with heap:=_,toks:=tk }:=I.laidL (t':=tk) (fun b u _ z=>kp b u z) (fun m ⟨o,es,ep,ho,r⟩=>⟨o,es,ep,kp _ _ ho,r⟩) free ⟨by rw[List.length_map,b2.length_eq,List.length_map,sizeLine_eq];omega,_,e',qbe b1,(by rw[Array.toArray_toList];exact he)⟩;exact⟨.ref _,_,I',rfl,q _ ss' (I.unlaid free) b2 b3⟩
def qii (K:Frag):List V->Hp->VK->Prop:=fun xs H Q=>∃ x C t b,xs=[x,V.ref C]∧qcd K H x t∧kitOne K t (.ref C)=some b∧Q (.bl b) H
theorem je:QN X (.builtin "isinstance") (qii X.K):=by
 intro pins s σ H xs us Q I r h;obtain⟨x,C,t,b,rfl,ht,hk,q⟩:=h;obtain⟨u,w',rfl,ru,rw'⟩:=qec r;cases (show w'=Value.ref C from rw');exact qbW I ru ht hk fun tk=>⟨.bl _,H,I.tok tk,rfl,q⟩
theorem jq {K:Frag}{C D:Addr}{l:List (Option Addr)} (m:XMro K C l) (hl:l.head?=some (some C)) (d:qg8 K D):kitOne K (.ref C) (.ref D)=some (l.contains (some D)):=by
 have e:=qfO m (by intro z;rw[z]at hl;cases hl) d;unfold kitOne;split
 · rename_i z
   have z':C=D:=Value.ref.inj (eq_of_beq z);subst z';congr 1
   cases l with
   | nil=>cases hl
   | cons x r=>rw[List.head?_cons]at hl;cases hl;simp
 · obtain⟨cd,h1,h2⟩:=m;unfold PySem.W.kitCls;have d1:(PySem.W.clsIn K D).isSome=true:=d.1;simp only[d.2,d1];simp only[qce,d.2,d1]at e;simpa using e
theorem PE.or {e:Expr}{t u:TE} (h:PE X e t) (h':PE X e u):PE X e (fun σ H Q=>t σ H Q∨u σ H Q):=fun pins s σ H Q I q=>q.elim (h pins s σ H Q I) (h' pins s σ H Q I)
def qkL:R2:=fun x y H Q=>∃ a o,y=.ref a∧qd8 H a x o∧Q (.bl o.isSome) H
theorem qgU (hu:X.A.units+1 < cLine):OpR X (compareOp .In) qkL:=by
 intro pins s σ H x y v u Q I rx ry h;obtain⟨a,o,rfl,g,q⟩:=h;cases ry;exact qkR hu I g rx fun s' I'=>⟨.bl _,H,I',rfl,q⟩
def qhy:R2:=fun x y H Q=>∃ a o,y=.ref a∧qd8 H a x o∧Q (.bl (!o.isSome)) H
theorem qbL (hu:X.A.units+1 < cLine):OpR X (compareOp .NotIn) qhy:=by
 intro pins s σ H x y v u Q I rx ry h;obtain⟨a,o,rfl,g,q⟩:=h;cases ry;exact qh7 hu I g rx fun s' I'=>⟨.bl _,H,I',rfl,q⟩
end
section
variable {X:Cx}{tg:Expr}
structure InsF (K:Frag) (C:Addr):Prop where
 cl:Cls K C
 ha:PySem.W.findIn K (.ref C) "__class__"=some (some (.builtin "object.__class__"))
 hn:PySem.W.specialIn K (.builtin "object.__class__") "__get__"=some (some (.builtin "getset_descriptor.__get__"))
 htk:PySem.W.takesIn K (.builtin "object.__class__")=some true
 hm:PySem.W.mroIn K C (.type "object")=some true
theorem InsF.ty {K:Frag}{H:Hp}{a C dx:Addr}{fs:List (Str×V)} (i:InsF K C) (e:H a=some (.ins C dx fs)):qcd K H (.ref a) (.ref C):=.ins e i.cl i.ha i.hn i.htk i.hm
end
section
variable {X:Cx}
def qiR:List V->Hp->VK->Prop:=fun xs H Q=>∃ i j k:Int,xs=[.int i,.int j,.int k]∧∀ m:Int,m≤i->m≤j->m≤k->(m=i∨m=j∨m=k)->Q (.int m) H
theorem qfB (hc:X.calm=true):QN X (.builtin "min") qiR:=by
 intro pins s σ H xs us Q I r h;obtain⟨i,j,k,rfl,q⟩:=h
 cases r with
 | cons r1 r =>
   cases r with
   | cons r2 r =>
     cases r with
     | cons r3 r =>
       cases r;obtain⟨t1,rfl⟩:=r1;obtain⟨t2,rfl⟩:=r2;obtain⟨t3,rfl⟩:=r3;refine min_three_ints (I.ok.hd hc) fun h' tk kp=>?_;have I':=I.kept (t':=tk) kp;by_cases a:j < i
       · rw[if_pos a];by_cases b:k < j
         · rw[if_pos b];exact⟨.int k,H,I',⟨_,rfl⟩,q k (by omega) (by omega) (by omega) (.inr (.inr rfl))⟩
         · rw[if_neg b];exact⟨.int j,H,I',⟨_,rfl⟩,q j (by omega) (by omega) (by omega) (.inr (.inl rfl))⟩
       · rw[if_neg a];by_cases b:k < i
         · rw[if_pos b];exact⟨.int k,H,I',⟨_,rfl⟩,q k (by omega) (by omega) (by omega) (.inr (.inr rfl))⟩
         · rw[if_neg b];exact⟨.int i,H,I',⟨_,rfl⟩,q i (by omega) (by omega) (by omega) (.inl rfl)⟩
end
def Rz2 (C:Addr) (f:Str) (v:V) (g:Str) (u:V) (H:Hp) (E:XK):Prop:=∀ (ea dx:Addr) (H':Hp),Same H H'->H ea=none->H dx=none->H' dx=some (.xd [(g,u),(f,v)])->XAt H' ea C (some dx)->E (.ref C) (some ea) H'
theorem Rz2.same {C:Addr}{f g:Str}{v u:V}{H G:Hp}{E:XK} (h:Rz2 C f v g u H E) (s:Same H G):Rz2 C f v g u G E:=fun ea dx H' s' n1 n2 e x=>h ea dx H' (s.trans s') (s.none n1) (s.none n2) e x
theorem Rz2.sure {C:Addr}{f g:Str}{v u:V}{H:Hp}{E:XK} (h:Rz2 C f v g u H E) {ea dx:Addr}{tb:Value} (n1:H ea=none) (n2:H dx=none) (ne:dx≠ea) {o:HO} :
   Sure E C ea (some dx) (upd (upd (upd (upd H ea (.ext (ExO ea C none .none))) ea (.ext (ExO ea C (some dx) tb))) dx o) dx (.xd [(g,u),(f,v)])):=by
 intro H' k x;refine h ea dx H' (fun b o e=>k b o (qj e n1) ?_) n1 n2 (k dx _ ne qc) x;rw[qg (qj e n2),qg (qj e n2),qg (qj e n1),qg (qj e n1)];exact e
end L2
namespace SetO
open PySem
def Bel (xs:Array Nat) (j r:Nat):Prop:=r≤xs.size∧(∀ i,i < r->xs.getD i 0 < j)∧∀ i,r≤i->i < xs.size->j≤xs.getD i 0
def Up (xs:Array Nat):Prop:=∀ i k,i < k->k < xs.size->xs.getD i 0 < xs.getD k 0
theorem qdp {xs:Array Nat}{i:Nat} (h:i < xs.size) (d e:Nat):xs.getD i d=xs.getD i e:=by simp[Array.getD,h]
theorem qbb {xs:Array Nat}{j:Nat} (up:Up xs):∀ (fuel lo hi:Nat),hi - lo≤fuel->lo≤hi->hi≤xs.size->(∀ i,i < lo->xs.getD i 0 < j)->(∀ i,hi≤i->i < xs.size->j≤xs.getD i 0)->Bel xs j (SetTable.below.go xs j fuel lo hi)
 | 0,lo,hi,f,h1,h2,h3,h4=>by
   have e:lo=hi:=by omega
   subst e;exact⟨h2,h3,h4⟩
 | fuel+1,lo,hi,f,h1,h2,h3,h4=>by
   unfold SetTable.below.go;by_cases g:lo < hi
   · rw[if_pos g];dsimp only;have hm:(lo+hi) / 2 < xs.size:=by omega
     by_cases c:xs.getD ((lo+hi) / 2) j < j
     · rw[if_pos c];refine qbb up fuel _ _ (by omega) (by omega) h2 (fun i hi'=>?_) h4;rw[qdp hm j 0]at c;by_cases e:i=(lo+hi) / 2
       · rw[e];exact c
       · have:=up i ((lo+hi) / 2) (by omega) hm
         omega
     · rw[if_neg c];refine qbb up fuel _ _ (by omega) (by omega) (by omega) h3 (fun i hi' hs=>?_);rw[qdp hm j 0]at c;by_cases e:i=(lo+hi) / 2
       · rw[e];omega
       · have:=up ((lo+hi) / 2) i (by omega) hs
         omega
   · rw[if_neg g];have e:lo=hi:=by omega
     subst e;exact⟨h2,h3,h4⟩
theorem qdv {xs:Array Nat} (up:Up xs) (j:Nat):Bel xs j (SetTable.below xs j) :=
 qbb up _ _ _ (by omega) (Nat.zero_le _) (Nat.le_refl _) (fun _ h=>absurd h (by omega)) (fun i h1 h2=>by omega)
theorem Bel.one {xs:Array Nat}{j r q:Nat} (h:Bel xs j r) (k:Bel xs j q):r=q:=by
 rcases Nat.lt_trichotomy r q with g|g|g
 · have:=k.2.1 r g
   have:=h.2.2 r (Nat.le_refl _) (Nat.lt_of_lt_of_le g k.1)
   omega
 · exact g
 · have:=h.2.1 q g
   have:=k.2.2 q (Nat.le_refl _) (Nat.lt_of_lt_of_le g h.1)
   omega
theorem qcz {α:Type} (xs:Array α) (p:Nat) (x:α) (h:p≤xs.size):(SetTable.insertAt xs p x).size=xs.size+1:=by
 rw[← Array.length_toList,SetTable.toList_insertAt,List.length_append,List.length_cons,← Nat.add_assoc,← List.length_append,List.take_append_drop,Array.length_toList]
theorem qbX {xs:Array Nat}{p x:Nat} (h:p≤xs.size) (i:Nat):(SetTable.insertAt xs p x).getD i 0=if i < p then xs.getD i 0 else if i=p then x else xs.getD (i - 1) 0:=by
 have e:∀ (ys:Array Nat) (k:Nat),ys.getD k 0=ys.toList[k]?.getD 0:=fun ys k=>by simp[Array.getD_eq_getD_getElem?]
 rw[e,SetTable.toList_insertAt,e,e];have l:(xs.toList.take p).length=p:=List.length_take_of_le (by rw[Array.length_toList];exact h);by_cases c:i < p
 · rw[if_pos c,List.getElem?_append_left (by rw[l];exact c),List.getElem?_take_of_lt c]
 · rw[if_neg c,List.getElem?_append_right (by rw[l];exact Nat.le_of_not_lt c),l];by_cases c2:i=p
   · rw[if_pos c2,c2,Nat.sub_self];rfl
   · obtain⟨d,rfl⟩:=Nat.exists_eq_add_of_lt (Nat.lt_of_le_of_ne (Nat.le_of_not_lt c) (Ne.symm c2));rw[if_neg c2,Nat.add_assoc,Nat.add_sub_cancel_left,List.getElem?_cons_succ,List.getElem?_drop];rfl
theorem qfg {xs:Array Nat}{j r:Nat} (up:Up xs) (b:Bel xs j r) (no:xs[r]?≠some j):Up (SetTable.insertAt xs r j):=by
 intro i k hik hk;rw[qcz _ _ _ b.1]at hk;have b1:=b.1;rw[qbX b.1,qbX b.1]
 have gt:∀ i,r≤i->i < xs.size->j < xs.getD i 0:=fun i h1 h2=>by
   have h0:r < xs.size:=by omega
   have n:xs.getD r 0≠j:=fun z=>no (by rw[Array.getElem?_eq_getElem h0];congr 1;simpa[Array.getD,h0] using z)
   have:=b.2.2 r (Nat.le_refl _) h0
   by_cases e:i=r
   · rw[e];omega
   · have:=up r i (by omega) h2
     omega
 by_cases c1:i < r
 · rw[if_pos c1];by_cases c2:k < r
   · rw[if_pos c2];exact up i k hik (by omega)
   · rw[if_neg c2];by_cases c3:k=r
     · rw[if_pos c3];exact b.2.1 i c1
     · rw[if_neg c3];exact up i (k - 1) (by omega) (by omega)
 · rw[if_neg c1,if_neg (show ¬ k < r by omega)];by_cases c3:i=r
   · rw[if_pos c3,if_neg (show ¬ k=r by omega)];exact gt (k - 1) (by omega) (by omega)
   · rw[if_neg c3,if_neg (show ¬ k=r by omega)];exact up (i - 1) (k - 1) (by omega) (by omega)
def Tab (t:SetTable):Prop:=t.plain=true->Up t.place∧t.dummies=#[]
theorem qhs {t:SetTable}{j:Nat} (h:t.dummies=#[]):t.slot j≠.dummy:=by
 unfold SetTable.slot;dsimp only;split
 · intro z;cases z
 · rw[if_neg (by rw[h];simp[SetTable.has])];intro z;cases z
theorem qdc {t:SetTable}{h:Int} (nd:t.dummies=#[]):∀ (fuel:Nat) (p:SetTable.Probe) (m:SetTable.Met),p.dummy=none->SetTable.probe.go t (fun _=>h+1) h fuel p=some m->∃ j,m=.empty j none∧t.slot j=.empty
 | 0,p,m,hp,e=>by unfold SetTable.probe.go at e;cases e
 | fuel+1,p,m,hp,e=>by
   unfold SetTable.probe.go at e
   have adv:(t.advance p).dummy=none:=by
     unfold SetTable.advance;split
     · exact hp
     · exact hp
   cases s:t.slot p.j with
   | empty =>
     rw[s]at e;dsimp only at e;cases e;exact⟨p.j,by rw[hp],s⟩
   | dummy=>exact absurd s (qhs nd)
   | live i =>
     rw[s]at e;dsimp only at e;rw[if_neg (by simp;omega)]at e;exact qdc nd fuel _ m adv e
theorem qh2 {t:SetTable}{h:Int}{j:Nat}{wd:Bool} (nd:t.dummies=#[]) (e:t.freeSlot h=some (j,wd)):t.slot j=.empty:=by
 unfold SetTable.freeSlot at e
 cases m:t.probe (fun _=>h+1) h (t.probeStart h) with
 | none=>rw[m]at e;cases e
 | some x =>
   obtain⟨k,rfl,hk⟩:=qdc nd _ _ x (by rfl) m;rw[m]at e
   have:k=j:=by
     have:=(Prod.mk.inj (Option.some.inj e)).1
     simpa using this
   rw[← this];exact hk
theorem qhr {t:SetTable}{j:Nat} (h:t.slot j=.empty):t.place[SetTable.below t.place j]?≠some j:=by
 unfold SetTable.slot at h;dsimp only at h;intro z;rw[z]at h;simp at h
theorem qhB {t:SetTable}{h:Int}{j:Nat}{wd:Bool} (k:Tab t) (e:t.freeSlot h=some (j,wd)):Tab (t.put j).1:=fun pl=>by
 have pl':t.plain=true:=pl;obtain⟨up,nd⟩:=k pl';refine⟨qfg up (qdv up j) (qhr (qh2 nd e)),?_⟩;show (if SetTable.has t.dummies j then _ else t.dummies)=#[];rw[nd,if_neg (by simp[SetTable.has])]
theorem ZN (t:SetTable) (n:Nat):Tab (t.standIn n):=fun pl=>nomatch pl
theorem qhU {t:SetTable} (k:Tab t) (es:Array (Int×Value)) (h:Int) (x:Value):Tab (layNew t es h x).2.1∧(layNew t es h x).2.1.led=t.led:=by
 unfold layNew;split
 · rename_i j wd e
   have kt:=qhB k e;show Tab ((t.put j).1.orStandIn _)∧((t.put j).1.orStandIn _).led=t.led;unfold SetTable.orStandIn;split
   · exact⟨kt,rfl⟩
   · exact⟨ZN _ _,rfl⟩
 · exact⟨ZN _ _,rfl⟩
theorem JT {l:List Nat} (h:l.Pairwise (· < ·)):Up l.toArray:=fun i k hik hk=>by
 have hk':k < l.length:=by simpa using hk
 have:=List.pairwise_iff_getElem.mp h i k (by omega) hk' hik
 simp[Array.getD,hk',show i < l.length by omega];exact this
theorem qhR (owner:Array (Option Nat)) (m:Nat):(((List.range m).filterMap fun j=>(owner.getD j none).map (j,·)).map (·.1)).Pairwise (· < ·):=by
 rw[List.map_filterMap];refine List.Pairwise.filterMap _ (fun a b hab x hx y hy=>?_) (List.pairwise_lt_range (n:=m))
 have e1:a=x:=by
   cases e:owner.getD a none with
   | none=>rw[e]at hx;cases hx
   | some o=>rw[e]at hx;simpa using hx
 have e2:b=y:=by
   cases e:owner.getD b none with
   | none=>rw[e]at hy;cases hy
   | some o=>rw[e]at hy;simpa using hy
 omega
theorem qeD (t:SetTable) (es:Array (Int×Value)) (n:Nat):Tab (relayAll t es n).2.1∧(relayAll t es n).2.1.led=t.led:=by
 unfold relayAll;split
 · rename_i t' order e
   dsimp only;unfold SetTable.relaid SetTable.laid at e;split
   · simp only[Option.bind_eq_bind,Option.pure_def,Option.bind_eq_some_iff]at e;obtain⟨owner,_,e⟩:=e;obtain⟨rfl,_⟩:=Prod.mk.inj (Option.some.inj e);exact⟨fun _=>⟨JT (qhR owner _),rfl⟩,rfl⟩
   · exact⟨ZN _ _,rfl⟩
 · exact⟨ZN _ _,rfl⟩
theorem qd2 {xs:Array Nat} (up:Up xs) {i:Nat} (h:i≤xs.size):SetTable.below xs (if i=0 then 0 else xs.getD (i - 1) 0+1)=i:=by
 refine(qdv up _).one ⟨h,fun k hk=>?_,fun k h1 h2=>?_⟩
 · rw[if_neg (by omega)];by_cases e:k=i - 1
   · rw[e];omega
   · have:=up k (i - 1) (by omega) (by omega)
     omega
 · by_cases e:i=0
   · rw[if_pos e];omega
   · rw[if_neg e];exact up (i - 1) k (by omega) h2
end SetO
namespace SetO
open PySem PySem.Spec PyProof.Rows
def Zs (prog:Program) (w:World) (o:Obj) (txt:Bool) (ds:List Int):Prop:=∃ es ep t,o.ExactSet∧o.data=.set es ep t∧ElemsOf (intKind prog w) es.toList∧(∃ zs,zs.Perm ds∧IntsAre (es.toList.map (·.2)) zs)∧es.size < scanBound∧t.fits es.size=true∧(txt=false->t.led=true)∧Tab t
section
variable {prog:Program}{w:World}{A:Around}{E:Value->Shared->Prop}{s:Shared}
theorem ints_perm {vs us:List Value} (p:us.Perm vs):∀ {zs:List Int},IntsAre vs zs->∃ ys,ys.Perm zs∧IntsAre us ys:=by
 induction p with
 | nil=>intro zs h;exact⟨zs,.refl _,h⟩
 | cons x _ ih =>
   intro zs h
   cases h with
   | cons n t h1=>obtain⟨ys,p1,h2⟩:=ih h1;exact⟨n::ys,p1.cons _,.cons n t h2⟩
 | swap x y l =>
   intro zs h
   cases h with
   | cons n t h1=>cases h1 with|cons m u h2=>exact⟨_,.swap _ _ _,.cons _ _ (.cons _ _ h2)⟩
 | trans _ _ ih1 ih2 =>
   intro zs h;obtain⟨y1,p1,h1⟩:=ih2 h;obtain⟨y2,p2,h2⟩:=ih1 h1;exact⟨y2,p2.trans p1,h2⟩
theorem qff {vs:List Value}{zs:List Int} (h:IntsAre vs zs) (n:Int) (t:Tok):IntsAre (vs++[.int n t]) (zs++[n]):=by
 induction h with
 | nil=>exact .cons n t .nil
 | cons m u _ ih=>exact .cons m u ih
theorem qgk {vs:List Value}{zs:List Int} (h:IntsAre vs zs) (k:Int):k∈zs↔∃ v∈vs,Value.isInt k v=true:=by
 induction h with
 | nil=>simp
 | cons m u _ ih =>
   rw[List.mem_cons,ih];constructor
   · rintro (rfl|⟨v,hv,e⟩)
     · exact⟨_,List.mem_cons_self,by simp[Value.isInt]⟩
     · exact⟨v,List.mem_cons_of_mem _ hv,e⟩
   · rintro⟨v,hv,e⟩;rcases List.mem_cons.mp hv with rfl|hv
     · obtain⟨t,e2⟩:=Value.isInt_shape e;cases e2;exact .inl rfl
     · exact .inr ⟨v,hv,e⟩
theorem qgS {o:Obj}{es:Array (Int×Value)}{ep:Nat}{t:SetTable}{h:Heap}{a:Addr} (es':Array (Int×Value)) (t':SetTable) (ho:h.get? a=some o) (hd:o.data=.set es ep t) :
   (h.update a (Obj.putSet es' t')).get? a=some { o with data:=.set es' (ep+1) t' }:=by
 have:=Heap.get?_update_self (Obj.putSet es' t') ho (by rw[putSet_of es' t' hd];rfl)
 rw[putSet_of es' t' hd]at this;exact this
theorem qdw {g:Bool->Sem Unit} (hg:∀ (b:Bool) (s₁:Shared) (Q':Unit->Shared->Prop),Q' () s₁->wpAny (model prog w) A (g b) Q' E s₁) {a:Addr}{o:Obj}{es:Array (Int×Value)}{ep:Nat}{t:SetTable} (ho:s.heap.get? a=some o) (hex:o.ExactSet) (hd:o.data=.set es ep t)
   {e1:Array (Int×Value)}{t1:SetTable}{txt:Bool}{ds:List Int} (el:ElemsOf (intKind prog w) e1.toList) (iz:∃ zs,zs.Perm ds∧IntsAre (e1.toList.map (·.2)) zs) (few:e1.size < scanBound) (fit:t1.fits e1.size=true) (led:txt=false->t1.led=true) (tab:Tab t1)
   {wd:Bool}{R:Option Bool->Shared->Prop} (fin:∀ h' o',Heap.SameBut a s.heap h'->h'.get? a=some o'->Zs prog w o' txt ds->R (some true) { s with heap:=h' }) :
   wpAny (model prog w) A (do
       storeSet a e1 t1
       if (!wd && t1.tooFull)=true then do
           g (relayAll t1 e1 (SetTable.grown e1.size)).2.2
           storeSet a (relayAll t1 e1 (SetTable.grown e1.size)).1 (relayAll t1 e1 (SetTable.grown e1.size)).2.1
           pure (some true)
         else pure (some true)) R E s:=by
 refine wpAny_bind (wpAny_storeSet_of ho hd ?_ (fits_of_scanBound few));have g1:=qgS e1 t1 ho hd;have sb:=Heap.SameBut.update s.heap a (Obj.putSet e1 t1);split
 · have hp:=relayAll_perm t1 e1 (SetTable.grown e1.size);have hf:=relayAll_fits t1 e1 (SetTable.grown e1.size);have ht:=qeD t1 e1 (SetTable.grown e1.size);generalize relayAll t1 e1 (SetTable.grown e1.size)=Rl at hp hf ht ⊢;obtain⟨e2,t2,gv⟩:=Rl;dsimp only at hp hf ht ⊢;have few2:e2.size < scanBound:=by rw[← Array.length_toList,hp.length_eq,Array.length_toList];exact few
   refine wpAny_bind (hg _ _ _ (wpAny_bind (wpAny_storeSet_of g1 rfl ?_ (fits_of_scanBound few2))));refine wpAny_pure (fin _ _ (sb.trans (Heap.SameBut.update _ a _)) (qgS e2 t2 g1 rfl) ⟨e2,_,t2,hex,rfl,el.perm hp,?_,few2,hf,fun z=>ht.2.trans (led z),ht.1⟩);obtain⟨zs,p,hz⟩:=iz;obtain⟨ys,p2,hy⟩:=ints_perm (hp.map (·.2)) hz;exact⟨ys,p2.trans p,hy⟩
 · exact wpAny_pure (fin _ _ sb g1 ⟨e1,_,t1,hex,rfl,el,iz,few,fit,led,tab⟩)
theorem qjw {a:Addr}{o:Obj}{txt:Bool}{ds:List Int}{k:Int}{tk:Tok}{Q:Bool->Shared->Prop} (ho:s.heap.get? a=some o) (z:Zs prog w o txt ds) (room:ds.length+1 < scanBound)
   (fin:∀ b h' o',Heap.SameBut a s.heap h'->h'.get? a=some o'->Zs prog w o' txt (step_dedup ds k)->Q b { s with heap:=h' }) :
   wpAny (model prog w) A (setAddHashed a (.int k tk) ((intKind prog w).hash k)) Q E s:=by
 obtain⟨es,ep,t,hex,hd,el,⟨zs,pz,hz⟩,few,fit,led,tab⟩:=id z;have key:(intKind prog w).is k (.int k tk)=true:=by simp[intKind,Value.isInt]
 have sz:es.size=ds.length:=by
   have:=IntsAre.length hz
   rw[List.length_map,Array.length_toList]at this;rw[this,pz.length_eq]
 unfold setAddHashed setAddHashedIn;refine wpAny_holding (wpAny_bind (wpAny_setState_of ho hd fit ?_));dsimp only;rw[byScan_of (knd:=intKind prog w) (x:=.int k tk) rfl few el];simp only[↓reduceIte];unfold setAddByScan;refine wpAny_bind (wpAny_bind (wpAny_rule (wpAny_bind (wpAny_setScan_of key ho hd fit el ?_))))
 have met:k∈ds↔∃ e∈es.toList,(intKind prog w).is k e.2=true:=by
   rw[← pz.mem_iff,qgk hz k];constructor
   · rintro⟨v,hv,e⟩;obtain⟨x,hx,rfl⟩:=List.mem_map.mp hv;exact⟨x,hx,e⟩
   · rintro⟨x,hx,e⟩;exact⟨x.2,List.mem_map.mpr ⟨x,hx,rfl⟩,e⟩
 cases hr:List.findIdx? (fun e=>(intKind prog w).is k e.2) es.toList with
 | some j =>
   dsimp only;obtain⟨hj,hpj,_⟩:=List.findIdx?_eq_some_iff_getElem.mp hr;have m:k∈ds:=met.mpr ⟨es.toList[j],List.getElem_mem hj,hpj⟩;have e0:step_dedup ds k=ds:=if_pos (by simpa using m);rw[e0]at fin;exact wpAny_pure (wpAny_pure (fin false s.heap o (Heap.SameBut.refl a s.heap) ho z))
 | none =>
   dsimp only
   have m:k∉ds:=fun h=>by
     obtain⟨e,he,hp⟩:=met.mp h
     have:=List.findIdx?_eq_none_iff.mp hr e he
     rw[hp]at this;cases this
   have e0:step_dedup ds k=ds++[k]:=if_neg (by simpa using m);rw[e0]at fin
   have gw:∀ (b:Bool) {s₁:Shared}{Q':Unit->Shared->Prop},Q' () s₁->wpAny (model prog w) A (match b with|true=>rule "set.scan.the-table-gave-way" | false=>pure ()) Q' E s₁ :=
     fun b s₁ Q' hq=>by cases b<;>first|exact wpAny_pure hq|exact wpAny_rule hq
   have hp:=layNew_perm t es ((intKind prog w).hash k) (.int k tk);have hf:=layNew_fits t es ((intKind prog w).hash k) (.int k tk);have ht:=qhU tab es ((intKind prog w).hash k) (.int k tk);generalize layNew t es ((intKind prog w).hash k) (.int k tk)=L at hp hf ht ⊢;obtain⟨e1,t1,wd,gv⟩:=L;dsimp only at hp hf ht ⊢;rw[Array.toList_push]at hp;have el1:ElemsOf (intKind prog w) e1.toList:=(el.push key rfl).perm hp;have few1:e1.size < scanBound:=by rw[← Array.length_toList,hp.length_eq,List.length_append,Array.length_toList,sz];exact room
   have iz:∃ ys,ys.Perm (ds++[k])∧IntsAre (e1.toList.map (·.2)) ys:=by
     have h1:IntsAre ((es.toList++[((intKind prog w).hash k,Value.int k tk)]).map (·.2)) (zs++[k]):=by rw[List.map_append];exact qff hz k tk
     obtain⟨ys,p2,hy⟩:=ints_perm (hp.map (·.2)) h1;exact⟨ys,p2.trans (pz.append_right _),hy⟩
   refine wpAny_bind (gw _ ?_);have led1:txt=false->t1.led=true:=fun q=>ht.2.trans (led q);have end_:∀ h' o',Heap.SameBut a s.heap h'->h'.get? a=some o'->Zs prog w o' txt (ds++[k])->Q true { s with heap:=h' }:=fun h' o' s1 s2 s3=>fin true h' o' s1 s2 s3;split
   · refine wpAny_bind ?_;rw[hashByValue_scannable 8 (x:=.int k tk) rfl];refine wpAny_pure ?_;simp only[plainKind,↓reduceIte];refine qdw ?_ ho hex hd el1 iz few1 hf led1 ht.1 ?_
     · intro b s₁ Q' hq;cases b<;>first|exact wpAny_pure hq|exact wpAny_rule hq
     · intro h' o' s1 s2 s3;dsimp only;exact wpAny_pure (end_ h' o' s1 s2 s3)
   · refine wpAny_bind (wpAny_pure ?_);simp only[↓reduceIte];refine qdw ?_ ho hex hd el1 iz few1 hf led1 ht.1 ?_
     · intro b s₁ Q' hq;cases b<;>first|exact wpAny_pure hq|exact wpAny_rule hq
     · intro h' o' s1 s2 s3;dsimp only;exact wpAny_pure (end_ h' o' s1 s2 s3)
end
end SetO
set_option maxHeartbeats 8000000
namespace SetO
open PySem PySem.Spec PyProof.Rows
abbrev byT (w:World):Bool:=w.params.followText "set-order"
abbrev qan (led:Bool):Obj:={ cls:=.type "set",dict:=none,data:=.set #[] 0 (.fresh 0 0 led) }
section
variable {prog:Program}{w:World}{A:Around}{E:Value->Shared->Prop}{s:Shared}
theorem qdt (a:Value) {Q₁:Value->Shared->Prop} (h:Q₁ (.ref s.heap.objs.size) { s with heap:=s.heap.push (qan (!byT w)) }):codeAny (model prog w) A (.call (.builtin "set.__new__") ⟨[.type "set",a],[]⟩) (wants Q₁ E) s:=by
 refine codeAny_of_tree ?_;show wpAny _ A.in1 (do checkBuiltinCall "set.__new__" ⟨[.type "set",a],[]⟩;again (.builtin "set.__new__" ⟨[.type "set",a],[]⟩)) _ _ s;refine wpAny_bind (wpAny_of_eq (PySem.F.newCall_set_1 a) (wpAny_pure ⟨plainId_quiet PySem.F.plain_set_new _,codeAny_builtin PySem.F.entry_set_new ?_⟩));rw[Around.under_plainId PySem.F.plain_set_new _];unfold Builtin.«set.__new__» Builtin.Frozenset.newClass;have hsub:=sub_set_self;obtain⟨hp,g,d,tk,os⟩:=s;dsimp only
 wp_walk
 refine wpAny_askSetting (wpAny_pure ?_);dsimp only;simp only[newObj];refine wpAny_bind (wpAny_alloc (wpAny_pure ?_));exact wpAny_pure h
theorem qij:Zs prog w (qan (!byT w)) (byT w) [] :=
 ⟨#[],0,_,⟨rfl,rfl,rfl⟩,rfl,(fun e he=>by simp at he),⟨[],.refl _,.nil⟩,by decide,by rfl,(fun z=>by show (!byT w)=true;rw[z];rfl),fun _=>⟨fun i k _ h=>absurd h (by show ¬ k < 0;omega),rfl⟩⟩
end
section
variable {prog:Program}{w:World}{A:Around}{R:Result->Shared->Prop}{I:Addr}{fp wr:List Addr}{G:Array GenState->Array GenState->Prop}{n:Nat}{P:Nat->Value->Prop}{Sw:Nat->Shared->Prop}{txt:Bool}
theorem qhd (W:WalksS prog w A.in1 I fp wr G n P Sw) (S:Addr) (nS:S∉fp) (val:Nat->Int) (hval:∀ i v,P i v->∃ t,v=.int (val i) t) (hb:n+1 < scanBound) :
   ∀ (k i:Nat) (s:Shared) (o:Obj),n - i=k->i≤n->Sw i s->s.heap.get? S=some o->Zs prog w o txt (firstMet val i) ->
     (∀ s' o',Moved (S::wr) G s s'->s'.heap.get? S=some o'->Zs prog w o' txt (firstMet val n)->R (.ok (.ret .none)) s') ->
     codeAny (model prog w) A (.builtin "set.update.loop" ⟨[.ref S,.ref I],[]⟩) R s:=by
 have wS:S∉wr:=fun z=>nS (W.sub _ z);have sub:∀ b∈wr,b∈S::wr:=fun b z=>List.mem_cons_of_mem _ z;intro k
 induction k with
 | zero =>
   intro i s o k0 i0 st gS zS fin;have e:i=n:=by omega
   subst e;refine codeAny_builtin PyProof.Rows.F.entry_set_update_loop ?_;rw[Around.under_plainId PyProof.Rows.F.plain_set_update_loop _];show wpAny _ A.in1 (pyNext (.ref I) >>= _) _ _ s;refine wpAny_bind (W.done s _ _ st fun s' mv=>?_);show wpAny _ A.in1 (ret Value.none) _ _ s';exact wpAny_pure (fin s' o (mv.mono sub) (mv.heap S _ wS gS) zS)
 | succ k ih =>
   intro i s o k0 i0 st gS zS fin;have lt:i < n:=by omega
   refine codeAny_builtin PyProof.Rows.F.entry_set_update_loop ?_;rw[Around.under_plainId PyProof.Rows.F.plain_set_update_loop _];show wpAny _ A.in1 (pyNext (.ref I) >>= _) _ _ s;refine wpAny_bind (W.item i s _ _ lt st fun v s' pv st' mv=>?_);obtain⟨t,rfl⟩:=hval i v pv;have gS':=mv.heap S _ wS gS;show wpAny _ A.in1 (holding [Value.int (val i) t] (setAdd S (.int (val i) t)) >>= _) _ _ s';refine wpAny_bind (wpAny_holding ?_);unfold setAdd;refine wpAny_holding (wpAny_bind ((intKind prog w).pyHash (k:=val i) (intKind_is _ _ _ _) ?_));have room:(firstMet val i).length+1 < scanBound:=by have:=firstMet_length_le val i;omega
   refine qjw (s:={ s' with toks:=s'.toks+1 }) gS' zS room fun b h' o' sb g2 z2=>?_;rw[← firstMet_succ]at z2;refine wpAny_pure ⟨plainId_quiet PyProof.Rows.F.plain_set_update_loop _,ih (i+1) _ o' (by omega) lt (W.frame _ s' _ _ st' (Nat.le_succ _) fun b mb o e=>?_) g2 z2 fun s'' o'' mv2 g3 z3=>?_⟩
   · rw[sb.2 b (fun z:b=S=>nS (by rw[← z];exact mb))];exact e
   · refine fin s'' o'' (Moved.trans W.gtrans ((mv.mono sub).then_heap (Nat.le_succ _) fun b o nb e=>?_) mv2) g3 z3;rw[sb.2 b (fun z:b=S=>nb (by rw[z];exact List.mem_cons_self))];exact e
end
section
variable {prog:Program}{w:World}{A:Around}{E:Value->Shared->Prop}{s:Shared}
theorem call_set {l:Addr}{items:Array Value}{ns:List Int}{Q:Value->Shared->Prop} (hh:A.handled=none) (hl:s.heap.IsList l items) (hi:IntsAre items.toList ns) (hb:items.size+1 < scanBound)
   (fin:∀ (h':Heap) (tk:Nat) (o:Obj),h'.get? s.heap.objs.size=some o->Zs prog w o (byT w) (firstMet (fun i=>ns.getD i 0) items.size)->(∀ b o,b < s.heap.objs.size->s.heap.get? b=some o->h'.get? b=some o)->Q (.ref s.heap.objs.size) { s with heap:=h',toks:=tk }) :
   wpAny (model prog w) A (call (.type "set") [.ref l]) Q E s:=by
 obtain⟨c,tl,hmro⟩:=PySem.F.called_set.mro;have hmade:=PySem.F.called_set.made;have hsub:=PySem.F.called_set.sub;refine wpAny_call (codeAny_of_tree ?_);show wpAny _ _ (callAny (.type "set") _) _ _ _;refine wpAny_pure ⟨Code.quiet_builtin _ (by decide +kernel),codeAny_builtin PySem.F.entry_type_call ?_⟩;rw[Around.under_plain (weight_type_call_type "set" [.ref l] []) rfl];have h1:=PySem.F.called_set.notType;have h2:=PySem.F.called_set.canCreate;have hct:=PySem.F.typeCall_set_1 (.ref l)
 repeat (any_goals (first|assumption|wp_step))
 refine codeAny_mono (qdt (.ref l) (E:=E) (Q₁:=fun obj s₁=>obj=.ref s.heap.objs.size∧s₁={ s with heap:=s.heap.push (qan (!byT w)) }) ⟨rfl,rfl⟩) fun r s₁ hr=>?_
 cases r with
 | error e=>exact hr
 | ok fl =>
   cases fl with
   | ret obj =>
     obtain⟨rfl,rfl⟩:=hr;have hS:(s.heap.push (qan (!byT w))).get? s.heap.objs.size=some (qan (!byT w)):=Heap.get?_push_size _ rfl;have hT:Shared.TypeIs { s with heap:=s.heap.push (qan (!byT w)) } (.ref s.heap.objs.size) "set":=⟨_,hS,rfl⟩
     have hli:=PySem.F.called_set.init.lookup;have hbi:=PySem.F.called_set.init.bind (.ref s.heap.objs.size)
     repeat (any_goals (first|assumption|wp_step))
     refine codeAny_mono (codeAny_call_builtin (R:=wants (fun r s₂=>r=.none∧∃ h' tk o,s₂={ s with heap:=h',toks:=tk }∧h'.get? s.heap.objs.size=some o∧Zs prog w o (byT w) (firstMet (fun i=>ns.getD i 0) items.size) ∧
         (∀ b o,b < s.heap.objs.size->s.heap.get? b=some o->h'.get? b=some o)) E) PySem.F.called_set.init.plain PySem.F.entry_set_init (check_set_init_1 hT ?_)) fun r₂ s₂ hr₂=>?_
     · obtain⟨ol,hol,hcl,nl,hdl⟩:=hl;obtain⟨ocls,odict,odata,oslots⟩:=ol;simp only at hcl hdl;subst hcl;subst hdl;have hol':(s.heap.push (qan (!byT w))).get? l=some { cls:=.type "list",dict:=odict,data:=.seq items nl,slots:=oslots }:=Heap.get?_push_of_some _ hol;have hsls:=PySem.F.sub_list_set;have hslf:=PySem.F.sub_list_frozenset;have hne:(Value.type "list" == Value.type "dict")=false:=by decide
       have hl1:(s.heap.push (qan (!byT w))).IsList l items:=⟨_,hol',rfl,nl,rfl⟩
       unfold Builtin.«set.__init__» noKeywords Builtin.Frozenset.updateFrom;generalize hPI:pyIter=PI
       wp_walk
       subst hPI;refine wpAny_pyIter_list hl1 (wpAny_bind (wpAny_runValue ?_));have hlS:l < s.heap.objs.size:=Heap.lt_size hol;have hh3:A.in1.in1.in1.handled=none:=by simp[hh]
       have hneI:l≠(s.heap.push (qan (!byT w))).objs.size:=by rw[Heap.size_push];exact Nat.ne_of_lt (Nat.lt_succ_of_lt hlS)
       have nS:s.heap.objs.size∉[(s.heap.push (qan (!byT w))).objs.size,l]:=by
         rw[Heap.size_push];simp only[List.mem_cons,List.mem_singleton,List.not_mem_nil,or_false,not_or];exact⟨Nat.ne_of_lt (Nat.lt_succ_self _),Nat.ne_of_gt hlS⟩
       have hval:∀ (i:Nat) (v:Value),items[i]?=some v->∃ t,v=.int ((fun i=>ns.getD i 0) i) t:=fun i v hv=>IntsAre.int_at hi i v (by rw[Array.getElem?_toList];exact hv);refine qhd ((Walks.list hh3 _ l hneI items).toS) s.heap.objs.size nS (fun i=>ns.getD i 0) hval hb (items.size - 0) 0 _ _ (by omega) (Nat.zero_le _) ⟨⟨_,Heap.get?_push_size _ rfl,rfl,rfl⟩,(hl1.push _)⟩ (Heap.get?_push_of_some _ hS) qij ?_;intro s' o' mv g' z';obtain⟨h',g'',d',tk',os'⟩:=s';have eg:g''=s.gens:=mv.gens;have ed:d'=s.drawn:=mv.drawn;have eo:os'=s.os:=mv.os;subst eg;subst ed;subst eo;show wpAny _ _ _ _ _ _;refine wpAny_pure ?_;show wpAny _ _ (ret Value.none) _ _ _;refine wpAny_pure ⟨rfl,h',tk',o',rfl,g',z',fun b o hb e=>?_⟩;have hb1:b≠s.heap.objs.size:=Nat.ne_of_lt hb;have hb2:b≠(s.heap.push (qan (!byT w))).objs.size:=by rw[Heap.size_push];exact Nat.ne_of_lt (Nat.lt_succ_of_lt hb)
       exact mv.heap b o (by simp only[List.mem_cons,List.mem_singleton,List.not_mem_nil,or_false,not_or];exact⟨hb1,hb2⟩) (Heap.get?_push_of_some _ (Heap.get?_push_of_some _ e))
     · cases r₂ with
       | error e=>exact hr₂
       | ok fl₂ =>
         cases fl₂ with
         | ret r =>
           obtain⟨rfl,h',tk,o,rfl,g',z',hk'⟩:=hr₂
           repeat (any_goals (first|assumption|wp_step))
           exact fin _ _ _ g' z' hk'
         | _=>exact hr₂.elim
   | _=>exact hr.elim
end
theorem slot_next:Slot "set_iterator" "__next__" "set_iterator.__next__" :=
 .of (owner:="set_iterator") (n:="__next__") (by rw[typeLookup_type,builtinLookup_eq_fast];kernel_rfl) (by decide +kernel) (by decide +kernel) (by decide +kernel) (by first|exact .inl (by decide +kernel)|exact .inr (by decide +kernel)) (by rw[isSubtype_type];kernel_rfl)
theorem Zh:entryFor table "set_iterator.__next__"=some Builtin.«set_iterator.__next__»:=entryFor_of_tree (by kernel_rfl)
theorem jg (a:Value):argsOk "set_iterator.__next__" ⟨[a],[]⟩:=by unfold argsOk;kernel_rfl
theorem qdT:entryFor table "set.__iter__"=some Builtin.«frozenset.__iter__»:=entryFor_alias (id':="frozenset.__iter__") (by kernel_rfl) rfl (by decide +kernel) (by kernel_rfl)
theorem jt {α:Type}:∀ (l:List α) (i:Nat) (h:i < l.length),(l[i]::l.eraseIdx i).Perm l
 | x::xs,0,_=>.refl _
 | x::xs,i+1,h=>by
   have ih:=jt xs i (by simpa using h);have hi:i < xs.length:=by simpa using h
   show (xs[i]::x::xs.eraseIdx i).Perm (x::xs);exact(List.Perm.swap _ _ _).trans (ih.cons x)
section
variable {M:Model}{A:Around}{E:Value->Shared->Prop}{s:Shared}
theorem qfA {src:Source}{n:Nat}{Q:Nat->Shared->Prop} (hn:n≠0) (h:∀ i d',i < n->Q i { s with drawn:=d' }):wpAny M A (choose src n) Q E s:=fun Γ p hΓ=>⟨hn,h _ _ (Nat.mod_lt _ (Nat.pos_of_ne_zero hn))⟩
theorem qh5 {α:Type} (n:Nat):∀ (xs:List α) (s:Shared) (Q:List α->Shared->Prop),n=xs.length->(∀ ys d',ys.Perm xs->Q ys { s with drawn:=d' })->wpAny M A (drawOrder n xs) Q E s:=by
 induction n with
 | zero =>
   intro xs s Q e h
   cases xs with
   | nil =>
     unfold drawOrder;exact wpAny_pure (h [] s.drawn (.refl _))
   | cons x xs=>simp at e
 | succ n ih =>
   intro xs s Q e h
   cases xs with
   | nil=>simp at e
   | cons x xs =>
     unfold drawOrder;refine wpAny_bind (qfA (by simp) fun i d' hi=>?_);have hg:(x::xs)[i]?=some (x::xs)[i]:=List.getElem?_eq_getElem hi;rw[hg];dsimp only;refine wpAny_bind (ih ((x::xs).eraseIdx i) _ _ (by rw[List.length_eraseIdx_of_lt hi,List.length_cons];rw[List.length_cons]at e;omega) fun ys d2 py=>wpAny_pure (h _ d2 ?_));exact(py.cons _).trans (jt _ _ hi)
end
theorem qbH {α:Type} (next:Nat->Nat):∀ (n k:Nat) (left:List α) (out:Array α),n=left.length->(pickOrder.go next n k left out).toList.Perm (out.toList++left)
 | 0,k,[],out,_=>by unfold pickOrder.go;simp
 | n+1,k,x::xs,out,e=>by
   unfold pickOrder.go;have hl:next k % (x::xs).length < (x::xs).length:=Nat.mod_lt _ (by simp);rw[List.getElem?_eq_getElem hl];dsimp only;have ih:=qbH next n (k+1) ((x::xs).eraseIdx (next k % (x::xs).length)) (out.push (x::xs)[next k % (x::xs).length]) (by rw[List.length_eraseIdx_of_lt hl];omega);refine ih.trans ?_;rw[Array.toList_push,List.append_assoc];refine List.Perm.append_left _ ?_;exact jt _ _ hl
def It (h:Heap) (I:Addr) (first:Value) (i:Nat) (S:Addr) (n ep:Nat):Prop:=∃ o,h.get? I=some o∧o.cls=.type "set_iterator"∧o.data=.fields #[first,.int i 0,.ref S,.int n 0,.int ep 0]
theorem It.typ {s:Shared}{I:Addr}{first:Value}{i:Nat}{S:Addr}{n ep:Nat} (h:It s.heap I first i S n ep):s.TypeIs (.ref I) "set_iterator":=let ⟨o,ho,hc,_⟩:=h;⟨o,ho,hc⟩
structure At (h:Heap) (S:Addr) (o:Obj) (es:Array (Int×Value)) (ep:Nat) (t:SetTable):Prop where
 get:h.get? S=some o
 dat:o.data=.set es ep t
 fit:t.fits es.size=true
 cls:o.cls=.type "set"
def Ja (t:SetTable) (i:Nat):Nat:=if i=0 then 0 else t.place.getD (i - 1) 0+1
section
variable {prog:Program}{w:World}{A:Around}{E:Value->Shared->Prop}{s:Shared}{I S:Addr}{i n ep:Nat}{first:Value}{o:Obj}{es:Array (Int×Value)}{t:SetTable}
theorem qcJ {Q:Bool->Shared->Prop} (h:Q (byT w) s):wpAny (model prog w) A setsByText Q E s:=by
 unfold setsByText;exact wpAny_bind (wpAny_askSetting (wpAny_pure h))
theorem qho (it:It s.heap I first i S n ep) (f':Value):It ((s.heap.update I (Obj.mapFields (·.setIfInBounds 0 f'))).update I (Obj.mapFields (·.setIfInBounds 1 (rawInt ((i:Int)+1))))) I f' (i+1) S n ep:=by
 obtain⟨oi,hi,hc,hd⟩:=it;have g1:=Heap.get?_update_self (Obj.mapFields (·.setIfInBounds 0 f')) hi (Obj.isFreed_of_fields (Obj.data_mapFields hd _));have d1:=Obj.data_mapFields hd (·.setIfInBounds 0 f');refine⟨_,Heap.get?_update_self _ g1 (Obj.isFreed_of_fields (Obj.data_mapFields d1 _)),?_,?_⟩
 · rw[Obj.cls_mapFields,Obj.cls_mapFields];exact hc
 · rw[Obj.data_mapFields d1];simp[rawInt]
theorem qe0 {sl nx:Nat}{x:Value}{Q:Option Value->Shared->Prop} (it:It s.heap I (.int sl 0) i S es.size ep) (a:At s.heap S o es ep t) (hs:∀ R:Option (Value×Nat)->Shared->Prop,R (some (x,nx)) s->wpAny (model prog w) A.in1 (setNext S sl i ep) R (fun _ _=>False) s)
   (hQ:∀ h',It h' I (.int nx 0) (i+1) S es.size ep->Heap.SameBut I s.heap h'->Q (some x) { s with heap:=h' }):wpAny (model prog w) A (pyNext (.ref I)) Q E s:=by
 obtain⟨oi,hi,hc,hd⟩:=id it;unfold pyNext;refine wpAny_bind (wpAny_attempt (wpAny_callSpecial?_slot (name:=Str.ofString "__next__") it.typ slot_next (wpAny_call_entry slot_next it.typ Zh ?_ (jg _))));unfold Builtin.«set_iterator.__next__»;refine wpAny_bind (wpAny_pure ?_);dsimp only;refine wpAny_bind (wpAny_fieldsOf hi hd ?_);show wpAny _ _ (setEntries S >>= _) _ _ s;refine wpAny_bind (wpAny_setEntries_of a.get a.dat a.fit ?_);rw[if_neg (by simp)];show wpAny _ _ (setNext S sl i ep >>= _) _ _ s;refine wpAny_bind (wpAny_mono (hs _ ?_) (fun _ _ z=>z) fun _ _ z=>z.elim);dsimp only;refine wpAny_bind (wpAny_setField hi hd (by simp) ?_);have g1:=Heap.get?_update_self (Obj.mapFields (·.setIfInBounds 0 (rawInt nx))) hi (Obj.isFreed_of_fields (Obj.data_mapFields hd _));have d1:=Obj.data_mapFields hd (·.setIfInBounds 0 (rawInt nx));refine wpAny_bind (wpAny_setField g1 d1 (by simp) ?_);exact wpAny_pure ⟨_,rfl,wpAny_pure (hQ _ (qho it (rawInt nx)) ((Heap.SameBut.update ..).trans (Heap.SameBut.update ..)))⟩
theorem qe1 {sl:Nat}{Q:Option Value->Shared->Prop} (hh:A.handled=none) (it:It s.heap I (.int sl 0) i S es.size ep) (a:At s.heap S o es ep t) (hs:∀ R:Option (Value×Nat)->Shared->Prop,R none s->wpAny (model prog w) A.in1 (setNext S sl i ep) R (fun _ _=>False) s)
   (hQ:∀ h',Heap.ExtBut I s.heap h'->Q none { s with heap:=h' }):wpAny (model prog w) A (pyNext (.ref I)) Q E s:=by
 obtain⟨oi,hi,hc,hd⟩:=id it;unfold pyNext;refine wpAny_bind (wpAny_attempt (wpAny_callSpecial?_slot (name:=Str.ofString "__next__") it.typ slot_next (wpAny_call_entry slot_next it.typ Zh ?_ (jg _))));unfold Builtin.«set_iterator.__next__»;refine wpAny_bind (wpAny_pure ?_);dsimp only;refine wpAny_bind (wpAny_fieldsOf hi hd ?_);show wpAny _ _ (setEntries S >>= _) _ _ s;refine wpAny_bind (wpAny_setEntries_of a.get a.dat a.fit ?_);rw[if_neg (by simp)];show wpAny _ _ (setNext S sl i ep >>= _) _ _ s;refine wpAny_bind (wpAny_mono (hs _ ?_) (fun _ _ z=>z) fun _ _ z=>z.elim);dsimp only;refine wpAny_bind (wpAny_setField hi hd (by simp) ?_);show wpAny _ _ (newExc (.type "StopIteration") [] >>= _) _ _ _;refine wpAny_bind ?_;simp only[newExc,newTuple];refine wpAny_bind (wpAny_newObj_type ?_ (by size_fits));refine wpAny_bind (m:=firstArgMember _ _) (wpAny_of_eq (a:=Value.none) (by first|rfl|(simp only[firstArgMember];rfl)) ?_);refine wpAny_newObj_type ?_ (by size_fits);simp only[raiseNew];refine wpAny_bind (wpAny_handled ?_);rw[show A.in1.handled=none from hh];refine wpAny_bind (wpAny_pure (wpAny_throw ?_));refine wpAny_bind (wpAny_isInstance (T:="StopIteration") (b:=true) ⟨_,Heap.get?_push_size _ rfl,rfl⟩ isSubtype_stop ?_);exact wpAny_pure (hQ _ (((Heap.SameBut.update ..).extBut.push _).push _))
theorem qdU {T:Addr}{oT:Obj}{ps:Array Value}{nT pl:Nat}{h0:Int}{x:Value}{Q:Option Value->Shared->Prop} (it:It s.heap I (.ref T) i S es.size ep) (a:At s.heap S o es ep t) (hT:s.heap.get? T=some oT) (dT:oT.data=.seq ps nT) (hp:ps[i]?=some (.int pl 0)) (hx:es[pl]?=some (h0,x))
   (hQ:∀ h',It h' I (.ref T) (i+1) S es.size ep->Heap.SameBut I s.heap h'->Q (some x) { s with heap:=h' }):wpAny (model prog w) A (pyNext (.ref I)) Q E s:=by
 obtain⟨oi,hi,hc,hd⟩:=id it;unfold pyNext;refine wpAny_bind (wpAny_attempt (wpAny_callSpecial?_slot (name:=Str.ofString "__next__") it.typ slot_next (wpAny_call_entry slot_next it.typ Zh ?_ (jg _))));unfold Builtin.«set_iterator.__next__»;refine wpAny_bind (wpAny_pure ?_);dsimp only;refine wpAny_bind (wpAny_fieldsOf hi hd ?_);show wpAny _ _ (setEntries S >>= _) _ _ s;refine wpAny_bind (wpAny_setEntries_of a.get a.dat a.fit ?_);rw[if_neg (by simp)];show wpAny _ _ (seqItems? (.ref T) >>= _) _ _ s;refine wpAny_bind (wpAny_seqItems hT dT ?_);show wpAny _ _ (match ps[i]? with|some (.int place _)=>_|some _=>_|none=>_) _ _ s;rw[hp];show wpAny _ _ (setNextDrawn S pl ep >>= _) _ _ s;refine wpAny_bind ?_;unfold setNextDrawn;refine wpAny_bind (wpAny_setState_of a.get a.dat a.fit ?_);dsimp only;rw[if_neg (by simp),hx];refine wpAny_pure ?_;refine wpAny_bind (wpAny_setField hi hd (by simp) ?_);refine wpAny_pure ⟨_,rfl,wpAny_pure (hQ _ ⟨_,Heap.get?_update_self _ hi (Obj.isFreed_of_fields (Obj.data_mapFields hd _)),(Obj.cls_mapFields ..).trans hc,by rw[Obj.data_mapFields hd];simp[rawInt]⟩ (Heap.SameBut.update ..))⟩
theorem qdV {T:Addr}{oT:Obj}{ps:Array Value}{nT:Nat}{Q:Option Value->Shared->Prop} (hh:A.handled=none) (it:It s.heap I (.ref T) i S es.size ep) (a:At s.heap S o es ep t) (hT:s.heap.get? T=some oT) (dT:oT.data=.seq ps nT) (hp:ps[i]?=none)
   (hQ:∀ h',Heap.ExtBut I s.heap h'->Q none { s with heap:=h' }):wpAny (model prog w) A (pyNext (.ref I)) Q E s:=by
 obtain⟨oi,hi,hc,hd⟩:=id it;unfold pyNext;refine wpAny_bind (wpAny_attempt (wpAny_callSpecial?_slot (name:=Str.ofString "__next__") it.typ slot_next (wpAny_call_entry slot_next it.typ Zh ?_ (jg _))));unfold Builtin.«set_iterator.__next__»;refine wpAny_bind (wpAny_pure ?_);dsimp only;refine wpAny_bind (wpAny_fieldsOf hi hd ?_);show wpAny _ _ (setEntries S >>= _) _ _ s;refine wpAny_bind (wpAny_setEntries_of a.get a.dat a.fit ?_);rw[if_neg (by simp)];show wpAny _ _ (seqItems? (.ref T) >>= _) _ _ s;refine wpAny_bind (wpAny_seqItems hT dT ?_);show wpAny _ _ (match ps[i]? with|some (.int place _)=>_|some _=>_|none=>_) _ _ s;rw[hp];refine wpAny_bind (wpAny_setField hi hd (by simp) ?_);have g1:=Heap.get?_update_self (Obj.mapFields (·.setIfInBounds 0 (rawInt 0))) hi (Obj.isFreed_of_fields (Obj.data_mapFields hd _));have d1:=Obj.data_mapFields hd (·.setIfInBounds 0 (rawInt 0));refine wpAny_bind (wpAny_setField g1 d1 (by simp) ?_);show wpAny _ _ (newExc (.type "StopIteration") [] >>= _) _ _ _;refine wpAny_bind ?_;simp only[newExc,newTuple];refine wpAny_bind (wpAny_newObj_type ?_ (by size_fits));refine wpAny_bind (m:=firstArgMember _ _) (wpAny_of_eq (a:=Value.none) (by first|rfl|(simp only[firstArgMember];rfl)) ?_);refine wpAny_newObj_type ?_ (by size_fits);simp only[raiseNew];refine wpAny_bind (wpAny_handled ?_);rw[show A.in1.handled=none from hh];refine wpAny_bind (wpAny_pure (wpAny_throw ?_));refine wpAny_bind (wpAny_isInstance (T:="StopIteration") (b:=true) ⟨_,Heap.get?_push_size _ rfl,rfl⟩ isSubtype_stop ?_);exact wpAny_pure (hQ _ ((((Heap.SameBut.update ..).trans (Heap.SameBut.update ..)).extBut.push _).push _))
theorem qaa {α:Type}{M:Model}{c:Bool}{u v:Sem α}{Q:α->Shared->Prop} (h:c=true) (k:wpAny M A u Q E s):wpAny M A (if c=true then u else v) Q E s:=by rw[if_pos h];exact k
theorem qdr (h:t.fits es.size=true):t.place.size=es.size:=by
 simp only[SetTable.fits,Bool.and_eq_true,beq_iff_eq,decide_eq_true_eq]at h;exact h.1
theorem qj1 {R:Option (Value×Nat)->Shared->Prop} (a:At s.heap S o es ep t) (hb:byT w=false) (nd:(!t.plain && decide (es.size > 1))=false) (led:t.led=true) (up:Up t.place) (hi:i≤es.size)
   (h:R (es[i]?.map fun e=>(e.2,Ja t (i+1))) s):wpAny (model prog w) A (setNext S (Ja t i) i ep) R E s:=by
 have sz:=qdr a.fit;have eb:SetTable.below t.place (Ja t i)=i:=qd2 up (by rw[sz];exact hi);unfold setNext;refine wpAny_bind (wpAny_setState_of a.get a.dat a.fit ?_);dsimp only;refine wpAny_bind (qcJ ?_);rw[hb];simp only[Bool.false_eq_true,↓reduceIte];split
 · rename_i z
   have z':(!t.plain && decide (es.size > 1))=true:=z;rw[nd]at z';cases z'
 · show wpAny _ _ ((if (!t.led && !es.isEmpty)=true then unsupported "set:maker-not-led" else pure ()) >>= _) _ _ s;rw[led];simp only[Bool.not_true,Bool.false_and,Bool.false_eq_true,↓reduceIte];refine wpAny_bind (wpAny_pure ?_);rw[eb];by_cases g:i < es.size
   · have e1:es[i]?=some es[i]:=Array.getElem?_eq_getElem g;have e2:t.place[i]?=some (t.place.getD i 0):=by rw[Array.getElem?_eq_getElem (by rw[sz];exact g)];simp[Array.getD,show i < t.place.size by rw[sz];exact g]
     rw[e1,e2];rw[e1]at h;refine wpAny_pure ?_;have e3:Ja t (i+1)=t.place.getD i 0+1:=if_neg (by omega);rw[e3]at h;exact h
   · have e1:es[i]?=none:=Array.getElem?_eq_none (by omega);rw[e1];rw[e1]at h;exact wpAny_pure h
theorem qj0 {sl:Nat}{R:Option (Value×Nat)->Shared->Prop} (a:At s.heap S o es ep t) (hb:byT w=true) (h:R ((pickOrder (w.params.setOrder S ep) es)[i]?.map fun e=>(e.2,sl)) s):wpAny (model prog w) A (setNext S sl i ep) R E s:=by
 unfold setNext;refine wpAny_bind (wpAny_setState_of a.get a.dat a.fit ?_);dsimp only;refine wpAny_bind (qcJ ?_);rw[hb];simp only[↓reduceIte];rw[if_neg (by simp)];refine wpAny_bind ?_;unfold setWalk;refine wpAny_bind (wpAny_setState_of a.get a.dat a.fit ?_);dsimp only;refine wpAny_bind (qcJ ?_);rw[hb];simp only[↓reduceIte];refine wpAny_bind (wpAny_askSetting (wpAny_pure ?_));exact wpAny_pure h
structure Mode (w:World) (h:Heap) (S:Addr) (es:Array (Int×Value)) (ep:Nat) (t:SetTable) (own:List Addr) (first:Nat->Value) (vals:List Value):Prop where
 len:vals.length=es.size
 perm:vals.Perm (es.toList.map (·.2))
 way:(own=[]∧(∀ i,∃ sl:Nat,first i=.int sl 0∧(i≤es.size->∀ (prog:Program) (A:Around) (E:Value->Shared->Prop) (s:Shared) (o:Obj) (R:Option (Value×Nat)->Shared->Prop),At s.heap S o es ep t->(∃ nx:Nat,first (i+1)=.int nx 0∧R (vals[i]?.map fun v=>(v,nx)) s)->wpAny (model prog w) A (setNext S sl i ep) R E s))) ∨
   ∃ (T:Addr) (oT:Obj) (ps:Array Value) (nT:Nat),own=[T]∧first=(fun _=>.ref T)∧h.get? T=some oT∧oT.data=.seq ps nT∧ps.size=es.size∧∀ (i:Nat) (v:Value),vals[i]?=some v->∃ (pl:Nat) (h0:Int),ps[i]?=some (Value.int pl 0)∧es[pl]?=some (h0,v)
theorem qam:Slot "set_iterator" "__iter__" "set_iterator.__iter__" :=
 .of (owner:="set_iterator") (n:="__iter__") (by rw[typeLookup_type,builtinLookup_eq_fast];kernel_rfl) (by decide +kernel) (by decide +kernel) (by decide +kernel) (by first|exact .inl (by decide +kernel)|exact .inr (by decide +kernel)) (by rw[isSubtype_type];kernel_rfl)
theorem qcB:entryFor table "set_iterator.__iter__"=some Builtin.«dict_keyiterator.__iter__»:=entryFor_alias (id':="dict_keyiterator.__iter__") (by kernel_rfl) rfl (by decide +kernel) (by kernel_rfl)
theorem qd3 (a:Value):argsOk "set_iterator.__iter__" ⟨[a],[]⟩:=by unfold argsOk;kernel_rfl
theorem qhv {Q:Value->Shared->Prop} (it:It s.heap I first i S n ep) (h:Q (.ref I) s):wpAny (model prog w) A (pyIter (.ref I)) Q E s:=by
 refine wpAny_pyIter_slot it.typ qam (wpAny_call_entry qam it.typ qcB ?_ (qd3 _));show wpAny _ _ (ret (.ref I)) _ _ s;exact wpAny_pure ⟨_,rfl,"set_iterator",_,it.typ,slot_next.lookup,h⟩
theorem qhW {Q:Value->Shared->Prop} (hsb:es.size < scanBound) (a:At s.heap S o es ep t) (led:byT w=false->t.led=true) (tab:Tab t)
   (h:∀ (h':Heap) (I:Addr) (d':Drawn) (own:List Addr) (first:Nat->Value) (vals:List Value),Mode w h' S es ep t own first vals->It h' I (first 0) 0 S es.size ep->s.heap.get? I=none->(∀ T∈own,s.heap.get? T=none∧T≠I)->(∀ b x,s.heap.get? b=some x->h'.get? b=some x)->(∀ T∈I::own,T < h'.objs.size)->Q (.ref I) { s with heap:=h',drawn:=d' }) :
   wpAny (model prog w) A (pyIter (.ref S)) Q E s:=by
 have ty:s.TypeIs (.ref S) "set":=⟨o,a.get,a.cls⟩
 have sz:=qdr a.fit;refine wpAny_pyIter_slot ty PySem.F.slot_set_iter (wpAny_call_entry PySem.F.slot_set_iter ty qdT ?_ (PySem.F.args_set_iter_1 _));unfold Builtin.«frozenset.__iter__»;refine wpAny_bind (wpAny_pure ?_);refine wpAny_bind ?_;unfold Builtin.Frozenset.sizeOf;refine wpAny_bind (wpAny_setEntries_of a.get a.dat a.fit (wpAny_pure ?_));refine wpAny_bind ?_;unfold setDrawn;refine wpAny_bind (wpAny_setState_of a.get a.dat a.fit ?_);dsimp only;refine wpAny_bind (qcJ (wpAny_pure ?_))
 have out:∀ (first:Nat->Value) (vals:List Value) (f0:Value),f0=first 0->(∀ h',Mode w h' S es ep t [] first vals)->wpAny (model prog w) A.in1 (do ret (← newFields "set_iterator" [f0,rawInt 0,.ref S,rawInt es.size,rawInt (← setEpoch S)])) (fun fin s'=>∃ v,fin=.done (.ret v)∧∃ T' r,s'.TypeIs v T'∧typeLookup (.type T') "__next__"=pure (some r)∧Q v s') (fun e s'=>E e s') s:=by
   intro first vals f0 e0 m
   refine wpAny_bind (wpAny_setEpoch_of a.get a.dat a.fit ?_);refine wpAny_bind (wpAny_newObj_type ?_);refine wpAny_pure ⟨_,rfl,"set_iterator",_,⟨_,Heap.get?_push_size _ rfl,rfl⟩,slot_next.lookup,?_⟩;refine h _ _ s.drawn [] first vals (m _) ⟨_,Heap.get?_push_size _ rfl,rfl,?_⟩ (Heap.get?_none_of_le (Nat.le_refl _)) (fun _ z=>nomatch z) (fun b x e=>Heap.get?_push_of_some _ e) (fun T z=>?_)
   · rw[← e0];rfl
   · have:T=s.heap.objs.size:=by simpa using z
     rw[this,Heap.size_push];exact Nat.lt_succ_self _
 have int_inj:∀ {x y:Nat},(Value.int x 0:Value)=.int y 0->x=y:=fun e=>by injection e with e;omega
 cases hb:byT w with
 | true =>
   simp only[Bool.not_true,Bool.false_and,Bool.false_eq_true,↓reduceIte];refine wpAny_bind (wpAny_pure ?_)
   have pp:(pickOrder (w.params.setOrder S ep) es).toList.Perm es.toList:=by
     have:=qbH (w.params.setOrder S ep) es.size 0 es.toList #[] (by simp)
     simpa[pickOrder] using this
   refine out (fun _=>.int 0 0) ((pickOrder (w.params.setOrder S ep) es).toList.map (·.2)) (rawInt 0) rfl fun h'=>⟨by rw[List.length_map,pp.length_eq,Array.length_toList],pp.map _,.inl ⟨rfl,fun i=>⟨0,rfl,fun hi prog A E s o R a' ⟨nx,e,r⟩=>qj0 a' hb ?_⟩⟩⟩
   have en:nx=0:=(int_inj e).symm;rw[en]at r;rw[List.getElem?_map,Array.getElem?_toList]at r
   cases q:(pickOrder (w.params.setOrder S ep) es)[i]? with
   | none=>rw[q]at r;exact r
   | some x=>rw[q]at r;exact r
 | false =>
   split
   · rename_i z
     have z':(!t.plain && decide (es.size > 1))=true:=z;refine wpAny_bind (qh5 es.size (List.range es.size) s _ (by rw[List.length_range]) fun ys d' py=>?_)
     have few:(ys.map fun (i:Nat)=>rawInt i).toArray.size≤sizeLine:=by
       rw[List.size_toArray,List.length_map,py.length_eq,List.length_range];exact fits_of_scanBound hsb
     refine wpAny_bind (wpAny_newObj_type ?_ few);have a2:At ({ s with drawn:=d',heap:=s.heap.push { cls:=.type "tuple",data:=.seq (ys.map fun (i:Nat)=>rawInt i).toArray } }:Shared).heap S o es ep t:=⟨Heap.get?_push_of_some _ a.get,a.dat,a.fit,a.cls⟩
     refine wpAny_bind (wpAny_setEpoch_of (s:={ s with drawn:=d',heap:=s.heap.push { cls:=.type "tuple",data:=.seq (ys.map fun (i:Nat)=>rawInt i).toArray } }) a2.get a2.dat a2.fit ?_);refine wpAny_bind (wpAny_newObj_type ?_);have sp:(s.heap.push { cls:=.type "tuple",data:=.seq (ys.map fun (i:Nat)=>rawInt i).toArray }).objs.size=s.heap.objs.size+1:=Heap.size_push ..;refine wpAny_pure ⟨_,rfl,"set_iterator",_,⟨_,Heap.get?_push_size _ rfl,rfl⟩,slot_next.lookup,?_⟩;have lt:∀ i∈ys,i < es.size:=fun i m=>List.mem_range.mp (py.mem_iff.mp m);refine h _ _ d' [s.heap.objs.size] (fun _=>.ref s.heap.objs.size) (ys.map fun i=>(es.getD i (0,.none)).2) ⟨?_,?_,.inr ⟨_,_,_,_,rfl,rfl,Heap.get?_push_of_some _ (Heap.get?_push_size _ rfl),rfl,?_,fun i v hv=>?_⟩⟩ ⟨_,Heap.get?_push_size _ rfl,rfl,rfl⟩ (Heap.get?_none_of_le (by rw[sp];exact Nat.le_succ _)) (fun T m=>?_) (fun b x e=>Heap.get?_push_of_some _ (Heap.get?_push_of_some _ e)) (fun T m=>?_)
     · rw[List.length_map,py.length_eq,List.length_range]
     · refine(py.map _).trans ?_;rw[show (List.range es.size).map (fun i=>(es.getD i (0,.none)).2)=es.toList.map (·.2) from ?_];refine List.ext_getElem (by simp) fun i h1 h2=>?_;have h3:i < es.size:=by simpa using h1
       simp[Array.getD,h3]
     · simp[py.length_eq]
     · rw[List.getElem?_map]at hv
       cases q:ys[i]? with
       | none=>rw[q]at hv;cases hv
       | some j =>
         rw[q]at hv;have hj:=lt j (List.mem_of_getElem? q);refine⟨j,es[j].1,?_,?_⟩
         · simp[q,rawInt]
         · have ev:(es.getD j (0,.none)).2=v:=by simpa using hv
           rw[Array.getElem?_eq_getElem hj,← ev];simp[Array.getD,hj]
     · have:T=s.heap.objs.size:=by simpa using m
       subst this;exact⟨Heap.get?_none_of_le (Nat.le_refl _),by rw[sp];exact Nat.ne_of_lt (Nat.lt_succ_self _)⟩
     · rw[Heap.size_push,sp];rcases List.mem_cons.mp m with e|m
       · rw[e,sp];exact Nat.lt_succ_self _
       · have:T=s.heap.objs.size:=by simpa using m
         rw[this];exact Nat.lt_succ_of_lt (Nat.lt_succ_self _)
   · rename_i z
     have z':(!t.plain && decide (es.size > 1))=false:=by
       cases q:(!t.plain && decide (es.size > 1)) with
       | false=>rfl
       | true=>exact absurd (show (!false && (!t.plain && decide (es.size > 1)))=true by rw[q];rfl) z
     refine wpAny_bind (wpAny_pure ?_)
     have up:Up t.place:=by
       cases pl:t.plain with
       | true=>exact(tab pl).1
       | false =>
         intro i k hik hk;rw[pl]at z'
         have:¬ es.size > 1:=by simpa using z'
         rw[sz]at hk;omega
     refine out (fun i=>.int (Ja t i) 0) (es.toList.map (·.2)) (rawInt 0) rfl fun h'=>⟨by simp,.refl _,.inl ⟨rfl,fun i=>⟨Ja t i,rfl,fun hi prog A E s o R a' ⟨nx,e,r⟩=>qj1 a' hb z' (led hb) up hi ?_⟩⟩⟩
     have en:nx=Ja t (i+1):=(int_inj e).symm;rw[en]at r;rw[List.getElem?_map,Array.getElem?_toList]at r
     cases q:es[i]? with
     | none=>rw[q]at r;exact r
     | some x=>rw[q]at r;exact r
def Stm (w:World) (I S:Addr) (o:Obj) (es:Array (Int×Value)) (ep:Nat) (t:SetTable) (own:List Addr) (first:Nat->Value) (vals:List Value) (i:Nat) (s:Shared):Prop:=It s.heap I (first i) i S es.size ep∧At s.heap S o es ep t∧Mode w s.heap S es ep t own first vals
theorem Mode.keep {h h':Heap}{own:List Addr}{first:Nat->Value}{vals:List Value} (m:Mode w h S es ep t own first vals) (k:∀ T∈own,∀ x,h.get? T=some x->h'.get? T=some x):Mode w h' S es ep t own first vals:=by
 refine⟨m.len,m.perm,?_⟩;rcases m.way with l|⟨T,oT,ps,nT,e1,e2,e3,e4,e5,e6⟩
 · exact .inl l
 · exact .inr ⟨T,oT,ps,nT,e1,e2,k T (by rw[e1];exact List.mem_singleton.mpr rfl) _ e3,e4,e5,e6⟩
theorem qfP (hh:A.handled=none) (I S:Addr) (o:Obj) (es:Array (Int×Value)) (ep:Nat) (t:SetTable) (own:List Addr) (first:Nat->Value) (vals:List Value) (nS:S≠I) (nO:∀ T∈own,T≠I) :
   WalksS prog w A I (I::S::own) [I] (fun a b=>b=a) es.size (fun i v=>vals[i]?=some v) (Stm w I S o es ep t own first vals) where
 sub:=fun b z=>by rw[List.mem_singleton.mp z];exact List.mem_cons_self
 grefl:=fun _=>rfl
 gtrans:=fun a b c h1 h2=>h2.trans h1
 frame:=fun i s h' tk st _ k=>by
   obtain⟨⟨oi,g1,g2,g3⟩,a,m⟩:=st;exact⟨⟨oi,k I List.mem_cons_self _ g1,g2,g3⟩,⟨k S (by simp) _ a.get,a.dat,a.fit,a.cls⟩,m.keep fun T z x e=>k T (by simp[z]) x e⟩
 item:=fun i s Q E hi st fin=>by
   obtain⟨it,a,m⟩:=st;obtain⟨v,hv⟩:∃ v,vals[i]?=some v:=⟨_,List.getElem?_eq_getElem (by rw[m.len];exact hi)⟩
   have step:∀ h',It h' I (first (i+1)) (i+1) S es.size ep->Heap.SameBut I s.heap h'->Q (some v) { s with heap:=h' }:=fun h' it' sb =>
     fin _ _ hv ⟨it',⟨(sb.2 S nS).trans a.get,a.dat,a.fit,a.cls⟩,m.keep fun T z x e=>(sb.2 T (nO T z)).trans e⟩ ⟨fun b x nb e=>(sb.2 b (by simpa using nb)).trans e,rfl,rfl,rfl,Nat.le_refl _⟩
   rcases m.way with ⟨_,l⟩|⟨T,oT,ps,nT,e1,e2,e3,e4,e5,e6⟩
   · obtain⟨sl,f1,k⟩:=l i;obtain⟨nx,f2,_⟩:=l (i+1);rw[f1]at it;refine qe0 (x:=v) (nx:=nx) it a (fun R r=>k (Nat.le_of_lt hi) _ _ _ _ _ _ a ⟨nx,f2,by rw[hv];exact r⟩) fun h' it' sb=>step h' (by rw[f2];exact it') sb
   · obtain⟨pl,h0,p1,p2⟩:=e6 i _ hv;rw[e2]at it;exact qdU it a e3 e4 p1 p2 fun h' it' sb=>step h' (by rw[e2];exact it') sb
 done:=fun s Q E st fin=>by
   obtain⟨it,a,m⟩:=st;have hv:vals[es.size]?=none:=List.getElem?_eq_none (by rw[m.len];exact Nat.le_refl _);have step:∀ h',Heap.ExtBut I s.heap h'->Q none { s with heap:=h' }:=fun h' sb=>fin _ ⟨fun b x nb e=>sb b x (by simpa using nb) e,rfl,rfl,rfl,Nat.le_refl _⟩;rcases m.way with ⟨_,l⟩|⟨T,oT,ps,nT,e1,e2,e3,e4,e5,e6⟩
   · obtain⟨sl,f1,k⟩:=l es.size;obtain⟨nx,f2,_⟩:=l (es.size+1);rw[f1]at it;exact qe1 hh it a (fun R r=>k (Nat.le_refl _) _ _ _ _ _ _ a ⟨nx,f2,by rw[hv];exact r⟩) step
   · rw[e2]at it;exact qdV hh it a e3 e4 (by rw[Array.getElem?_eq_none];rw[e5];exact Nat.le_refl _) step
 self:=fun i s Q E st fin=>qhv st.1 fin
theorem collect_ok {Q:List Value->Shared->Prop} (hh:A.handled=none) (hsb:es.size < scanBound) (a:At s.heap S o es ep t) (led:byT w=false->t.led=true) (tab:Tab t)
   (fin:∀ (h':Heap) (tk:Nat) (d':Drawn) (vals:List Value),vals.Perm (es.toList.map (·.2))->(∀ b x,s.heap.get? b=some x->h'.get? b=some x)->Q vals { s with heap:=h',toks:=tk,drawn:=d' }) :
   wpAny (model prog w) A (collect (.ref S)) Q E s:=by
 unfold collect;refine wpAny_bind (wpAny_runValue (codeAny_builtin PySem.F.entry_proto_collect ?_));rw[Around.under_plainId PySem.F.plain_proto_collect _];show wpAny _ A.in1 (newList [] >>= fun l=>again (.builtin "list.__iadd__" ⟨[l,.ref S],[]⟩)) _ _ s;refine wpAny_bind (wpAny_newObj_type ?_);refine wpAny_pure ⟨plainId_quiet PySem.F.plain_list_iadd _,codeAny_builtin PySem.F.entry_list_iadd ?_⟩;rw[Around.under_plainId PySem.F.plain_list_iadd _];show wpAny _ A.in1 (Builtin.List.listExtendWith (.ref s.heap.objs.size) (.ref S) (.ref s.heap.objs.size)) _ _ _;unfold Builtin.List.listExtendWith;have ty1:Shared.TypeIs { s with heap:=s.heap.push { cls:=.type "list",data:=.seq ([]:List Value).toArray } } (.ref S) "set":=⟨o,Heap.get?_push_of_some _ a.get,a.cls⟩
 refine wpAny_bind (wpAny_typeOf ty1 ?_);have hlt:S < s.heap.objs.size:=Heap.lt_size a.get;have q1:Builtin.List.listSameRef (.ref s.heap.objs.size) (.ref S)=false:=by simp[Builtin.List.listSameRef,Nat.ne_of_gt hlt]
 have q2:(Value.type "set" == Value.type "list")=false:=by decide
 have q3:(Value.type "set" == Value.type "tuple")=false:=by decide
 simp only[q1,q2,q3,Bool.or_false,Bool.false_eq_true,if_false];have hL:(s.heap.push { cls:=.type "list",data:=.seq ([]:List Value).toArray }).get? s.heap.objs.size=some { cls:=.type "list",data:=.seq ([]:List Value).toArray }:=Heap.get?_push_size _ rfl;refine wpAny_bind (qhW (s:={ s with heap:=s.heap.push { cls:=.type "list",data:=.seq ([]:List Value).toArray } }) hsb ⟨Heap.get?_push_of_some _ a.get,a.dat,a.fit,a.cls⟩ led tab fun h' I d' own first vals m it fI fO keep lt=>?_);refine wpAny_bind (wpAny_holding ?_);unfold Builtin.List.listLengthHint;have ty2:Shared.TypeIs { s with heap:=h',drawn:=d' } (.ref S) "set":=⟨o,keep _ _ (Heap.get?_push_of_some _ a.get),a.cls⟩
 refine wpAny_bind (wpAny_specialOf ty2 PySem.F.slot_set_len.lookup ?_);generalize hid:("set.__len__":String)=id0
 wp_delta
 rw[show splitId id0=some ("set","__len__") from by subst hid;decide +kernel];subst hid;refine wpAny_bind (wpAny_isInstance (b:=true) ty2 sub_set_self ?_);rw[if_neg (by decide)];refine qaa (by decide +kernel) ?_;refine wpAny_bind (wpAny_typeOf ty2 ?_);refine wpAny_pure ?_;refine qaa (by decide +kernel) ?_;refine wpAny_bind (wpAny_rule ?_);have hL2:=keep _ _ hL;refine wpAny_bind ?_;show wpAny _ A.in1 (updateSeq s.heap.objs.size (·.push .none) >>= fun _=>updateSeq s.heap.objs.size (·.pop)) _ _ _;refine wpAny_bind (wpAny_updateSeq hL2 rfl ?_);have hL3:=Heap.get?_update_self (Obj.mapSeq (·.push Value.none)) hL2 rfl;refine wpAny_updateSeq hL3 rfl ?_;have hL4:=Heap.get?_update_self (Obj.mapSeq (·.pop)) hL3 rfl;have oth:∀ b x,b≠s.heap.objs.size->h'.get? b=some x->((h'.update s.heap.objs.size (Obj.mapSeq (·.push Value.none))).update s.heap.objs.size (Obj.mapSeq (·.pop))).get? b=some x:=fun b x nb e=>(Heap.get?_update_other _ _ (Ne.symm nb)).trans ((Heap.get?_update_other _ _ (Ne.symm nb)).trans e);have nSI:S≠I:=fun z=>by rw[← z]at fI;rw[show (s.heap.push { cls:=.type "list",data:=.seq ([]:List Value).toArray }).get? S=some o from Heap.get?_push_of_some _ a.get]at fI;cases fI
 have nLI:s.heap.objs.size≠I:=fun z=>by rw[← z]at fI;rw[hL]at fI;cases fI
 have nLO:s.heap.objs.size∉I::S::own:=by
   intro z;rcases List.mem_cons.mp z with z|z
   · exact nLI z
   · rcases List.mem_cons.mp z with z|z
     · exact absurd z (Nat.ne_of_gt hlt)
     · have:=(fO _ z).1
       rw[hL]at this;cases this
 have W:=qfP (prog:=prog) (w:=w) (A:=A.in1) hh I S o es ep t own first vals nSI fun T z=>(fO T z).2
 refine wpAny_pure ⟨plainId_quiet PySem.F.plain_extend_loop _,codeAny_extend_loopS W (fits_of_scanBound hsb) _ nLO _ es.size 0 _ _ _ rfl (Nat.zero_le _) (W.frame 0 { s with heap:=h',drawn:=d' } _ s.toks ⟨it,⟨keep _ _ (Heap.get?_push_of_some _ a.get),a.dat,a.fit,a.cls⟩,m⟩ (Nat.le_refl _) fun b hb x e=>oth b x (fun z=>nLO (z▸hb)) e) hL4 (ItemsOf.nil _) fun s' acc c' mv gL items=>?_⟩;show wpAny _ A (load s.heap.objs.size >>= _) _ _ s';refine wpAny_bind (wpAny_load gL ?_);obtain⟨h2,g2,d2,t2,o2⟩:=s';have eg:g2=s.gens:=mv.gens;have ed:d2=d':=mv.drawn;have eo:o2=s.os:=mv.os;subst eg;subst ed;subst eo
 have ev:acc.toList=vals:=by
   refine List.ext_getElem? fun i=>?_;rw[Array.getElem?_toList]
   cases q:acc[i]? with
   | some v=>exact(items.2 i v q).symm
   | none =>
     have:acc.size≤i:=by
       rcases Nat.lt_or_ge i acc.size with z|z
       · rw[Array.getElem?_eq_getElem z]at q;cases q
       · exact z
     rw[List.getElem?_eq_none];rw[m.len,← items.1];exact this
 refine wpAny_pure ?_;show Q acc.toList _;rw[ev];refine fin h2 t2 d2 vals m.perm fun b x e=>?_;have hb:b < s.heap.objs.size:=Heap.lt_size e;have e1:(s.heap.push { cls:=.type "list",data:=.seq ([]:List Value).toArray }).get? b=some x:=Heap.get?_push_of_some _ e;refine mv.heap b x ?_ (oth b x (Nat.ne_of_lt hb) (keep b x e1));intro z;rcases List.mem_cons.mp z with z|z
 · exact absurd z (Nat.ne_of_lt hb)
 · have:b=I:=by simpa using z
   rw[← this]at fI;rw[e1]at fI;cases fI
end
end SetO
namespace L2
open PySem PySem.Spec PyProof.Rows
open PySem.W (Frag)
theorem z7 (val:Nat->Int):∀ (i:Nat) (x:Int),x∈firstMet val i↔∃ j,j < i∧val j=x
 | 0,x=>by rw[firstMet_zero];simp
 | i+1,x=>by
   rw[firstMet_succ];unfold step_dedup;by_cases h:((firstMet val i).any (· == val i))=true
   · rw[if_pos h,z7 val i x];constructor
     · rintro⟨j,hj,e⟩;exact⟨j,by omega,e⟩
     · rintro⟨j,hj,e⟩;by_cases c:j=i
       · subst c
         have:val j∈firstMet val j:=by simpa using h
         rw[e]at this;exact(z7 val j x).mp this
       · exact⟨j,by omega,e⟩
   · rw[if_neg h,List.mem_append,z7 val i x,List.mem_singleton];constructor
     · rintro (⟨j,hj,e⟩|e)
       · exact⟨j,by omega,e⟩
       · exact⟨i,by omega,e.symm⟩
     · rintro⟨j,hj,e⟩;by_cases c:j=i
       · subst c;exact .inr e.symm
       · exact .inl ⟨j,by omega,e⟩
theorem ZL (val:Nat->Int):∀ i,(firstMet val i).Nodup
 | 0=>by rw[firstMet_zero];exact List.nodup_nil
 | i+1=>by
   rw[firstMet_succ];unfold step_dedup;by_cases h:((firstMet val i).any (· == val i))=true
   · rw[if_pos h];exact ZL val i
   · rw[if_neg h];refine List.nodup_append.mpr ⟨ZL val i,by simp,fun a ha b hb=>?_⟩
     have:b=val i:=by simpa using hb
     subst this;intro e;subst e;exact h (by simpa using ha)
theorem qhO (ns:List Int) (x:Int):x∈firstMet (fun i=>ns.getD i 0) ns.length↔x∈ns:=by
 rw[z7];constructor
 · rintro⟨j,hj,e⟩;rw[← e,List.getD_eq_getElem?_getD,List.getElem?_eq_getElem hj];exact List.getElem_mem hj
 · intro h;obtain⟨j,hj,e⟩:=List.mem_iff_getElem.mp h;exact⟨j,hj,by rw[List.getD_eq_getElem?_getD,List.getElem?_eq_getElem hj];exact e⟩
section
variable {prog:Program}{w:World}{A:Around}{E:Value->Shared->Prop}{s:Shared}
theorem qfW {S:Addr}{o:Obj}{ds:List Int}{Q:Value->Shared->Prop} (hh:A.handled=none) (ho:s.heap.get? S=some o) (z:SetO.Zs prog w o (SetO.byT w) ds) (h64:ds.length < 64)
   (fin:∀ (h':Heap) (tk:Nat) (d':Drawn) (D:Addr) (vs:List Value) (ns:List Int) (c:Nat),s.heap.get? D=none->(∀ b x,s.heap.get? b=some x->h'.get? b=some x)->h'.get? D=some (seqObj "list" vs.toArray c)->IntsAre vs ns->ns.Perm ds->ns.Pairwise (·≤·)->Q (.ref D) { s with heap:=h',toks:=tk,drawn:=d' }) :
   wpAny (model prog w) A (call (.builtin "sorted") [.ref S]) Q E s:=by
 obtain⟨es,ep,t,hex,hd,el,⟨zs,pz,hz⟩,few,fit,led,tab⟩:=z;refine Calls.call_function_entry kind_sorted plain_sorted entry_sorted (args_sorted1 _) ?_;unfold Builtin.«sorted»;refine wpAny_bind (m:=checkCount "sorted" 1 1 _) (wpAny_pure ?_);refine wpAny_bind (SetO.collect_ok (A:=A.in1) hh few ⟨ho,hd,fit,hex.1⟩ led tab fun h1 tk d1 vals pv keep=>?_);obtain⟨ys,py,hy⟩:=SetO.ints_perm pv hz
 have lv:vals.length < 64:=by
   rw[IntsAre.length hy,py.length_eq,pz.length_eq];exact h64
 refine wpAny_bind (wpAny_newList ?_ (by rw[sizeLine_eq];omega));have hoL:(h1.push (seqObj "list" vals.toArray 0)).get? h1.objs.size=some (seqObj "list" vals.toArray 0):=Heap.get?_push_size _ rfl;show wpAny _ _ _ _ _ { s with heap:=h1.push (seqObj "list" vals.toArray 0),toks:=tk,drawn:=d1 };refine wpAny_bind (wpAny_holding (wpAny_call_entry slot_list_sort ⟨_,hoL,rfl⟩ entry_list_sort (list_sort_tree (s:={ s with heap:=h1.push (seqObj "list" vals.toArray 0),toks:=tk,drawn:=d1 }) hoL hy lv fun out ns' a1 a2 a3=>⟨_,rfl,?_⟩) (args_list_sort _)));obtain⟨e,he⟩:=sortedHeap_at (out:=out) hoL;refine wpAny_pure ⟨_,rfl,fin _ tk d1 h1.objs.size out.toList ns' e ?_ (fun b x hb=>?_) (by simpa using he) a1 (a2.trans (py.trans pz)) a3⟩
 · cases q:s.heap.get? h1.objs.size with
   | none=>rfl
   | some x=>exact absurd (Heap.lt_size (keep _ _ q)) (Nat.lt_irrefl _)
 · have hb1:=keep b x hb;rw[sortedHeap_old (Nat.ne_of_lt (Heap.lt_size hb1)) (by rw[size_push'];exact Nat.lt_succ_of_lt (Heap.lt_size hb1))];exact Heap.get?_push_of_some _ hb1
end
theorem Inv.dr {X:Cx}{pins:List (Addr×Obj)}{σ:List (Option V)}{H:Hp}{s:Shared} (I:Inv X pins σ H s) (d':Drawn):Inv X pins σ H { s with drawn:=d' } :=
 ⟨I.ok,I.os,I.bare,I.base,I.loc,I.cell,I.free,I.freeC,I.pin,I.hok,I.len⟩
theorem qb7:bootBuiltins "set"=some (.type "set"):=by decide +kernel
theorem qb6:bootBuiltins "sorted"=some (.builtin "sorted"):=by decide +kernel
inductive qac (K:Frag) (Q:VK) (vs:List V) (H1:Hp):Prop
 | mk (a:Addr) (ns:List Int) (h1:vs=[.ref a]) (h2:SqL K H1 a (ns.map V.int)) (h3:ns.length < 64) (h4:∀ (p:Addr) (rs:List Int),H1 p=none->(∀ x,x∈rs↔x∈ns)->rs.length≤ns.length->rs.Pairwise (· < ·)->Q (.ref p) (upd H1 p (.lst (rs.map V.int)))):qac K Q vs H1
def qfV (K:Frag) (ta:TA):TE:=fun σ H Q=>ta σ H fun vs H1=>qac K Q vs H1
theorem qdE {X:Cx}{e:Expr}{ta:TA}{p p2 p3 pos:Pos} (hc:X.calm=true) (hgl:Gl X "sorted") (hml:X.mg "sorted"=none) (hgr:Gl X "set") (hmr:X.mg "set"=none) (ha:PA X [e] ta) (hs:starEach [e] X.env=[(false,eval e X.env)]:=by rfl) :
   PE X (.Call (.Name "sorted" p) [.Call (.Name "set" p2) [e] [] p3] [] pos) (qfV X.K ta):=by
 intro pins s σ H Q I h;refine wpAny_Call_Name_kw (Zd I hgl hml qb6 ?_);refine PyProof.Rows.callWith_builtin1 ?_ (by rfl) (by rfl);show wpAny _ _ (spliced ((false,eval (.Call (.Name "set" p2) [e] [] p3) X.env)::backTo pos (starEach [] X.env))) _ _ s;refine Calls.spliced_cons ?_;refine Call_ (Zd I hgr hmr qb7 (PyProof.Rows.callWith_type1 (thn (ha p3 pins s σ H _ I h) fun us s1 zz_=>?_) hs rfl));obtain⟨vs,H1,I1,r1,q1⟩:=zz_;obtain⟨l,ns,e,hq,h64,q⟩:=q1;subst e;obtain⟨u,rfl,ru⟩:=ji r1;cases ru;obtain⟨its,rv,pl,_⟩:=I1.list hq;have hl:ns.length=its.length:=by have:=rv.length;simpa using this
 refine SetO.call_set (ns:=ns) (I1.ok.hd hc) pl.isList (by simpa using qa7 rv) (by unfold scanBound;rw[List.size_toArray];omega) fun h1 tk o go zo hk=>?_;have I2:Inv X pins σ H1 { s1 with heap:=h1,toks:=tk }:=I1.kept (t':=tk) fun b o e=>hk b o (Heap.lt_size e) e;refine Calls.spliced_nil ?_;rw[List.size_toArray,← hl]at zo;have ld:(firstMet (fun i=>ns.getD i 0) ns.length).length≤ns.length:=firstMet_length_le _ _;refine qfW (s:={ s1 with heap:=h1,toks:=tk }) (I2.ok.hd hc) go zo (by omega) fun h2 tk2 d2 D vs ms c fD keep gD hi pm om=>?_;have lm:ms.length=(firstMet (fun i=>ns.getD i 0) ns.length).length:=pm.length_eq;have I3:=I2.laidL (t':=tk2) (h':=h2) (a:=D) (o:=.lst (ms.map V.int)) (fun b u _ e=>keep b u e) (fun m' hm=>hm.at' fun o e=>keep _ o e) fD ⟨by rw[List.length_map,sizeLine_eq];omega,vs,c,qcy hi,gD⟩;refine⟨.ref D,_,I3.dr d2,rfl,q D ms (I2.unlaid fD) (fun x=>by rw[pm.mem_iff,qhO]) (by omega) ?_⟩;have nd:ms.Nodup:=pm.nodup_iff.mpr (ZL _ _);refine(om.and nd).imp fun {a b} h=>?_
 have:=h.1
 have:=h.2
 omega
end L2
namespace SetO
open PySem PySem.Spec PyProof.Rows
def stepS (acc:List Str) (x:Str):List Str:=if x∈acc then acc else acc++[x]
def metS (ss:List Str) (i:Nat):List Str:=((List.range i).map fun i=>ss.getD i "").foldl stepS []
theorem JA (ss:List Str) (i:Nat):metS ss (i+1)=stepS (metS ss i) (ss.getD i ""):=by
 unfold metS;rw[List.range_succ,List.map_append,List.foldl_append];rfl
theorem metS_le (ss:List Str):∀ i,(metS ss i).length≤i
 | 0=>Nat.le_refl _
 | i+1=>by
   rw[JA];unfold stepS;have ih:=metS_le ss i;split
   · omega
   · rw[List.length_append,List.length_singleton];omega
theorem qge (ss:List Str) (i:Nat) (k:Str):decide (k∈metS ss (i+1))=(decide (k∈metS ss i) || decide (k=ss.getD i "")):=by
 rw[JA];unfold stepS;split
 case isTrue h =>
   by_cases e:k=ss.getD i ""
   · rw[e,decide_eq_true h];rfl
   · rw[decide_eq_false e,Bool.or_false]
 case isFalse h =>
   rw[Bool.eq_iff_iff];simp[List.mem_append]
theorem qgf (ss:List Str) (i:Nat):(metS ss (i+1)).length=if decide (ss.getD i ""∈metS ss i)=true then (metS ss i).length else (metS ss i).length+1:=by
 rw[JA];unfold stepS;by_cases h:ss.getD i ""∈metS ss i
 · rw[if_pos h,if_pos (by simpa using h)]
 · rw[if_neg h,if_neg (by simpa using h),List.length_append];rfl
section
variable {prog:Program}{w:World}{A:Around}{R:Result->Shared->Prop}{I:Addr}{fp wr:List Addr}{G:Array GenState->Array GenState->Prop}{n:Nat}{P:Nat->Value->Prop}{Sw:Nat->Shared->Prop}
theorem qfR (W:WalksS prog w A.in1 I fp wr G n P Sw) (S:Addr) (nS:S∉fp) (ss:List Str) (hval:∀ i v,P i v->∃ t,v=.str (ss.getD i "") t) (hb:n+1 < scanBound) :
   ∀ (k i:Nat) (s:Shared),n - i=k->i≤n->Sw i s->s.heap.SetOf (strKind prog w) S (fun k=>decide (k∈metS ss i)) (metS ss i).length ->
     (∀ s',Moved (S::wr) G s s'->s'.heap.SetOf (strKind prog w) S (fun k=>decide (k∈metS ss n)) (metS ss n).length->R (.ok (.ret .none)) s') ->
     codeAny (model prog w) A (.builtin "set.update.loop" ⟨[.ref S,.ref I],[]⟩) R s:=by
 have wS:S∉wr:=fun z=>nS (W.sub _ z);have sub:∀ b∈wr,b∈S::wr:=fun b z=>List.mem_cons_of_mem _ z;intro k
 induction k with
 | zero =>
   intro i s k0 i0 st zS fin;have e:i=n:=by omega
   subst e;refine codeAny_builtin PyProof.Rows.F.entry_set_update_loop ?_;rw[Around.under_plainId PyProof.Rows.F.plain_set_update_loop _];show wpAny _ A.in1 (pyNext (.ref I) >>= _) _ _ s;refine wpAny_bind (W.done s _ _ st fun s' mv=>?_);show wpAny _ A.in1 (ret Value.none) _ _ s';refine wpAny_pure (fin s' (mv.mono sub) ?_);obtain⟨o,es,ep,t,ho,rest⟩:=zS;exact⟨o,es,ep,t,mv.heap S _ wS ho,rest⟩
 | succ k ih =>
   intro i s k0 i0 st zS fin;have lt:i < n:=by omega
   refine codeAny_builtin PyProof.Rows.F.entry_set_update_loop ?_;rw[Around.under_plainId PyProof.Rows.F.plain_set_update_loop _];show wpAny _ A.in1 (pyNext (.ref I) >>= _) _ _ s;refine wpAny_bind (W.item i s _ _ lt st fun v s' pv st' mv=>?_);obtain⟨t,rfl⟩:=hval i v pv
   have zS':s'.heap.SetOf (strKind prog w) S (fun k=>decide (k∈metS ss i)) (metS ss i).length:=by
     obtain⟨o,es,ep,tb,ho,rest⟩:=zS;exact⟨o,es,ep,tb,mv.heap S _ wS ho,rest⟩
   show wpAny _ A.in1 (holding [Value.str (ss.getD i "") t] (setAdd S (.str (ss.getD i "") t)) >>= _) _ _ s';refine wpAny_bind (wpAny_holding ?_);unfold setAdd;refine wpAny_holding (wpAny_bind ((strKind prog w).pyHash (k:=ss.getD i "") (strKind_is _ _ _ _) ?_));have room:(metS ss i).length+1 < scanBound:=by have:=metS_le ss i;omega
   refine wpAny_setAddHashed_of (knd:=strKind prog w) (s:={ s' with toks:=s'.toks+1 }) (strKind_is _ _ _ _) rfl zS' room fun h' sb z2=>?_;have z3:h'.SetOf (strKind prog w) S (fun k=>decide (k∈metS ss (i+1))) (metS ss (i+1)).length:=SetOf_congr z2 (fun k=>(qge ss i k).symm) (qgf ss i).symm;refine wpAny_pure ⟨plainId_quiet PyProof.Rows.F.plain_set_update_loop _,ih (i+1) _ (by omega) lt (W.frame _ s' _ _ st' (Nat.le_succ _) fun b mb o e=>?_) z3 fun s'' mv2 g3=>?_⟩
   · rw[sb.2 b (fun z:b=S=>nS (by rw[← z];exact mb))];exact e
   · refine fin s'' (Moved.trans W.gtrans ((mv.mono sub).then_heap (Nat.le_succ _) fun b o nb e=>?_) mv2) g3;rw[sb.2 b (fun z:b=S=>nb (by rw[z];exact List.mem_cons_self))];exact e
end
section
variable {prog:Program}{w:World}{A:Around}{E:Value->Shared->Prop}{s:Shared}
theorem call_setS {l:Addr}{items:Array Value}{ss:List Str}{Q:Value->Shared->Prop} (hh:A.handled=none) (hl:s.heap.IsList l items) (hi:∀ (i:Nat) (v:Value),items[i]?=some v->∃ t,v=.str (ss.getD i "") t) (hb:items.size+1 < scanBound)
   (fin:∀ (h':Heap) (tk:Nat),h'.SetOf (strKind prog w) s.heap.objs.size (fun k=>decide (k∈metS ss items.size)) (metS ss items.size).length->(∀ b o,b < s.heap.objs.size->s.heap.get? b=some o->h'.get? b=some o)->Q (.ref s.heap.objs.size) { s with heap:=h',toks:=tk }) :
   wpAny (model prog w) A (call (.type "set") [.ref l]) Q E s:=by
 obtain⟨c,tl,hmro⟩:=PySem.F.called_set.mro;have hmade:=PySem.F.called_set.made;have hsub:=PySem.F.called_set.sub;refine wpAny_call (codeAny_of_tree ?_);show wpAny _ _ (callAny (.type "set") _) _ _ _;refine wpAny_pure ⟨Code.quiet_builtin _ (by decide +kernel),codeAny_builtin PySem.F.entry_type_call ?_⟩;rw[Around.under_plain (weight_type_call_type "set" [.ref l] []) rfl];have h1:=PySem.F.called_set.notType;have h2:=PySem.F.called_set.canCreate;have hct:=PySem.F.typeCall_set_1 (.ref l)
 repeat (any_goals (first|assumption|wp_step))
 refine codeAny_mono (qdt (.ref l) (E:=E) (Q₁:=fun obj s₁=>obj=.ref s.heap.objs.size∧s₁={ s with heap:=s.heap.push (qan (!byT w)) }) ⟨rfl,rfl⟩) fun r s₁ hr=>?_
 cases r with
 | error e=>exact hr
 | ok fl =>
   cases fl with
   | ret obj =>
     obtain⟨rfl,rfl⟩:=hr;have hS:(s.heap.push (qan (!byT w))).get? s.heap.objs.size=some (qan (!byT w)):=Heap.get?_push_size _ rfl;have hT:Shared.TypeIs { s with heap:=s.heap.push (qan (!byT w)) } (.ref s.heap.objs.size) "set":=⟨_,hS,rfl⟩
     have hli:=PySem.F.called_set.init.lookup;have hbi:=PySem.F.called_set.init.bind (.ref s.heap.objs.size)
     repeat (any_goals (first|assumption|wp_step))
     refine codeAny_mono (codeAny_call_builtin (R:=wants (fun r s₂=>r=.none∧∃ h' tk,s₂={ s with heap:=h',toks:=tk }∧h'.SetOf (strKind prog w) s.heap.objs.size (fun k=>decide (k∈metS ss items.size)) (metS ss items.size).length ∧
         (∀ b o,b < s.heap.objs.size->s.heap.get? b=some o->h'.get? b=some o)) E) PySem.F.called_set.init.plain PySem.F.entry_set_init (check_set_init_1 hT ?_)) fun r₂ s₂ hr₂=>?_
     · obtain⟨ol,hol,hcl,nl,hdl⟩:=hl;obtain⟨ocls,odict,odata,oslots⟩:=ol;simp only at hcl hdl;subst hcl;subst hdl;have hol':(s.heap.push (qan (!byT w))).get? l=some { cls:=.type "list",dict:=odict,data:=.seq items nl,slots:=oslots }:=Heap.get?_push_of_some _ hol;have hsls:=PySem.F.sub_list_set;have hslf:=PySem.F.sub_list_frozenset;have hne:(Value.type "list" == Value.type "dict")=false:=by decide
       have hl1:(s.heap.push (qan (!byT w))).IsList l items:=⟨_,hol',rfl,nl,rfl⟩
       unfold Builtin.«set.__init__» noKeywords Builtin.Frozenset.updateFrom;generalize hPI:pyIter=PI
       wp_walk
       subst hPI;refine wpAny_pyIter_list hl1 (wpAny_bind (wpAny_runValue ?_));have hlS:l < s.heap.objs.size:=Heap.lt_size hol;have hh3:A.in1.in1.in1.handled=none:=by simp[hh]
       have hneI:l≠(s.heap.push (qan (!byT w))).objs.size:=by rw[Heap.size_push];exact Nat.ne_of_lt (Nat.lt_succ_of_lt hlS)
       have nS:s.heap.objs.size∉[(s.heap.push (qan (!byT w))).objs.size,l]:=by
         rw[Heap.size_push];simp only[List.mem_cons,List.mem_singleton,List.not_mem_nil,or_false,not_or];exact⟨Nat.ne_of_lt (Nat.lt_succ_self _),Nat.ne_of_gt hlS⟩
       refine qfR ((Walks.list hh3 _ l hneI items).toS) s.heap.objs.size nS ss hi hb (items.size - 0) 0 _ (by omega) (Nat.zero_le _) ⟨⟨_,Heap.get?_push_size _ rfl,rfl,rfl⟩,(hl1.push _)⟩ (SetOf_congr ((setObjOf_fresh (knd:=strKind prog w) _).setOf (Heap.get?_push_of_some _ hS) (by unfold scanBound;omega)) (fun _=>rfl) rfl) ?_;intro s' mv z';obtain⟨h',g'',d',tk',os'⟩:=s';have eg:g''=s.gens:=mv.gens;have ed:d'=s.drawn:=mv.drawn;have eo:os'=s.os:=mv.os;subst eg;subst ed;subst eo;show wpAny _ _ _ _ _ _;refine wpAny_pure ?_;show wpAny _ _ (ret Value.none) _ _ _;refine wpAny_pure ⟨rfl,h',tk',rfl,z',fun b o hb e=>?_⟩;have hb1:b≠s.heap.objs.size:=Nat.ne_of_lt hb;have hb2:b≠(s.heap.push (qan (!byT w))).objs.size:=by rw[Heap.size_push];exact Nat.ne_of_lt (Nat.lt_succ_of_lt hb)
       exact mv.heap b o (by simp only[List.mem_cons,List.mem_singleton,List.not_mem_nil,or_false,not_or];exact⟨hb1,hb2⟩) (Heap.get?_push_of_some _ (Heap.get?_push_of_some _ e))
     · cases r₂ with
       | error e=>exact hr₂
       | ok fl₂ =>
         cases fl₂ with
         | ret r =>
           obtain⟨rfl,h',tk,rfl,z',hk'⟩:=hr₂
           repeat (any_goals (first|assumption|wp_step))
           exact fin _ _ z' hk'
         | _=>exact hr₂.elim
   | _=>exact hr.elim
end
end SetO
namespace L2
open PySem PySem.Spec PyProof.Rows
open PySem.W (Frag kat_cons kat_yes)
theorem qhn {ss:List Str}{vs:List Value} (h:Vals (ss.map V.str) vs):∀ (i:Nat) (v:Value),vs[i]?=some v->∃ t,v=.str (ss.getD i "") t:=by
 induction ss generalizing vs with
 | nil=>cases h;intro i v e;cases e
 | cons x r ih =>
   cases h with
   | cons a b =>
     intro i v e
     cases i with
     | zero=>cases e;exact a
     | succ i=>exact ih b i v (by simpa using e)
inductive qbd (K:Frag) (Q:VK) (vs:List V) (H1:Hp):Prop
 | mk (a:Addr) (ss:List Str) (h1:vs=[.ref a]) (h2:SqL K H1 a (ss.map V.str)) (h3:ss.length < 64) (h4:Q (.int ((SetO.metS ss ss.length).length:Nat)) H1):qbd K Q vs H1
def qhk (K:Frag) (ta:TA):TE:=fun σ H Q=>ta σ H fun vs H1=>qbd K Q vs H1
theorem qdF {X:Cx}{e:Expr}{ta:TA}{p p2 p3 pos:Pos} (hc:X.calm=true) (hgl:Gl X "len") (hml:X.mg "len"=none) (hgr:Gl X "set") (hmr:X.mg "set"=none) (ha:PA X [e] ta) (hs:starEach [e] X.env=[(false,eval e X.env)]:=by rfl) :
   PE X (.Call (.Name "len" p) [.Call (.Name "set" p2) [e] [] p3] [] pos) (qhk X.K ta):=by
 intro pins s σ H Q I h;refine Call_ (Zd I hgl hml qv ?_);refine PyProof.Rows.callWith_builtin1 ?_ (by rfl) (by rfl);show wpAny _ _ (spliced ((false,eval (.Call (.Name "set" p2) [e] [] p3) X.env)::backTo pos (starEach [] X.env))) _ _ s;refine Calls.spliced_cons ?_;refine Call_ (Zd I hgr hmr qb7 (PyProof.Rows.callWith_type1 (thn (ha p3 pins s σ H _ I h) fun us s1 zz_=>?_) hs rfl));obtain⟨vs,H1,I1,r1,q1⟩:=zz_;obtain⟨l,ss,e,hq,h64,q⟩:=q1;subst e;obtain⟨u,rfl,ru⟩:=ji r1;cases ru;obtain⟨its,rv,pl,_⟩:=I1.list hq;have hl:ss.length=its.length:=by have:=rv.length;simpa using this
 refine SetO.call_setS (ss:=ss) (I1.ok.hd hc) pl.isList (fun i v hv=>qhn rv i v (by simpa using hv)) (by unfold scanBound;rw[List.size_toArray];omega) fun h1 tk zo hk=>?_;have I2:Inv X pins σ H1 { s1 with heap:=h1,toks:=tk }:=I1.kept (t':=tk) fun b o e=>hk b o (Heap.lt_size e) e;refine Calls.spliced_nil ?_;rw[show its.toArray.size=ss.length by rw[List.size_toArray,hl]]at zo;obtain⟨o,es,ep,t,ho,hex,hd,_,_,few,hf,en⟩:=zo;have ld:=SetO.metS_le ss ss.length;refine call_len_set ho hex hd hf (by omega) ?_;refine⟨.int (es.size:Nat),_,(I2.tok _).tok _,⟨_,rfl⟩,?_⟩;rw[en];exact q
inductive qc7 (K:Frag) (x:V) (y:V) (H:Hp) (Q:VK):Prop
 | mk (p b xs:_) (h1:x=.ref p) (h2:y=.ref b) (h3:SqL K H p xs) (h4:SqL K H b []) (h5:Q (.bl (!xs.isEmpty)) H):qc7 K x y H Q
def qiQ (K:Frag):R2:=fun x y H Q=>qc7 K x y H Q
theorem qaX {X:Cx} (hu:X.A.units+64 < cLine):OpR X (compareOp .NotEq) (qiQ X.K):=by
 intro pins s σ H x y v u Q I rx ry h;obtain⟨p,b,xs,rfl,rfl,hp,hb,q⟩:=h;cases rx;cases ry;obtain⟨its,rv,pl,_⟩:=I.list hp;obtain⟨its2,rv2,pl2,_⟩:=I.list hb;cases rv2;have hl:=rv.length
 cases xs with
 | nil =>
   cases rv;exact SeqAt.RcNeAt.lists (e:=fun _=>true) pl.isList pl2.isList rfl (by omega) (fun j h1 h2=>by simp at h1) _ _ _ _ ⟨.bl false,H,I,rfl,q⟩
 | cons a r=>exact SeqAt.RcNeAt.lists_lengths pl.isList pl2.isList (by simp;intro z;rw[z]at hl;cases hl) (by omega) _ _ _ _ ⟨.bl true,H,I,rfl,q⟩
def qiP:R2:=fun x y H Q=>∃ (c:Nat) (n:Int),x=.str ⟨#[c]⟩∧y=.int n∧1≤n∧n≤1000∧Q (.str ⟨(List.replicate n.toNat c).toArray⟩) H
theorem qeC (c:Nat):∀ (n:Nat) (acc:Array Nat),(List.replicate n (#[c]:Array Nat)).foldl (·++·) acc=acc++(List.replicate n c).toArray
 | 0,acc=>by simp
 | n+1,acc=>by
   rw[List.replicate_succ,List.foldl_cons,qeC c n,List.replicate_succ];apply Array.toList_inj.mp;simp
section
variable {X:Cx}
theorem qhF:OpR X (binaryOp .Mult) qiP:=by
 intro pins s σ H x y v u Q I rx ry h;obtain⟨c,n,rfl,rfl,n2,n1,q⟩:=h;obtain⟨t,rfl⟩:=rx;obtain⟨t',rfl⟩:=ry;have hz:(1000:Nat)≤sizeLine:=by decide
 have l1:(⟨#[c]⟩:Str).length=1:=rfl;refine P.mul_str ?_ (fun _ _=>?_) (fun _ _=>?_) ?_
 · rw[decide_eq_false (by omega),decide_eq_false (by omega)];rfl
 · intro hq
   have h1:(2 ^ 63 - 1:Int) / 1000≤(2 ^ 63 - 1) / n:=by
     refine Int.le_ediv_of_mul_le (by omega) ?_
     have:(2 ^ 63 - 1:Int) / 1000 * n≤(2 ^ 63 - 1:Int) / 1000 * 1000:=Int.mul_le_mul_of_nonneg_left n1 (by decide)
     exact Int.le_trans this (by decide)
   have h2:(1000:Int)≤(2 ^ 63 - 1:Int) / 1000:=by decide
   rw[l1]at hq;omega
 · have:¬ ((⟨#[c]⟩:Str).length * n.toNat > sizeLine):=by rw[l1];omega
   exact decide_eq_false this
 · rw[if_neg (by omega)];by_cases e:n=1
   · subst e;rw[if_pos (by rfl)];exact⟨.str _,H,I,⟨_,rfl⟩,q⟩
   · rw[if_neg (by
       intro hc;rcases Bool.or_eq_true_iff.mp hc with h|h
       · have:=eq_of_beq h;omega
       · have:=eq_of_beq h;rw[l1]at this;omega)]
     rw[qeC c,Array.empty_append];exact⟨(by show (List.replicate n.toNat c).toArray.size≤_;rw[List.size_toArray,List.length_replicate];omega),.str _,H,I.tok _,⟨_,rfl⟩,q⟩
end
abbrev prP (p:Str×Addr):List V:=[.str p.1,.ref p.2]
def ltP (rs:List (Str×Addr)) (i j:Nat):Bool:=decide ((rs.getD i ("",0)).1.cps.toList < (rs.getD j ("",0)).1.cps.toList)
theorem qe5 (rs:List (Str×Addr)):Srt.Ord (ltP rs):=by
 refine⟨fun a b c x y=>?_,fun a b h=>?_⟩
 · unfold ltP at x y ⊢;exact decide_eq_false (List.le_trans (α:=Nat) (of_decide_eq_false x) (of_decide_eq_false y))
 · unfold ltP at h ⊢;exact decide_eq_false (List.lt_asymm (of_decide_eq_true h))
inductive qc5 (K:Frag) (xs:List V) (H:Hp) (Q:VK):Prop
 | mk (l:Addr) (zs:List V) (rs:List (Str×Addr)) (h1:xs=[.ref l]) (h2:SqL K H l zs) (h3:TupL prP H zs rs) (h4:∀ p∈rs,∀ q∈rs,p.1=q.1->p.2=q.2) (h6:zs.length < 64) (h7:∀ (p:Addr) (zs':List V) (rs':List (Str×Addr)),H p=none->rs'.Perm rs->TupL prP H zs' rs'->rs'.Pairwise (fun a b=>¬ b.1.cps.toList < a.1.cps.toList)->Q (.ref p) (upd H p (.lst zs'))):qc5 K xs H Q
def qgH (K:Frag):List V->Hp->VK->Prop:=fun xs H Q=>qc5 K xs H Q
inductive qke (h:Heap) (v:Value) (r:Str×Addr):Prop
 | mk (t:Addr) (o:Obj) (tk:Tok) (n:Nat) (h1:v=.ref t) (h3:h.get? t=some o) (h4:o.cls=.type "tuple") (h5:o.data=.seq [Value.str r.1 tk,Value.ref r.2].toArray n):qke h v r
theorem qi2 {X:Cx}{pins:List (Addr×Obj)}{σ:List (Option V)}{H:Hp}{s:Shared}{h':Heap} (I:Inv X pins σ H s) (kp:∀ b u,b≠X.env.locals->s.heap.get? b=some u->h'.get? b=some u) :
   ∀ {zs:List V}{rs:List (Str×Addr)}{vs:List Value},TupL prP H zs rs->Vals zs vs->Paired (qke h') vs rs
 | [],rs,_,h,.nil=>by
   have:rs=[]:=List.eq_nil_of_length_eq_zero h.1.symm
   subst this;exact .nil
 | z::zs,[],_,h,_=>by have:=h.1;simp at this
 | z::zs,r::rs,_,h,.cons r1 t1=>by
   have tl:TupL prP H zs rs:=⟨by have:=h.1;simpa using this,fun i z' r' e1 e2=>h.2 (i+1) z' r' (by simpa using e1) (by simpa using e2)⟩
   refine .cons ?_ (qi2 I kp tl t1);obtain⟨t,rfl,ht⟩:=h.2 0 z r rfl rfl;obtain⟨_,its,rv,o,e,c,n,d⟩:=I.hok t _ ht
   match its,rv with
   | _,.cons ra (.cons rb .nil) =>
     obtain⟨tk,rfl⟩:=(show ∃ t,_=Value.str r.1 t from ra)
     cases (show _=Value.ref r.2 from rb);exact⟨t,o,tk,n,r1,kp t o (fun q=>by rw[q,I.free]at ht;cases ht) e,c,d⟩
theorem qeM {h:Heap}:∀ {vs:List Value}{rs:List (Str×Addr)},Paired (qke h) vs rs->∃ fs,PySem.W.KatTups h vs fs∧fs.length=vs.length∧∀ v∈fs,∃ i t,v=Value.str i t
 | _,_,.nil=>⟨[],.nil,rfl,fun _ z=>nomatch z⟩
 | _,r::rs,.cons ⟨t,o,tk,n,e,ho,hc,hd⟩ q=>by
   obtain⟨fs,k1,k2,k3⟩:=qeM q;subst e;refine⟨_::fs,.cons ho hc hd (by simp;rfl) k1,by simp[k2],fun v hv=>?_⟩;rcases List.mem_cons.mp hv with rfl|hv
   · exact⟨_,_,rfl⟩
   · exact k3 v hv
section
variable {prog:Program}{w:World}{A:Around}{E:Value->Shared->Prop}{s:Shared}
theorem qcA {v:Value}{Q:Bool->Shared->Prop} (hv:(v == v)=true) (h:Q true s):wpAny (model prog w) A (eqBool v v) Q E s:=by
 unfold eqBool;refine wpAny_holding ?_;rw[if_pos hv]
 wp_walk
 exact h
theorem qhS {Q:Bool->Shared->Prop}{x y:Str}{t u:Tok}{a b:Addr} (e:x=y->a=b) (h:Q (decide (x.cps.toList < y.cps.toList)) s):PySem.W.KatLex prog w A true false Q ([Value.str x t,Value.ref a].zip [Value.str y u,Value.ref b]) 0 s:=by
 refine kat_cons (eqBool_str ?_);by_cases z:x=y
 · have z2:=e z;subst z;subst z2;rw[show (x == x)=true from beq_self_eq_true x];refine kat_yes (kat_cons (qcA (by simp) (kat_yes (PySem.W.kat_nil ?_))));rw[decide_eq_false (List.lt_irrefl _)]at h;exact h
 · rw[show (x == y)=false from beq_eq_false_iff_ne.mpr z];exact PySem.W.kat_no (oneLt_str h)
end
theorem qef {H:Hp}{zs:List V}{rs:List (Str×Addr)}{d:V}{e:Str×Addr} (h:TupL prP H zs rs) {is:List Nat} (hi:∀ i∈is,i < zs.length):TupL prP H (is.map fun i=>zs.getD i d) (is.map fun i=>rs.getD i e):=by
 refine⟨by rw[List.length_map,List.length_map],fun j z r e1 e2=>?_⟩;rw[List.getElem?_map]at e1 e2
 cases q:is[j]? with
 | none=>rw[q]at e1;cases e1
 | some i =>
   rw[q]at e1 e2;have lt:=hi i (List.mem_of_getElem? q);have lt2:i < rs.length:=by rw[← h.1];exact lt
   have z1:zs.getD i d=z:=Option.some.inj e1;have r1:rs.getD i e=r:=Option.some.inj e2;rw[List.getD_eq_getElem?_getD,List.getElem?_eq_getElem lt]at z1;rw[List.getD_eq_getElem?_getD,List.getElem?_eq_getElem lt2]at r1;exact h.2 i z r (by rw[List.getElem?_eq_getElem lt];exact congrArg some z1) (by rw[List.getElem?_eq_getElem lt2];exact congrArg some r1)
section
variable {X:Cx}
theorem qdX:QN X (.builtin "sorted") (qgH X.K):=by
 intro pins s σ H xs us Q I r h;obtain⟨l,zs,rs,rfl,hq,tp,hk,h64,q⟩:=h;obtain⟨u,rfl,ru⟩:=ji r;cases (show u=Value.ref l from ru);obtain⟨its,rv,p,hz⟩:=I.list hq;have hlen:=rv.length;by_cases h2:its.length < 2
 · refine qdy p.isList h2 fun D c h' free kp e=>?_;have I':Inv X pins σ (upd H D (.lst zs)) { s with heap:=h' }:=I.laidL (t':=s.toks) (fun b u _ z=>kp b u z) (fun m ⟨o,es,ep,ho,r⟩=>⟨o,es,ep,kp _ _ ho,r⟩) free ⟨hz,its,c,rv,e⟩;refine⟨.ref D,_,I',rfl,q D zs rs (I.unlaid free) (List.Perm.refl _) tp ?_⟩;have l2:rs.length < 2:=by rw[← tp.1,hlen];exact h2
   match rs,l2 with
   | [],_=>exact .nil
   | [r],_=>exact List.pairwise_singleton _ _
   | _::_::_,l2=>simp at l2;omega
 · obtain⟨m,F⟩:=I.fr;refine PySem.W.kat_sorted F (qaC X.base s.heap X.env.locals) p.isList (by omega) (by omega) fun D e1 h' F' N' hD=>?_;have kp:=I.kpN F' N';have pa:=qi2 I kp tp rv;obtain⟨fs,t1,t2,t3⟩:=qeM pa;refine PySem.W.kat_kind (T:=.type "str") t1 (by omega) (fun v hv=>?_) rfl ?_
   · obtain⟨i,t,rfl⟩:=t3 v hv;exact PySem.W.Looks.of_pure rfl
   refine Srt.RunP.wp (fun i j C hi hj hC=>?_) (fun a ha=>?_) (Srt.sort_ok (n:=its.length) (qe5 rs) (by omega))
   · have gi:rs.getD i ("",0)∈rs:=by
       have:i < rs.length:=by rw[← tp.1,hlen];exact hi
       rw[List.getD_eq_getElem?_getD,List.getElem?_eq_getElem this];exact List.getElem_mem _
     have gj:rs.getD j ("",0)∈rs:=by
       have:j < rs.length:=by rw[← tp.1,hlen];exact hj
       rw[List.getD_eq_getElem?_getD,List.getElem?_eq_getElem this];exact List.getElem_mem _
     obtain⟨x,ox,kx,nx,ex,hx,cx,dx⟩:=Zf (d:=Value.none) (e:=(("",0):Str×Addr)) pa hi;obtain⟨y,oy,ky,ny,ey,hy,cy,dy⟩:=Zf (d:=Value.none) (e:=(("",0):Str×Addr)) pa hj;unfold PySem.W.kas_ask;rw[ex,ey];refine PySem.W.kat_lt hx dx hy dy ?_;exact qhS (hk _ gi _ gj) hC
   · obtain⟨hp,up⟩:=ha
     have pl:a.toList.Perm (List.range its.length):=by
       have:=Array.perm_iff_toList_perm.mp hp
       simpa using this
     have inR:∀ i∈a.toList,i < zs.length:=fun i hi=>by rw[hlen];exact List.mem_range.mp (pl.mem_iff.mp hi)
     refine PySem.W.KasFin.intro F' N' (.head fun q hq=>Nat.ne_of_lt (hD q hq)) fun h2 c F2 N2=>?_;have rv2:Vals (a.toList.map fun i=>zs.getD i .non) (a.toList.map fun i=>its.getD i Value.none):=qau rv inR;obtain⟨hn,I'⟩:=I.laidN F F2 N2 hD rv2 (by rw[List.length_map,pl.length_eq,List.length_range,← hlen];exact hz);refine⟨.ref D,_,I',rfl,q D _ (a.toList.map fun i=>rs.getD i ("",0)) hn ?_ (qef tp inR) ?_⟩
     · have:=pl.map fun i=>rs.getD i (("",0):Str×Addr)
       rw[← hlen,tp.1,ZE]at this;exact this
     · have sz:a.size=its.length:=by
         have:=pl.length_eq
         rw[Array.length_toList,List.length_range]at this;exact this
       refine List.pairwise_iff_getElem.mpr fun i j hi hj lt=>?_;have hj':j < a.size:=by simpa using hj
       have hi':i < a.size:=by omega
       have:=Srt.Up.le (qe5 rs) up (x:=i) (j - i) (by omega)
       rw[show i+(j - i)=j by omega]at this;simp only[List.getElem_map,Array.getElem_toList];simp only[ltP,Array.getD_eq_getD_getElem?,Array.getElem?_eq_getElem hj',Array.getElem?_eq_getElem hi',Option.getD_some]at this;exact of_decide_eq_false this
end
end L2
namespace K79
open PySem L2 PySem.NumText PyProof.Rows KC
open PySem.W (Frag keepIn mroIn kitOne fnOf codeIn RowW InK nsIn)
def top (i:Nat):Stmt:=PySem.Challenge.pw_foldlog_k79_not_put_together.main.body.getD i (.Pass ⟨0,0,0,0⟩)
abbrev Jg:Stmt:=top 17
theorem qbr:qo ["thing"] ["thing"] (qh Jg):=⟨rfl,rfl,rfl,by decide +kernel,rfl,by decide +kernel,by decide +kernel⟩
abbrev qap:Stmt:=top 18
theorem qcm:qo ["thing","low","high"] ["thing","low","high"] (qh qap):=⟨rfl,rfl,rfl,by decide +kernel,rfl,by decide +kernel,by decide +kernel⟩
abbrev Jh:Stmt:=top 19
theorem qbs:qo ["thing"] ["thing"] (qh Jh):=⟨rfl,rfl,rfl,by decide +kernel,rfl,by decide +kernel,by decide +kernel⟩
abbrev jF:Stmt:=top 20
theorem qaL:qo ["thing"] ["thing"] (qh jF):=⟨rfl,rfl,rfl,by decide +kernel,rfl,by decide +kernel,by decide +kernel⟩
abbrev qbz:Stmt:=top 21
theorem qdA:qo ["thing"] ["thing"] (qh qbz):=⟨rfl,rfl,rfl,by decide +kernel,rfl,by decide +kernel,by decide +kernel⟩
abbrev jH:Stmt:=top 24
theorem qaM:qo ["thing"] ["thing"] (qh jH):=⟨rfl,rfl,rfl,by decide +kernel,rfl,by decide +kernel,by decide +kernel⟩
abbrev ZA:Stmt:=top 25
theorem Jb:qo ["thing"] ["thing"] (qh ZA):=⟨rfl,rfl,rfl,by decide +kernel,rfl,by decide +kernel,by decide +kernel⟩
abbrev Z0:Stmt:=top 30
theorem sc_check_parts:qo ["parts","part"] ["parts"] (qh Z0):=⟨rfl,rfl,rfl,by decide +kernel,rfl,by decide +kernel,by decide +kernel⟩
abbrev qcW:Stmt:=top 35
theorem qev:qo ["thing","keyed"] ["thing","keyed"] (qh qcW):=⟨rfl,rfl,rfl,by decide +kernel,rfl,by decide +kernel,by decide +kernel⟩
abbrev qcV:Stmt:=top 38
theorem qeu:qo ["thing","widest"] ["thing","widest"] (qh qcV):=⟨rfl,rfl,rfl,by decide +kernel,rfl,by decide +kernel,by decide +kernel⟩
abbrev Jf:Stmt:=top 39
theorem qbq:qo ["rows","place"] ["rows","place"] (qh Jf):=⟨rfl,rfl,rfl,by decide +kernel,rfl,by decide +kernel,by decide +kernel⟩
abbrev jG:Stmt:=top 40
theorem sc_check_rows:qo ["rows","most","widest","place","row"] ["rows","most","widest"] (qh jG):=⟨rfl,rfl,rfl,by decide +kernel,rfl,by decide +kernel,by decide +kernel⟩
abbrev Je:Stmt:=top 41
theorem qbp:qo ["rows","moment"] ["rows","moment"] (qh Je):=⟨rfl,rfl,rfl,by decide +kernel,rfl,by decide +kernel,by decide +kernel⟩
abbrev Q7:Stmt:=top 42
theorem sc_shortest_rows:qo ["rows","told","moment","number"] ["rows"] (qh Q7):=⟨rfl,rfl,rfl,by decide +kernel,rfl,by decide +kernel,by decide +kernel⟩
abbrev qcU:Stmt:=top 43
theorem sc_summed:qo ["one","other","told","moment"] ["one","other"] (qh qcU):=⟨rfl,rfl,rfl,by decide +kernel,rfl,by decide +kernel,by decide +kernel⟩
abbrev ZZ:Stmt:=top 44
theorem JU:qo ["one","other"] ["one","other"] (qh ZZ):=⟨rfl,rfl,rfl,by decide +kernel,rfl,by decide +kernel,by decide +kernel⟩
abbrev Zy:Stmt:=top 49
theorem sc_first_unlike:qo ["one","other","moment","number"] ["one","other"] (qh Zy):=⟨rfl,rfl,rfl,by decide +kernel,rfl,by decide +kernel,by decide +kernel⟩
abbrev Ji:Stmt:=top 51
theorem qbt:qo ["one","other"] ["one","other"] (qh Ji):=⟨rfl,rfl,rfl,by decide +kernel,rfl,by decide +kernel,by decide +kernel⟩
abbrev jI:Stmt:=top 52
theorem qaN:qo ["many","most"] ["many","most"] (qh jI):=⟨rfl,rfl,rfl,by decide +kernel,rfl,by decide +kernel,by decide +kernel⟩
abbrev Zz:Stmt:=top 53
theorem sc_check_tables:qo ["one","other","place","moment"] ["one","other"] (qh Zz):=⟨rfl,rfl,rfl,by decide +kernel,rfl,by decide +kernel,by decide +kernel⟩
abbrev qao:Stmt:=top 54
theorem sc_parts_of:qo ["log","name","entry"] ["log","name"] (qh qao):=⟨rfl,rfl,rfl,by decide +kernel,rfl,by decide +kernel,by decide +kernel⟩
abbrev QG:Stmt:=top 55
theorem jl:qo ["one","other","name"] ["one","other","name"] (qh QG):=⟨rfl,rfl,rfl,by decide +kernel,rfl,by decide +kernel,by decide +kernel⟩
abbrev QI:Stmt:=top 56
theorem sc_check_together:qo ["one","other","name"] ["one","other"] (qh QI):=⟨rfl,rfl,rfl,by decide +kernel,rfl,by decide +kernel,by decide +kernel⟩
abbrev QH:Stmt:=top 57
theorem jm:qo ["one","other","name"] ["one","other","name"] (qh QH):=⟨rfl,rfl,rfl,by decide +kernel,rfl,by decide +kernel,by decide +kernel⟩
abbrev Zx:Stmt:=top 58
theorem sc_put_together:qo ["one","other","told","place","name","later","earlier","minutes"] ["one","other"] (qh Zx):=⟨rfl,rfl,rfl,by decide +kernel,rfl,by decide +kernel,by decide +kernel⟩
abbrev qeA:Stmt:=top 60
theorem qf0:qo ["_law_script","_law_k"] ["_law_script","_law_k"] (qh qeA):=⟨rfl,rfl,rfl,by decide +kernel,rfl,by decide +kernel,by decide +kernel⟩
abbrev qgD:Stmt:=top 61
theorem sc_Lrow:qo ["_law_cell_here","_law_sizes","_law_found","_law_left","_law_number","_law_k","_law_other"] ["_law_cell_here","_law_sizes"] (qh qgD):=⟨rfl,rfl,rfl,by decide +kernel,rfl,by decide +kernel,by decide +kernel⟩
abbrev qex:Stmt:=top 62
theorem qfY:qo ["_law_k"] ["_law_k"] (qh qex):=⟨rfl,rfl,rfl,by decide +kernel,rfl,by decide +kernel,by decide +kernel⟩
abbrev qbB:Stmt:=top 63
theorem sc_Ltables:qo ["_law_xs","_law_rows","_law_pool","_law_tables_here","_law_k","_law_place","_law_moment","_law_shift_here","_law_some"] ["_law_xs","_law_rows"] (qh qbB):=⟨rfl,rfl,rfl,by decide +kernel,rfl,by decide +kernel,by decide +kernel⟩
abbrev qcZ:Stmt:=top 64
theorem sc_Lentry:qo ["_law_k","_law_places_here","_law_many","_law_name"] ["_law_k","_law_places_here","_law_many"] (qh qcZ):=⟨rfl,rfl,rfl,by decide +kernel,rfl,by decide +kernel,by decide +kernel⟩
abbrev qgE:Stmt:=top 65
theorem sc_Llog:qo ["_law_tables_here","_law_entries","_law_bonds","_law_log_here","_law_place","_law_rows","_law_entry_here","_law_k"] ["_law_tables_here","_law_entries","_law_bonds"] (qh qgE):=⟨rfl,rfl,rfl,by decide +kernel,rfl,by decide +kernel,by decide +kernel⟩
abbrev qcX:Stmt:=top 66
theorem qew:qo ["_law_rows","_law_moment"] ["_law_rows","_law_moment"] (qh qcX):=⟨rfl,rfl,rfl,by decide +kernel,rfl,by decide +kernel,by decide +kernel⟩
abbrev qbA:Stmt:=top 67
theorem sc_Lunlike:qo ["_law_one","_law_other","_law_place","_law_rows","_law_mate","_law_others","_law_moment"] ["_law_one","_law_other"] (qh qbA):=⟨rfl,rfl,rfl,by decide +kernel,rfl,by decide +kernel,by decide +kernel⟩
abbrev qbC:Stmt:=top 68
theorem qdB:qo ["_law_one","_law_other"] ["_law_one","_law_other"] (qh qbC):=⟨rfl,rfl,rfl,by decide +kernel,rfl,by decide +kernel,by decide +kernel⟩
abbrev Z3:Stmt:=top 69
theorem JX:qo ["_law_entry_here"] ["_law_entry_here"] (qh Z3):=⟨rfl,rfl,rfl,by decide +kernel,rfl,by decide +kernel,by decide +kernel⟩
abbrev qgF:Stmt:=top 70
theorem sc_Ldue:qo ["_law_one","_law_other","_law_bonds","_law_unlike_here","_law_shared","_law_entry_here","_law_mate"] ["_law_one","_law_other","_law_bonds"] (qh qgF):=⟨rfl,rfl,rfl,by decide +kernel,rfl,by decide +kernel,by decide +kernel⟩
abbrev qc0:Stmt:=top 71
theorem sc_Lasked:qo ["_law_one","_law_other","_law_log_here","e"] ["_law_one","_law_other"] (qh qc0):=⟨rfl,rfl,rfl,by decide +kernel,rfl,by decide +kernel,by decide +kernel⟩
abbrev qey:Stmt:=top 72
theorem qfZ:qo ["_law_which","_law_number","_law_some"] ["_law_which","_law_number","_law_some"] (qh qey):=⟨rfl,rfl,rfl,by decide +kernel,rfl,by decide +kernel,by decide +kernel⟩
abbrev qez:Stmt:=top 73
theorem sc_Lpair:qo ["_law_xs","_law_rows","_law_many","_law_others","_law_shared","_law_entries","_law_mates"] ["_law_xs"] (qh qez):=⟨rfl,rfl,rfl,by decide +kernel,rfl,by decide +kernel,by decide +kernel⟩
abbrev qcY:Stmt:=top 74
theorem sc_Lright:qo ["_law_xs","_law_one","_law_other","_law_bonds","_law_more","_law_first","_law_second","_law_due_here"] ["_law_xs"] (qh qcY):=⟨rfl,rfl,rfl,by decide +kernel,rfl,by decide +kernel,by decide +kernel⟩
abbrev qiK:Stmt:=top 75
theorem sc_law:qo ["_law_script","_law_sizes","_law_k","_law_xs"] ["_law_script"] (qh qiK):=⟨rfl,rfl,rfl,by decide +kernel,rfl,by decide +kernel,by decide +kernel⟩
abbrev jN:Stmt:=qR (top 26) 0
theorem qaS:qo ["self","name"] ["self","name"] (qh jN):=⟨rfl,rfl,rfl,by decide +kernel,rfl,by decide +kernel,by decide +kernel⟩
abbrev ZD:Stmt:=qR (top 26) 2
theorem Jd:qo ["self"] ["self"] (qh ZD):=⟨rfl,rfl,rfl,by decide +kernel,rfl,by decide +kernel,by decide +kernel⟩
abbrev Z1:Stmt:=qR (top 27) 0
theorem JV:qo ["self","name","low","high"] ["self","name","low","high"] (qh Z1):=⟨rfl,rfl,rfl,by decide +kernel,rfl,by decide +kernel,by decide +kernel⟩
abbrev qbE:Stmt:=qR (top 28) 0
theorem qdC:qo ["self","name","moment"] ["self","name","moment"] (qh qbE):=⟨rfl,rfl,rfl,by decide +kernel,rfl,by decide +kernel,by decide +kernel⟩
abbrev jM:Stmt:=qR (top 29) 0
theorem qaR:qo ["self","name","parts"] ["self","name","parts"] (qh jM):=⟨rfl,rfl,rfl,by decide +kernel,rfl,by decide +kernel,by decide +kernel⟩
abbrev Z4:Stmt:=qR (top 29) 2
theorem JY:qo ["self"] ["self"] (qh Z4):=⟨rfl,rfl,rfl,by decide +kernel,rfl,by decide +kernel,by decide +kernel⟩
abbrev ZC:Stmt:=qR (top 29) 3
theorem sc_Joint_places:qo ["self","told","part"] ["self"] (qh ZC):=⟨rfl,rfl,rfl,by decide +kernel,rfl,by decide +kernel,by decide +kernel⟩
abbrev qaq:Stmt:=qR (top 36) 0
theorem qcn:qo ["self"] ["self"] (qh qaq):=⟨rfl,rfl,rfl,by decide +kernel,rfl,by decide +kernel,by decide +kernel⟩
abbrev Jm:Stmt:=qR (top 36) 1
theorem qbx:qo ["self","place","table"] ["self","place","table"] (qh Jm):=⟨rfl,rfl,rfl,by decide +kernel,rfl,by decide +kernel,by decide +kernel⟩
abbrev qbD:Stmt:=qR (top 36) 2
theorem sc_Log_put:qo ["self","entry","place"] ["self","entry"] (qh qbD):=⟨rfl,rfl,rfl,by decide +kernel,rfl,by decide +kernel,by decide +kernel⟩
abbrev qar:Stmt:=qR (top 36) 3
theorem qco:qo ["self","later","earlier","minutes"] ["self","later","earlier","minutes"] (qh qar):=⟨rfl,rfl,rfl,by decide +kernel,rfl,by decide +kernel,by decide +kernel⟩
abbrev Qm:Stmt:=qR (top 36) 6
theorem ZY:qo ["self","name"] ["self","name"] (qh Qm):=⟨rfl,rfl,rfl,by decide +kernel,rfl,by decide +kernel,by decide +kernel⟩
abbrev Jk:Stmt:=qR (top 36) 8
theorem qbv:qo ["self"] ["self"] (qh Jk):=⟨rfl,rfl,rfl,by decide +kernel,rfl,by decide +kernel,by decide +kernel⟩
abbrev Jl:Stmt:=qR (top 36) 9
theorem qbw:qo ["self","name"] ["self","name"] (qh Jl):=⟨rfl,rfl,rfl,by decide +kernel,rfl,by decide +kernel,by decide +kernel⟩
abbrev Jn:Stmt:=qR (top 36) 11
theorem qby:qo ["self"] ["self"] (qh Jn):=⟨rfl,rfl,rfl,by decide +kernel,rfl,by decide +kernel,by decide +kernel⟩
abbrev jL:Stmt:=qR (top 36) 12
theorem qaQ:qo ["self"] ["self"] (qh jL):=⟨rfl,rfl,rfl,by decide +kernel,rfl,by decide +kernel,by decide +kernel⟩
abbrev Jj:Stmt:=qR (top 36) 13
theorem qbu:qo ["self","place"] ["self","place"] (qh Jj):=⟨rfl,rfl,rfl,by decide +kernel,rfl,by decide +kernel,by decide +kernel⟩
abbrev jK:Stmt:=qR (top 47) 0
theorem qaP:qo ["self","rows"] ["self","rows"] (qh jK):=⟨rfl,rfl,rfl,by decide +kernel,rfl,by decide +kernel,by decide +kernel⟩
abbrev jJ:Stmt:=qR (top 47) 1
theorem qaO:qo ["self"] ["self"] (qh jJ):=⟨rfl,rfl,rfl,by decide +kernel,rfl,by decide +kernel,by decide +kernel⟩
abbrev ZB:Stmt:=qR (top 4) 0
theorem Jc:qo ["self","many"] ["self","many"] (qh ZB):=⟨rfl,rfl,rfl,by decide +kernel,rfl,by decide +kernel,by decide +kernel⟩
abbrev Z2:Stmt:=qR (top 11) 0
theorem JW:qo ["self","place","moment"] ["self","place","moment"] (qh Z2):=⟨rfl,rfl,rfl,by decide +kernel,rfl,by decide +kernel,by decide +kernel⟩
abbrev Q8:Stmt:=qR (top 2) 0
theorem jV:qo ["self","text"] ["self","text"] (qh Q8):=⟨rfl,rfl,rfl,by decide +kernel,rfl,by decide +kernel,by decide +kernel⟩
set_option genInjectivity false in
structure Ad where
 c_LogError:Addr
 c_NoTable:Addr
 c_TooMany:Addr
 c_NoMoment:Addr
 c_NoName:Addr
 c_NoPlace:Addr
 c_NoEntry:Addr
 c_Taken:Addr
 c_NoMinutes:Addr
 c_Unlike:Addr
 c_Entry:Addr
 c_Within:Addr
 c_At:Addr
 c_Joint:Addr
 c_Log:Addr
 c_Table:Addr
 f_J:Addr
 fd_J:FuncData
 f_f:Addr
 fd_f:FuncData
 f_n:Addr
 fd_n:FuncData
 f_K:Addr
 fd_K:FuncData
 f_o:Addr
 fd_o:FuncData
 f_L:Addr
 fd_L:FuncData
 f_A:Addr
 fd_A:FuncData
 f_M:Addr
 fd_M:FuncData
 f_p:Addr
 fd_p:FuncData
 f_N:Addr
 fd_N:FuncData
 f_O:Addr
 fd_O:FuncData
 f_P:Addr
 fd_P:FuncData
 f_B:Addr
 fd_B:FuncData
 f_Q:Addr
 fd_Q:FuncData
 f_R:Addr
 fd_R:FuncData
 f_S:Addr
 fd_S:FuncData
 f_T:Addr
 fd_T:FuncData
 f_e:Addr
 fd_e:FuncData
 f_g:Addr
 fd_g:FuncData
 f_U:Addr
 fd_U:FuncData
 f_C:Addr
 fd_C:FuncData
 f_q:Addr
 fd_q:FuncData
 f_V:Addr
 fd_V:FuncData
 f_W:Addr
 fd_W:FuncData
 f_X:Addr
 fd_X:FuncData
 f_Y:Addr
 fd_Y:FuncData
 f_Z:Addr
 fd_Z:FuncData
 f_0:Addr
 fd_0:FuncData
 f_D:Addr
 fd_D:FuncData
 f_E:Addr
 fd_E:FuncData
 f_F:Addr
 fd_F:FuncData
 f_G:Addr
 fd_G:FuncData
 f_1:Addr
 fd_1:FuncData
 f_l:Addr
 fd_l:FuncData
 f_h:Addr
 fd_h:FuncData
 f_2:Addr
 fd_2:FuncData
 f_H:Addr
 fd_H:FuncData
 f_d:Addr
 fd_d:FuncData
 f_3:Addr
 fd_3:FuncData
 f_4:Addr
 fd_4:FuncData
 f_aa:Addr
 fd_aa:FuncData
 f_r:Addr
 fd_r:FuncData
 f_m:Addr
 fd_m:FuncData
 f_s:Addr
 fd_s:FuncData
 f_5:Addr
 fd_5:FuncData
 f_x:Addr
 fd_x:FuncData
 f_t:Addr
 fd_t:FuncData
 f_6:Addr
 fd_6:FuncData
 f_y:Addr
 fd_y:FuncData
 f_u:Addr
 fd_u:FuncData
 f_v:Addr
 fd_v:FuncData
 f_w:Addr
 fd_w:FuncData
 f_j:Addr
 fd_j:FuncData
 f_a:Addr
 fd_a:FuncData
 f_k:Addr
 fd_k:FuncData
 f_c:Addr
 fd_c:FuncData
 f_b:Addr
 fd_b:FuncData
 f_i:Addr
 fd_i:FuncData
 f_7:Addr
 fd_7:FuncData
 f_I:Addr
 fd_I:FuncData
 f_8:Addr
 fd_8:FuncData
 f_9:Addr
 fd_9:FuncData
 f_z:Addr
 fd_z:FuncData
structure DfM (K:Frag) (C:Addr) (x q:Str) (st:Stmt) (ps:List Str) (f:Addr) (fd:FuncData):Prop where
 F:Fun K x q st f fd
 b:Binds K fd ps []
 mt:qic K C x f
structure Txt (K:Frag) (mg:Str->Option Value) (a:Ad):Prop where
 d_J:Df K mg "is_number" Jg ["thing"] a.f_J a.fd_J
 d_f:Df K mg "is_whole" qap ["thing","low","high"] a.f_f a.fd_f
 d_n:Df K mg "is_moment" Jh ["thing"] a.f_n a.fd_n
 d_K:Df K mg "is_minutes" jF ["thing"] a.f_K a.fd_K
 d_o:Df K mg "is_name" qbz ["thing"] a.f_o a.fd_o
 d_L:Df K mg "check_name" jH ["thing"] a.f_L a.fd_L
 d_A:Df K mg "check_moment" ZA ["thing"] a.f_A a.fd_A
 d_M:Df K mg "check_parts" Z0 ["parts"] a.f_M a.fd_M
 d_p:Df K mg "is_key" qcW ["thing","keyed"] a.f_p a.fd_p
 d_N:Df K mg "is_row" qcV ["thing","widest"] a.f_N a.fd_N
 d_O:Df K mg "may_stand" Jf ["rows","place"] a.f_O a.fd_O
 d_P:Df K mg "check_rows" jG ["rows","most","widest"] a.f_P a.fd_P
 d_B:Df K mg "number_at" Je ["rows","moment"] a.f_B a.fd_B
 d_Q:Df K mg "shortest_rows" Q7 ["rows"] a.f_Q a.fd_Q
 d_R:Df K mg "summed" qcU ["one","other"] a.f_R a.fd_R
 d_S:Df K mg "differences" ZZ ["one","other"] a.f_S a.fd_S
 d_T:Df K mg "first_unlike" Zy ["one","other"] a.f_T a.fd_T
 d_e:Df K mg "both_told" Ji ["one","other"] a.f_e a.fd_e
 d_g:Df K mg "check_many" jI ["many","most"] a.f_g a.fd_g
 d_U:Df K mg "check_tables" Zz ["one","other"] a.f_U a.fd_U
 d_C:Df K mg "parts_of" qao ["log","name"] a.f_C a.fd_C
 d_q:Df K mg "parts_together" QG ["one","other","name"] a.f_q a.fd_q
 d_V:Df K mg "check_together" QI ["one","other"] a.f_V a.fd_V
 d_W:Df K mg "entry_together" QH ["one","other","name"] a.f_W a.fd_W
 d_X:Df K mg "put_together" Zx ["one","other"] a.f_X a.fd_X
 d_Y:Df K mg "_law_cell" qeA ["_law_script","_law_k"] a.f_Y a.fd_Y
 d_Z:Df K mg "_law_row" qgD ["_law_cell_here","_law_sizes"] a.f_Z a.fd_Z
 d_0:Df K mg "_law_word" qex ["_law_k"] a.f_0 a.fd_0
 d_D:Df K mg "_law_tables" qbB ["_law_xs","_law_rows"] a.f_D a.fd_D
 d_E:Df K mg "_law_entry" qcZ ["_law_k","_law_places_here","_law_many"] a.f_E a.fd_E
 d_F:Df K mg "_law_log" qgE ["_law_tables_here","_law_entries","_law_bonds"] a.f_F a.fd_F
 d_G:Df K mg "_law_shift" qcX ["_law_rows","_law_moment"] a.f_G a.fd_G
 d_1:Df K mg "_law_unlike" qbA ["_law_one","_law_other"] a.f_1 a.fd_1
 d_l:Df K mg "_law_places" qbC ["_law_one","_law_other"] a.f_l a.fd_l
 d_h:Df K mg "_law_many_parts" Z3 ["_law_entry_here"] a.f_h a.fd_h
 d_2:Df K mg "_law_due" qgF ["_law_one","_law_other","_law_bonds"] a.f_2 a.fd_2
 d_H:Df K mg "_law_asked" qc0 ["_law_one","_law_other"] a.f_H a.fd_H
 d_d:Df K mg "_law_size" qey ["_law_which","_law_number","_law_some"] a.f_d a.fd_d
 d_3:Df K mg "_law_pair" qez ["_law_xs"] a.f_3 a.fd_3
 d_4:Df K mg "_law_right" qcY ["_law_xs"] a.f_4 a.fd_4
 d_aa:Df K mg "law" qiK ["_law_script"] a.f_aa a.fd_aa
 d_r:DfM K a.c_Entry "__init__" "Entry.__init__" jN ["self","name"] a.f_r a.fd_r
 d_m:DfM K a.c_Entry "places" "Entry.places" ZD ["self"] a.f_m a.fd_m
 d_s:DfM K a.c_Within "__init__" "Within.__init__" Z1 ["self","name","low","high"] a.f_s a.fd_s
 d_5:DfM K a.c_At "__init__" "At.__init__" qbE ["self","name","moment"] a.f_5 a.fd_5
 d_x:DfM K a.c_Joint "__init__" "Joint.__init__" jM ["self","name","parts"] a.f_x a.fd_x
 d_t:DfM K a.c_Joint "parts" "Joint.parts" Z4 ["self"] a.f_t a.fd_t
 d_6:DfM K a.c_Joint "places" "Joint.places" ZC ["self"] a.f_6 a.fd_6
 d_y:DfM K a.c_Log "__init__" "Log.__init__" qaq ["self"] a.f_y a.fd_y
 d_u:DfM K a.c_Log "clock" "Log.clock" Jm ["self","place","table"] a.f_u a.fd_u
 d_v:DfM K a.c_Log "put" "Log.put" qbD ["self","entry"] a.f_v a.fd_v
 d_w:DfM K a.c_Log "bind" "Log.bind" qar ["self","later","earlier","minutes"] a.f_w a.fd_w
 d_j:DfM K a.c_Log "check_entry" "Log.check_entry" Qm ["self","name"] a.f_j a.fd_j
 d_a:DfM K a.c_Log "names" "Log.names" Jk ["self"] a.f_a a.fd_a
 d_k:DfM K a.c_Log "entry" "Log.entry" Jl ["self","name"] a.f_k a.fd_k
 d_c:DfM K a.c_Log "bonds" "Log.bonds" Jn ["self"] a.f_c a.fd_c
 d_b:DfM K a.c_Log "places" "Log.places" jL ["self"] a.f_b a.fd_b
 d_i:DfM K a.c_Log "table" "Log.table" Jj ["self","place"] a.f_i a.fd_i
 d_7:DfM K a.c_Table "__init__" "Table.__init__" jK ["self","rows"] a.f_7 a.fd_7
 d_I:DfM K a.c_Table "rows" "Table.rows" jJ ["self"] a.f_I a.fd_I
 d_8:DfM K a.c_TooMany "__init__" "TooMany.__init__" ZB ["self","many"] a.f_8 a.fd_8
 d_9:DfM K a.c_Unlike "__init__" "Unlike.__init__" Z2 ["self","place","moment"] a.f_9 a.fd_9
 d_z:DfM K a.c_LogError "__init__" "LogError.__init__" Q8 ["self","text"] a.f_z a.fd_z
 g_Entry:mg "Entry"=some (.ref a.c_Entry)
 cl_Entry:Cls K a.c_Entry
 M_Entry:Mk K a.c_Entry a.f_r
 n_Entry_name:NoAttr K a.c_Entry "name"
 g_Within:mg "Within"=some (.ref a.c_Within)
 cl_Within:Cls K a.c_Within
 M_Within:Mk K a.c_Within a.f_s
 n_Within_low:NoAttr K a.c_Within "low"
 n_Within_high:NoAttr K a.c_Within "high"
 n_Within_name:NoAttr K a.c_Within "name"
 g_At:mg "At"=some (.ref a.c_At)
 cl_At:Cls K a.c_At
 M_At:Mk K a.c_At a.f_5
 n_At_low:NoAttr K a.c_At "low"
 n_At_high:NoAttr K a.c_At "high"
 n_At_name:NoAttr K a.c_At "name"
 g_Joint:mg "Joint"=some (.ref a.c_Joint)
 cl_Joint:Cls K a.c_Joint
 M_Joint:Mk K a.c_Joint a.f_x
 n_Joint_kept_parts:NoAttr K a.c_Joint "kept_parts"
 n_Joint_name:NoAttr K a.c_Joint "name"
 g_Log:mg "Log"=some (.ref a.c_Log)
 cl_Log:Cls K a.c_Log
 M_Log:Mk K a.c_Log a.f_y
 n_Log_tables:NoAttr K a.c_Log "tables"
 n_Log_entries:NoAttr K a.c_Log "entries"
 n_Log_bound:NoAttr K a.c_Log "bound"
 g_Table:mg "Table"=some (.ref a.c_Table)
 cl_Table:Cls K a.c_Table
 M_Table:Mk K a.c_Table a.f_7
 n_Table_kept:NoAttr K a.c_Table "kept"
 n_len:mg "len"=none
 n_min:mg "min"=none
 n_isinstance:mg "isinstance"=none
 n_range:mg "range"=none
 n_enumerate:mg "enumerate"=none
 n_int:mg "int"=none
 n_bool:mg "bool"=none
 n_str:mg "str"=none
 n_list:mg "list"=none
 n_tuple:mg "tuple"=none
 n_sorted:mg "sorted"=none
 n_set:mg "set"=none
 n_all:mg "all"=none
 g_LAST:∃ t,mg "LAST"=some (.int 1000000000 t)
 g_MOST_MINUTES:∃ t,mg "MOST_MINUTES"=some (.int 2000000001 t)
 g_LONGEST_NAME:∃ t,mg "LONGEST_NAME"=some (.int 8 t)
 g_MOST_PARTS:∃ t,mg "MOST_PARTS"=some (.int 8 t)
 g_MOST_PLACES:∃ t,mg "MOST_PLACES"=some (.int 6 t)
 g_MOST_ENTRIES:∃ t,mg "MOST_ENTRIES"=some (.int 60 t)
 g_MOST_BONDS:∃ t,mg "MOST_BONDS"=some (.int 100 t)
 g_MOST_ROWS:∃ t,mg "MOST_ROWS"=some (.int 21 t)
 g_WIDEST_SHIFT:∃ t,mg "WIDEST_SHIFT"=some (.int 2880 t)
 n_ValueError:mg "ValueError"=none
 g_LogError:mg "LogError"=some (.ref a.c_LogError)
 g_NoTable:mg "NoTable"=some (.ref a.c_NoTable)
 g_TooMany:mg "TooMany"=some (.ref a.c_TooMany)
 g_NoMoment:mg "NoMoment"=some (.ref a.c_NoMoment)
 g_NoName:mg "NoName"=some (.ref a.c_NoName)
 g_NoPlace:mg "NoPlace"=some (.ref a.c_NoPlace)
 g_NoEntry:mg "NoEntry"=some (.ref a.c_NoEntry)
 g_Taken:mg "Taken"=some (.ref a.c_Taken)
 g_NoMinutes:mg "NoMinutes"=some (.ref a.c_NoMinutes)
 g_Unlike:mg "Unlike"=some (.ref a.c_Unlike)
 xl_LogError:xIn K a.c_LogError=true
 ci_LogError:qgx K a.c_LogError a.f_z
 X_TooMany:XMk K a.c_TooMany a.f_8
 up_TooMany:mroIn K a.c_TooMany (.ref a.c_LogError)=some true
 n_TooMany_many:NoAttr K a.c_TooMany "many"
 X_Unlike:XMk K a.c_Unlike a.f_9
 up_Unlike:mroIn K a.c_Unlike (.ref a.c_LogError)=some true
 n_Unlike_place:NoAttr K a.c_Unlike "place"
 n_Unlike_moment:NoAttr K a.c_Unlike "moment"
 is_TooMany_TooMany:qce K a.c_TooMany (.ref a.c_TooMany)=some true
 is_TooMany_Unlike:qce K a.c_TooMany (.ref a.c_Unlike)=some false
 is_Unlike_TooMany:qce K a.c_Unlike (.ref a.c_TooMany)=some false
 is_Unlike_Unlike:qce K a.c_Unlike (.ref a.c_Unlike)=some true
 i_Within_places:qic K a.c_Within "places" a.f_m
 i_At_places:qic K a.c_At "places" a.f_m
 ci_Entry:qgx K a.c_Entry a.f_r
 ci_Within:qgx K a.c_Within a.f_s
 mr_Entry:XMro K a.c_Entry [some a.c_Entry,none]
 io_Entry:InsF K a.c_Entry
 mr_Within:XMro K a.c_Within [some a.c_Within,some a.c_Entry,none]
 io_Within:InsF K a.c_Within
 mr_At:XMro K a.c_At [some a.c_At,some a.c_Within,some a.c_Entry,none]
 io_At:InsF K a.c_At
 mr_Joint:XMro K a.c_Joint [some a.c_Joint,some a.c_Entry,none]
 io_Joint:InsF K a.c_Joint
 mr_Log:XMro K a.c_Log [some a.c_Log,none]
 io_Log:InsF K a.c_Log
 mr_Table:XMro K a.c_Table [some a.c_Table,none]
 io_Table:InsF K a.c_Table
 t_Entry:qg8 K a.c_Entry
 t_Within:qg8 K a.c_Within
 t_At:qg8 K a.c_At
 t_Joint:qg8 K a.c_Joint
 t_Log:qg8 K a.c_Log
 t_Table:qg8 K a.c_Table
 ndc:([a.c_Entry,a.c_Within,a.c_At,a.c_Joint,a.c_Log,a.c_Table]:List Addr).Nodup
theorem qhP {α β:Type}{f:α->β}{xs:List α}{i:Nat}{y:β} (h:(xs.map f)[i]?=some y):∃ x,xs[i]?=some x∧y=f x:=by
 rw[List.getElem?_map]at h
 cases e:xs[i]? with
 | none=>rw[e]at h;cases h
 | some x=>rw[e]at h;exact⟨x,rfl,(Option.some.inj h).symm⟩
def Asc (rows:List (Int×Int)):Prop:=rows.Pairwise fun a b=>a.1 < b.1
def g2 (p:Int×Int):List Int:=[p.1,p.2]
abbrev pr:Int×Int->List V:=fun p=>(g2 p).map V.int
structure Good (rows:List (Int×Int)):Prop where
 few:rows.length≤21
 fst:∃ n,rows.head?=some (0,n)
 asc:Asc rows
 ok:∀ r∈rows,0≤r.1∧r.1≤1000000000∧-2880≤r.2∧r.2≤2880
theorem qgw {α:Type}{xs:List α}{x:α} (h:xs.getLast?=some x):atI xs (-1)=some x:=by
 have hne:0 < xs.length:=List.length_pos_iff.mpr (fun z=>by rw[z]at h;cases h);unfold atI ixN;rw[if_neg (by decide),if_pos (by omega)];show xs[((-1:Int)+(xs.length:Int)).toNat]?=_;rw[tn_ xs.length,← List.getLast?_eq_getElem?];exact h
inductive qkw (H:Hp) (q:Addr) (rows:List (Int×Int)):Prop
 | mk (zs:_) (h1:H q=some (.lst zs)) (h2:TupL pr H zs rows):qkw H q rows
def Rs (H:Hp) (q:Addr) (rows:List (Int×Int)):Prop:=qkw H q rows
theorem qja {l:List Addr} (n:l.Nodup) {i j:Nat}{x y:Addr} (hi:l[i]?=some x) (hj:l[j]?=some y) (h:i≠j):x≠y:=by
 intro e;subst e;obtain⟨h1,e1⟩:=List.getElem?_eq_some_iff.mp hi;obtain⟨h2,e2⟩:=List.getElem?_eq_some_iff.mp hj;exact h ((List.getElem_inj n).mp (e1.trans e2.symm))
theorem qi {H G:Hp}{l:Addr}{o:HO} (h:upd H l o=G) (f:H l=none):Same H G∧G l=some o:=by
 subst h;exact⟨Same.new o f,qc⟩
theorem qhu {i:Nat}{v:V}{u:TS}{D:qd7}{σ:L2.St}{H:Hp} (h:u D (σ.set i (some v)) H):qjK (qjF (tC v) (qgo i)) u D σ H:=h
def sgn (c:Nat):Bool:=(!decide ((⟨#[c]⟩:Str).cps.toList < ("a":Str).cps.toList)) && (!decide (("z":Str).cps.toList < (⟨#[c]⟩:Str).cps.toList))
def zV:V->Bool
 | .str x=>decide (1≤x.length) && decide (x.length≤8) && x.cps.toList.all sgn
 | _=>false
theorem qeg {l:List Nat}{i c:Nat} (h:l[i]?=some c):l.take (i+1)=l.take i++[c]:=by
 rw[List.take_add_one,h];rfl
theorem QL:bootBuiltins "ValueError"=some (.type "ValueError"):=by decide +kernel
theorem Ze:bootBuiltins "sorted"=some (.builtin "sorted"):=by decide +kernel
theorem qhq {n:Nat} (h:n≤2000):n≤sizeLine:=Nat.le_trans h (by decide)
inductive Zk (vs:List V) (H:Hp) (Q:VK):Prop
 | mk (i:_) (h1:vs=[.int i]) (h2:Q (.bl true) H):Zk vs H Q
def jy:Sp:=fun vs H Q _=>Zk vs H Q
inductive ZP (vs:List V) (H:Hp) (Q:VK):Prop
 | mk (i lo hi:Int) (h1:vs=[.int i,.int lo,.int hi]) (h2:lo≤i) (h3:i≤hi) (h4:Q (.bl true) H):ZP vs H Q
def Qs:Sp:=fun vs H Q _=>ZP vs H Q
inductive Zl (vs:List V) (H:Hp) (Q:VK):Prop
 | mk (i:Int) (h1:vs=[.int i]) (h2:0≤i) (h3:i≤1000000000) (h4:Q (.bl true) H):Zl vs H Q
def QP:Sp:=fun vs H Q _=>Zl vs H Q
inductive jz (vs:List V) (H:Hp) (Q:VK):Prop
 | mk (x:Str) (h1:vs=[.str x]) (h2:zV (.str x)=true) (h3:∀ H',Same H H'->Q (.bl true) H'):jz vs H Q
def jj:Sp:=fun vs H Q _=>jz vs H Q
inductive QU (vs:List V) (H:Hp) (Q:VK):Prop
 | mk (x:Str) (h1:vs=[.str x]) (h2:zV (.str x)=true) (h3:∀ H',Same H H'->Q .non H'):QU vs H Q
def ZS:Sp:=fun vs H Q _=>QU vs H Q
inductive Qi (vs:List V) (H:Hp) (Q:VK):Prop
 | mk (i:Int) (h1:vs=[.int i]) (h2:0≤i) (h3:i≤1000000000) (h4:Q .non H):Qi vs H Q
def QV:Sp:=fun vs H Q _=>Qi vs H Q
inductive QQ (vs:List V) (H:Hp) (Q:VK):Prop
 | mk (i:Int) (h1:vs=[.int i]) (h2:-2000000000≤i) (h3:i≤2000000001) (h4:Q (.bl true) H):QQ vs H Q
def ZQ:Sp:=fun vs H Q _=>QQ vs H Q
inductive z0 (K:Frag) (vs:List V) (H:Hp) (Q:VK):Prop
 | mk (ea:Addr) (x:Str) (C:Addr) (dx:Option Addr) (tb:Value) (h1:vs=[.ref ea,.str x]) (h2:H ea=some (.ext (ExO ea C dx tb))) (h3:xIn K C=true) (h4:Q .non H):z0 K vs H Q
def zJ (K:Frag):Sp:=fun vs H Q _=>z0 K vs H Q
inductive Qj (a:Ad) (vs:List V) (H:Hp) (Q:VK):Prop
 | mk (ea:Addr) (v:V) (h1:vs=[.ref ea,v]) (h2:H ea=some (.ext (ExO ea a.c_TooMany none .none))) (h3:∀ dx,H dx=none->dx≠ea->Q .non (upd (upd H ea (.ext (ExO ea a.c_TooMany (some dx) .none))) dx (.xd [("many",v)]))):Qj a vs H Q
def QY (a:Ad):Sp:=fun vs H Q _=>Qj a vs H Q
inductive QD (a:Ad) (vs:List V) (H:Hp) (Q:VK):Prop
 | mk (ea:Addr) (v u:V) (h1:vs=[.ref ea,v,u]) (h2:H ea=some (.ext (ExO ea a.c_Unlike none .none))) (h3:∀ dx,H dx=none->dx≠ea->Q .non (upd (upd (upd H ea (.ext (ExO ea a.c_Unlike (some dx) .none))) dx (.ext (XdE dx [("place",v)]))) dx (.xd [("moment",u),("place",v)]))):QD a vs H Q
def Zp (a:Ad):Sp:=fun vs H Q _=>QD a vs H Q
inductive ECl (a:Ad):Addr->Prop
 | entry_:ECl a a.c_Entry
 | within_:ECl a a.c_Within
 | at_:ECl a a.c_At
 | joint_:ECl a a.c_Joint
theorem ECl.cl {K:Frag}{mg:Str->Option Value}{a:Ad} (T:Txt K mg a) {C:Addr} (h:ECl a C):Cls K C∧NoAttr K C "name":=by
 cases h with
 | entry_=>exact⟨T.cl_Entry,T.n_Entry_name⟩
 | within_=>exact⟨T.cl_Within,T.n_Within_name⟩
 | at_=>exact⟨T.cl_At,T.n_At_name⟩
 | joint_=>exact⟨T.cl_Joint,T.n_Joint_name⟩
abbrev fsW (nm:Str) (lo hi:Int):List (Str×V):=[("name",.str nm),("low",.int lo),("high",.int hi)]
abbrev fsJ (nm:Str) (l:Addr):List (Str×V):=[("name",.str nm),("kept_parts",.ref l)]
inductive Wt (a:Ad) (H:Hp) (x:Addr):Str->Prop
 | within {dx:Addr}{nm:Str}{lo hi:Int}:H x=some (.ins a.c_Within dx (fsW nm lo hi))->Wt a H x nm
 | at_ {dx:Addr}{nm:Str}{m:Int}:H x=some (.ins a.c_At dx (fsW nm m m))->Wt a H x nm
theorem Wt.same {a:Ad}{H H':Hp} (s:Same H H') {x:Addr}{nm:Str} (h:Wt a H x nm):Wt a H' x nm:=by
 cases h with
 | within e=>exact .within (s _ _ e)
 | at_ e=>exact .at_ (s _ _ e)
structure Et where
 nm:Str
 x:Addr
 j:Option (Addr×List Addr)
def Et.k (e:Et):Nat:=match e.j with
 | none=>1
 | some (_,ps)=>ps.length
inductive EnT (a:Ad) (H:Hp):Et->Prop
 | at_ {dx x:Addr}{nm:Str}{m:Int}:H x=some (.ins a.c_At dx (fsW nm m m))->EnT a H ⟨nm,x,none⟩
 | jn {dx x l:Addr}{nm:Str}{ps:List Addr}:H x=some (.ins a.c_Joint dx (fsJ nm l))->H l=some (.lst (ps.map V.ref))->0 < ps.length->ps.length≤8->(∀ p∈ps,∃ n,Wt a H p n)->EnT a H ⟨nm,x,some (l,ps)⟩
theorem EnT.same {a:Ad}{H H':Hp} (s:Same H H') {e:Et} (h:EnT a H e):EnT a H' e:=by
 cases h with
 | at_ e=>exact .at_ (s _ _ e)
 | jn e1 e2 h0 h8 h=>exact .jn (s _ _ e1) (s _ _ e2) h0 h8 fun p m=>let ⟨n,w⟩:=h p m;⟨n,w.same s⟩
theorem EnT.k {a:Ad}{H:Hp}{e:Et} (h:EnT a H e):0 < e.k∧e.k≤8:=by
 cases h with
 | at_ e=>exact⟨Nat.le_of_ble_eq_true rfl,Nat.le_of_ble_eq_true rfl⟩
 | jn e1 e2 h0 h8 h=>exact⟨h0,h8⟩
theorem zH {H H':Hp}{x dx C:Addr} (h1:H x=none) (h2:H dx=none) (b:But x (upd (upd H dx (.own x)) x (.ins C dx [])) H'):Same H H':=fun c o e=>by
 have n1:=qj e h1;have n2:=qj e h2;exact b c o (by rw[qg n1,qg n2];exact e) n1
inductive Q6 (a:Ad) (vs:List V) (H:Hp) (Q:VK):Prop
 | mk (x C dx:Addr) (nm:Str) (h1:vs=[.ref x,.str nm]) (h2:H x=some (.ins C dx [])) (h3:zV (.str nm)=true) (h4:ECl a C) (h5:∀ H',But x H H'->H' x=some (.ins C dx [("name",.str nm)])->Q .non H'):Q6 a vs H Q
def Qu (a:Ad):Sp:=fun vs H Q _=>Q6 a vs H Q
inductive QC (a:Ad) (vs:List V) (H:Hp) (Q:VK):Prop
 | mk (x C dx:Addr) (nm:Str) (lo hi:Int) (h1:vs=[.ref x,.str nm,.int lo,.int hi]) (h2:H x=some (.ins C dx [])) (h3:zV (.str nm)=true) (h4:(0≤lo∧lo≤1000000000)) (h5:(0≤hi∧hi≤1000000000)) (h6:(C=a.c_Within∨C=a.c_At)) (h7:∀ H',But x H H'->H' x=some (.ins C dx (fsW nm lo hi))->Q .non H'):QC a vs H Q
def z9 (a:Ad):Sp:=fun vs H Q _=>QC a vs H Q
inductive jE (a:Ad) (vs:List V) (H:Hp) (Q:VK):Prop
 | mk (x dx:Addr) (nm:Str) (m:Int) (h1:vs=[.ref x,.str nm,.int m]) (h2:H x=some (.ins a.c_At dx [])) (h3:zV (.str nm)=true) (h4:(0≤m∧m≤1000000000)) (h5:∀ H',But x H H'->H' x=some (.ins a.c_At dx (fsW nm m m))->Q .non H'):jE a vs H Q
def qak (a:Ad):Sp:=fun vs H Q _=>jE a vs H Q
inductive QB (a:Ad) (vs:List V) (H:Hp) (Q:VK):Prop
 | mk (q:Addr) (ps:List Addr) (h1:vs=[.ref q]) (h2:H q=some (.lst (ps.map V.ref))) (h3:0 < ps.length) (h4:ps.length≤8) (h5:(∀ p∈ps,∃ n,Wt a H p n)) (h6:Q .non H):QB a vs H Q
def Zn (a:Ad):Sp:=fun vs H Q _=>QB a vs H Q
inductive Q5 (a:Ad) (vs:List V) (H:Hp) (Q:VK):Prop
 | mk (x dx q:Addr) (nm:Str) (ps:List Addr) (h1:vs=[.ref x,.str nm,.ref q]) (h2:H x=some (.ins a.c_Joint dx [])) (h3:zV (.str nm)=true) (h4:H q=some (.lst (ps.map V.ref))) (h5:0 < ps.length) (h6:ps.length≤8) (h7:(∀ p∈ps,∃ n,Wt a H p n)) (h8:∀ (l:Addr) (H':Hp),H l=none->But x H H'->H' x=some (.ins a.c_Joint dx (fsJ nm l))->H' l=some (.lst (ps.map V.ref))->Q .non H'):Q5 a vs H Q
def Qt (a:Ad):Sp:=fun vs H Q _=>Q5 a vs H Q
inductive QF (a:Ad) (vs:List V) (H:Hp) (Q:VK):Prop
 | mk (x dx l:Addr) (nm:Str) (ps:List Addr) (h1:vs=[.ref x]) (h2:H x=some (.ins a.c_Joint dx (fsJ nm l))) (h3:H l=some (.lst (ps.map V.ref))) (h4:∀ d,H d=none->Q (.ref d) (upd H d (.lst (ps.map V.ref)))):QF a vs H Q
def Qa (a:Ad):Sp:=fun vs H Q _=>QF a vs H Q
inductive Ql (vs:List V) (H:Hp) (Q:VK):Prop
 | mk (v:V) (h1:vs=[v]) (h2:∀ l,H l=none->Q (.ref l) (upd H l (.lst []))):Ql vs H Q
def zT (a:Ad):Sp:=fun vs H Q _=>Ql vs H Q
inductive Qk (a:Ad) (vs:List V) (H:Hp) (Q:VK):Prop
 | mk (x dx l:Addr) (nm:Str) (ps:List Addr) (h1:vs=[.ref x]) (h2:H x=some (.ins a.c_Joint dx (fsJ nm l))) (h3:H l=some (.lst (ps.map V.ref))) (h4:(∀ p∈ps,∃ n,Wt a H p n)) (h5:∀ (d:Addr) (H':Hp),H d=none->Same H H'->H' d=some (.lst [])->Q (.ref d) H'):Qk a vs H Q
def Q4 (a:Ad):Sp:=fun vs H Q _=>Qk a vs H Q
section
variable {P:Program}{w:World}{K:Frag}{mg:Str->Option Value}{base:Heap}
theorem qbP {a:Ad} (T:Txt K mg a):qx P w K mg base CX0 1 a.f_J a.fd_J ["thing"] jy:=by
 refine T.d_J.F.ok qbr (fun vs H Q E h=>?_) (fun cdv A outer s H vs Q E hr h=>?_)
 · obtain⟨i,rfl,kk⟩:=h;rfl
 · obtain⟨i,rfl,kk⟩:=h;refine⟨_,(qe (qu (qbK (ql Qz (by rfl) T.n_isinstance qr (qa (pv 0) (qa (Za (v:=.ty "int") rfl T.n_int jf rfl) qb))) (qbI (qi1 (ql Qz (by rfl) T.n_isinstance qr (qa (pv 0) (qa (Za (v:=.ty "bool") rfl T.n_bool qd1 rfl) qb)))))))),?_⟩;(try dsimp only [qY,Cx.nox]);refine⟨_,rfl,_,_,_,rfl,(by decide),rfl,true,rfl,qa5 ?_⟩;exact⟨_,rfl,_,_,_,rfl,(by decide),rfl,false,rfl,kk⟩
theorem ZK {a:Ad} (T:Txt K mg a):qx P w K mg base CX0 2 a.f_f a.fd_f ["thing","low","high"] Qs:=by
 have G_J:=qbP (P:=P) (w:=w) (base:=base) T;refine T.d_f.F.ok qcm (fun vs H Q E h=>?_) (fun cdv A outer s H vs Q E hr h=>?_)
 · obtain⟨i,lo,hi,rfl,h1,h2,kk⟩:=h;rfl
 · obtain⟨i,lo,hi,rfl,h1,h2,kk⟩:=h;have h_J:Room (1) _:=hr.mono (by decide);refine⟨_,(qe (qu (qbK (qm G_J h_J rfl T.d_J.m T.d_J.k T.d_J.b .nil qp (qa (pv 0) qb)) (qbI (qdh qdH qdH (pv 1) (pv 0) (pv 2)))))),?_⟩;(try dsimp only [qY,Cx.nox]);refine⟨_,rfl,i,rfl,true,rfl,qa5 ?_⟩;refine⟨_,rfl,_,rfl,_,_,rfl,rfl,_,rfl,jr (fun _=>?_) (fun g=>absurd h1 g)⟩;refine⟨_,rfl,_,_,rfl,rfl,?_⟩;show Q (.bl (decide (i≤hi))) H;rw[decide_eq_true h2];exact kk
theorem jP {a:Ad} (T:Txt K mg a):qx P w K mg base CX0 3 a.f_n a.fd_n ["thing"] QP:=by
 have G_f:=ZK (P:=P) (w:=w) (base:=base) T;refine T.d_n.F.ok qbs (fun vs H Q E h=>?_) (fun cdv A outer s H vs Q E hr h=>?_)
 · obtain⟨i,rfl,h1,h2,kk⟩:=h;rfl
 · obtain⟨i,rfl,h1,h2,kk⟩:=h;have h_f:Room (2) _:=hr.mono (by decide);obtain⟨t_LAST,c_LAST⟩:=T.g_LAST;refine⟨_,(qe (qu (qm G_f h_f rfl T.d_f.m T.d_f.k T.d_f.b .nil qp (qa (pv 0) (qa qd (qa (qQ (v:=.int 1000000000) rfl c_LAST ⟨_,rfl⟩) qb)))))),?_⟩;(try dsimp only [qY,Cx.nox]);exact⟨_,rfl,i,0,1000000000,rfl,h1,h2,kk⟩
theorem qaZ {a:Ad} (T:Txt K mg a):qx P w K mg base CX0 3 a.f_K a.fd_K ["thing"] ZQ:=by
 have G_f:=ZK (P:=P) (w:=w) (base:=base) T;refine T.d_K.F.ok qaL (fun vs H Q E h=>?_) (fun cdv A outer s H vs Q E hr h=>?_)
 · obtain⟨i,rfl,h1,h2,kk⟩:=h;rfl
 · obtain⟨i,rfl,h1,h2,kk⟩:=h;have h_f:Room (2) _:=hr.mono (by decide);obtain⟨t_MOST_MINUTES,c_MOST_MINUTES⟩:=T.g_MOST_MINUTES;refine⟨_,(qe (qu (qm G_f h_f rfl T.d_f.m T.d_f.k T.d_f.b .nil qp (qa (pv 0) (qa (qA QJ qd (qQ (v:=.int 2000000001) rfl c_MOST_MINUTES ⟨_,rfl⟩)) (qa (qQ (v:=.int 2000000001) rfl c_MOST_MINUTES ⟨_,rfl⟩) qb)))))),?_⟩;(try dsimp only [qY,Cx.nox]);exact⟨_,rfl,_,_,rfl,rfl,i,1 - 2000000001,2000000001,rfl,(by omega),(by omega),kk⟩
theorem qav {a:Ad} (T:Txt K mg a):qx P w K mg base CX0 1 a.f_o a.fd_o ["thing"] jj:=by
 refine T.d_o.F.ok qdA (fun vs H Q E h=>?_) (fun cdv A outer s H vs Q E hr h=>?_)
 · obtain⟨x,rfl,ok,k⟩:=h;rfl
 · obtain⟨x,rfl,ok,k⟩:=h;obtain⟨t_LONGEST_NAME,c_LONGEST_NAME⟩:=T.g_LONGEST_NAME
   refine⟨_,(qf (qN (PW.pt (qaT (zu (zd (ql Qz (by rfl) T.n_isinstance qr (qa (pv 0) (qa (Za (v:=.ty "str") rfl T.n_str qb5 rfl) qb))))) (Z5 (zu (qf3 qdH qdH qd (ql qB (by rfl) T.n_len qv (qa (pv 0) qb)) (qQ (v:=.int 8) rfl c_LONGEST_NAME ⟨_,rfl⟩))))))
       (qe (qu qdG))
       qw)
     (qe (qu (ql (qfD rfl) (by rfl) T.n_all qfH (qa (zA rfl (CompOk.def ["sign"] [none]) (qiZ (pv 0)) (fun _ _ _ _ _=>(qt (i:=0) (show List.Nodup (["sign"]:List Str) by decide +kernel) rfl (Or.inl rfl))) (fun _ _ _ _ _=>zU) (fun _ _ _ _ _=>(qdh qbM qbM zg (pv 0) zg))) qb))))),?_⟩
   try dsimp only [qY,Cx.nox]
   obtain⟨⟨l1,l8⟩,al⟩:(1≤x.length∧x.length≤8)∧x.cps.toList.all sgn=true:=by
     simp only[zV,Bool.and_eq_true,decide_eq_true_eq]at ok;exact ok
   have hx:x.length=x.cps.size:=rfl;refine⟨_,rfl,_,_,_,rfl,(by decide),rfl,true,rfl,Qw rfl ?_⟩;refine⟨_,rfl,_,_,rfl,⟨qhq (by omega),rfl⟩,_,_,rfl,rfl,_,rfl,?_⟩;refine jr (fun h2=>?_) (fun h2=>absurd (by omega) h2);refine⟨_,_,rfl,rfl,_,rfl,?_⟩;refine jX (fun h3=>absurd (by omega) h3) (fun h3=>?_);refine⟨_,rfl,x,rfl,fun D fD=>?_⟩;refine qgt (x:=x) (D:=D) (fun i σ H2=>∃ (s0:Option V) (bs:List Bool),σ=[s0]∧Same H H2∧H2 D=some (.lst (bs.map V.bl))∧bs=(x.cps.toList.take i).map sgn) ⟨none,[],rfl,Same.new _ fD,qc,rfl⟩ ?_ ?_
   · rintro i c σ H2 hc ⟨s0,bs,rfl,s2,hD,hb⟩;obtain⟨hi,_⟩:=Array.getElem?_eq_some_iff.mp hc;have hcl:x.cps.toList[i]?=some c:=by simpa using hc
     have hbl:bs.length≤i:=by rw[hb,List.length_map,List.length_take];omega
     refine⟨_,rfl,_,_,rfl,rfl,_,rfl,?_⟩
     have fin:∀ v:Bool,v=sgn c->∃ ys,H2 D=some (.lst ys)∧ys.length < sizeLine∧∃ (s0:Option V) (bs:List Bool),[some (V.str ⟨#[c]⟩)]=[s0]∧Same H (upd H2 D (.lst (ys++[.bl v])))∧(upd H2 D (.lst (ys++[.bl v]))) D=some (.lst (bs.map V.bl))∧bs=(x.cps.toList.take (i+1)).map sgn:=fun v e =>
       ⟨_,hD,qD (by rw[List.length_map];omega),_,bs++[v],rfl,(fun b o z=>by rw[qg (qj z fD)];exact s2 b o z),by rw[qc,List.map_append];rfl,by rw[qeg hcl,List.map_append,← hb,e];rfl⟩
     refine qkO (fun h4=>?_) (fun h4=>?_)
     · refine⟨_,_,rfl,rfl,fin _ ?_⟩;unfold sgn;rw[h4,Bool.true_and]
     · refine fin _ ?_;unfold sgn;rw[h4,Bool.false_and]
   · rintro σ H2 ⟨s0,bs,rfl,s2,hD,hb⟩;refine⟨D,bs,rfl,SqL.of hD,?_⟩
     have e:bs.all id=true:=by
       rw[hb,List.all_map];refine List.all_eq_true.mpr fun c m=>?_;exact List.all_eq_true.mp al c (List.mem_of_mem_take m)
     first
       | (rw[e];exact k H2 s2)
       | (have:=k H2 s2;simpa[e] using this)
theorem qa1 {a:Ad} (T:Txt K mg a):qx P w K mg base CX0 2 a.f_L a.fd_L ["thing"] ZS:=by
 have G_o:=qav (P:=P) (w:=w) (base:=base) T;refine T.d_L.F.ok qaM (fun vs H Q E h=>?_) (fun cdv A outer s H vs Q E hr h=>?_)
 · obtain⟨x,rfl,ok,k⟩:=h;rfl
 · obtain⟨x,rfl,ok,k⟩:=h;have h_o:Room (1) _:=hr.mono (by decide)
   refine⟨_,(qe (qN (zu (zd (qm G_o h_o rfl T.d_o.m T.d_o.k T.d_o.b .nil qp (qa (pv 0) qb))))
       (qe qP)
       qw)),?_⟩
   try dsimp only [qY,Cx.nox]
   exact⟨_,rfl,x,rfl,ok,fun H1 S1=>⟨true,rfl,Qw rfl (k H1 S1)⟩⟩
theorem Jv {a:Ad} (T:Txt K mg a):qx P w K mg base CX0 4 a.f_A a.fd_A ["thing"] QV:=by
 have G_n:=jP (P:=P) (w:=w) (base:=base) T;refine T.d_A.F.ok Jb (fun vs H Q E h=>?_) (fun cdv A outer s H vs Q E hr h=>?_)
 · obtain⟨i,rfl,h1,h2,k⟩:=h;rfl
 · obtain⟨i,rfl,h1,h2,k⟩:=h;have h_n:Room (3) _:=hr.mono (by decide)
   refine⟨_,(qe (qN (zu (zd (qm G_n h_n rfl T.d_n.m T.d_n.k T.d_n.b .nil qp (qa (pv 0) qb))))
       (qe qP)
       qw)),?_⟩
   try dsimp only [qY,Cx.nox]
   exact⟨_,rfl,i,rfl,h1,h2,true,rfl,Qw rfl k⟩
theorem QK {a:Ad} (T:Txt K mg a):qx P w K mg base CX0 1 a.f_z a.fd_z ["self","text"] (zJ K):=by
 refine T.d_z.F.ok jV (fun vs H Q E h=>?_) (fun cdv A outer s H vs Q E hr h=>?_)
 · obtain⟨ea,x,C,dx,tb,rfl,he,xi,kk⟩:=h;rfl
 · obtain⟨ea,x,C,dx,tb,rfl,he,xi,kk⟩:=h;refine⟨_,(qe (qF (qf7 rfl T.n_ValueError QL (qa (pv 0) (qa (pv 1) qb))))),?_⟩;(try dsimp only [qY,Cx.nox]);exact⟨_,rfl,_,rfl,ea,C,dx,tb,_,rfl,Nat.le_of_ble_eq_true rfl,he,xi,kk⟩
theorem Jw {a:Ad} (T:Txt K mg a):qx P w K mg base CX0 3 a.f_8 a.fd_8 ["self","many"] (QY a):=by
 have G_z:=QK (P:=P) (w:=w) (base:=base) T;refine T.d_8.F.ok Jc (fun vs H Q E h=>?_) (fun cdv A outer s H vs Q E hr h=>?_)
 · obtain⟨ea,v,rfl,he,kk⟩:=h;rfl
 · obtain⟨ea,v,rfl,he,kk⟩:=h;have h_z:Room (1+1) _:=hr.mono (by decide)
   refine⟨_,(qf (qF (Z6 T.ci_LogError G_z (h_z.mono (by decide)) T.d_z.b rfl T.g_LogError (qa (pv 0) (qa zg qb))))
     (qe (qhC (pv 0) (pv 1) rfl))),?_⟩
   try dsimp only [qY,Cx.nox]
   refine⟨_,rfl,ea,_,_,_,_,rfl,he,T.X_TooMany.c.xi,?_⟩;exact⟨_,rfl,_,rfl,ea,_,_,rfl,he,T.X_TooMany.c,T.n_TooMany_many,kk⟩
theorem J1 {a:Ad} (T:Txt K mg a):qx P w K mg base CX0 3 a.f_9 a.fd_9 ["self","place","moment"] (Zp a):=by
 have G_z:=QK (P:=P) (w:=w) (base:=base) T;refine T.d_9.F.ok JW (fun vs H Q E h=>?_) (fun cdv A outer s H vs Q E hr h=>?_)
 · obtain⟨ea,v,u,rfl,he,kk⟩:=h;rfl
 · obtain⟨ea,v,u,rfl,he,kk⟩:=h;have h_z:Room (1+1) _:=hr.mono (by decide)
   refine⟨_,(qf (qF (Z6 T.ci_LogError G_z (h_z.mono (by decide)) T.d_z.b rfl T.g_LogError (qa (pv 0) (qa zg qb))))
     (qf (qf4 (pv 0) (pv 1) rfl)
     (qe (qf5 (pv 0) (pv 2) rfl)))),?_⟩
   try dsimp only [qY,Cx.nox]
   refine⟨_,rfl,ea,_,_,_,_,rfl,he,T.X_Unlike.c.xi,?_⟩;refine⟨_,rfl,_,rfl,ea,_,_,rfl,he,T.X_Unlike.c,T.n_Unlike_place,fun dx fdx ne=>?_⟩;exact⟨_,rfl,_,rfl,ea,_,_,dx,_,rfl,(by rw[qg ne.symm,qc]),qc,Nat.le_of_ble_eq_true rfl,T.X_Unlike.c,T.n_Unlike_moment,kk dx fdx ne⟩
theorem Z9 {a:Ad} (T:Txt K mg a):qx P w K mg base CX0 3 a.f_r a.fd_r ["self","name"] (Qu a):=by
 have G_L:=qa1 (P:=P) (w:=w) (base:=base) T;refine T.d_r.F.ok qaS (fun vs H Q E h=>?_) (fun cdv A outer s H vs Q E hr h=>?_)
 · obtain⟨x,C,dx,nm,rfl,hx,ok,ec,k⟩:=h;rfl
 · obtain⟨x,C,dx,nm,rfl,hx,ok,ec,k⟩:=h;have h_L:Room (2) _:=hr.mono (by decide)
   refine⟨_,(qf (qF (qm G_L h_L rfl T.d_L.m T.d_L.k T.d_L.b .nil qp (qa (pv 1) qb)))
     (qe (jO (pv 0) (pv 1) rfl))),?_⟩
   try dsimp only [qY,Cx.nox]
   obtain⟨cl,na⟩:=ec.cl T;refine⟨_,rfl,nm,rfl,ok,fun H1 S1=>?_⟩;exact⟨_,rfl,_,rfl,x,C,dx,_,rfl,S1 _ _ hx,cl,na,(by decide),k _ (fun b o z nb=>by rw[qg nb];exact S1 b o z) qc⟩
theorem ZF {a:Ad} (T:Txt K mg a):qx P w K mg base CX0 5 a.f_s a.fd_s ["self","name","low","high"] (z9 a):=by
 have G_r:=Z9 (P:=P) (w:=w) (base:=base) T;have G_A:=Jv (P:=P) (w:=w) (base:=base) T;refine T.d_s.F.ok JV (fun vs H Q E h=>?_) (fun cdv A outer s H vs Q E hr h=>?_)
 · obtain⟨x,C,dx,nm,lo,hi,rfl,hx,ok,hlo,hhi,hC,k⟩:=h;rfl
 · obtain⟨x,C,dx,nm,lo,hi,rfl,hx,ok,hlo,hhi,hC,k⟩:=h;have h_r:Room (3+1) _:=hr.mono (by decide);have h_A:Room (4) _:=hr.mono (by decide)
   refine⟨_,(qf (qF (Z6 T.ci_Entry G_r (h_r.mono (by decide)) T.d_r.b rfl T.g_Entry (qa (pv 0) (qa (pv 1) qb))))
     (qf (qF (qm G_A h_A rfl T.d_A.m T.d_A.k T.d_A.b .nil qp (qa (pv 2) qb)))
     (qf (qF (qm G_A h_A rfl T.d_A.m T.d_A.k T.d_A.b .nil qp (qa (pv 3) qb)))
     (qf (jO (pv 0) (pv 2) rfl)
     (qe (jO (pv 0) (pv 3) rfl)))))),?_⟩
   try dsimp only [qY,Cx.nox]
   obtain⟨ec,cl,n2,n3⟩:ECl a C∧Cls K C∧NoAttr K C "low"∧NoAttr K C "high":=by
     rcases hC with rfl|rfl
     · exact⟨.within_,T.cl_Within,T.n_Within_low,T.n_Within_high⟩
     · exact⟨.at_,T.cl_At,T.n_At_low,T.n_At_high⟩
   refine⟨_,rfl,_,rfl,x,C,dx,nm,rfl,hx,ok,ec,fun H1 B1 h1=>?_⟩;refine⟨_,rfl,lo,rfl,hlo.1,hlo.2,?_⟩;refine⟨_,rfl,hi,rfl,hhi.1,hhi.2,?_⟩;refine⟨_,rfl,_,rfl,x,C,dx,_,rfl,h1,cl,n2,(by simp),?_⟩;refine⟨_,rfl,_,rfl,x,C,dx,_,rfl,qc,cl,n3,(Nat.le_of_ble_eq_true rfl),?_⟩;exact k _ ((B1.put _).put _) (by rw[qc];rfl)
theorem qdM {a:Ad} (T:Txt K mg a):qx P w K mg base CX0 7 a.f_5 a.fd_5 ["self","name","moment"] (qak a):=by
 have G_s:=ZF (P:=P) (w:=w) (base:=base) T;refine T.d_5.F.ok qdC (fun vs H Q E h=>?_) (fun cdv A outer s H vs Q E hr h=>?_)
 · obtain⟨x,dx,nm,m,rfl,hx,ok,hm,k⟩:=h;rfl
 · obtain⟨x,dx,nm,m,rfl,hx,ok,hm,k⟩:=h;have h_s:Room (5+1) _:=hr.mono (by decide);refine⟨_,(qe (qF (Z6 T.ci_Within G_s (h_s.mono (by decide)) T.d_s.b rfl T.g_Within (qa (pv 0) (qa (pv 1) (qa (pv 2) (qa (pv 2) qb))))))),?_⟩;(try dsimp only [qY,Cx.nox]);exact⟨_,rfl,_,rfl,_,rfl,_,rfl,x,a.c_At,dx,nm,m,m,rfl,hx,ok,hm,hm,.inr rfl,fun H1 B1 h1=>k H1 B1 h1⟩
end
theorem JF {K:Frag}{mg:Str->Option Value}{a:Ad} (T:Txt K mg a):kitOne K (.ref a.c_Within) (.ref a.c_Entry)=some true:=by
 rw[jq T.mr_Within rfl T.t_Entry];simp
theorem JE {K:Frag}{mg:Str->Option Value}{a:Ad} (T:Txt K mg a):kitOne K (.ref a.c_Within) (.ref a.c_Joint)=some false:=by
 rw[jq T.mr_Within rfl T.t_Joint];simp[qja T.ndc (i:=3) (j:=1) rfl rfl (by decide),qja T.ndc (i:=3) (j:=0) rfl rfl (by decide)]
theorem JH {K:Frag}{mg:Str->Option Value}{a:Ad} (T:Txt K mg a):kitOne K (.ref a.c_At) (.ref a.c_Entry)=some true:=by
 rw[jq T.mr_At rfl T.t_Entry];simp
theorem JG {K:Frag}{mg:Str->Option Value}{a:Ad} (T:Txt K mg a):kitOne K (.ref a.c_At) (.ref a.c_Joint)=some false:=by
 rw[jq T.mr_At rfl T.t_Joint];simp[qja T.ndc (i:=3) (j:=2) rfl rfl (by decide),qja T.ndc (i:=3) (j:=1) rfl rfl (by decide),qja T.ndc (i:=3) (j:=0) rfl rfl (by decide)]
theorem J8 {K:Frag}{mg:Str->Option Value}{a:Ad} (T:Txt K mg a):kitOne K (.ref a.c_Joint) (.ref a.c_Entry)=some true:=by
 rw[jq T.mr_Joint rfl T.t_Entry];simp
theorem J7 {K:Frag}{mg:Str->Option Value}{a:Ad} (T:Txt K mg a):kitOne K (.ref a.c_Joint) (.ref a.c_Joint)=some true:=by
 rw[jq T.mr_Joint rfl T.t_Joint];simp
theorem qio {K:Frag}{mg:Str->Option Value}{a:Ad} (T:Txt K mg a) {H:Hp}{x:Addr}{nm:Str} (en:Wt a H x nm):∃ C,qcd K H (.ref x) (.ref C)∧kitOne K (.ref C) (.ref a.c_Entry)=some true∧kitOne K (.ref C) (.ref a.c_Joint)=some false:=by
 cases en with
 | within hx=>exact⟨_,T.io_Within.ty hx,JF T,JE T⟩
 | at_ hx=>exact⟨_,T.io_At.ty hx,JH T,JG T⟩
section
variable {P:Program}{w:World}{K:Frag}{mg:Str->Option Value}{base:Heap}
theorem J0 {a:Ad} (T:Txt K mg a):qx P w K mg base CX0 1 a.f_M a.fd_M ["parts"] (Zn a):=by
 refine T.d_M.F.ok sc_check_parts (fun vs H Q E h=>?_) (fun cdv A outer s H vs Q E hr h=>?_)
 · obtain⟨q,ps,rfl,hq,h0,h8,en,kk⟩:=h;rfl
 · obtain⟨q,ps,rfl,hq,h0,h8,en,kk⟩:=h;have hU:=hr.units;obtain⟨t_MOST_PARTS,c_MOST_PARTS⟩:=T.g_MOST_PARTS
   refine⟨_,(qf (qN (PW.pt (qaT (zu (zd (ql Qz (by rfl) T.n_isinstance qr (qa (pv 0) (qa (Za (v:=.ty "list") rfl T.n_list zc rfl) qb))))) (Z5 (qy (uEq hU) (ql qB (by rfl) T.n_len qv (qa (pv 0) qb)) qd (qI _)))))
       (qe qP)
       qw)
     (qf (qN (qy qaY (ql qB (by rfl) T.n_len qv (qa (pv 0) qb)) (qQ (v:=.int 8) rfl c_MOST_PARTS ⟨_,rfl⟩) (qI _))
       (qe qP)
       qw)
     (qe (q9 PassesOwn.never rfl (qH (pv 0)) (qt (i:=1) (sc_check_parts.nd) rfl (Or.inl rfl))
       (qe (qN (PW.pt (qaT (zu (zd (ql (r:=qii K) je (by rfl) T.n_isinstance qr (qa (pv 1) (qa (qQ (v:=.ref a.c_Entry) rfl T.g_Entry rfl) qb))))) (Z5 (zd (ql (r:=qii K) je (by rfl) T.n_isinstance qr (qa (pv 1) (qa (qQ (v:=.ref a.c_Joint) rfl T.g_Joint rfl) qb)))))))
         (qe qP)
         qw)))))),?_⟩
   try dsimp only [qY,Cx.nox]
   have ty:tyN H (.ref q)=some "list":=by simp only[tyN];rw[hq]
   have lq:(ps.map V.ref).length=ps.length:=List.length_map _;refine⟨_,rfl,_,_,_,rfl,(by decide),ty,true,rfl,Qw rfl ?_⟩;refine⟨_,rfl,_,_,rfl,.inl ⟨_,SqL.of hq,rfl⟩,.inl ⟨rfl,_,rfl,jr (fun g=>absurd g ?_) (fun _=>?_)⟩⟩
   · intro z;injection z with z;omega
   refine⟨_,rfl,_,_,rfl,.inl ⟨_,SqL.of hq,rfl⟩,_,_,rfl,rfl,_,rfl,jr (fun g=>absurd g (by omega)) (fun _=>?_)⟩;(try unfold qM);(try dsimp only);refine⟨_,rfl,q,rfl,⟨_,SqL.of hq⟩,qK (K:=K) (a:=q) (xs:=ps.map V.ref) (fun j σ H'=>∃ s1:Option V,σ=[some (.ref q),s1]∧H'=H) ⟨_,rfl,rfl⟩ (fun j σ H' _ ⟨_,_,h⟩=>h▸SqL.of hq) ?_ ?_⟩
   · rintro j z σ H' hz ⟨s1,rfl,rfl⟩
     obtain⟨k,hk,rfl⟩:∃ k,ps[j]?=some k∧V.ref k=z:=by
       rw[List.getElem?_map]at hz;exact Option.map_eq_some_iff.mp hz
     obtain⟨n,w⟩:=en k (List.mem_of_getElem? hk);obtain⟨C,c1,c2,c3⟩:=qio T w;exact⟨_,rfl,_,_,_,_,rfl,c1,c2,true,rfl,Qw rfl ⟨_,rfl,_,_,_,_,rfl,c1,c3,false,rfl,Qw rfl ⟨_,rfl,rfl⟩⟩⟩
   · rintro σ H' ⟨s1,rfl,rfl⟩;exact kk
theorem ZG {a:Ad} (T:Txt K mg a):qx P w K mg base CX0 1 a.f_t a.fd_t ["self"] (Qa a):=by
 refine T.d_t.F.ok JY (fun vs H Q E h=>?_) (fun cdv A outer s H vs Q E hr h=>?_)
 · obtain⟨x,dx,l,nm,ps,rfl,hx,hl,kk⟩:=h;rfl
 · obtain⟨x,dx,l,nm,ps,rfl,hx,hl,kk⟩:=h;refine⟨_,(qe (qu (zh (r:=qih K) zn (by rfl) T.n_list zc (qa (qT (pv 0) rfl) qb)))),?_⟩;(try dsimp only [qY,Cx.nox]);exact⟨_,rfl,x,_,dx,_,_,rfl,hx,T.cl_Joint,T.n_Joint_kept_parts,rfl,l,_,rfl,.inl (SqL.of hl),fun d fd=>kk d fd⟩
theorem Z8 {a:Ad} (T:Txt K mg a):qx P w K mg base CX0 5 a.f_x a.fd_x ["self","name","parts"] (Qt a):=by
 have G_r:=Z9 (P:=P) (w:=w) (base:=base) T;have G_M:=J0 (P:=P) (w:=w) (base:=base) T;refine T.d_x.F.ok qaR (fun vs H Q E h=>?_) (fun cdv A outer s H vs Q E hr h=>?_)
 · obtain⟨x,dx,q,nm,ps,rfl,hx,ok,hq,h0,h8,en,kk⟩:=h;rfl
 · obtain⟨x,dx,q,nm,ps,rfl,hx,ok,hq,h0,h8,en,kk⟩:=h;have h_r:Room (3+1) _:=hr.mono (by decide);have h_M:Room (1) _:=hr.mono (by decide)
   refine⟨_,(qf (qF (Z6 T.ci_Entry G_r (h_r.mono (by decide)) T.d_r.b rfl T.g_Entry (qa (pv 0) (qa (pv 1) qb))))
     (qf (qF (qm G_M h_M rfl T.d_M.m T.d_M.k T.d_M.b .nil qp (qa (pv 2) qb)))
     (qe (jO (pv 0) (zh (r:=qih K) zn (by rfl) T.n_list zc (qa (pv 2) qb)) rfl)))),?_⟩
   try dsimp only [qY,Cx.nox]
   refine⟨_,rfl,_,rfl,x,a.c_Joint,dx,nm,rfl,hx,ok,.joint_,fun H1 B1 h1=>?_⟩;have hq1:=B1 _ _ hq (zi hq hx (by intro z;cases z))
   have kw:∀ p n,Wt a H p n->Wt a H1 p n:=fun p n w=>by
     cases w with
     | @within dp _ lo hi e =>
       by_cases z:p=x
       · rw[z,hx]at e;injection e with e;injection e with _ _ e;cases e
       · exact .within (B1 _ _ e z)
     | @at_ dp _ m e =>
       by_cases z:p=x
       · rw[z,hx]at e;injection e with e;injection e with _ _ e;cases e
       · exact .at_ (B1 _ _ e z)
   refine⟨_,rfl,q,ps,rfl,hq1,h0,h8,fun p m=>let ⟨n,w⟩:=en p m;⟨n,kw p n w⟩,?_⟩;refine⟨_,rfl,q,_,rfl,.inl (SqL.of hq1),fun l fl=>?_⟩;have nl:l≠x:=fun z=>by rw[z,h1]at fl;cases fl
   refine⟨_,rfl,x,_,dx,_,rfl,(by rw[qg nl.symm];exact h1),T.cl_Joint,T.n_Joint_kept_parts,(Nat.le_of_ble_eq_true rfl),?_⟩;exact kk l _ (B1.none fl nl) (fun b o e nb=>by rw[qg nb,qg (qj (B1 b o e nb) fl)];exact B1 b o e nb) (by rw[qc];rfl) (by rw[qg nl,qc])
theorem Zb {a:Ad} (T:Txt K mg a):qx P w K mg base CX0 1 a.f_m a.fd_m ["self"] (zT a):=by
 refine T.d_m.F.ok Jd (fun vs H Q E h=>?_) (fun cdv A outer s H vs Q E hr h=>?_)
 · obtain⟨v,rfl,k⟩:=h;rfl
 · obtain⟨v,rfl,k⟩:=h;refine⟨_,(qe (qu (qL qb))),?_⟩;(try dsimp only [qY,Cx.nox]);exact⟨Nat.zero_le _,fun l f=>k l f⟩
theorem Jz {a:Ad} (T:Txt K mg a):qx P w K mg base CX0 2 a.f_6 a.fd_6 ["self"] (Q4 a):=by
 have G_m:=Zb (P:=P) (w:=w) (base:=base) T;refine T.d_6.F.ok sc_Joint_places (fun vs H Q E h=>?_) (fun cdv A outer s H vs Q E hr h=>?_)
 · obtain⟨x,dx,l,nm,ps,rfl,hx,hl,en,kk⟩:=h;rfl
 · obtain⟨x,dx,l,nm,ps,rfl,hx,hl,en,kk⟩:=h;have h_m:Room (1) _:=hr.mono (by decide)
   refine⟨_,(qf (qJ (i:=1) sc_Joint_places.nd rfl (Or.inr rfl) (qL qb))
     (qf (q9 PassesOwn.never rfl (qH (qT (pv 0) rfl)) (qt (i:=2) (sc_Joint_places.nd) rfl (Or.inl rfl))
       (qe (qF (qcq PySem.F.plainAttrs_list PySem.F.slot_list_extend PySem.F.type_list_extend qe3 (pv 1) (qa (zA rfl (CompOk.def ["place","told"] [none,some 1]) (qH (PE.or (qz (pv 2) T.cl_Within T.i_Within_places G_m h_m T.d_m.b .nil qp) (qz (pv 2) T.cl_At T.i_At_places G_m h_m T.d_m.b .nil qp))) (fun _ _ _ _ _=>(qt (i:=0) (show List.Nodup (["place","told"]:List Str) by decide +kernel) rfl (Or.inl rfl))) (fun _ _ _ _ _=>(qaV (qy (r:=rIn K true) zF (pv 0) (pv 1) (by with_unfolding_all rfl)))) (fun _ _ _ _ _=>(pv 0))) qb)))))
     (qe (qu (pv 1))))),?_⟩
   try dsimp only [qY,Cx.nox]
   refine⟨qk (Nat.le_of_ble_eq_true rfl),fun d fd=>?_⟩;generalize hG:upd H d _=G;obtain⟨S0,e0⟩:=qi hG fd;clear hG;(try unfold qM);(try dsimp only);refine qV (t:=qd5 _ _ _) (fun σ' H'=>∃ s2:Option V,σ'=[some (.ref x),some (.ref d),s2]∧Same H H'∧H' d=some (.lst [])) (fun N hN=>?_) ?_
   · refine⟨_,rfl,x,_,dx,_,_,rfl,S0 _ _ hx,T.cl_Joint,T.n_Joint_kept_parts,rfl,l,rfl,⟨_,SqL.of (S0 _ _ hl)⟩,qK (D:={ nx:=N,rt:=Q }) (K:=K) (a:=l) (xs:=ps.map V.ref) (fun j σ H'=>∃ s2:Option V,σ=[some (.ref x),some (.ref d),s2]∧Same H H'∧H' d=some (.lst [])) ⟨_,rfl,S0,e0⟩ (fun j σ H' _ ⟨_,_,s,_⟩=>SqL.of (s _ _ hl)) ?_ ?_⟩
     · rintro j z σ H1 hz ⟨s2,rfl,S1,hd⟩
       obtain⟨k,hk,rfl⟩:∃ k,ps[j]?=some k∧V.ref k=z:=by
         rw[List.getElem?_map]at hz;exact Option.map_eq_some_iff.mp hz
       obtain⟨n,w⟩:=en k (List.mem_of_getElem? hk);have w1:=w.same S1;refine⟨_,rfl,.inl ⟨rfl,_,SqL.of hd⟩,?_⟩
       cases w1 with
       | @within dp _ lo hi hk' =>
         refine .inl ⟨_,rfl,k,dp,_,rfl,hk',rfl,_,rfl,fun l1 fl1=>?_⟩;generalize hG:upd H1 l1 _=G2;obtain⟨S3,e3⟩:=qi hG fl1;clear hG;refine⟨l1,rfl,⟨_,SqL.of e3⟩,fun D fD=>?_⟩;refine qW (K:=K) (a:=l1) (xs:=[]) (D:=D) (fun i σ H4=>∃ c0:Option V,σ=[c0,some (.ref d)]∧Same G2 H4∧H4 D=some (.lst [])) ⟨none,rfl,Same.new _ fD,qc⟩ (fun i σ H4 _ ⟨_,_,S4,_⟩=>SqL.of (S4 _ _ e3)) ?_ ?_
         · rintro i y σ H4 hy ⟨c0,rfl,S4,hD⟩;cases hy
         rintro σ H4 ⟨c0,rfl,S4,hD⟩;refine⟨d,D,_,_,rfl,rfl,S4 _ _ (S3 _ _ hd),hD,Nat.zero_le _,?_⟩;exact⟨_,rfl,((S1.trans S3).trans S4).put fd _,qc⟩
       | @at_ dp _ m hk' =>
         refine .inr ⟨_,rfl,k,dp,_,rfl,hk',rfl,_,rfl,fun l1 fl1=>?_⟩;generalize hG:upd H1 l1 _=G2;obtain⟨S3,e3⟩:=qi hG fl1;clear hG;refine⟨l1,rfl,⟨_,SqL.of e3⟩,fun D fD=>?_⟩;refine qW (K:=K) (a:=l1) (xs:=[]) (D:=D) (fun i σ H4=>∃ c0:Option V,σ=[c0,some (.ref d)]∧Same G2 H4∧H4 D=some (.lst [])) ⟨none,rfl,Same.new _ fD,qc⟩ (fun i σ H4 _ ⟨_,_,S4,_⟩=>SqL.of (S4 _ _ e3)) ?_ ?_
         · rintro i y σ H4 hy ⟨c0,rfl,S4,hD⟩;cases hy
         rintro σ H4 ⟨c0,rfl,S4,hD⟩;refine⟨d,D,_,_,rfl,rfl,S4 _ _ (S3 _ _ hd),hD,Nat.zero_le _,?_⟩;exact⟨_,rfl,((S1.trans S3).trans S4).put fd _,qc⟩
     · rintro σ H1 ⟨s2,rfl,S1,hd⟩;exact hN _ _ ⟨s2,rfl,S1,hd⟩
   rintro _ H1 ⟨s2,rfl,S1,hd⟩;exact⟨_,rfl,kk d H1 fd S1 hd⟩
end
def sr:List (Int×Int)->List (Int×Int)->List (Int×Int)
 | acc,[]=>acc
 | acc,r::rs=>if acc=[]∨acc.getLast?.map (·.2)≠some r.2 then sr (acc++[r]) rs else sr acc rs
def na (rows:List (Int×Int)) (t:Int):Option Int:=(rows.filter fun r=>decide (r.1≤t)).getLast?.map (·.2)
def lna (f:Int) (t:Int):List (Int×Int)->Int
 | []=>f
 | r::rs=>lna (if r.1≤t then r.2 else f) t rs
theorem qgX (t:Int):∀ (rows acc:List (Int×Int)) (f:Int),na acc t=some f->na (acc++rows) t=some (lna f t rows)
 | [],acc,f,h=>by rw[List.append_nil];exact h
 | r::rs,acc,f,h=>by
   have e:acc++r::rs=(acc++[r])++rs:=by simp
   rw[e];show _=some (lna (if r.1≤t then r.2 else f) t rs);refine qgX t rs (acc++[r]) _ ?_;unfold na;rw[List.filter_append];by_cases g:r.1≤t
   · rw[if_pos g];simp[g]
   · rw[if_neg g,show List.filter (fun r=>decide (r.1≤t)) [r]=[] by simp[g],List.append_nil];exact h
theorem Good.ne {rows:List (Int×Int)} (h:Good rows):0 < rows.length:=by
 obtain⟨n,hn⟩:=h.fst
 cases rows with
 | nil=>cases hn
 | cons r rs=>exact Nat.succ_pos _
theorem Good.na {rows:List (Int×Int)} (h:Good rows) {t:Int} (t0:0≤t):∃ r rs,rows=r::rs∧na rows t=some (lna r.2 t rows):=by
 obtain⟨n,hn⟩:=h.fst
 cases rows with
 | nil=>cases hn
 | cons r rs =>
   have e:r=(0,n):=by simpa using hn
   subst e;refine⟨_,rs,rfl,?_⟩;have z:=qgX t rs [(0,n)] n (by simp[K79.na,t0]);rw[show (0,n)::rs=[(0,n)]++rs from rfl,z];show _=some (lna (if (0:Int)≤t then n else n) t rs);rw[if_pos t0]
def qjq (k:Addr):List (Str×V):=qbG "kept" (.ref k) []
theorem qfo (k:Addr):(qjq k).lookup ("kept":Str)=some (.ref k):=by
 unfold qjq;rw[Qv,if_pos rfl]
theorem qfn (k:Addr) {m:Str} (h1:¬ m="kept"):(qjq k).lookup m=none:=by
 unfold qjq;rw[Qv,if_neg h1];rfl
inductive qkv (a:Ad) (H:Hp) (x:Addr) (rows:List (Int×Int)):Prop
 | mk (k dx:Addr) (zs:List V) (h1:H x=some (.ins a.c_Table dx (qjq k))) (h2:H k=some (.lst zs)) (h3:TupL pr H zs rows):qkv a H x rows
def Tb (a:Ad) (H:Hp) (x:Addr) (rows:List (Int×Int)):Prop:=qkv a H x rows
theorem Tb.same {a:Ad}{H H':Hp}{x:Addr}{rows:List (Int×Int)} (h:Tb a H x rows) (s:Same H H'):Tb a H' x rows:=by
 obtain⟨k,dx,zs,h1,h2,h3⟩:=h;exact⟨k,dx,zs,s _ _ h1,s _ _ h2,h3.same s⟩
theorem Rs.same {H H':Hp}{q:Addr}{rows:List (Int×Int)} (h:Rs H q rows) (s:Same H H'):Rs H' q rows:=by
 obtain⟨zs,h1,h2⟩:=h;exact⟨zs,s _ _ h1,h2.same s⟩
theorem qhi {H:Hp}{zs ys:List V}{ws us:List (Int×Int)} (h:TupL pr H zs ws) (k:TupL pr H ys us):TupL pr H (zs++ys) (ws++us):=by
 refine⟨by rw[List.length_append,List.length_append,h.1,k.1],fun i z p e1 e2=>?_⟩;by_cases hi:i < zs.length
 · rw[List.getElem?_append_left hi]at e1;rw[List.getElem?_append_left (by rw[← h.1];exact hi)]at e2;exact h.2 i z p e1 e2
 · rw[List.getElem?_append_right (by omega)]at e1;rw[List.getElem?_append_right (by rw[← h.1];omega),← h.1]at e2;exact k.2 _ z p e1 e2
inductive j3 (vs:List V) (H:Hp) (Q:VK):Prop
 | mk (t:Addr) (r:Int×Int) (w:Int) (h1:vs=[.ref t,.int w]) (h2:H t=some (.tup (pr r))) (h3:0≤r.1) (h4:r.1≤1000000000) (h5:-w≤r.2) (h6:r.2≤w) (h7:Q (.bl true) H):j3 vs H Q
def qbg:Sp:=fun vs H Q _=>j3 vs H Q
inductive Zj (vs:List V) (H:Hp) (Q:VK):Prop
 | mk (q:Addr) (i:Nat) (rows:List (Int×Int)) (h1:vs=[.ref q,.int i]) (h2:Rs H q rows) (h3:Good rows) (h4:i < rows.length) (h5:Q (.bl true) H):Zj vs H Q
def jx:Sp:=fun vs H Q _=>Zj vs H Q
inductive QT (vs:List V) (H:Hp) (Q:VK):Prop
 | mk (q:Addr) (rows:List (Int×Int)) (h1:vs=[.ref q,.int 21,.int 2880]) (h2:Rs H q rows) (h3:Good rows) (h4:∀ H',Same H H'->Q .non H'):QT vs H Q
def ZR:Sp:=fun vs H Q _=>QT vs H Q
inductive Q0 (a:Ad) (vs:List V) (H:Hp) (Q:VK):Prop
 | mk (x dx q:Addr) (rows:List (Int×Int)) (h1:vs=[.ref x,.ref q]) (h2:H x=some (.ins a.c_Table dx [])) (h3:Rs H q rows) (h4:Good rows) (h5:∀ H',But x H H'->Tb a H' x rows->Q .non H'):Q0 a vs H Q
def ZV (a:Ad):Sp:=fun vs H Q _=>Q0 a vs H Q
inductive zY (vs:List V) (H:Hp) (Q:VK):Prop
 | mk (q:Addr) (rows:List (Int×Int)) (h1:vs=[.ref q]) (h2:Rs H q rows) (h3:rows.length≤64) (h4:∀ (d:Addr) (H':Hp),H d=none->Same H H'->Rs H' d (sr [] rows)->Q (.ref d) H'):zY vs H Q
def zI:Sp:=fun vs H Q _=>zY vs H Q
inductive QZ (a:Ad) (vs:List V) (H:Hp) (Q:VK):Prop
 | mk (x:Addr) (rows:List (Int×Int)) (h1:vs=[.ref x]) (h2:Tb a H x rows) (h3:∀ (d:Addr) (H':Hp),H d=none->Same H H'->Rs H' d rows->Q (.ref d) H'):QZ a vs H Q
def ZU (a:Ad):Sp:=fun vs H Q _=>QZ a vs H Q
inductive Zi (vs:List V) (H:Hp) (Q:VK):Prop
 | mk (q:Addr) (t v:Int) (rows:List (Int×Int)) (h1:vs=[.ref q,.int t]) (h2:Rs H q rows) (h3:rows.length≤21) (h4:na rows t=some v) (h5:∀ H',Same H H'->Q (.int v) H'):Zi vs H Q
def jw:Sp:=fun vs H Q _=>Zi vs H Q
def oV:Option Int->V
 | none=>.non
 | some i=>.int i
def Bg (rows others:List (Int×Int)) (t:Int):Prop:=∃ r,(r∈rows∨r∈others)∧r.1=t
def Fu (rows others:List (Int×Int)):Option Int->Prop
 | some t=>Bg rows others t∧na rows t≠na others t∧∀ u,Bg rows others u->u < t->na rows u=na others u
 | none=>∀ u,Bg rows others u->na rows u=na others u
theorem Fu.one {rows others:List (Int×Int)}{o o':Option Int} (h:Fu rows others o) (k:Fu rows others o'):o=o':=by
 cases o with
 | none =>
   cases o' with
   | none=>rfl
   | some t=>exact absurd (h t k.1) k.2.1
 | some t =>
   cases o' with
   | none=>exact absurd (k t h.1) h.2.1
   | some u =>
     rcases Int.lt_trichotomy t u with g|g|g
     · exact absurd (k.2.2 t h.1 g) h.2.1
     · rw[g]
     · exact absurd (h.2.2 u k.1 g) k.2.1
theorem qh1 {rows others:List (Int×Int)}{ms:List Int} (hm:∀ t,t∈ms↔Bg rows others t) (up:ms.Pairwise (· < ·)):Fu rows others (ms.find? fun t=>decide (na rows t≠na others t)):=by
 cases e:ms.find? fun t=>decide (na rows t≠na others t) with
 | none =>
   intro u hu
   have:=List.find?_eq_none.mp e u ((hm u).mpr hu)
   simpa using this
 | some t =>
   obtain⟨p,as,bs,e1,e2⟩:=List.find?_eq_some_iff_append.mp e;have tm:t∈ms:=by rw[e1];simp
   refine⟨(hm t).mp tm,of_decide_eq_true p,fun u hu lt=>?_⟩;have um:=(hm u).mpr hu;rw[e1]at um up;rcases List.mem_append.mp um with m|m
   · have:=e2 u m
     simpa using this
   · obtain⟨_,p2,_⟩:=List.pairwise_append.mp up;rcases List.mem_cons.mp m with m|m
     · omega
     · have:=(List.pairwise_cons.mp p2).1 u m
       omega
def nz (p:Int×Int):Bool:=decide (p.2≠0)
theorem qeo:∀ (ps acc:List (Int×Int)),∃ bs,sr acc ps=acc++bs
 | [],acc=>⟨[],by rw[List.append_nil];rfl⟩
 | r::rs,acc=>by
   by_cases g:acc=[]∨acc.getLast?.map (·.2)≠some r.2
   · obtain⟨bs,e⟩:=qeo rs (acc++[r]);exact⟨r::bs,by rw[show sr acc (r::rs)=sr (acc++[r]) rs from if_pos g,e,List.append_assoc];rfl⟩
   · obtain⟨bs,e⟩:=qeo rs acc;exact⟨bs,by rw[show sr acc (r::rs)=sr acc rs from if_neg g,e]⟩
theorem qb0 {acc bs:List (Int×Int)} (h:∀ p∈acc,p.2=0):(acc++bs).find? nz=bs.find? nz:=by
 rw[List.find?_append,List.find?_eq_none.mpr fun p m=>by simp[nz,h p m]];rfl
theorem qck:∀ (ps acc:List (Int×Int)),(∀ p∈acc,p.2=0)->(sr acc ps).find? nz=ps.find? nz
 | [],acc,h=>by
   have:=qb0 (bs:=[]) h
   rw[List.append_nil]at this;exact this
 | r::rs,acc,h=>by
   by_cases z:r.2=0
   · have e:(r::rs).find? nz=rs.find? nz:=List.find?_cons_of_neg (by simp[nz,z]);rw[e];by_cases g:acc=[]∨acc.getLast?.map (·.2)≠some r.2
     · rw[show sr acc (r::rs)=sr (acc++[r]) rs from if_pos g];refine qck rs _ fun p m=>?_;rcases List.mem_append.mp m with m|m
       · exact h p m
       · rw[List.mem_singleton.mp m];exact z
     · rw[show sr acc (r::rs)=sr acc rs from if_neg g];exact qck rs acc h
   · have g:acc=[]∨acc.getLast?.map (·.2)≠some r.2:=by
       cases e:acc.getLast? with
       | none=>exact .inl (List.getLast?_eq_none_iff.mp e)
       | some l =>
         refine .inr fun q=>z ?_
         have:l.2=r.2:=by simpa using q
         rw[← this];exact h l (List.mem_of_getLast? e)
     obtain⟨bs,eb⟩:=qeo rs (acc++[r]);rw[show sr acc (r::rs)=sr (acc++[r]) rs from if_pos g,eb,List.append_assoc,qb0 h];show (r::bs).find? nz=(r::rs).find? nz;rw[List.find?_cons_of_pos (by simp[nz,z]),List.find?_cons_of_pos (by simp[nz,z])]
def ngr (rows:List (Int×Int)):List (Int×Int):=rows.map fun r=>(r.1,-r.2)
theorem qgV (rows:List (Int×Int)) (t:Int):na (ngr rows) t=(na rows t).map fun n=>-n:=by
 unfold na ngr;rw[List.filter_map,List.getLast?_map];show Option.map _ (Option.map _ (List.filter (fun r=>decide (r.1≤t)) rows).getLast?)=_;cases (List.filter (fun r=>decide (r.1≤t)) rows).getLast?<;>rfl
def qd6 (r1 r2:List (Int×Int)) (ms:List Int):List (Int×Int):=ms.map fun t=>(t,(na r1 t).getD 0+(na r2 t).getD 0)
theorem qbR {rows:List (Int×Int)} (g:Good rows) {t:Int} (t0:0≤t):na rows t=some ((na rows t).getD 0):=by
 obtain⟨r,rs,_,e⟩:=g.na t0;rw[e];rfl
inductive j1 (vs:List V) (H:Hp) (Q:VK):Prop
 | mk (q p:Addr) (r1 r2:List (Int×Int)) (h1:vs=[.ref q,.ref p]) (h2:Rs H q r1) (h3:Rs H p r2) (h4:r1.length≤21) (h5:r2.length≤21) (h6:(∀ t,Bg r1 r2 t->na r1 t=some ((na r1 t).getD 0)∧na r2 t=some ((na r2 t).getD 0))) (h7:∀ (d:Addr) (ms:List Int) (H':Hp),H d=none->Same H H'->(∀ t,t∈ms↔Bg r1 r2 t)->ms.length≤42->ms.Pairwise (· < ·)->Rs H' d (sr [] (qd6 r1 r2 ms))->Q (.ref d) H'):j1 vs H Q
def qbf:Sp:=fun vs H Q _=>j1 vs H Q
inductive QA (vs:List V) (H:Hp) (Q:VK):Prop
 | mk (q p:Addr) (r1 r2:List (Int×Int)) (h1:vs=[.ref q,.ref p]) (h2:Rs H q r1) (h3:Rs H p r2) (h4:Good r1) (h5:Good r2) (h6:∀ (d:Addr) (ms:List Int) (H':Hp),H d=none->Same H H'->(∀ t,t∈ms↔Bg r1 r2 t)->ms.length≤42->ms.Pairwise (· < ·)->Rs H' d (sr [] (qd6 (ngr r1) r2 ms))->Q (.ref d) H'):QA vs H Q
def Zm:Sp:=fun vs H Q _=>QA vs H Q
inductive Qe (a:Ad) (vs:List V) (H:Hp) (Q:VK):Prop
 | mk (x y:Addr) (rows others:List (Int×Int)) (h1:vs=[.ref x,.ref y]) (h2:Tb a H x rows) (h3:Good rows) (h4:Tb a H y others) (h5:Good others) (h6:∀ (o:Option Int) (H':Hp),Same H H'->Fu rows others o->Q (oV o) H'):Qe a vs H Q
def QR (a:Ad):Sp:=fun vs H Q _=>Qe a vs H Q
section
variable {P:Program}{w:World}{K:Frag}{mg:Str->Option Value}{base:Heap}
theorem qeT {a:Ad} (T:Txt K mg a):qx P w K mg base CX0 4 a.f_N a.fd_N ["thing","widest"] qbg:=by
 have G_n:=jP (P:=P) (w:=w) (base:=base) T;have G_f:=ZK (P:=P) (w:=w) (base:=base) T;refine T.d_N.F.ok qeu (fun vs H Q E h=>?_) (fun cdv A outer s H vs Q E hr h=>?_)
 · obtain⟨t,r,w,rfl,ht,h1,h2,h3,h4,kk⟩:=h;rfl
 · obtain⟨t,r,w,rfl,ht,h1,h2,h3,h4,kk⟩:=h;have hU:=hr.units;have h_n:Room (3) _:=hr.mono (by decide);have h_f:Room (2) _:=hr.mono (by decide)
   refine⟨_,(qf (qN (PW.pt (qaT (zu (zd (ql Qz (by rfl) T.n_isinstance qr (qa (pv 0) (qa (Za (v:=.ty "tuple") rfl T.n_tuple qcE rfl) qb))))) (Z5 (qy (uNe hU) (ql qB (by rfl) T.n_len qv (qa (pv 0) qb)) qd (qI _)))))
       (qe (qu qdG))
       qw)
     (qe (qu (qbK (qm G_n h_n rfl T.d_n.m T.d_n.k T.d_n.b .nil qp (qa (qC (r:=rIx K) qq (pv 0) qd (fun _ _=>rfl)) qb)) (qbI (qm G_f h_f rfl T.d_f.m T.d_f.k T.d_f.b .nil qp (qa (qC (r:=rIx K) qq (pv 0) qd (fun _ _=>rfl)) (qa (qdD qab (pv 1)) (qa (pv 1) qb))))))))),?_⟩
   try dsimp only [qY,Cx.nox]
   have ty:tyN H (.ref t)=some "tuple":=by simp only[tyN];rw[ht]
   refine⟨_,rfl,_,_,_,rfl,(by decide),ty,true,rfl,Qw rfl ?_⟩;refine⟨_,rfl,_,_,rfl,.inr ⟨_,SqT.of ht,rfl⟩,.inl ⟨rfl,_,rfl,jX (fun g=>absurd rfl g) (fun _=>?_)⟩⟩;refine⟨_,rfl,.inr (.inl ⟨t,_,_,_,rfl,rfl,SqT.of ht,rfl,r.1,rfl,h1,h2,true,rfl,qa5 ?_⟩)⟩;exact⟨_,rfl,.inr (.inl ⟨t,_,_,_,rfl,rfl,SqT.of ht,rfl,_,rfl,_,rfl,_,rfl,r.2,-w,w,rfl,h3,h4,kk⟩)⟩
theorem qbO {a:Ad} (T:Txt K mg a):qx P w K mg base CX0 1 a.f_O a.fd_O ["rows","place"] jx:=by
 refine T.d_O.F.ok qbq (fun vs H Q E h=>?_) (fun cdv A outer s H vs Q E hr h=>?_)
 · obtain⟨q,i,rows,rfl,⟨zs,hq,tp⟩,good,hi,kk⟩:=h;rfl
 · obtain⟨q,i,rows,rfl,⟨zs,hq,tp⟩,good,hi,kk⟩:=h;have hU:=hr.units
   refine⟨_,(qf (qN (qy (uEq hU) (pv 1) qd (qI _))
       (qe (qu (Q9 (uEq hU) (qC (r:=rIx K) qq (qC (r:=rIx K) qq (pv 0) qd (fun _ _=>rfl)) qd (fun _ _=>rfl)) qd (qI _))))
       qw)
     (qe (qu (Q9 qaY (qC (r:=rIx K) qq (qC (r:=rIx K) qq (pv 0) (pv 1) (fun _ _=>rfl)) qd (fun _ _=>rfl)) (qC (r:=rIx K) qq (qC (r:=rIx K) qq (pv 0) (qA QJ (pv 1) qd) (fun _ _=>rfl)) qd (fun _ _=>rfl)) (qI _))))),?_⟩
   try dsimp only [qY,Cx.nox]
   refine⟨_,rfl,.inl ⟨rfl,_,rfl,?_⟩⟩;obtain⟨r,hr'⟩:∃ r,rows[i]?=some r:=⟨_,List.getElem?_eq_getElem hi⟩
   obtain⟨t,hz,ht⟩:=tp.at_ hr';refine jr (fun g=>?_) (fun g=>?_)
   · have g0:i=0:=by injection g with g;omega
     subst g0;obtain⟨n,hn⟩:=good.fst
     have e:r=(0,n):=by
       rw[List.head?_eq_getElem?,hr']at hn;exact Option.some.inj hn
     subst e;refine⟨_,rfl,.inl ⟨q,_,_,_,rfl,rfl,SqL.of hq,Qc hz,.inr (.inl ⟨t,_,_,_,rfl,rfl,SqT.of ht,rfl,.inl ⟨rfl,?_⟩⟩)⟩⟩;exact kk
   · have g1:0 < i:=by
       refine Nat.pos_of_ne_zero fun z=>g ?_;rw[z];rfl
     obtain⟨r0,hr0⟩:∃ r,rows[i - 1]?=some r:=⟨_,List.getElem?_eq_getElem (by omega)⟩
     obtain⟨t0,hz0,ht0⟩:=tp.at_ hr0
     have lt:r0.1 < r.1:=by
       obtain⟨l1,e1⟩:=List.getElem?_eq_some_iff.mp hr0;obtain⟨l2,e2⟩:=List.getElem?_eq_some_iff.mp hr'
       have:=List.pairwise_iff_getElem.mp good.asc (i - 1) i l1 l2 (by omega)
       rw[e1,e2]at this;exact this
     refine⟨_,rfl,_,rfl,.inl ⟨q,_,_,_,rfl,rfl,SqL.of hq,Qc hz,.inr (.inl ⟨t,_,_,_,rfl,rfl,SqT.of ht,rfl,_,rfl,_,rfl,_,_,rfl,rfl,.inl ⟨q,_,_,_,rfl,rfl,SqL.of hq,(by show atI zs ((i:Int) - 1)=_;rw[show (i:Int) - 1=((i - 1:Nat):Int) by omega];exact Qc hz0),.inr (.inl ⟨t0,_,_,_,rfl,rfl,SqT.of ht0,rfl,_,_,rfl,rfl,?_⟩)⟩⟩)⟩⟩;show Q (.bl (decide (r0.1 < r.1))) H;rw[decide_eq_true lt];exact kk
theorem qa0 {a:Ad} (T:Txt K mg a):qx P w K mg base CX0 5 a.f_P a.fd_P ["rows","most","widest"] ZR:=by
 have G_N:=qeT (P:=P) (w:=w) (base:=base) T;have G_O:=qbO (P:=P) (w:=w) (base:=base) T;refine T.d_P.F.ok sc_check_rows (fun vs H Q E h=>?_) (fun cdv A outer s H vs Q E hr h=>?_)
 · obtain⟨q,rows,rfl,⟨zs,hq,tp⟩,good,kk⟩:=h;rfl
 · obtain⟨q,rows,rfl,⟨zs,hq,tp⟩,good,kk⟩:=h;have hU:=hr.units;have h_N:Room (4) _:=hr.mono (by decide);have h_O:Room (1) _:=hr.mono (by decide)
   refine⟨_,(qf (qN (PW.pt (qaT (zu (zd (ql Qz (by rfl) T.n_isinstance qr (qa (pv 0) (qa (Za (v:=.ty "list") rfl T.n_list zc rfl) qb))))) (Z5 (qy (uEq hU) (ql qB (by rfl) T.n_len qv (qa (pv 0) qb)) qd (qI _)))))
       (qe qP)
       qw)
     (qf (qN (qy qaY (ql qB (by rfl) T.n_len qv (qa (pv 0) qb)) (pv 1) (qI _))
       (qe qP)
       qw)
     (qe (q9 PassesOwn.never rfl (qhE rfl T.n_enumerate (qa (pv 0) qb)) (Qo rfl (qE (qt (i:=3) (sc_check_rows.nd) rfl (Or.inl rfl)) (qE (qt (i:=4) (sc_check_rows.nd) rfl (Or.inl rfl)) zw)))
       (qe (qN (PW.pt (qaT (zu (zd (qm G_N h_N rfl T.d_N.m T.d_N.k T.d_N.b .nil qp (qa (pv 4) (qa (pv 2) qb))))) (Z5 (zu (zd (qm G_O h_O rfl T.d_O.m T.d_O.k T.d_O.b .nil qp (qa (pv 0) (qa (pv 3) qb))))))))
         (qe qP)
         qw)))))),?_⟩
   try dsimp only [qY,Cx.nox]
   have hl:zs.length=rows.length:=tp.1;have few:=good.few;have pos:=good.ne;have ty:tyN H (.ref q)=some "list":=by simp only[tyN];rw[hq]
   refine⟨_,rfl,_,_,_,rfl,(by decide),ty,true,rfl,Qw rfl ?_⟩;refine⟨_,rfl,_,_,rfl,.inl ⟨_,SqL.of hq,rfl⟩,.inl ⟨rfl,_,rfl,jr (fun g=>?_) (fun _=>?_)⟩⟩
   · injection g with g;omega
   refine⟨_,rfl,_,_,rfl,.inl ⟨_,SqL.of hq,rfl⟩,_,rfl,_,_,rfl,rfl,_,rfl,jr (fun g=>?_) (fun _=>?_)⟩
   · omega
   refine⟨_,rfl,q,rfl,⟨zs,SqL.of hq⟩,qgq (K:=K) (a:=q) (xs:=zs) (fun i σ H2=>∃ s3 s4:Option V,σ=[some (.ref q),some (.int 21),some (.int 2880),s3,s4]∧Same H H2) ⟨none,none,rfl,Same.refl H⟩ (fun i σ H2 _ ⟨_,_,_,S⟩=>SqL.of (S _ _ hq)) ?_ ?_⟩
   · rintro i x σ H2 p hx ⟨s3,s4,rfl,S⟩ hn;have S2:Same H (upd H2 p (.tup [.int i,x])):=S.then _ hn
     have hi:i < rows.length:=by rw[← hl];exact(List.getElem?_eq_some_iff.mp hx).1
     obtain⟨r,hr'⟩:∃ r,rows[i]?=some r:=⟨_,List.getElem?_eq_getElem hi⟩
     obtain⟨t,rfl,ht⟩:=tp.2 i x r hx hr';have ok:=good.ok r (List.mem_of_getElem? hr');refine⟨p,_,rfl,SqT.of qc,rfl,_,_,rfl,_,_,rfl,rfl,?_⟩;refine⟨_,rfl,_,rfl,t,r,2880,rfl,S2 _ _ ht,ok.1,ok.2.1,ok.2.2.1,ok.2.2.2,true,rfl,Qw rfl ?_⟩;exact⟨_,rfl,_,rfl,q,i,rows,rfl,⟨zs,S2 _ _ hq,tp.same S2⟩,good,hi,true,rfl,Qw rfl ⟨_,_,rfl,S2⟩⟩
   · rintro σ H2 ⟨s3,s4,rfl,S⟩;exact kk H2 S
theorem qa4 {a:Ad} (T:Txt K mg a):qx P w K mg base CX0 6 a.f_7 a.fd_7 ["self","rows"] (ZV a):=by
 have G_P:=qa0 (P:=P) (w:=w) (base:=base) T;refine T.d_7.F.ok qaP (fun vs H Q E h=>?_) (fun cdv A outer s H vs Q E hr h=>?_)
 · obtain⟨x,dx,q,rows,rfl,hx,hrs,good,kk⟩:=h;rfl
 · obtain⟨x,dx,q,rows,rfl,hx,hrs,good,kk⟩:=h;have h_P:Room (5) _:=hr.mono (by decide);obtain⟨t_MOST_ROWS,c_MOST_ROWS⟩:=T.g_MOST_ROWS;obtain⟨t_WIDEST_SHIFT,c_WIDEST_SHIFT⟩:=T.g_WIDEST_SHIFT
   refine⟨_,(qf (qF (qm G_P h_P rfl T.d_P.m T.d_P.k T.d_P.b .nil qp (qa (pv 1) (qa (qQ (v:=.int 21) rfl c_MOST_ROWS ⟨_,rfl⟩) (qa (qQ (v:=.int 2880) rfl c_WIDEST_SHIFT ⟨_,rfl⟩) qb)))))
     (qe (jO (pv 0) (zh (r:=qih K) zn (by rfl) T.n_list zc (qa (pv 1) qb)) rfl))),?_⟩
   try dsimp only [qY,Cx.nox]
   refine⟨_,rfl,q,rows,rfl,hrs,good,fun G1 S1=>?_⟩;obtain⟨zs,hq,tp⟩:=hrs.same S1;have hx1:=S1 _ _ hx;refine⟨_,rfl,q,zs,rfl,.inl (SqL.of hq),fun k fk=>?_⟩;have nkx:x≠k:=qj hx1 fk;refine⟨_,rfl,x,_,dx,[],rfl,(qg nkx).trans hx1,T.cl_Table,T.n_Table_kept,(by show 0 < 1000;decide),?_⟩;have fkH:H k=none:=S1.none fk;refine kk _ (fun c o e n=>?_) ⟨k,dx,zs,qc,(qg nkx.symm).trans qc,⟨tp.1,fun i z p e1 e2=>?_⟩⟩
   · rw[qg n,qg (qj e fkH)];exact S1 _ _ e
   · obtain⟨t,et,ht⟩:=tp.2 i z p e1 e2;refine⟨t,et,?_⟩;rw[qg (zi ht hx1 (by intro z;cases z)),qg (qj ht fk)];exact ht
theorem qa3 {a:Ad} (T:Txt K mg a):qx P w K mg base CX0 1 a.f_I a.fd_I ["self"] (ZU a):=by
 refine T.d_I.F.ok qaO (fun vs H Q E h=>?_) (fun cdv A outer s H vs Q E hr h=>?_)
 · obtain⟨x,rows,rfl,⟨k,dx,zs,hx,hk,tp⟩,kk⟩:=h;rfl
 · obtain⟨x,rows,rfl,⟨k,dx,zs,hx,hk,tp⟩,kk⟩:=h;refine⟨_,(qe (qu (zh (r:=qih K) zn (by rfl) T.n_list zc (qa (qT (pv 0) rfl) qb)))),?_⟩;(try dsimp only [qY,Cx.nox]);exact⟨_,rfl,x,_,dx,_,_,rfl,hx,T.cl_Table,T.n_Table_kept,qfo _,k,zs,rfl,.inl (SqL.of hk),fun d fd=>kk d _ fd (Same.new _ fd) ⟨zs,qc,tp.same (Same.new _ fd)⟩⟩
theorem qbN {a:Ad} (T:Txt K mg a):qx P w K mg base CX0 1 a.f_B a.fd_B ["rows","moment"] jw:=by
 refine T.d_B.F.ok qbp (fun vs H Q E h=>?_) (fun cdv A outer s H vs Q E hr h=>?_)
 · obtain⟨q,t,v,rows,rfl,⟨zs,hq,tp⟩,few,hv,kk⟩:=h;rfl
 · obtain⟨q,t,v,rows,rfl,⟨zs,hq,tp⟩,few,hv,kk⟩:=h;refine⟨_,(qe (qu (qC (r:=rIx K) qq (zA rfl (CompOk.def ["start","number","moment"] [none,none,some 1]) (qH (pv 0)) (fun _ _ _ _ _=>(show PG _ _ (qjn K 2 _) from (Qo rfl (qE (qt (i:=0) (show List.Nodup (["start","number","moment"]:List Str) by decide +kernel) rfl (Or.inl rfl)) (qE (qt (i:=1) (show List.Nodup (["start","number","moment"]:List Str) by decide +kernel) rfl (Or.inl rfl)) zw))))) (fun _ _ _ _ _=>(qaV (qy qdH (pv 0) (pv 2) (qI _)))) (fun _ _ _ _ _=>(pv 1))) (qdD qab qd) (fun _ _=>rfl)))),?_⟩;(try dsimp only [qY,Cx.nox]);have hl:zs.length=rows.length:=tp.1;refine⟨_,rfl,q,rfl,⟨_,SqL.of hq⟩,fun D fD=>?_⟩;refine qW (K:=K) (a:=q) (D:=D) (fun i σ H2=>∃ c0 c1:Option V,σ=[c0,c1,some (.int t)]∧Same H H2∧H2 D=some (.lst (((rows.take i).filter fun r=>decide (r.1≤t)).map fun r=>V.int r.2))) ⟨none,none,rfl,Same.new _ fD,qc⟩ (fun i σ H2 _ ⟨_,_,_,S,_⟩=>SqL.of (S _ _ hq)) ?_ ?_
   · rintro i x σ H2 hx ⟨c0,c1,rfl,S,hD⟩;have hi:i < rows.length:=by rw[← hl];exact(List.getElem?_eq_some_iff.mp hx).1
     obtain⟨r,hr'⟩:∃ r,rows[i]?=some r:=⟨_,List.getElem?_eq_getElem hi⟩
     obtain⟨u,rfl,hu'⟩:=tp.2 i x r hx hr';have et:rows.take (i+1)=rows.take i++[r]:=by rw[List.take_add_one,hr'];rfl
     refine⟨u,_,rfl,SqT.of (S _ _ hu'),rfl,_,_,rfl,_,_,rfl,rfl,?_⟩;refine⟨_,rfl,_,rfl,_,_,rfl,rfl,_,rfl,?_⟩;refine jr (fun g=>?_) (fun g=>?_)
     · refine⟨_,rfl,_,hD,qD ?_,_,_,rfl,S.put fD _,?_⟩
       · rw[List.length_map];refine Nat.le_trans (List.length_filter_le _ _) ?_;rw[List.length_take];omega
       · rw[qc,et,List.filter_append,List.map_append,show List.filter (fun r=>decide (r.1≤t)) [r]=[r] by simp[g]];rfl
     · refine⟨_,_,rfl,S,?_⟩;rw[et,List.filter_append,show List.filter (fun r=>decide (r.1≤t)) [r]=[] by simp[g],List.append_nil];exact hD
   · rintro σ H2 ⟨c0,c1,rfl,S,hD⟩;rw[List.take_of_length_le (by rw[hl];exact Nat.le_refl _)]at hD;unfold na at hv
     cases hg:(List.filter (fun r=>decide (r.1≤t)) rows).getLast? with
     | none=>rw[hg]at hv;cases hv
     | some r =>
       rw[hg]at hv;have ev:r.2=v:=by simpa using hv
       rw[List.getLast?_eq_getElem?]at hg;have hlt:=(List.getElem?_eq_some_iff.mp hg).1;generalize hF:List.filter (fun r=>decide (r.1≤t)) rows=F at hg hD hlt;refine⟨_,rfl,.inl ⟨D,_,_,_,rfl,rfl,SqL.of hD,?_,kk H2 S⟩⟩;show atI (F.map fun r=>V.int r.2) (-1)=some (.int v);unfold atI ixN;rw[List.length_map,if_neg (by decide),if_pos (by omega)];show (F.map fun r=>V.int r.2)[((-1:Int)+(F.length:Int)).toNat]?=_;rw[show ((-1:Int)+(F.length:Int)).toNat=F.length - 1 by omega,List.getElem?_map,hg,← ev];rfl
theorem jW {a:Ad} (T:Txt K mg a):qx P w K mg base CX0 1 a.f_Q a.fd_Q ["rows"] zI:=by
 refine T.d_Q.F.ok sc_shortest_rows (fun vs H Q E h=>?_) (fun cdv A outer s H vs Q E hr h=>?_)
 · obtain⟨q,rows,rfl,⟨zs,hq,tp⟩,few,kk⟩:=h;rfl
 · obtain⟨q,rows,rfl,⟨zs,hq,tp⟩,few,kk⟩:=h;have hU:=hr.units
   refine⟨_,(qf (qJ (i:=1) sc_shortest_rows.nd rfl (Or.inl rfl) (qL qb))
     (qf (q9 PassesOwn.never rfl (qH (pv 0)) (Qo rfl (qE (qt (i:=2) (sc_shortest_rows.nd) rfl (Or.inl rfl)) (qE (qt (i:=3) (sc_shortest_rows.nd) rfl (Or.inl rfl)) zw)))
       (qe (qN (PW.pt (qaT (zu (qf2 (pv 1) (fun _=>rfl))) (Z5 (qy (uNe hU) (qC (r:=rIx K) qq (qC (r:=rIx K) qq (pv 1) (qdD qab qd) (fun _ _=>rfl)) qd (fun _ _=>rfl)) (pv 3) (qI _)))))
         (qe (qF (qcq PySem.F.plainAttrs_list PySem.F.slot_list_append PySem.F.type_list_append zG (pv 1) (qa (ze (qa (pv 2) (qa (pv 3) qb))) qb))))
         qw)))
     (qe (qu (pv 1))))),?_⟩
   try dsimp only [qY,Cx.nox]
   have hl:zs.length=rows.length:=tp.1;refine⟨qk (Nat.le_of_ble_eq_true rfl),fun d fd=>?_⟩;refine⟨_,rfl,q,rfl,⟨_,SqL.of (Same.new _ fd _ _ hq)⟩,qK (K:=K) (a:=q) (xs:=zs) (fun i σ H2=>(∃ s2 s3:Option V,σ=[some (.ref q),some (.ref d),s2,s3])∧Same H H2∧∃ acc ys,H2 d=some (.lst ys)∧TupL pr H2 ys acc∧acc.length≤i∧sr [] rows=sr acc (rows.drop i)) ⟨⟨none,none,rfl⟩,Same.new _ fd,[],[],qc,.nil,Nat.le_refl _,rfl⟩ (fun i σ H2 _ ⟨_,S,_⟩=>SqL.of (S _ _ hq)) ?_ ?_⟩
   · rintro i x σ H2 hx ⟨⟨s2,s3,rfl⟩,S,acc,ys,hd,ty,la,hs⟩;have hi:i < rows.length:=by rw[← hl];exact(List.getElem?_eq_some_iff.mp hx).1
     obtain⟨r,hr'⟩:∃ r,rows[i]?=some r:=⟨_,List.getElem?_eq_getElem hi⟩
     obtain⟨u,rfl,hu'⟩:=tp.2 i x r hx hr';have hu2:=S _ _ hu'
     have ed:rows.drop i=r::rows.drop (i+1):=by
       rw[List.drop_eq_getElem_cons hi];congr 1;rw[List.getElem?_eq_getElem hi]at hr';exact Option.some.inj hr'
     rw[ed]at hs;have nud:u≠d:=zi hu2 hd (by intro z;cases z);refine⟨u,_,rfl,SqT.of hu2,rfl,_,_,rfl,_,_,rfl,rfl,?_⟩;refine⟨_,rfl,_,.inl ⟨_,SqL.of hd,rfl⟩,?_⟩
     cases ea:acc.getLast? with
     | none =>
       have e0:acc=[]:=List.getLast?_eq_none_iff.mp ea;subst e0;have ey:ys=[]:=List.eq_nil_of_length_eq_zero ty.1;subst ey;rw[show sr [] (r::rows.drop (i+1))=sr ([]++[r]) (rows.drop (i+1)) from if_pos (.inl rfl)]at hs;refine qhX rfl (qa5 ?_);refine⟨_,rfl,.inl ⟨rfl,_,SqL.of hd⟩,_,rfl,_,rfl,qk (Nat.le_of_ble_eq_true rfl),fun tt ft=>?_⟩;have hd2:=Same.new (.tup [.int r.1,.int r.2]) ft _ _ hd;refine⟨d,_,_,rfl,rfl,hd2,qD (by rw[ty.1];omega),?_⟩;exact⟨⟨_,_,rfl⟩,(S.then _ ft).put fd _,_,_,qc,((ty.same (Same.new _ ft)).snoc (p:=r) qc).put hd2,by rw[List.length_append];show ([]:List (Int×Int)).length+1≤i+1;omega,hs⟩
     | some la0 =>
       have hne:acc≠[]:=fun z=>by rw[z]at ea;cases ea
       have hpos:0 < acc.length:=List.length_pos_iff.mpr hne;rw[List.getLast?_eq_getElem?]at ea;obtain⟨u0,hz0,hu0⟩:=ty.at_ ea
       have at0:atI ys (-1)=some (.ref u0):=by
         unfold atI ixN;rw[if_neg (by decide),if_pos (by rw[ty.1];omega)];show ys[((-1:Int)+(ys.length:Int)).toNat]?=_;rw[show ((-1:Int)+(ys.length:Int)).toNat=acc.length - 1 by rw[ty.1];omega];exact hz0
       have hye:ys.isEmpty=false:=by
         cases ys with
         | nil=>have:=ty.1;simp at this;omega
         | cons _ _=>rfl
       rw[hye];refine Qw rfl ?_;refine⟨_,rfl,_,rfl,.inl ⟨d,_,_,_,rfl,rfl,SqL.of hd,at0,.inr (.inl ⟨u0,_,_,_,rfl,rfl,SqT.of hu0,rfl,_,rfl,.inl ⟨rfl,_,rfl,?_⟩⟩)⟩⟩;refine jX (fun g=>?_) (fun g=>?_)
       · have g':acc=[]∨acc.getLast?.map (·.2)≠some r.2:=.inr fun z=>by
           rw[List.getLast?_eq_getElem?,ea]at z;have z':la0.2=r.2:=by simpa using z
           exact g (by rw[z'])
         rw[show sr acc (r::rows.drop (i+1))=sr (acc++[r]) (rows.drop (i+1)) from if_pos g']at hs;refine⟨_,rfl,.inl ⟨rfl,_,SqL.of hd⟩,_,rfl,_,rfl,qk (Nat.le_of_ble_eq_true rfl),fun tt ft=>?_⟩;have hd2:=Same.new (.tup [.int r.1,.int r.2]) ft _ _ hd;refine⟨d,_,_,rfl,rfl,hd2,qD (by rw[ty.1];omega),?_⟩;exact⟨⟨_,_,rfl⟩,(S.then _ ft).put fd _,_,_,qc,((ty.same (Same.new _ ft)).snoc (p:=r) qc).put hd2,by rw[List.length_append];show acc.length+1≤i+1;omega,hs⟩
       · have g':¬ (acc=[]∨acc.getLast?.map (·.2)≠some r.2):=by
           rintro (z|z)
           · exact hne z
           · apply z;rw[List.getLast?_eq_getElem?,ea];show some la0.2=some r.2;rw[(by injection g:la0.2=r.2)]
         rw[show sr acc (r::rows.drop (i+1))=sr acc (rows.drop (i+1)) from if_neg g']at hs;exact⟨⟨_,_,rfl⟩,S,acc,ys,hd,ty,by omega,hs⟩
   · rintro σ H2 ⟨⟨s2,s3,rfl⟩,S,acc,ys,hd,ty,la,hs⟩;rw[hl,List.drop_length]at hs;exact⟨_,rfl,kk d H2 fd S ⟨ys,hd,by rw[hs];exact ty⟩⟩
end
theorem qjv {rows others:List (Int×Int)}{t:Int}:t∈((rows++others).map fun r=>r.1)↔Bg rows others t:=by
 rw[List.mem_map];constructor
 · rintro⟨r,m,e⟩;exact⟨r,List.mem_append.mp m,e⟩
 · rintro⟨r,m,e⟩;exact⟨r,List.mem_append.mpr m,e⟩
theorem qg6 {rows others:List (Int×Int)} (g:Good rows) (go:Good others) {t:Int} (h:Bg rows others t):0≤t:=by
 obtain⟨r,m,e⟩:=h;rcases m with m|m
 · have:=(g.ok r m).1;omega
 · have:=(go.ok r m).1;omega
theorem bg_ngr {rows others:List (Int×Int)}{t:Int}:Bg (ngr rows) others t↔Bg rows others t:=by
 constructor
 · rintro⟨r,m,e⟩;rcases m with m|m
   · obtain⟨p,pm,rfl⟩:=List.mem_map.mp m;exact⟨p,.inl pm,e⟩
   · exact⟨r,.inr m,e⟩
 · rintro⟨r,m,e⟩;rcases m with m|m
   · exact⟨(r.1,-r.2),.inl (List.mem_map.mpr ⟨r,m,rfl⟩),e⟩
   · exact⟨r,.inr m,e⟩
theorem qem (r1 r2:List (Int×Int)) (ms:List Int) (t:Int):qd6 r1 r2 (ms++[t])=qd6 r1 r2 ms++[(t,(na r1 t).getD 0+(na r2 t).getD 0)]:=by unfold qd6;rw[List.map_append];rfl
theorem jY {α:Type}{xs:List α}{i:Nat}{c:α} (h:xs[i]?=some c):xs.take (i+1)=xs.take i++[c]:=by rw[List.take_add_one,h];rfl
theorem qfq {rows others:List (Int×Int)}{ms:List Int} (g:Good rows) (go:Good others) (hm:∀ t,t∈ms↔Bg rows others t) (up:ms.Pairwise (· < ·)):Fu rows others ((sr [] (qd6 (ngr rows) others ms)).find? nz |>.map (·.1)):=by
 rw[qck _ [] (fun _ z=>nomatch z)]
 have e:((qd6 (ngr rows) others ms).find? nz).map (·.1)=ms.find? fun t=>decide (na rows t≠na others t):=by
   unfold qd6;rw[List.find?_map,Option.map_map]
   have:((fun x=>x.1) ∘ fun t=>(t,(na (ngr rows) t).getD 0+(na others t).getD 0))=(id:Int->Int):=rfl
   rw[this,Option.map_id];show ms.find? _=_
   have h0:∀ t∈ms,(nz ∘ fun t=>(t,(na (ngr rows) t).getD 0+(na others t).getD 0)) t=decide (na rows t≠na others t):=fun t mt=>by
     have t0:=qg6 g go ((hm t).mp mt);have e1:=qbR g t0;have e2:=qbR go t0;show decide ((na (ngr rows) t).getD 0+(na others t).getD 0≠0)=_;rw[qgV,e1,e2];show decide (-(na rows t).getD 0+(na others t).getD 0≠0)=decide (some ((na rows t).getD 0)≠some ((na others t).getD 0));generalize (na rows t).getD 0=x;generalize (na others t).getD 0=y;by_cases c:x=y
     · subst c;simp;omega
     · rw[decide_eq_true (show -x+y≠0 by omega),decide_eq_true (show (some x:Option Int)≠some y from fun z=>c (Option.some.inj z))]
   clear hm up
   induction ms with
   | nil=>rfl
   | cons t ts ih =>
     rw[List.find?_cons,List.find?_cons,h0 t List.mem_cons_self,ih fun u m=>h0 u (List.mem_cons_of_mem _ m)]
 rw[e];exact qh1 hm up
section
variable {P:Program}{w:World}{K:Frag}{mg:Str->Option Value}{base:Heap}
theorem qeS {a:Ad} (T:Txt K mg a):qx P w K mg base CX0 2 a.f_R a.fd_R ["one","other"] qbf:=by
 have G_Q:=jW (P:=P) (w:=w) (base:=base) T;have G_B:=qbN (P:=P) (w:=w) (base:=base) T;refine T.d_R.F.ok sc_summed (fun vs H Q E h=>?_) (fun cdv A outer s H vs Q E hr h=>?_)
 · obtain⟨q,p,r1,r2,rfl,hr1,hr2,l1,l2,hna,kk⟩:=h;rfl
 · obtain⟨q,p,r1,r2,rfl,hr1,hr2,l1,l2,hna,kk⟩:=h;have hu:=qG hr;have h_Q:Room (1) _:=hr.mono (by decide);have h_B:Room (1) _:=hr.mono (by decide)
   refine⟨_,(qf (qJ (i:=2) sc_summed.nd rfl (Or.inl rfl) (qL qb))
     (qf (q9 PassesOwn.never rfl (qH (qdE rfl rfl T.n_sorted rfl T.n_set (qa (zA rfl (CompOk.def ["start","number"] [none,none]) (qH (qA z8 (pv 0) (pv 1))) (fun _ _ _ _ _=>(show PG _ _ (qjn K 2 _) from (Qo rfl (qE (qt (i:=0) (show List.Nodup (["start","number"]:List Str) by decide +kernel) rfl (Or.inl rfl)) (qE (qt (i:=1) (show List.Nodup (["start","number"]:List Str) by decide +kernel) rfl (Or.inl rfl)) zw))))) (fun _ _ _ _ _=>zU) (fun _ _ _ _ _=>(pv 0))) qb))) (qt (i:=3) (sc_summed.nd) rfl (Or.inl rfl))
       (qe (qF (qcq PySem.F.plainAttrs_list PySem.F.slot_list_append PySem.F.type_list_append zG (pv 2) (qa (ze (qa (pv 3) (qa (qA z8 (qm G_B h_B rfl T.d_B.m T.d_B.k T.d_B.b .nil qp (qa (pv 0) (qa (pv 3) qb))) (qm G_B h_B rfl T.d_B.m T.d_B.k T.d_B.b .nil qp (qa (pv 1) (qa (pv 3) qb)))) qb))) qb)))))
     (qe (qu (qm G_Q h_Q rfl T.d_Q.m T.d_Q.k T.d_Q.b .nil qp (qa (pv 2) qb)))))),?_⟩
   try dsimp only [qY,Cx.nox]
   refine⟨qk (Nat.le_of_ble_eq_true rfl),fun D fD=>?_⟩;have SD:=Same.new (.lst []) fD;have hD0:(upd H D (.lst [])) D=some (.lst []):=qc;(try unfold qM);(try dsimp only);generalize upd H D (.lst [])=G at SD hD0 ⊢;obtain⟨z1,h1,t1⟩:=hr1.same SD;obtain⟨z2,h2,t2⟩:=hr2.same SD;have e1:z1.length=r1.length:=t1.1;have e2:z2.length=r2.length:=t2.1;refine⟨_,rfl,_,rfl,.inr (.inl ⟨q,p,_,_,rfl,rfl,h1,h2,(Nat.le_of_lt (qD (by omega))),fun u fu=>?_⟩)⟩;have Su:=Same.new (.lst (z1++z2)) fu;have hu:(upd G u (.lst (z1++z2))) u=some (.lst (z1++z2)):=qc;have tu:TupL pr (upd G u (.lst (z1++z2))) (z1++z2) (r1++r2):=(qhi t1 t2).same Su;have hD1:=Su _ _ hD0;have SH:=SD.trans Su;(try dsimp only);generalize upd G u (.lst (z1++z2))=G1 at Su hu tu hD1 SH ⊢;refine⟨u,rfl,⟨_,SqL.of hu⟩,fun C fC=>?_⟩;refine qW (K:=K) (a:=u) (xs:=z1++z2) (D:=C) (fun i σ H2=>∃ (c0 c1:Option V),σ=[c0,c1]∧Same G1 H2∧H2 C=some (.lst ((((r1++r2).take i).map fun r=>r.1).map V.int))) ⟨none,none,rfl,Same.new _ fC,qc⟩ (fun i σ H2 _ ⟨_,_,_,S',_⟩=>SqL.of (S' _ _ hu)) ?_ ?_
   · rintro i z σ H2 hz ⟨c0,c1,rfl,S',hC⟩;obtain⟨r,t,hr',rfl,ht⟩:=tu.of hz;have lt:i < (r1++r2).length:=(List.getElem?_eq_some_iff.mp hr').1;rw[List.length_append]at lt;refine⟨t,_,rfl,SqT.of (S' _ _ ht),rfl,_,_,rfl,_,_,rfl,rfl,?_⟩;refine⟨_,rfl,_,hC,qD (by rw[List.length_map,List.length_map,List.length_take,List.length_append];omega),_,_,rfl,S'.put fC _,?_⟩;rw[qc,jY hr',List.map_append,List.map_append];rfl
   rintro σ G2 ⟨c0,c1,rfl,S2,hC⟩;rw[tu.1,List.take_length]at hC;refine⟨C,_,rfl,SqL.of hC,(by rw[List.length_map,List.length_append];omega),fun m ms fm hm lm up=>?_⟩;have hm':∀ t,t∈ms↔Bg r1 r2 t:=fun t=>(hm t).trans qjv;have l42:ms.length≤42:=by rw[List.length_map,List.length_append]at lm;omega
   have Sm:=Same.new (.lst (ms.map V.int)) fm;have hm1:(upd G2 m (.lst (ms.map V.int))) m=some (.lst (ms.map V.int)):=qc;have hD3:=Sm _ _ (S2 _ _ hD1);have S3:=S2.trans Sm;have nmD:m≠D:=fun e=>by rw[e,S2 _ _ hD1]at fm;cases fm
   try dsimp only
   generalize upd G2 m (.lst (ms.map V.int))=G3 at Sm hm1 hD3 S3 ⊢;have SH3:=SH.trans S3;have hr1':=hr1.same SH3;have hr2':=hr2.same SH3;refine⟨m,rfl,⟨_,SqL.of hm1⟩,qK (D:={ nx:=qjD (qhl zI [] E0 (qiD (qie 2) qjE)) { nx:=fun _ H'=>Q .non H',rt:=Q },rt:=Q }) (K:=K) (a:=m) (xs:=ms.map V.int) (fun i σ H4=>∃ (s3:Option V) (ys:List V),σ=[some (.ref q),some (.ref p),some (.ref D),s3]∧But D G3 H4∧H4 D=some (.lst ys)∧TupL pr H4 ys (qd6 r1 r2 (ms.take i))) ⟨none,[],rfl,(fun c o e _=>e),hD3,.nil⟩ (fun i σ H4 _ ⟨_,_,_,B,_⟩=>SqL.of (B _ _ hm1 nmD)) ?_ ?_⟩
   · rintro i z σ H4 hz ⟨s3,ys,rfl,B,hD,ty⟩;obtain⟨t,ht,rfl⟩:=qhP hz;have lt:i < ms.length:=(List.getElem?_eq_some_iff.mp ht).1;obtain⟨n1,n2⟩:=hna t ((hm' t).mp (List.mem_of_getElem? ht));have ly:ys.length≤64:=by rw[ty.1];unfold qd6;rw[List.length_map,List.length_take];omega
     have bs:Same H H4:=fun c o e=>B c o (SH3 c o e) (qj e fD);refine⟨_,rfl,.inl ⟨rfl,_,SqL.of hD⟩,_,rfl,_,rfl,_,rfl,q,t,_,r1,rfl,hr1.same bs,l1,n1,fun H5 S5=>?_⟩;refine⟨_,rfl,_,rfl,p,t,_,r2,rfl,(hr2.same bs).same S5,l2,n2,fun H6 S6=>?_⟩;refine .inl ⟨_,_,rfl,rfl,qk (Nat.le_of_ble_eq_true rfl),fun tt ft=>?_⟩;have St:=Same.new (.tup [.int t,.int ((na r1 t).getD 0+(na r2 t).getD 0)]) ft;have U:=(S5.trans S6).trans St;refine⟨D,_,_,rfl,rfl,U _ _ hD,qD (by omega),?_⟩;refine⟨_,ys++[.ref tt],rfl,(fun c o e n=>by rw[qg n];exact U _ _ (B c o e n)),qc,?_⟩;rw[jY ht,qem];exact((ty.same U).snoc (p:=(t,(na r1 t).getD 0+(na r2 t).getD 0)) qc).put (U _ _ hD)
   · rintro σ H4 ⟨s3,ys,rfl,B,hD,ty⟩;rw[List.length_map,List.take_length]at ty;have bs:Same H H4:=fun c o e=>B c o (SH3 c o e) (qj e fD);refine⟨_,rfl,D,_,rfl,⟨ys,hD,ty⟩,(by unfold qd6;rw[List.length_map];omega),fun d H5 fd S5 R5=>?_⟩;exact kk d ms H5 (bs.none fd) (bs.trans S5) hm' l42 up R5
theorem JZ {a:Ad} (T:Txt K mg a):qx P w K mg base CX0 3 a.f_S a.fd_S ["one","other"] Zm:=by
 have G_R:=qeS (P:=P) (w:=w) (base:=base) T;refine T.d_S.F.ok JU (fun vs H Q E h=>?_) (fun cdv A outer s H vs Q E hr h=>?_)
 · obtain⟨q,p,r1,r2,rfl,hr1,hr2,g1,g2,kk⟩:=h;rfl
 · obtain⟨q,p,r1,r2,rfl,hr1,hr2,g1,g2,kk⟩:=h;have h_R:Room (2) _:=hr.mono (by decide);refine⟨_,(qe (qu (qm G_R h_R rfl T.d_R.m T.d_R.k T.d_R.b .nil qp (qa (zA rfl (CompOk.def ["moment","number"] [none,none]) (qH (pv 0)) (fun _ _ _ _ _=>(show PG _ _ (qjn K 2 _) from (Qo rfl (qE (qt (i:=0) (show List.Nodup (["moment","number"]:List Str) by decide +kernel) rfl (Or.inl rfl)) (qE (qt (i:=1) (show List.Nodup (["moment","number"]:List Str) by decide +kernel) rfl (Or.inl rfl)) zw))))) (fun _ _ _ _ _=>zU) (fun _ _ _ _ _=>(ze (qa (pv 0) (qa (qdD qab (pv 1)) qb))))) (qa (pv 1) qb))))),?_⟩;(try dsimp only [qY,Cx.nox]);obtain⟨zs,hq,tp⟩:=id hr1;have few:=g1.few;refine⟨_,rfl,q,rfl,⟨_,SqL.of hq⟩,fun D fD=>?_⟩;refine qW (K:=K) (a:=q) (xs:=zs) (D:=D) (fun i σ H2=>∃ (s0 s1:Option V) (ys:List V),σ=[s0,s1]∧Same H H2∧H2 D=some (.lst ys)∧TupL pr H2 ys (ngr (r1.take i))) ⟨none,none,[],rfl,Same.new _ fD,qc,.nil⟩ (fun i σ H2 _ ⟨_,_,_,_,S,_⟩=>SqL.of (S _ _ hq)) ?_ ?_
   · rintro i z σ H2 hz ⟨s0,s1,ys,rfl,S,hD,tD⟩;obtain⟨p',t,hp,rfl,ht⟩:=tp.of hz;have ly:ys.length≤64:=by rw[tD.1];unfold ngr;rw[List.length_map,List.length_take];omega
     refine⟨t,_,rfl,SqT.of (S _ _ ht),rfl,_,_,rfl,_,_,rfl,rfl,?_⟩;refine⟨_,rfl,_,rfl,_,rfl,qk (Nat.le_of_ble_eq_true rfl),fun t2 ft2=>?_⟩;have S2:=Same.new (.tup [.int p'.1,.int (-p'.2)]) ft2;have hD2:=S2 _ _ hD;refine⟨_,hD2,qD (by omega),_,_,ys++[.ref t2],rfl,(S.trans S2).put fD _,qc,?_⟩;rw[jY hp];show TupL pr _ _ ((List.take i r1++[p']).map _);rw[List.map_append];exact((tD.same S2).snoc (p:=(p'.1,-p'.2)) qc).put hD2
   · rintro σ H2 ⟨s0,s1,ys,rfl,S,hD,tD⟩;rw[tp.1,List.take_length]at tD;refine⟨_,rfl,D,p,ngr r1,r2,rfl,⟨ys,hD,tD⟩,hr2.same S,(by unfold ngr;rw[List.length_map];exact few),g2.few,(fun t ht=>?_),fun d ms H' fd S' hm lm up R=>kk d ms H' (S.none fd) (S.trans S') (fun t=>(hm t).trans bg_ngr) lm up R⟩;have t0:=qg6 g1 g2 (bg_ngr.mp ht);refine⟨?_,qbR g2 t0⟩;rw[qgV,qbR g1 t0];rfl
theorem Jt {a:Ad} (T:Txt K mg a):qx P w K mg base CX0 4 a.f_T a.fd_T ["one","other"] (QR a):=by
 have G_S:=JZ (P:=P) (w:=w) (base:=base) T;have G_I:=qa3 (P:=P) (w:=w) (base:=base) T;refine T.d_T.F.ok sc_first_unlike (fun vs H Q E h=>?_) (fun cdv A outer s H vs Q E hr h=>?_)
 · obtain⟨x,y,rows,others,rfl,tb,good,tby,goody,kk⟩:=h;rfl
 · obtain⟨x,y,rows,others,rfl,tb,good,tby,goody,kk⟩:=h;have hU:=hr.units;have h_S:Room (3) _:=hr.mono (by decide);have h_I:Room (1) _:=hr.mono (by decide)
   refine⟨_,(qf (q9 PassesOwn.never rfl (qH (qm G_S h_S rfl T.d_S.m T.d_S.k T.d_S.b .nil qp (qa (qz (pv 0) T.cl_Table T.d_I.mt G_I h_I T.d_I.b .nil qp) (qa (qz (pv 1) T.cl_Table T.d_I.mt G_I h_I T.d_I.b .nil qp) qb)))) (Qo rfl (qE (qt (i:=2) (sc_first_unlike.nd) rfl (Or.inl rfl)) (qE (qt (i:=3) (sc_first_unlike.nd) rfl (Or.inl rfl)) zw)))
       (qe (qN (qy (uNe hU) (pv 3) qd (qI _))
         (qe (qu (pv 2)))
         qw)))
     (qe (qu qbJ))),?_⟩
   try dsimp only [qY,Cx.nox]
   obtain⟨k,dx,zx,hx,_,_⟩:=id tb
   obtain⟨k2,dy,zy,hy,_,_⟩:=id tby;refine⟨_,rfl,x,dx,_,rfl,hx,qfn _ (by decide +kernel),x,rows,rfl,tb,fun d G1 fd S1 R1=>?_⟩;refine⟨_,rfl,y,dy,_,rfl,S1 _ _ hy,qfn _ (by decide +kernel),y,others,rfl,tby.same S1,fun e G2 fe S2 R2=>?_⟩;refine⟨d,e,rows,others,rfl,R1.same S2,R2,good,goody,fun f ms G3 ff S3 hm lm up R3=>?_⟩;have U3:=(S1.trans S2).trans S3;have fu:=qfq good goody hm up;generalize sr [] (qd6 (ngr rows) others ms)=ps at R3 fu;obtain⟨zs,hf,tp⟩:=R3;refine⟨f,rfl,⟨_,SqL.of hf⟩,qK (D:={ nx:=qjD (tC .non) { nx:=fun _ H'=>Q .non H',rt:=Q },rt:=Q }) (K:=K) (a:=f) (xs:=zs) (fun i σ H2=>∃ s2 s3:Option V,σ=[some (.ref x),some (.ref y),s2,s3]∧H2=G3∧∀ r∈ps.take i,r.2=0) ⟨none,none,rfl,rfl,fun _ z=>by simp at z⟩ (fun i σ H2 _ ⟨_,_,_,e,_⟩=>e▸SqL.of hf) ?_ ?_⟩
   · rintro i z σ H2 hz ⟨s2,s3,rfl,rfl,hz0⟩;obtain⟨r,t,hr',rfl,ht⟩:=tp.of hz;refine⟨t,_,rfl,SqT.of ht,rfl,_,_,rfl,_,_,rfl,rfl,?_⟩;refine⟨_,rfl,.inl ⟨rfl,_,rfl,jX (fun g=>?_) (fun g=>?_)⟩⟩
     · have g':r.2≠0:=fun z=>g (by rw[z])
       have e:ps.find? nz=some r:=by
         refine List.find?_eq_some_iff_append.mpr ⟨by simp[nz,g'],ps.take i,ps.drop (i+1),?_,fun a ha=>by simp[nz,hz0 a ha]⟩;obtain⟨l,el⟩:=List.getElem?_eq_some_iff.mp hr';rw[← el,← List.drop_eq_getElem_cons l,List.take_append_drop]
       rw[e]at fu;exact⟨_,rfl,kk (some r.1) _ U3 fu⟩
     · refine⟨_,_,rfl,rfl,fun a ha=>?_⟩;rw[jY hr']at ha;rcases List.mem_append.mp ha with ha|ha
       · exact hz0 a ha
       · rw[List.mem_singleton.mp ha];injection g
   · rintro σ H2 ⟨s2,s3,rfl,rfl,hz0⟩;rw[tp.1,List.take_length]at hz0;have e:ps.find? nz=none:=List.find?_eq_none.mpr fun r m=>by simp[nz,hz0 r m]
     rw[e]at fu;exact kk none _ U3 fu
end
abbrev fsL (td ed bl:Addr):List (Str×V):=[("tables",.ref td),("entries",.ref ed),("bound",.ref bl)]
abbrev prB (b:Str×Str×Int):List V:=[.str b.1,.str b.2.1,.int b.2.2]
def skv (ps:List (Str×V)):List (Key×V):=ps.map fun p=>((.inr p.1:Key),p.2)
theorem qcl:∀ {ps:List (Str×V)},(ps.map (·.1)).Nodup->∀ e∈ps,qch (skv ps) (.inr e.1)=some e.2
 | [],_,x,m=>nomatch m
 | y::ps,nd,x,m=>by
   rw[List.map_cons,List.nodup_cons]at nd;unfold skv qch;rw[List.map_cons,List.find?_cons];rcases List.mem_cons.mp m with rfl|m
   · simp
   · have n:¬ ((.inr y.1:Key)=.inr x.1):=fun e=>by
       injection e with e;exact nd.1 (e▸List.mem_map_of_mem m)
     rw[show decide (((.inr y.1:Key),y.2).1=.inr x.1)=false by simpa using n];exact qcl nd.2 x m
theorem qcT:∀ {ps:List (Str×V)}{pl:Str},pl∉ps.map (·.1)->qch (skv ps) (.inr pl)=none
 | [],_,_=>rfl
 | y::ps,pl,h=>by
   rw[List.map_cons,List.mem_cons,not_or]at h;unfold skv qch;rw[List.map_cons,List.find?_cons];have n:¬ ((.inr y.1:Key)=.inr pl):=fun e=>by injection e with e;exact h.1 e.symm
   rw[show decide (((.inr y.1:Key),y.2).1=.inr pl)=false by simpa using n];exact qcT h.2
theorem qes {ps:List (Str×V)}{pl:Str} (no:pl∉ps.map (·.1)) (v:V):qda (skv ps) (.inr pl) v=skv (ps++[(pl,v)]):=by
 rw[qf1 _ (qcT no)];unfold skv;rw[List.map_append];rfl
theorem qe2 {ps:List (Str×V)}{pl:Str}{v:V} (nd:(ps.map (·.1)).Nodup) (no:pl∉ps.map (·.1)):((ps++[(pl,v)]).map (·.1)).Nodup:=by
 rw[List.map_append];exact List.nodup_append.mpr ⟨nd,by simp,fun y m z mz e'=>no (by rw[List.mem_singleton.mp mz]at e';have e2:y=pl:=e';rw[← e2];exact m)⟩
structure Lo (a:Ad) (H:Hp) (x td ed bl:Addr) (ps ns:List (Str×V)) (zs:List V):Prop where
 hx:∃ dx,H x=some (.ins a.c_Log dx (fsL td ed bl))
 ht:H td=some (.dK (skv ps))
 he:H ed=some (.dK (skv ns))
 hb:H bl=some (.lst zs)
 ne:td≠ed
 ndt:(ps.map (·.1)).Nodup
 nde:(ns.map (·.1)).Nodup
section
variable {a:Ad}{H H':Hp}{x td ed bl:Addr}{ps ns:List (Str×V)}{zs:List V}
theorem Lo.sm (h:Lo a H x td ed bl ps ns zs) (s:Same H H'):Lo a H' x td ed bl ps ns zs :=
 ⟨let ⟨dx,e⟩:=h.hx;⟨dx,s _ _ e⟩,s _ _ h.ht,s _ _ h.he,s _ _ h.hb,h.ne,h.ndt,h.nde⟩
theorem Lo.eget (h:Lo a H x td ed bl ps ns zs) {e:Str×V} (m:e∈ns):qd8 H ed (.str e.1) (some e.2):=.inl ⟨_,.inr e.1,.inl h.he,rfl,(qcl h.nde e m).symm⟩
theorem Lo.tget (h:Lo a H x td ed bl ps ns zs) {e:Str×V} (m:e∈ps):qd8 H td (.str e.1) (some e.2):=.inl ⟨_,.inr e.1,.inl h.ht,rfl,(qcl h.ndt e m).symm⟩
end
theorem Qr {α:Type}{p:α->Bool}{l:List α}{i:Nat}{x:α} (h:l[i]?=some x):(l.take (i+1)).filter p=(l.take i).filter p++(if p x=true then [x] else []):=by
 rw[List.take_add_one,h,List.filter_append];congr 1;by_cases c:p x=true
 · simp[c]
 · simp[c]
theorem Qx {n:Str}{ns:List Str}:inV (.str n) (ns.map V.str)=decide (n∈ns):=by
 unfold inV;rw[List.any_map,Bool.eq_iff_iff,List.any_eq_true,decide_eq_true_iff];constructor
 · rintro⟨y,m,e⟩
   have:y=n:=by simpa[eqV] using e
   exact this▸m
 · intro m;exact⟨n,m,by simp[eqV]⟩
theorem zX (ns:List Str):(ns.map V.str).all J9=true:=by
 rw[List.all_map,List.all_eq_true];intro x _;rfl
inductive j4 (vs:List V) (H:Hp) (Q:VK):Prop
 | mk (x:Str) (d:Addr) (v:V) (h1:vs=[.str x,.ref d]) (h2:qd8 H d (.str x) (some v)) (h3:Q (.bl true) H):j4 vs H Q
def j5:Sp:=fun vs H Q _=>j4 vs H Q
inductive ZW (a:Ad) (vs:List V) (H:Hp) (Q:VK):Prop
 | mk (x dx:Addr) (h1:vs=[.ref x]) (h2:H x=some (.ins a.c_Log dx [])) (h3:∀ (td ed bl:Addr) (H':Hp),But x H H'->H td=none->H ed=none->H bl=none->Lo a H' x td ed bl [] [] []->Q .non H'):ZW a vs H Q
def ZI (a:Ad):Sp:=fun vs H Q _=>ZW a vs H Q
inductive Zu (a:Ad) (vs:List V) (H:Hp) (Q:VK):Prop
 | mk (x td ed bl:Addr) (ps ns:List (Str×V)) (zs:List V) (pl:Str) (v:V) (h1:vs=[.ref x,.str pl,v]) (h2:Lo a H x td ed bl ps ns zs) (h3:zV (.str pl)=true) (h4:pl∉ps.map (·.1)) (h5:ps.length < 6) (h6:∀ H',But td H H'->Lo a H' x td ed bl (ps++[(pl,v)]) ns zs->Q .non H'):Zu a vs H Q
def zZ (a:Ad):Sp:=fun vs H Q _=>Zu a vs H Q
inductive zL (a:Ad) (vs:List V) (H:Hp) (Q:VK):Prop
 | mk (x td ed bl:Addr) (ps ns:List (Str×V)) (zs:List V) (e:Str×V) (h1:vs=[.ref x,.str e.1]) (h2:Lo a H x td ed bl ps ns zs) (h3:e∈ns) (h4:Q .non H):zL a vs H Q
def zq (a:Ad):Sp:=fun vs H Q _=>zL a vs H Q
inductive Zr (a:Ad) (vs:List V) (H:Hp) (Q:VK):Prop
 | mk (x td ed bl:Addr) (ps ns:List (Str×V)) (zs:List V) (h1:vs=[.ref x]) (h2:Lo a H x td ed bl ps ns zs) (h3:∀ l,H l=none->Q (.ref l) (upd H l (.lst ((ns.map (·.1)).map V.str)))):Zr a vs H Q
def qZ (a:Ad):Sp:=fun vs H Q _=>Zr a vs H Q
inductive Zt (a:Ad) (vs:List V) (H:Hp) (Q:VK):Prop
 | mk (x td ed bl:Addr) (ps ns:List (Str×V)) (zs:List V) (e:Str×V) (h1:vs=[.ref x,.str e.1]) (h2:Lo a H x td ed bl ps ns zs) (h3:e∈ns) (h4:Q e.2 H):Zt a vs H Q
def Q3 (a:Ad):Sp:=fun vs H Q _=>Zt a vs H Q
inductive Zv (a:Ad) (vs:List V) (H:Hp) (Q:VK):Prop
 | mk (x td ed bl:Addr) (ps ns:List (Str×V)) (zs:List V) (h1:vs=[.ref x]) (h2:Lo a H x td ed bl ps ns zs) (h3:∀ l,H l=none->Q (.ref l) (upd H l (.lst zs))):Zv a vs H Q
def zE (a:Ad):Sp:=fun vs H Q _=>Zv a vs H Q
inductive Q2 (a:Ad) (vs:List V) (H:Hp) (Q:VK):Prop
 | mk (x td ed bl:Addr) (ps ns:List (Str×V)) (zs:List V) (h1:vs=[.ref x]) (h2:Lo a H x td ed bl ps ns zs) (h3:ps.length≤6) (h4:∀ l ss,H l=none->ss.Perm (ps.map (·.1))->sortedS ss=true->Q (.ref l) (upd H l (.lst (ss.map V.str)))):Q2 a vs H Q
def zp (a:Ad):Sp:=fun vs H Q _=>Q2 a vs H Q
inductive Zq (a:Ad) (vs:List V) (H:Hp) (Q:VK):Prop
 | mk (x td ed bl:Addr) (ps ns:List (Str×V)) (zs:List V) (e:Str×V) (h1:vs=[.ref x,.str e.1]) (h2:Lo a H x td ed bl ps ns zs) (h3:e∈ps) (h4:Q e.2 H):Zq a vs H Q
def Q1 (a:Ad):Sp:=fun vs H Q _=>Zq a vs H Q
inductive jD (a:Ad) (vs:List V) (H:Hp) (Q:VK):Prop
 | mk (x td ed bl:Addr) (ps ns:List (Str×V)) (zs:List V) (e:Et) (h1:vs=[.ref x,.ref e.x]) (h2:Lo a H x td ed bl ps ns zs) (h3:EnT a H e) (h4:e.nm∉ns.map (·.1)) (h5:ns.length < 60) (h6:∀ H',But ed H H'->Lo a H' x td ed bl ps (ns++[(e.nm,.ref e.x)]) zs->Q .non H'):jD a vs H Q
def jk (a:Ad):Sp:=fun vs H Q _=>jD a vs H Q
inductive ZX (a:Ad) (vs:List V) (H:Hp) (Q:VK):Prop
 | mk (x td ed bl:Addr) (ps ns:List (Str×V)) (zs:List V) (e f:Str×V) (m:Int) (h1:vs=[.ref x,.str e.1,.str f.1,.int m]) (h2:Lo a H x td ed bl ps ns zs) (h3:e∈ns) (h4:f∈ns) (h5:-2000000000≤m) (h6:m≤2000000001) (h7:zs.length < 100) (h8:∀ (t:Addr) (v:V) (H':Hp),H t=none->But bl H H'->H' t=some (.tup (prB (e.1,f.1,m)))->Lo a H' x td ed bl ps ns (zs++[.ref t])->Q v H'):ZX a vs H Q
def ZJ (a:Ad):Sp:=fun vs H Q _=>ZX a vs H Q
section
variable {P:Program}{w:World}{K:Frag}{mg:Str->Option Value}{base:Heap}
theorem qbQ {a:Ad} (T:Txt K mg a):qx P w K mg base CX0 1 a.f_p a.fd_p ["thing","keyed"] j5:=by
 refine T.d_p.F.ok qev (fun vs H Q E h=>?_) (fun cdv A outer s H vs Q E hr h=>?_)
 · obtain⟨x,d,v,rfl,dg,kk⟩:=h;rfl
 · obtain⟨x,d,v,rfl,dg,kk⟩:=h;have hu:=qG hr;refine⟨_,(qe (qu (qbK (ql Qz (by rfl) T.n_isinstance qr (qa (pv 0) (qa (Za (v:=.ty "str") rfl T.n_str qb5 rfl) qb))) (qbI (Q9 (qgU hu) (pv 0) (pv 1) (by with_unfolding_all rfl)))))),?_⟩;(try dsimp only [qY,Cx.nox]);refine⟨_,rfl,_,_,_,rfl,(by decide),rfl,true,rfl,qa5 ?_⟩;exact⟨_,rfl,_,rfl,d,_,rfl,dg,kk⟩
theorem Jx {a:Ad} (T:Txt K mg a):qx P w K mg base CX0 1 a.f_y a.fd_y ["self"] (ZI a):=by
 refine T.d_y.F.ok qcn (fun vs H Q E h=>?_) (fun cdv A outer s H vs Q E hr h=>?_)
 · obtain⟨x,dx,rfl,hx,kk⟩:=h;rfl
 · obtain⟨x,dx,rfl,hx,kk⟩:=h;have hU:=hr.units
   refine⟨_,(qf (jO (pv 0) qdg rfl)
     (qf (jO (pv 0) qdg rfl)
     (qe (jO (pv 0) (qL qb) rfl)))),?_⟩
   try dsimp only [qY,Cx.nox]
   intro td ftd;have n1:td≠x:=fun e=>by rw[e,hx]at ftd;cases ftd
   refine⟨_,rfl,x,_,dx,_,rfl,(by rw[qg n1.symm];exact hx),T.cl_Log,T.n_Log_tables,(by decide),?_⟩;intro ed fed;have n2:ed≠x:=fun e=>by rw[e,qc]at fed;cases fed
   have n3:ed≠td:=fun e=>by rw[e,qg n1,qc]at fed;cases fed
   rw[qg n2,qg n3]at fed;refine⟨_,rfl,x,_,dx,_,rfl,(by rw[qg n2.symm,qc]),T.cl_Log,T.n_Log_entries,(Nat.le_of_ble_eq_true rfl),?_⟩;refine⟨qk (Nat.le_of_ble_eq_true rfl),fun bl fbl=>?_⟩;have n4:bl≠x:=fun e=>by rw[e,qc]at fbl;cases fbl
   have n5:bl≠ed:=fun e=>by rw[e,qg n2,qc]at fbl;cases fbl
   have n6:bl≠td:=fun e=>by rw[e,qg n1,qg n3.symm,qg n1,qc]at fbl;cases fbl
   rw[qg n4,qg n5,qg n4,qg n6]at fbl;refine⟨_,rfl,x,_,dx,_,rfl,(by rw[qg n4.symm,qc]),T.cl_Log,T.n_Log_bound,(Nat.le_of_ble_eq_true rfl),?_⟩;refine kk td ed bl _ (fun b o e nb=>?_) ftd fed fbl ⟨⟨dx,?_⟩,?_,?_,?_,n3.symm,List.nodup_nil,List.nodup_nil⟩
   · rw[qg nb,qg (qj e fbl),qg nb,qg (qj e fed),qg nb,qg (qj e ftd)];exact e
   · rw[qc];rfl
   · rw[qg n1,qg n6.symm,qg n1,qg n3.symm,qg n1,qc];rfl
   · rw[qg n2,qg n5.symm,qg n2,qc];rfl
   · rw[qg n4,qc]
theorem jT {a:Ad} (T:Txt K mg a):qx P w K mg base CX0 2 a.f_u a.fd_u ["self","place","table"] (zZ a):=by
 have G_o:=qav (P:=P) (w:=w) (base:=base) T;refine T.d_u.F.ok qbx (fun vs H Q E h=>?_) (fun cdv A outer s H vs Q E hr h=>?_)
 · obtain⟨x,td,ed,bl,ps,ns,zs,pl,v,rfl,hL,ok,no,few,kk⟩:=h;rfl
 · obtain⟨x,td,ed,bl,ps,ns,zs,pl,v,rfl,hL,ok,no,few,kk⟩:=h;have hu:=qG hr;have h_o:Room (1) _:=hr.mono (by decide);obtain⟨t_MOST_PLACES,c_MOST_PLACES⟩:=T.g_MOST_PLACES
   refine⟨_,(qf (qN (zu (zd (qm G_o h_o rfl T.d_o.m T.d_o.k T.d_o.b .nil qp (qa (pv 1) qb))))
       (qe qP)
       qw)
     (qf (qN (PW.pt (qc9 (qy (qbL hu) (pv 1) (qT (pv 0) rfl) (by with_unfolding_all rfl)) (qaU (qy qf8 (ql qb4 (by rfl) T.n_len qv (qa (qT (pv 0) rfl) qb)) (qQ (v:=.int 6) rfl c_MOST_PLACES ⟨_,rfl⟩) (qI _)))))
       (qe qP)
       qw)
     (qe (qeI hu (qT (pv 0) rfl) (pv 1) (pv 2) rfl)))),?_⟩
   try dsimp only [qY,Cx.nox]
   refine⟨_,rfl,pl,rfl,ok,fun H1 S1=>⟨true,rfl,Qw rfl ?_⟩⟩;have hL1:=hL.sm S1;obtain⟨dx,hx⟩:=hL1.hx;have dg:qd8 H1 td (.str pl) none:=.inl ⟨_,.inr pl,.inl hL1.ht,rfl,(qcT no).symm⟩;refine⟨_,rfl,_,rfl,x,_,dx,_,_,rfl,hx,T.cl_Log,T.n_Log_tables,rfl,td,_,rfl,dg,_,rfl,qhX rfl ?_⟩;refine⟨_,rfl,x,_,dx,_,_,rfl,hx,T.cl_Log,T.n_Log_tables,rfl,td,_,rfl,hL1.ht,_,_,rfl,rfl,_,rfl,jr (fun g=>absurd g ?_) (fun _=>?_)⟩
   · unfold skv;rw[List.length_map];omega
   refine⟨_,rfl,_,rfl,x,_,dx,_,_,rfl,hx,T.cl_Log,T.n_Log_tables,rfl,_,rfl,td,_,rfl,DPut.k (k:=.inr pl) hL1.ht (by unfold skv;rw[List.length_map];exact Nat.lt_of_lt_of_le (by omega:ps.length < 100) (qk (by decide:100≤1000))),?_⟩;rw[qes no];exact kk _ (fun b o e nb=>by rw[qg nb];exact S1 b o e) ⟨⟨dx,by rw[qg (zi hx hL1.ht (by intro z;cases z))];exact hx⟩,qc,by rw[qg hL1.ne.symm];exact hL1.he,by rw[qg (zi hL1.hb hL1.ht (by intro z;cases z))];exact hL1.hb,hL1.ne,qe2 hL1.ndt no,hL1.nde⟩
theorem z4 {a:Ad} (T:Txt K mg a):qx P w K mg base CX0 2 a.f_j a.fd_j ["self","name"] (zq a):=by
 have G_p:=qbQ (P:=P) (w:=w) (base:=base) T;refine T.d_j.F.ok ZY (fun vs H Q E h=>?_) (fun cdv A outer s H vs Q E hr h=>?_)
 · obtain⟨x,td,ed,bl,ps,ns,zs,e,rfl,hL,me,kk⟩:=h;rfl
 · obtain⟨x,td,ed,bl,ps,ns,zs,e,rfl,hL,me,kk⟩:=h;have h_p:Room (1) _:=hr.mono (by decide)
   refine⟨_,(qe (qN (zu (zd (qm G_p h_p rfl T.d_p.m T.d_p.k T.d_p.b .nil qp (qa (pv 1) (qa (qT (pv 0) rfl) qb)))))
       (qe qP)
       qw)),?_⟩
   try dsimp only [qY,Cx.nox]
   obtain⟨dx,hx⟩:=hL.hx;exact⟨_,rfl,_,rfl,x,_,dx,_,_,rfl,hx,T.cl_Log,T.n_Log_entries,rfl,e.1,ed,_,rfl,hL.eget me,true,rfl,Qw rfl kk⟩
theorem zm {a:Ad} (T:Txt K mg a):qx P w K mg base CX0 1 a.f_a a.fd_a ["self"] (qZ a):=by
 refine T.d_a.F.ok qbv (fun vs H Q E h=>?_) (fun cdv A outer s H vs Q E hr h=>?_)
 · obtain⟨x,td,ed,bl,ps,ns,zs,rfl,hL,kk⟩:=h;rfl
 · obtain⟨x,td,ed,bl,ps,ns,zs,rfl,hL,kk⟩:=h;refine⟨_,(qe (qu (zh (r:=qgL) (qd0 rfl) (by rfl) T.n_list zc (qa (qT (pv 0) rfl) qb)))),?_⟩;(try dsimp only [qY,Cx.nox]);obtain⟨dx,hx⟩:=hL.hx;refine⟨_,rfl,x,_,dx,_,_,rfl,hx,T.cl_Log,T.n_Log_entries,rfl,ed,_,rfl,.inl hL.he,fun l fl=>?_⟩
   have e:((skv ns).map fun p=>kV p.1)=(ns.map (·.1)).map V.str:=by
     unfold skv;rw[List.map_map,List.map_map];rfl
   rw[e];exact kk l fl
theorem jS {a:Ad} (T:Txt K mg a):qx P w K mg base CX0 3 a.f_k a.fd_k ["self","name"] (Q3 a):=by
 have G_j:=z4 (P:=P) (w:=w) (base:=base) T;refine T.d_k.F.ok qbw (fun vs H Q E h=>?_) (fun cdv A outer s H vs Q E hr h=>?_)
 · obtain⟨x,td,ed,bl,ps,ns,zs,e,rfl,hL,me,kk⟩:=h;rfl
 · obtain⟨x,td,ed,bl,ps,ns,zs,e,rfl,hL,me,kk⟩:=h;have hu:=qG hr;have h_j:Room (2) _:=hr.mono (by decide)
   refine⟨_,(qf (qF (zf (pv 0) T.cl_Log T.d_j.mt G_j h_j T.d_j.b .nil qp (qa (pv 1) qb)))
     (qe (qu (qeL hu (qT (pv 0) rfl) (pv 1) (fun _ _=>rfl))))),?_⟩
   try dsimp only [qY,Cx.nox]
   obtain⟨dx,hx⟩:=hL.hx;refine⟨_,rfl,x,dx,_,rfl,hx,rfl,_,rfl,x,td,ed,bl,ps,ns,zs,e,rfl,hL,me,?_⟩;exact⟨_,rfl,x,_,dx,_,_,rfl,hx,T.cl_Log,T.n_Log_entries,rfl,_,rfl,ed,_,rfl,hL.eget me,kk⟩
theorem z5 {a:Ad} (T:Txt K mg a):qx P w K mg base CX0 1 a.f_c a.fd_c ["self"] (zE a):=by
 refine T.d_c.F.ok qby (fun vs H Q E h=>?_) (fun cdv A outer s H vs Q E hr h=>?_)
 · obtain⟨x,td,ed,bl,ps,ns,zs,rfl,hL,kk⟩:=h;rfl
 · obtain⟨x,td,ed,bl,ps,ns,zs,rfl,hL,kk⟩:=h;refine⟨_,(qe (qu (zh (r:=qih K) zn (by rfl) T.n_list zc (qa (qT (pv 0) rfl) qb)))),?_⟩;(try dsimp only [qY,Cx.nox]);obtain⟨dx,hx⟩:=hL.hx;exact⟨_,rfl,x,_,dx,_,_,rfl,hx,T.cl_Log,T.n_Log_bound,rfl,bl,zs,rfl,.inl (SqL.of hL.hb),fun l fl=>kk l fl⟩
theorem zM {a:Ad} (T:Txt K mg a):qx P w K mg base CX0 1 a.f_b a.fd_b ["self"] (zp a):=by
 refine T.d_b.F.ok qaQ (fun vs H Q E h=>?_) (fun cdv A outer s H vs Q E hr h=>?_)
 · obtain⟨x,td,ed,bl,ps,ns,zs,rfl,hL,few,kk⟩:=h;rfl
 · obtain⟨x,td,ed,bl,ps,ns,zs,rfl,hL,few,kk⟩:=h;refine⟨_,(qe (qu (ql (r:=qgI) (qdZ rfl) (by rfl) T.n_sorted Ze (qa (qT (pv 0) rfl) qb)))),?_⟩;(try dsimp only [qY,Cx.nox]);obtain⟨dx,hx⟩:=hL.hx;exact⟨_,rfl,x,_,dx,_,_,rfl,hx,T.cl_Log,T.n_Log_tables,rfl,td,ps,rfl,.inl hL.ht,(by omega),fun l ss fl pm so=>kk l ss fl pm so⟩
theorem jR {a:Ad} (T:Txt K mg a):qx P w K mg base CX0 2 a.f_i a.fd_i ["self","place"] (Q1 a):=by
 have G_p:=qbQ (P:=P) (w:=w) (base:=base) T;refine T.d_i.F.ok qbu (fun vs H Q E h=>?_) (fun cdv A outer s H vs Q E hr h=>?_)
 · obtain⟨x,td,ed,bl,ps,ns,zs,e,rfl,hL,mt,kk⟩:=h;rfl
 · obtain⟨x,td,ed,bl,ps,ns,zs,e,rfl,hL,mt,kk⟩:=h;have hu:=qG hr;have h_p:Room (1) _:=hr.mono (by decide)
   refine⟨_,(qf (qN (zu (zd (qm G_p h_p rfl T.d_p.m T.d_p.k T.d_p.b .nil qp (qa (pv 1) (qa (qT (pv 0) rfl) qb)))))
       (qe qP)
       qw)
     (qe (qu (qeL hu (qT (pv 0) rfl) (pv 1) (fun _ _=>rfl))))),?_⟩
   try dsimp only [qY,Cx.nox]
   obtain⟨dx,hx⟩:=hL.hx;refine⟨_,rfl,_,rfl,x,_,dx,_,_,rfl,hx,T.cl_Log,T.n_Log_tables,rfl,e.1,td,_,rfl,hL.tget mt,true,rfl,Qw rfl ?_⟩;exact⟨_,rfl,x,_,dx,_,_,rfl,hx,T.cl_Log,T.n_Log_tables,rfl,_,rfl,td,_,rfl,hL.tget mt,kk⟩
end
theorem Qy {K:Frag}{mg:Str->Option Value}{a:Ad} (T:Txt K mg a) {H:Hp}{e:Et} (en:EnT a H e):∃ C dx fs,H e.x=some (.ins C dx fs)∧qcd K H (.ref e.x) (.ref C)∧kitOne K (.ref C) (.ref a.c_Entry)=some true∧kitOne K (.ref C) (.ref a.c_Joint)=some e.j.isSome∧Cls K C∧NoAttr K C "name"∧fs.lookup ("name":Str)=some (V.str e.nm):=by
 cases en with
 | at_ hx=>exact⟨_,_,_,hx,T.io_At.ty hx,JH T,JG T,T.cl_At,T.n_At_name,rfl⟩
 | jn hx _ _ _ _=>exact⟨_,_,_,hx,T.io_Joint.ty hx,J8 T,J7 T,T.cl_Joint,T.n_Joint_name,rfl⟩
section
variable {P:Program}{w:World}{K:Frag}{mg:Str->Option Value}{base:Heap}
theorem qaw {a:Ad} (T:Txt K mg a):qx P w K mg base CX0 3 a.f_v a.fd_v ["self","entry"] (jk a):=by
 have G_m:=Zb (P:=P) (w:=w) (base:=base) T;have G_6:=Jz (P:=P) (w:=w) (base:=base) T;refine T.d_v.F.ok sc_Log_put (fun vs H Q E h=>?_) (fun cdv A outer s H vs Q E hr h=>?_)
 · obtain⟨x,td,ed,bl,ps,ns,zs,e,rfl,hL,en,no,few,kk⟩:=h;rfl
 · obtain⟨x,td,ed,bl,ps,ns,zs,e,rfl,hL,en,no,few,kk⟩:=h;have hu:=qG hr;have h_m:Room (1) _:=hr.mono (by decide);have h_6:Room (2) _:=hr.mono (by decide);obtain⟨t_MOST_ENTRIES,c_MOST_ENTRIES⟩:=T.g_MOST_ENTRIES
   refine⟨_,(qf (qN (zu (zd (ql (r:=qii K) je (by rfl) T.n_isinstance qr (qa (pv 1) (qa (qQ (v:=.ref a.c_Entry) rfl T.g_Entry rfl) qb)))))
       (qe qP)
       qw)
     (qf (qN (qy (qgU hu) (qT (pv 1) rfl) (qT (pv 0) rfl) (by with_unfolding_all rfl))
       (qe qP)
       qw)
     (qf (q9 PassesOwn.never rfl (qH (PE.or (qz (pv 1) T.cl_At T.i_At_places G_m h_m T.d_m.b .nil qp) (qz (pv 1) T.cl_Joint T.d_6.mt G_6 h_6 T.d_6.b .nil qp))) (qt (i:=2) (sc_Log_put.nd) rfl (Or.inl rfl))
       (qe (qN (qy (qbL hu) (pv 2) (qT (pv 0) rfl) (by with_unfolding_all rfl))
         (qe qP)
         qw)))
     (qf (qN (qy qf8 (ql qb4 (by rfl) T.n_len qv (qa (qT (pv 0) rfl) qb)) (qQ (v:=.int 60) rfl c_MOST_ENTRIES ⟨_,rfl⟩) (qI _))
       (qe qP)
       qw)
     (qe (qeI hu (qT (pv 0) rfl) (qT (pv 1) rfl) (pv 1) rfl)))))),?_⟩
   try dsimp only [qY,Cx.nox]
   obtain⟨dx,hx⟩:=hL.hx;obtain⟨C,de,fe,he,ty,hk,_,cle,nae,lke⟩:=Qy T en;refine⟨_,rfl,_,_,_,_,rfl,ty,hk,true,rfl,Qw rfl ?_⟩;have dg:qd8 H ed (.str e.nm) none:=.inl ⟨_,.inr e.nm,.inl hL.he,rfl,(qcT no).symm⟩;refine⟨_,rfl,e.x,C,de,fe,_,rfl,he,cle,nae,lke,_,rfl,x,_,dx,_,_,rfl,hx,T.cl_Log,T.n_Log_entries,rfl,ed,_,rfl,dg,_,rfl,Qw rfl ?_⟩;(try unfold qM);(try dsimp only);refine qV (t:=qd5 _ _ _) (fun σ' H'=>∃ s2:Option V,σ'=[some (.ref x),some (.ref e.x),s2]∧Same H H') (fun N hN=>?_) ?_
   · cases en with
     | @at_ dx0 x0 nm0 m0 hx0 =>
       refine .inl ⟨_,rfl,_,_,_,rfl,hx0,rfl,_,rfl,fun l fl=>?_⟩;generalize hG:upd H l _=G;obtain⟨SG,eG⟩:=qi hG fl;clear hG;refine⟨l,rfl,⟨_,SqL.of eG⟩,qK (D:={ nx:=N,rt:=Q }) (K:=K) (a:=l) (xs:=[]) (fun j σ H'=>∃ s2:Option V,σ=[some (.ref x),some (.ref _),s2]∧H'=G) ⟨_,rfl,rfl⟩ (fun j σ H' _ ⟨_,_,h⟩=>h▸SqL.of eG) ?_ ?_⟩
       · rintro j z σ H' hz _;cases hz
       · rintro σ H' ⟨s2,rfl,rfl⟩;exact hN _ _ ⟨s2,rfl,SG⟩
     | @jn dx0 x0 l0 nm0 qs hx0 hl0 h0 h8 w0 =>
       refine .inr ⟨_,rfl,_,_,_,rfl,hx0,rfl,_,_,_,_,qs,rfl,hx0,hl0,w0,fun l G fl SG eG=>?_⟩;refine⟨l,rfl,⟨_,SqL.of eG⟩,qK (D:={ nx:=N,rt:=Q }) (K:=K) (a:=l) (xs:=[]) (fun j σ H'=>∃ s2:Option V,σ=[some (.ref x),some (.ref _),s2]∧H'=G) ⟨_,rfl,rfl⟩ (fun j σ H' _ ⟨_,_,h⟩=>h▸SqL.of eG) ?_ ?_⟩
       · rintro j z σ H' hz _;cases hz
       · rintro σ H' ⟨s2,rfl,rfl⟩;exact hN _ _ ⟨s2,rfl,SG⟩
   rintro _ H1 ⟨s2,rfl,S1⟩;have hL1:=hL.sm S1;have hx1:=S1 _ _ hx;refine⟨_,rfl,x,_,dx,_,_,rfl,hx1,T.cl_Log,T.n_Log_entries,rfl,ed,_,rfl,hL1.he,_,_,rfl,rfl,_,rfl,jr (fun g=>absurd g ?_) (fun _=>?_)⟩
   · unfold skv;rw[List.length_map];omega
   refine⟨_,rfl,_,rfl,x,_,dx,_,_,rfl,hx1,T.cl_Log,T.n_Log_entries,rfl,_,rfl,e.x,C,de,fe,_,rfl,S1 _ _ he,cle,nae,lke,ed,_,rfl,DPut.k (k:=.inr e.nm) hL1.he (by unfold skv;rw[List.length_map];exact Nat.lt_of_lt_of_le (by omega:ns.length < 100) (qk (by decide:100≤1000))),?_⟩;rw[qes no];exact kk _ (fun b o e nb=>by rw[qg nb];exact S1 b o e) ⟨⟨dx,by rw[qg (zi hx1 hL1.he (by intro z;cases z))];exact hx1⟩,by rw[qg hL1.ne];exact hL1.ht,qc,by rw[qg (zi hL1.hb hL1.he (by intro z;cases z))];exact hL1.hb,hL1.ne,hL1.ndt,qe2 hL1.nde no⟩
theorem Jy {a:Ad} (T:Txt K mg a):qx P w K mg base CX0 4 a.f_w a.fd_w ["self","later","earlier","minutes"] (ZJ a):=by
 have G_j:=z4 (P:=P) (w:=w) (base:=base) T;have G_K:=qaZ (P:=P) (w:=w) (base:=base) T;refine T.d_w.F.ok qco (fun vs H Q E h=>?_) (fun cdv A outer s H vs Q E hr h=>?_)
 · obtain⟨x,td,ed,bl,ps,ns,zs,e,f,m,rfl,hL,me,mf,m0,m1,few,kk⟩:=h;rfl
 · obtain⟨x,td,ed,bl,ps,ns,zs,e,f,m,rfl,hL,me,mf,m0,m1,few,kk⟩:=h;have h_j:Room (2) _:=hr.mono (by decide);have h_K:Room (3) _:=hr.mono (by decide);obtain⟨t_MOST_BONDS,c_MOST_BONDS⟩:=T.g_MOST_BONDS
   refine⟨_,(qf (qF (zf (pv 0) T.cl_Log T.d_j.mt G_j h_j T.d_j.b .nil qp (qa (pv 1) qb)))
     (qf (qF (zf (pv 0) T.cl_Log T.d_j.mt G_j h_j T.d_j.b .nil qp (qa (pv 2) qb)))
     (qf (qN (zu (zd (qm G_K h_K rfl T.d_K.m T.d_K.k T.d_K.b .nil qp (qa (pv 3) qb))))
       (qe qP)
       qw)
     (qf (qN (qy qf8 (ql qB (by rfl) T.n_len qv (qa (qT (pv 0) rfl) qb)) (qQ (v:=.int 100) rfl c_MOST_BONDS ⟨_,rfl⟩) (qI _))
       (qe qP)
       qw)
     (qf (qF (qcq PySem.F.plainAttrs_list PySem.F.slot_list_append PySem.F.type_list_append zG (qT (pv 0) rfl) (qa (ze (qa (pv 1) (qa (pv 2) (qa (pv 3) qb)))) qb)))
     (qe (qu (qA QJ (ql qB (by rfl) T.n_len qv (qa (qT (pv 0) rfl) qb)) qd)))))))),?_⟩
   try dsimp only [qY,Cx.nox]
   obtain⟨dx,hx⟩:=hL.hx;refine⟨_,rfl,x,dx,_,rfl,hx,rfl,_,rfl,x,td,ed,bl,ps,ns,zs,e,rfl,hL,me,?_⟩;refine⟨_,rfl,x,dx,_,rfl,hx,rfl,_,rfl,x,td,ed,bl,ps,ns,zs,f,rfl,hL,mf,?_⟩;refine⟨_,rfl,m,rfl,m0,m1,true,rfl,Qw rfl ?_⟩;refine⟨_,rfl,x,_,dx,_,_,rfl,hx,T.cl_Log,T.n_Log_bound,rfl,_,_,rfl,.inl ⟨_,SqL.of hL.hb,rfl⟩,_,_,rfl,rfl,_,rfl,jr (fun g=>absurd g (by omega)) (fun _=>?_)⟩;refine⟨_,rfl,x,_,dx,_,_,rfl,hx,T.cl_Log,T.n_Log_bound,rfl,.inl ⟨rfl,_,SqL.of hL.hb⟩,_,rfl,_,rfl,_,rfl,qk (Nat.le_of_ble_eq_true rfl),fun t ft=>?_⟩;generalize hG:upd H t _=G;obtain⟨SG,eG⟩:=qi hG ft;clear hG;have hLG:=hL.sm SG;have hxG:=SG _ _ hx;have hbG:=SG _ _ hL.hb;refine⟨bl,_,_,rfl,rfl,hbG,qD (by omega),?_⟩;have hL2:Lo a (upd G bl (.lst (zs++[.ref t]))) x td ed bl ps ns (zs++[.ref t]):=⟨⟨dx,by rw[qg (zi hxG hbG (by intro z;cases z))];exact hxG⟩,by rw[qg (zi hLG.ht hbG (by intro z;cases z))];exact hLG.ht,by rw[qg (zi hLG.he hbG (by intro z;cases z))];exact hLG.he,qc,hLG.ne,hLG.ndt,hLG.nde⟩
   have B2:But bl H (upd G bl (.lst (zs++[.ref t]))):=fun b o e nb=>by rw[qg nb];exact SG b o e
   have et:(upd G bl (.lst (zs++[.ref t]))) t=some (.tup (prB (e.1,f.1,m))):=by rw[qg (zi eG hbG (by intro z;cases z))];exact eG
   generalize upd G bl (.lst (zs++[.ref t]))=G2 at hL2 B2 et ⊢;obtain⟨dx2,hx2⟩:=hL2.hx;refine⟨_,rfl,x,_,dx2,_,_,rfl,hx2,T.cl_Log,T.n_Log_bound,rfl,_,_,rfl,.inl ⟨_,SqL.of hL2.hb,rfl⟩,_,_,rfl,rfl,?_⟩;exact kk t _ _ ft B2 et hL2
end
abbrev sl (x y:Str):Prop:=x.cps.toList < y.cps.toList
theorem qiI (x:Str):¬ sl x x:=List.lt_irrefl _
theorem qjR {x y z:Str} (h1:¬ sl y x) (h2:¬ sl z y):¬ sl z x:=List.le_trans (α:=Nat) h1 h2
theorem qiF {x y:Str} (h:x.cps.toList=y.cps.toList):x=y:=by
 obtain⟨⟨a⟩⟩:=x;obtain⟨⟨b⟩⟩:=y;cases h;rfl
theorem qiG {x y:Str} (h:¬ sl y x) (n:x≠y):sl x y:=by
 rcases Classical.em (sl x y) with z|z
 · exact z
 · exact absurd (qiF (List.le_antisymm (α:=Nat) (show x.cps.toList≤y.cps.toList from h) z)) n
abbrev Tt:=Str×Addr×List (Int×Int)
abbrev tkv (ts:List Tt):List (Str×V):=ts.map fun t=>(t.1,V.ref t.2.1)
abbrev ekv (es:List Et):List (Str×V):=es.map fun e=>(e.nm,V.ref e.x)
theorem zC (ts:List Tt):(tkv ts).map (·.1)=ts.map (·.1):=by rw[List.map_map];rfl
theorem zj (es:List Et):(ekv es).map (·.1)=es.map (·.nm):=by rw[List.map_map];rfl
structure Lc (a:Ad) (H:Hp) (x:Addr) (ts:List Tt) (es:List Et) (bs:List (Str×Str×Int)):Prop where
 lo:∃ td ed bl zs,Lo a H x td ed bl (tkv ts) (ekv es) zs∧TupL prB H zs bs
 tt:∀ t∈ts,Tb a H t.2.1 t.2.2∧Good t.2.2∧zV (.str t.1)=true
 en:∀ e∈es,EnT a H e∧zV (.str e.nm)=true
 bo:∀ b∈bs,b.1∈es.map (·.nm)∧b.2.1∈es.map (·.nm)∧-2000000000≤b.2.2∧b.2.2≤2000000001
 fewt:ts.length≤6
 fewe:es.length≤60
 fewb:bs.length≤100
theorem Lc.sm {a:Ad}{H H':Hp}{x:Addr}{ts:List Tt}{es:List Et}{bs:List (Str×Str×Int)} (h:Lc a H x ts es bs) (s:Same H H'):Lc a H' x ts es bs:=by
 obtain⟨td,ed,bl,zs,l,t⟩:=h.lo;exact⟨⟨td,ed,bl,zs,l.sm s,t.same s⟩,fun t m=>⟨(h.tt t m).1.same s,(h.tt t m).2⟩,fun e m=>⟨(h.en e m).1.same s,(h.en e m).2⟩,h.bo,h.fewt,h.fewe,h.fewb⟩
theorem Lc.ndt {a:Ad}{H:Hp}{x:Addr}{ts:List Tt}{es:List Et}{bs:List (Str×Str×Int)} (h:Lc a H x ts es bs):(ts.map (·.1)).Nodup:=by
 obtain⟨td,ed,bl,zs,l,t⟩:=h.lo
 have:=l.ndt
 rwa [zC]at this
theorem Lc.nde {a:Ad}{H:Hp}{x:Addr}{ts:List Tt}{es:List Et}{bs:List (Str×Str×Int)} (h:Lc a H x ts es bs):(es.map (·.nm)).Nodup:=by
 obtain⟨td,ed,bl,zs,l,t⟩:=h.lo
 have:=l.nde
 rwa [zj]at this
def bt (ss us:List Str):List Str:=ss++us.filter fun u=>decide (u∉ss)
def NoUn (ts us:List Tt):Prop:=∀ t∈ts,∀ u∈us,t.1=u.1->Fu t.2.2 u.2.2 none
def IsUn (ts us:List Tt) (p:Str) (m:Int):Prop:=(∃ t∈ts,∃ u∈us,t.1=p∧u.1=p∧Fu t.2.2 u.2.2 (some m))∧∀ t∈ts,∀ u∈us,t.1=u.1->sl t.1 p->Fu t.2.2 u.2.2 none
def okk (fs:List Et) (e:Et):Prop:=∀ f∈fs,f.nm=e.nm->e.k+f.k≤8
abbrev npl (ts us:List Tt):Nat:=(bt (ts.map (·.1)) (us.map (·.1))).length
abbrev nen (es fs:List Et):Nat:=(bt (es.map (·.nm)) (fs.map (·.nm))).length
inductive Oc where
 | many (n:Nat)
 | unl (p:Str) (m:Int)
 | ok (e b p:Nat)
inductive Out (ts us:List Tt) (es fs:List Et) (b:Nat):Oc->Prop
 | pl:6 < npl ts us->Out ts us es fs b (.many (npl ts us))
 | un {p:Str}{m:Int}:npl ts us≤6->IsUn ts us p m->Out ts us es fs b (.unl p m)
 | pt {l r:List Et}{e f:Et}:npl ts us≤6->NoUn ts us->es=l++e::r->(∀ g∈l,okk fs g)->f∈fs->f.nm=e.nm->8 < e.k+f.k->Out ts us es fs b (.many (e.k+f.k))
 | en:npl ts us≤6->NoUn ts us->(∀ g∈es,okk fs g)->60 < nen es fs->Out ts us es fs b (.many (nen es fs))
 | bo:npl ts us≤6->NoUn ts us->(∀ g∈es,okk fs g)->nen es fs≤60->100 < b->Out ts us es fs b (.many b)
 | ok:npl ts us≤6->NoUn ts us->(∀ g∈es,okk fs g)->nen es fs≤60->b≤100->Out ts us es fs b (.ok (nen es fs) b (npl ts us))
inductive Zo (vs:List V) (H:Hp) (Q:VK):Prop
 | mk (p q:Addr) (ss us:List Str) (h1:vs=[.ref p,.ref q]) (h2:H p=some (.lst (ss.map V.str))) (h3:H q=some (.lst (us.map V.str))) (h4:ss.length≤60) (h5:us.length≤60) (h6:∀ (d:Addr) (H':Hp),H d=none->Same H H'->H' d=some (.lst ((bt ss us).map V.str))->Q (.ref d) H'):Zo vs H Q
def QX:Sp:=fun vs H Q _=>Zo vs H Q
inductive QW (a:Ad) (vs:List V) (H:Hp) (Q:VK) (E:XK):Prop
 | mk (n m:Int) (h1:vs=[.int n,.int m]) (h2:((n≤m∧Q .non H)∨(m < n∧Rz a.c_TooMany "many" (.int n) H E))):QW a vs H Q E
def ZT (a:Ad):Sp:=fun vs H Q E=>QW a vs H Q E
inductive Qh (a:Ad) (vs:List V) (H:Hp) (Q:VK) (E:XK):Prop
 | mk (x y:Addr) (ts us:List Tt) (es fs:List Et) (bs cs:List (Str×Str×Int)) (h1:vs=[.ref x,.ref y]) (h2:Lc a H x ts es bs) (h3:Lc a H y us fs cs) (h4:((NoUn ts us∧∀ H',Same H H'->Q .non H')∨(∃ p m,IsUn ts us p m∧Rz2 a.c_Unlike "place" (.str p) "moment" (.int m) H E))):Qh a vs H Q E
def QS (a:Ad):Sp:=fun vs H Q E=>Qh a vs H Q E
inductive ZO (a:Ad) (vs:List V) (H:Hp) (Q:VK):Prop
 | mk (x:Addr) (ts:List Tt) (es:List Et) (bs:List (Str×Str×Int)) (nm:Str) (h1:vs=[.ref x,.str nm]) (h2:Lc a H x ts es bs) (h3:∀ (d:Addr) (ps:List Addr) (H':Hp),H d=none->Same H H'->H' d=some (.lst (ps.map V.ref))->(∀ p∈ps,∃ n,Wt a H' p n)->((nm∉es.map (·.nm)∧ps=[])∨∃ e∈es,e.nm=nm∧ps.length=e.k)->Q (.ref d) H'):ZO a vs H Q
def j2 (a:Ad):Sp:=fun vs H Q _=>ZO a vs H Q
inductive zP (a:Ad) (vs:List V) (H:Hp) (Q:VK):Prop
 | mk (x y:Addr) (ts us:List Tt) (es fs:List Et) (bs cs:List (Str×Str×Int)) (nm:Str) (h1:vs=[.ref x,.ref y,.str nm]) (h2:Lc a H x ts es bs) (h3:Lc a H y us fs cs) (h4:∀ (d:Addr) (ps qs:List Addr) (H':Hp),H d=none->Same H H'->H' d=some (.lst ((ps++qs).map V.ref))->(∀ p∈ps++qs,∃ n,Wt a H' p n)->((nm∉es.map (·.nm)∧ps=[])∨∃ e∈es,e.nm=nm∧ps.length=e.k)->((nm∉fs.map (·.nm)∧qs=[])∨∃ f∈fs,f.nm=nm∧qs.length=f.k)->Q (.ref d) H'):zP a vs H Q
def zv (a:Ad):Sp:=fun vs H Q _=>zP a vs H Q
theorem qgG {x:Str}:∀ {ss:List Str},PyProof.Rows.risingS x ss=true->(x::ss).Pairwise fun a b=>¬ sl b a
 | [],_=>List.pairwise_singleton _ _
 | y::r,h=>by
   unfold PyProof.Rows.risingS at h;simp only[Bool.and_eq_true]at h;have ih:=qgG h.2;refine List.pairwise_cons.mpr ⟨fun z m=>?_,ih⟩
   have h1:¬ sl y x:=by
     have h0:=h.1;rw[ltCps_eq]at h0;exact of_decide_eq_false (by simpa using h0)
   rcases List.mem_cons.mp m with rfl|m
   · exact h1
   · exact qjR h1 ((List.pairwise_cons.mp ih).1 z m)
theorem srt {ss:List Str} (h:PyProof.Rows.sortedS ss=true):ss.Pairwise fun a b=>¬ sl b a:=by
 cases ss with
 | nil=>exact .nil
 | cons x r=>exact qgG h
section
variable {P:Program}{w:World}{K:Frag}{mg:Str->Option Value}{base:Heap}
theorem jQ {a:Ad} (T:Txt K mg a):qx P w K mg base CX0 1 a.f_e a.fd_e ["one","other"] QX:=by
 refine T.d_e.F.ok qbt (fun vs H Q E h=>?_) (fun cdv A outer s H vs Q E hr h=>?_)
 · obtain⟨p,q,ss,us,rfl,hp,hq,l1,l2,kk⟩:=h;rfl
 · obtain⟨p,q,ss,us,rfl,hp,hq,l1,l2,kk⟩:=h;refine⟨_,(qe (qu (qA z8 (pv 0) (zA rfl (CompOk.def ["thing","one"] [none,some 0]) (qH (pv 1)) (fun _ _ _ _ _=>(qt (i:=0) (show List.Nodup (["thing","one"]:List Str) by decide +kernel) rfl (Or.inl rfl))) (fun _ _ _ _ _=>(qaV (qy (r:=rIn K true) zF (pv 0) (pv 1) (by with_unfolding_all rfl)))) (fun _ _ _ _ _=>(pv 0)))))),?_⟩;(try dsimp only [qY,Cx.nox]);refine⟨_,rfl,_,rfl,q,rfl,⟨_,SqL.of hq⟩,fun D fD=>?_⟩;refine qW (K:=K) (a:=q) (xs:=us.map V.str) (D:=D) (fun i σ H4=>∃ c0:Option V,σ=[c0,some (.ref p)]∧Same H H4∧H4 D=some (.lst (((us.take i).filter fun u=>decide (u∉ss)).map V.str))) ⟨none,rfl,Same.new _ fD,qc⟩ (fun i σ H4 _ ⟨_,_,S4,_⟩=>SqL.of (S4 _ _ hq)) ?_ ?_
   · rintro i y σ H4 hy ⟨c0,rfl,S4,hD⟩
     obtain⟨s,hs,rfl⟩:∃ s,us[i]?=some s∧V.str s=y:=by
       rw[List.getElem?_map]at hy;exact Option.map_eq_some_iff.mp hy
     have tf:=Qr (p:=fun u=>decide (u∉ss)) hs;have hi:i < us.length:=(List.getElem?_eq_some_iff.mp hs).1;refine⟨_,rfl,_,rfl,p,_,rfl,.inl (SqL.of (S4 _ _ hp)),rfl,zX _,_,rfl,?_⟩;rw[Qx];by_cases c:s∈ss
     · refine Qw (by simp[c]) ⟨_,rfl,S4,?_⟩;rw[tf,if_neg (by simpa using c),List.append_nil];exact hD
     · refine qhX (by simp[c]) ?_;refine⟨_,rfl,_,hD,qD ?_,_,rfl,S4.put fD _,?_⟩
       · rw[List.length_map];have h1:=List.length_filter_le (fun u=>decide (u∉ss)) (us.take i);rw[List.length_take]at h1;omega
       · rw[qc,tf,if_pos (by simpa using c),List.map_append];rfl
   rintro σ H4 ⟨c0,rfl,S4,hD⟩;rw[List.length_map,List.take_length]at hD;have lf:=List.length_filter_le (fun u=>decide (u∉ss)) us;refine .inr (.inl ⟨p,D,_,_,rfl,rfl,S4 _ _ hp,hD,Nat.le_of_lt (qD (by rw[List.length_map,List.length_map];omega)),fun d fd=>?_⟩);refine kk d _ (S4.none fd) (S4.trans (Same.new _ fd)) ?_;rw[qc,← List.map_append];rfl
theorem qa2 {a:Ad} (T:Txt K mg a):qx P w K mg base (CX1 P w) 5 a.f_g a.fd_g ["many","most"] (ZT a):=by
 have G_8:=Jw (P:=P) (w:=w) (base:=base) T;refine T.d_g.F.okX qaN (fun vs H Q E h=>?_) (fun cdv A outer s H vs Q E hr h=>?_)
 · obtain⟨n,m,rfl,kk⟩:=h;rfl
 · obtain⟨n,m,rfl,kk⟩:=h;have h_8:Room (3+1) _:=hr.mono (by decide)
   refine⟨_,(qe (qN (qy qaY (pv 0) (pv 1) (qI _))
       (qe (qdb throws_cx rfl (qdd T.X_TooMany G_8 h_8 rfl T.g_TooMany T.d_8.b (qa (pv 0) qb))))
       qw)),?_⟩
   try dsimp only [qY,Cx.nox]
   refine⟨_,rfl,_,rfl,_,_,rfl,rfl,_,rfl,?_⟩;rcases kk with ⟨h,kk⟩|⟨h,kz⟩
   · exact jr (fun g=>absurd g (by omega)) (fun _=>kk)
   · refine jr (fun _=>?_) (fun g=>absurd h (by omega));refine⟨_,rfl,Nat.le_of_ble_eq_true rfl,fun ea fea=>⟨ea,_,rfl,qc,fun dx' fdx ne=>?_⟩⟩;rw[qg ne]at fdx;exact⟨rfl,ea,_,_,rfl,T.X_TooMany.c.xi,(qg (Ne.symm ne)).trans qc,Rz.sure (kz) fea fdx ne⟩
end
theorem qdN {ts:List Tt}{t:Tt} (m:t∈ts):(t.1,V.ref t.2.1)∈tkv ts:=List.mem_map.mpr ⟨t,m,rfl⟩
theorem qe4 {es:List Et}{e:Et} (m:e∈es):(e.nm,V.ref e.x)∈ekv es:=List.mem_map.mpr ⟨e,m,rfl⟩
theorem qdk {ts:List Tt}{p:Str} (h:p∈ts.map (·.1)):∃ t∈ts,t.1=p:=by
 obtain⟨t,m,e⟩:=List.mem_map.mp h;exact⟨t,m,e⟩
theorem qeQ {ts:List Tt} (nd:(ts.map (·.1)).Nodup) {t u:Tt} (mt:t∈ts) (mu:u∈ts) (e:t.1=u.1):t=u:=by
 obtain⟨i,hi,rfl⟩:=List.mem_iff_getElem.mp mt;obtain⟨j,hj,rfl⟩:=List.mem_iff_getElem.mp mu
 have:i=j:=by
   have h1:(ts.map (·.1))[i]'(by rw[List.length_map];exact hi)=(ts.map (·.1))[j]'(by rw[List.length_map];exact hj):=by rw[List.getElem_map,List.getElem_map];exact e
   exact(List.getElem_inj nd).mp h1
 subst this;rfl
theorem qdi {es:List Et} (nd:(es.map (·.nm)).Nodup) {t u:Et} (mt:t∈es) (mu:u∈es) (e:t.nm=u.nm):t=u:=by
 obtain⟨i,hi,rfl⟩:=List.mem_iff_getElem.mp mt;obtain⟨j,hj,rfl⟩:=List.mem_iff_getElem.mp mu
 have:i=j:=by
   have h1:(es.map (·.nm))[i]'(by rw[List.length_map];exact hi)=(es.map (·.nm))[j]'(by rw[List.length_map];exact hj):=by rw[List.getElem_map,List.getElem_map];exact e
   exact(List.getElem_inj nd).mp h1
 subst this;rfl
section
variable {P:Program}{w:World}{K:Frag}{mg:Str->Option Value}{base:Heap}
theorem Ju {a:Ad} (T:Txt K mg a):qx P w K mg base (CX1 P w) 5 a.f_U a.fd_U ["one","other"] (QS a):=by
 have G_b:=zM (P:=P) (w:=w) (base:=base) T;have G_T:=Jt (P:=P) (w:=w) (base:=base) T;have G_i:=jR (P:=P) (w:=w) (base:=base) T;have G_9:=J1 (P:=P) (w:=w) (base:=base) T;refine T.d_U.F.okX sc_check_tables (fun vs H Q E h=>?_) (fun cdv A outer s H vs Q E hr h=>?_)
 · obtain⟨x,y,ts,us,es,fs,bs,cs,rfl,h1,h2,kk⟩:=h;rfl
 · obtain⟨x,y,ts,us,es,fs,bs,cs,rfl,h1,h2,kk⟩:=h;have h_b:Room (1) _:=hr.mono (by decide);have h_T:Room (4) _:=hr.mono (by decide);have h_i:Room (2) _:=hr.mono (by decide);have h_9:Room (3+1) _:=hr.mono (by decide)
   refine⟨_,(qe (q9 PassesOwn.leaving rfl (qH (qz (pv 0) T.cl_Log T.d_b.mt G_b h_b T.d_b.b .nil qp)) (qt (i:=2) (sc_check_tables.nd) rfl (Or.inl rfl))
       (qe (qN (qy (r:=rIn K false) Jr (pv 2) (qz (pv 1) T.cl_Log T.d_b.mt G_b h_b T.d_b.b .nil qp) (by with_unfolding_all rfl))
         (qf (qJ (i:=3) sc_check_tables.nd rfl (Or.inl rfl) (qm G_T h_T rfl T.d_T.m T.d_T.k T.d_T.b .nil qp (qa (zf (pv 0) T.cl_Log T.d_i.mt G_i h_i T.d_i.b .nil qp (qa (pv 2) qb)) (qa (zf (pv 1) T.cl_Log T.d_i.mt G_i h_i T.d_i.b .nil qp (qa (pv 2) qb)) qb))))
         (qe (qN (qy qeO (pv 3) qbJ (qI _))
           (qe (qdb throws_cx rfl (qdd T.X_Unlike G_9 h_9 rfl T.g_Unlike T.d_9.b (qa (pv 2) (qa (pv 3) qb)))))
           qw)))
         qw)))),?_⟩
   try dsimp only [qY,Cx.nox]
   obtain⟨td,ed,bl,zs,lo,tb⟩:=id h1.lo;obtain⟨dx,hx⟩:=lo.hx;refine⟨_,rfl,x,dx,_,rfl,hx,rfl,x,td,ed,bl,_,_,zs,rfl,lo,(by rw[List.length_map];exact h1.fewt),fun l ss fl pm so=>?_⟩;rw[zC]at pm;generalize hG:upd H l _=G;obtain⟨SG,eG⟩:=qi hG fl;clear hG;have up:=srt so;have nds:ss.Nodup:=pm.nodup_iff.mpr h1.ndt;rcases kk with ⟨nu,kk⟩|⟨pp,mm,iu,kz⟩
   · refine⟨l,rfl,⟨_,SqL.of eG⟩,qK (K:=K) (a:=l) (xs:=ss.map V.str) (fun j σ H'=>∃ s2 s3:Option V,σ=[some (.ref x),some (.ref y),s2,s3]∧Same H H'∧H' l=some (.lst (ss.map V.str))) ⟨_,_,rfl,SG,eG⟩ (fun j σ H' _ ⟨_,_,_,_,h⟩=>SqL.of h) ?_ ?_⟩
     · rintro j z σ H1 hz ⟨s2,s3,rfl,S1,hl⟩
       obtain⟨p,hp,rfl⟩:∃ p,ss[j]?=some p∧V.str p=z:=by
         rw[List.getElem?_map]at hz;exact Option.map_eq_some_iff.mp hz
       obtain⟨t,mt,et⟩:=qdk (pm.mem_iff.mp (List.mem_of_getElem? hp));have h2':=h2.sm S1;have h1':=h1.sm S1;obtain⟨td2,ed2,bl2,zs2,lo2,tb2⟩:=id h2'.lo;obtain⟨dy,hy⟩:=lo2.hx;refine⟨_,rfl,_,rfl,y,dy,_,rfl,hy,rfl,y,td2,ed2,bl2,_,_,zs2,rfl,lo2,(by rw[List.length_map];exact h2.fewt),fun l2 ss2 fl2 pm2 so2=>?_⟩;rw[zC]at pm2;generalize hG:upd H1 l2 _=H2;obtain⟨S2,e2⟩:=qi hG fl2;clear hG;refine⟨l2,_,rfl,.inl (SqL.of e2),rfl,zX _,_,rfl,?_⟩;have S12:=S1.trans S2;show if (inV (V.str p) (ss2.map V.str))=true then _ else _
       rw[Qx];refine jr (fun g=>?_) (fun g=>?_)
       case refine_2 =>
         exact⟨_,_,rfl,S12,S2 _ _ hl⟩
       obtain⟨u,mu,eu⟩:=qdk (pm2.mem_iff.mp g);obtain⟨tda,eda,bla,zsa,loa,_⟩:=id (h1.sm S12).lo;obtain⟨dxa,hxa⟩:=loa.hx;obtain⟨tdb,edb,blb,zsb,lob,_⟩:=id (h2.sm S12).lo;obtain⟨dyb,hyb⟩:=lob.hx;refine⟨_,rfl,x,dxa,_,rfl,hxa,rfl,_,rfl,x,tda,eda,bla,_,_,zsa,(t.1,.ref t.2.1),by rw[et];rfl,loa,qdN mt,?_⟩;refine⟨_,rfl,y,dyb,_,rfl,hyb,rfl,_,rfl,y,tdb,edb,blb,_,_,zsb,(u.1,.ref u.2.1),by rw[eu];rfl,lob,qdN mu,?_⟩;refine⟨t.2.1,u.2.1,t.2.2,u.2.2,rfl,((h1.tt t mt).1.same S12),(h1.tt t mt).2.1,((h2.tt u mu).1.same S12),(h2.tt u mu).2.1,fun o H3 S3 fu=>?_⟩;have S13:=S12.trans S3;(try unfold qM);(try dsimp only);have fn:=nu t mt u mu (et.trans eu.symm);have eo:=fu.one fn;subst eo;exact⟨_,rfl,rfl,_,rfl,jX (fun g=>absurd rfl g) (fun _=>⟨_,_,rfl,S13,S3 _ _ (S2 _ _ hl)⟩)⟩
     · rintro σ H1 ⟨s2,s3,rfl,S1,hl⟩;exact kk H1 S1
   · obtain⟨⟨t0,mt0,u0,mu0,e0,e0',f0⟩,least⟩:=iu;have mp:pp∈ss:=pm.mem_iff.mpr (by rw[← e0];exact List.mem_map_of_mem mt0);obtain⟨i0,hi0⟩:=List.getElem?_of_mem mp;obtain⟨li0,ei0⟩:=List.getElem?_eq_some_iff.mp hi0;refine⟨l,rfl,⟨_,SqL.of eG⟩,qK (K:=K) (a:=l) (xs:=ss.map V.str) (fun j σ H'=>∃ s2 s3:Option V,σ=[some (.ref x),some (.ref y),s2,s3]∧Same H H'∧H' l=some (.lst (ss.map V.str))∧j≤i0) ⟨_,_,rfl,SG,eG,Nat.zero_le _⟩ (fun j σ H' _ ⟨_,_,_,_,h,_⟩=>SqL.of h) ?_ ?_⟩
     · rintro j z σ H1 hz ⟨s2,s3,rfl,S1,hl,hj⟩
       obtain⟨p,hp,rfl⟩:∃ p,ss[j]?=some p∧V.str p=z:=by
         rw[List.getElem?_map]at hz;exact Option.map_eq_some_iff.mp hz
       obtain⟨t,mt,et⟩:=qdk (pm.mem_iff.mp (List.mem_of_getElem? hp));have h2':=h2.sm S1;have h1':=h1.sm S1;obtain⟨td2,ed2,bl2,zs2,lo2,tb2⟩:=id h2'.lo;obtain⟨dy,hy⟩:=lo2.hx;refine⟨_,rfl,_,rfl,y,dy,_,rfl,hy,rfl,y,td2,ed2,bl2,_,_,zs2,rfl,lo2,(by rw[List.length_map];exact h2.fewt),fun l2 ss2 fl2 pm2 so2=>?_⟩;rw[zC]at pm2;generalize hG:upd H1 l2 _=H2;obtain⟨S2,e2⟩:=qi hG fl2;clear hG;refine⟨l2,_,rfl,.inl (SqL.of e2),rfl,zX _,_,rfl,?_⟩;have S12:=S1.trans S2;show if (inV (V.str p) (ss2.map V.str))=true then _ else _
       rw[Qx];refine jr (fun g=>?_) (fun g=>?_)
       case refine_2 =>
         have lt:j < i0:=by
           rcases Nat.lt_or_eq_of_le hj with z|z
           · exact z
           · subst z;rw[hi0]at hp;cases hp;exact absurd (pm2.mem_iff.mpr (by rw[← e0'];exact List.mem_map_of_mem mu0)) g
         exact⟨_,_,rfl,S12,S2 _ _ hl,lt⟩
       obtain⟨u,mu,eu⟩:=qdk (pm2.mem_iff.mp g);obtain⟨tda,eda,bla,zsa,loa,_⟩:=id (h1.sm S12).lo;obtain⟨dxa,hxa⟩:=loa.hx;obtain⟨tdb,edb,blb,zsb,lob,_⟩:=id (h2.sm S12).lo;obtain⟨dyb,hyb⟩:=lob.hx;refine⟨_,rfl,x,dxa,_,rfl,hxa,rfl,_,rfl,x,tda,eda,bla,_,_,zsa,(t.1,.ref t.2.1),by rw[et];rfl,loa,qdN mt,?_⟩;refine⟨_,rfl,y,dyb,_,rfl,hyb,rfl,_,rfl,y,tdb,edb,blb,_,_,zsb,(u.1,.ref u.2.1),by rw[eu];rfl,lob,qdN mu,?_⟩;refine⟨t.2.1,u.2.1,t.2.2,u.2.2,rfl,((h1.tt t mt).1.same S12),(h1.tt t mt).2.1,((h2.tt u mu).1.same S12),(h2.tt u mu).2.1,fun o H3 S3 fu=>?_⟩;have S13:=S12.trans S3;(try unfold qM);(try dsimp only);rcases Nat.lt_or_eq_of_le hj with lt|z
       · obtain⟨lj,ej⟩:=List.getElem?_eq_some_iff.mp hp
         have ns:¬ sl pp p:=by
           have:=List.pairwise_iff_getElem.mp up j i0 lj li0 lt
           rwa [ej,ei0]at this
         have ne:p≠pp:=fun z=>by
           have:j=i0:=(List.getElem_inj nds).mp (by rw[ej,ei0];exact z)
           omega
         have fn:=least t mt u mu (et.trans eu.symm) (by rw[et];exact qiG ns ne);have eo:=fu.one fn;subst eo;exact⟨_,rfl,rfl,_,rfl,jX (fun g=>absurd rfl g) (fun _=>⟨_,_,rfl,S13,S3 _ _ (S2 _ _ hl),lt⟩)⟩
       · subst z;rw[hi0]at hp;cases hp;have q1:=qeQ h1.ndt mt mt0 (et.trans e0.symm);have q2:=qeQ h2.ndt mu mu0 (eu.trans e0'.symm);subst q1 q2;have eo:=fu.one f0;subst eo;refine⟨_,rfl,rfl,_,rfl,jX (fun _=>?_) (fun g=>nomatch g)⟩;refine⟨_,rfl,_,rfl,Nat.le_of_ble_eq_true rfl,fun ea fea=>⟨ea,_,_,rfl,qc,fun dx' fdx ne=>?_⟩⟩;rw[qg ne]at fdx;exact⟨rfl,ea,_,_,rfl,T.X_Unlike.c.xi,(by rw[qg (Ne.symm ne),qg (Ne.symm ne),qc]),Rz2.sure (kz.same S13) fea fdx ne⟩
     · rintro σ H1 ⟨s2,s3,rfl,S1,hl,hj⟩;rw[List.length_map]at hj;omega
theorem qcr {a:Ad} (T:Txt K mg a):qx P w K mg base CX0 4 a.f_C a.fd_C ["log","name"] (j2 a):=by
 have G_k:=jS (P:=P) (w:=w) (base:=base) T;have G_a:=zm (P:=P) (w:=w) (base:=base) T;have G_t:=ZG (P:=P) (w:=w) (base:=base) T;refine T.d_C.F.ok sc_parts_of (fun vs H Q E h=>?_) (fun cdv A outer s H vs Q E hr h=>?_)
 · obtain⟨x,ts,es,bs,nm,rfl,h1,kk⟩:=h;rfl
 · obtain⟨x,ts,es,bs,nm,rfl,h1,kk⟩:=h;have h_k:Room (3) _:=hr.mono (by decide);have h_a:Room (1) _:=hr.mono (by decide);have h_t:Room (1) _:=hr.mono (by decide)
   refine⟨_,(qf (qN (qy (r:=rIn K true) zF (pv 1) (qz (pv 0) T.cl_Log T.d_a.mt G_a h_a T.d_a.b .nil qp) (by with_unfolding_all rfl))
       (qe (qu (qL qb)))
       qw)
     (qf (qJ (i:=2) sc_parts_of.nd rfl (Or.inl rfl) (zf (pv 0) T.cl_Log T.d_k.mt G_k h_k T.d_k.b .nil qp (qa (pv 1) qb)))
     (qe (qu (qdf (zd (ql (r:=qii K) je (by rfl) T.n_isinstance qr (qa (pv 2) (qa (qQ (v:=.ref a.c_Joint) rfl T.g_Joint rfl) qb)))) (qz (pv 2) T.cl_Joint T.d_t.mt G_t h_t T.d_t.b .nil qp) (qL (qa (pv 2) qb))))))),?_⟩
   try dsimp only [qY,Cx.nox]
   obtain⟨td,ed,bl,zs,lo,tb⟩:=id h1.lo;obtain⟨dx,hx⟩:=lo.hx;refine⟨_,rfl,_,rfl,x,dx,_,rfl,hx,rfl,x,td,ed,bl,_,_,zs,rfl,lo,fun l fl=>?_⟩;rw[zj];generalize hG:upd H l _=G;obtain⟨SG,eG⟩:=qi hG fl;clear hG;refine⟨l,_,rfl,.inl (SqL.of eG),rfl,zX _,_,rfl,?_⟩;show if (!inV (V.str nm) ((es.map (·.nm)).map V.str))=true then _ else _
   rw[Qx];refine jX (fun g=>?_) (fun g=>?_)
   · refine⟨Nat.zero_le _,fun d fd=>?_⟩;exact kk d [] _ (SG.none fd) (SG.trans (Same.new _ fd)) qc (fun _ m=>nomatch m) (.inl ⟨g,rfl⟩)
   obtain⟨e,me,ee⟩:=List.mem_map.mp g;have en:=(h1.en e me).1.same SG;obtain⟨dx1,hx1⟩:=(lo.sm SG).hx;(try unfold qM);(try dsimp only);refine⟨_,rfl,x,dx1,_,rfl,hx1,rfl,_,rfl,x,td,ed,bl,_,_,zs,(e.nm,.ref e.x),by rw[ee];rfl,lo.sm SG,qe4 me,?_⟩;obtain⟨C,de,fe,he,ty,_,hj,_⟩:=Qy T en;refine⟨_,rfl,_,_,_,_,rfl,ty,hj,_,rfl,?_⟩
   cases en with
   | @at_ d0 x0 nm0 m0 h0 =>
     refine qcx ⟨_,rfl,qk (Nat.le_of_ble_eq_true rfl),fun d fd=>?_⟩;have S2:=Same.new (.lst [.ref x0]) fd;exact kk d [x0] _ (SG.none fd) (SG.trans S2) qc (fun p m=>⟨nm0,by rw[List.mem_singleton.mp m];exact .at_ (S2 _ _ h0)⟩) (.inr ⟨_,me,ee,rfl⟩)
   | @jn d0 x0 l0 nm0 qs h0 hl0 q0 q8 w0 =>
     refine qa5 ⟨_,rfl,x0,d0,_,rfl,h0,rfl,x0,d0,l0,nm0,qs,rfl,h0,hl0,fun d fd=>?_⟩;have S2:=Same.new (.lst (qs.map V.ref)) fd;exact kk d qs _ (SG.none fd) (SG.trans S2) qc (fun p m=>let ⟨n,w⟩:=w0 p m;⟨n,w.same S2⟩) (.inr ⟨_,me,ee,rfl⟩)
theorem Qq {a:Ad} (T:Txt K mg a):qx P w K mg base CX0 5 a.f_q a.fd_q ["one","other","name"] (zv a):=by
 have G_C:=qcr (P:=P) (w:=w) (base:=base) T;refine T.d_q.F.ok jl (fun vs H Q E h=>?_) (fun cdv A outer s H vs Q E hr h=>?_)
 · obtain⟨x,y,ts,us,es,fs,bs,cs,nm,rfl,h1,h2,kk⟩:=h;rfl
 · obtain⟨x,y,ts,us,es,fs,bs,cs,nm,rfl,h1,h2,kk⟩:=h;have h_C:Room (4) _:=hr.mono (by decide);refine⟨_,(qe (qu (qA z8 (qm G_C h_C rfl T.d_C.m T.d_C.k T.d_C.b .nil qp (qa (pv 0) (qa (pv 2) qb))) (qm G_C h_C rfl T.d_C.m T.d_C.k T.d_C.b .nil qp (qa (pv 1) (qa (pv 2) qb)))))),?_⟩;(try dsimp only [qY,Cx.nox]);refine⟨_,rfl,_,rfl,x,ts,es,bs,nm,rfl,h1,fun d ps G1 fd S1 e1 w1 k1=>?_⟩;refine⟨_,rfl,_,rfl,y,us,fs,cs,nm,rfl,h2.sm S1,fun d2 qs G2 fd2 S2 e2 w2 k2=>?_⟩
   have l1:ps.length≤8:=by
     rcases k1 with ⟨_,rfl⟩|⟨e,m,_,z⟩
     · exact Nat.zero_le _
     · rw[z];exact(h1.en e m).1.k.2
   have l2:qs.length≤8:=by
     rcases k2 with ⟨_,rfl⟩|⟨e,m,_,z⟩
     · exact Nat.zero_le _
     · rw[z];exact(h2.en e m).1.k.2
   refine .inr (.inl ⟨d,d2,_,_,rfl,rfl,S2 _ _ e1,e2,qk (by rw[List.length_map,List.length_map];omega),fun d3 fd3=>?_⟩);have S3:=Same.new (.lst (ps.map V.ref++qs.map V.ref)) fd3;refine kk d3 ps qs _ ((S1.trans S2).none fd3) ((S1.trans S2).trans S3) (by rw[List.map_append];exact qc) (fun p m=>?_) k1 k2;rcases List.mem_append.mp m with m|m
   · obtain⟨n,w⟩:=w1 p m;exact⟨n,(w.same S2).same S3⟩
   · obtain⟨n,w⟩:=w2 p m;exact⟨n,w.same S3⟩
end
def Rf (a:Ad) (H:Hp) (E:XK):Oc->Prop
 | .many n=>Rz a.c_TooMany "many" (.int (n:Int)) H E
 | .unl p m=>Rz2 a.c_Unlike "place" (.str p) "moment" (.int m) H E
 | .ok _ _ _=>True
def Oc.good:Oc->Prop
 | .ok _ _ _=>True
 | _=>False
inductive zR (a:Ad) (vs:List V) (H:Hp) (Q:VK) (E:XK):Prop
 | mk (x y:Addr) (ts us:List Tt) (es fs:List Et) (bs cs:List (Str×Str×Int)) (o:Oc) (h1:vs=[.ref x,.ref y]) (h2:Lc a H x ts es bs) (h3:Lc a H y us fs cs) (h4:Out ts us es fs (bs.length+cs.length) o) (h5:Rf a H E o) (h6:(o.good->∀ H',Same H H'->Q .non H')):zR a vs H Q E
def Qg (a:Ad):Sp:=fun vs H Q E=>zR a vs H Q E
inductive zQ (a:Ad) (vs:List V) (H:Hp) (Q:VK):Prop
 | mk (x y:Addr) (ts us:List Tt) (es fs:List Et) (bs cs:List (Str×Str×Int)) (nm:Str) (h1:vs=[.ref x,.ref y,.str nm]) (h2:Lc a H x ts es bs) (h3:Lc a H y us fs cs) (h4:nm∈bt (es.map (·.nm)) (fs.map (·.nm))) (h5:(∀ g∈es,okk fs g)) (h6:∀ (e:Et) (H':Hp),Same H H'->e.nm=nm->EnT a H' e->Q (.ref e.x) H'):zQ a vs H Q
def Qf (a:Ad):Sp:=fun vs H Q _=>zQ a vs H Q
theorem bt_mem {ss us:List Str}{x:Str}:x∈bt ss us↔x∈ss∨x∈us:=by
 unfold bt;rw[List.mem_append,List.mem_filter];constructor
 · rintro (h|h)
   · exact .inl h
   · exact .inr h.1
 · rintro (h|h)
   · exact .inl h
   · by_cases c:x∈ss
     · exact .inl c
     · exact .inr ⟨h,by simpa using c⟩
theorem qju {ss us:List Str} (h1:ss.Nodup) (h2:us.Nodup):(bt ss us).Nodup:=by
 unfold bt;refine List.nodup_append.mpr ⟨h1,h2.sublist List.filter_sublist,fun x m y my e=>?_⟩;subst e
 have:=(List.mem_filter.mp my).2
 simp at this;exact this m
theorem qfF {ss ss' us us':List Str} (h1:ss'.Perm ss) (h2:us'.Perm us):(bt ss' us').length=(bt ss us).length:=by
 unfold bt;rw[List.length_append,List.length_append,h1.length_eq];congr 1
 have e:(fun u=>decide (u∉ss'))=fun u=>decide (u∉ss):=by
   funext u;rw[decide_eq_decide,h1.mem_iff]
 rw[e];exact(h2.filter _).length_eq
section
variable {P:Program}{w:World}{K:Frag}{mg:Str->Option Value}{base:Heap}
theorem jp {a:Ad} (T:Txt K mg a):qx P w K mg base (CX1 P w) 6 a.f_V a.fd_V ["one","other"] (Qg a):=by
 have G_g:=qa2 (P:=P) (w:=w) (base:=base) T;have G_U:=Ju (P:=P) (w:=w) (base:=base) T;have G_a:=zm (P:=P) (w:=w) (base:=base) T;have G_e:=jQ (P:=P) (w:=w) (base:=base) T;have G_b:=zM (P:=P) (w:=w) (base:=base) T;have G_q:=Qq (P:=P) (w:=w) (base:=base) T;have G_c:=z5 (P:=P) (w:=w) (base:=base) T;refine T.d_V.F.okX sc_check_together (fun vs H Q E h=>?_) (fun cdv A outer s H vs Q E hr h=>?_)
 · obtain⟨x,y,ts,us,es,fs,bs,cs,o,rfl,h1,h2,out,kz,kk⟩:=h;rfl
 · obtain⟨x,y,ts,us,es,fs,bs,cs,o,rfl,h1,h2,out,kz,kk⟩:=h;have h_g:Room (5) _:=hr.mono (by decide);have h_U:Room (5) _:=hr.mono (by decide);have h_a:Room (1) _:=hr.mono (by decide);have h_e:Room (1) _:=hr.mono (by decide);have h_b:Room (1) _:=hr.mono (by decide);have h_q:Room (5) _:=hr.mono (by decide);have h_c:Room (1) _:=hr.mono (by decide);obtain⟨t_MOST_PARTS,c_MOST_PARTS⟩:=T.g_MOST_PARTS;obtain⟨t_MOST_PLACES,c_MOST_PLACES⟩:=T.g_MOST_PLACES;obtain⟨t_MOST_ENTRIES,c_MOST_ENTRIES⟩:=T.g_MOST_ENTRIES;obtain⟨t_MOST_BONDS,c_MOST_BONDS⟩:=T.g_MOST_BONDS
   refine⟨_,(qf (qF (qm G_g h_g rfl T.d_g.m T.d_g.k T.d_g.b .nil throws_cx.passes (qa (ql qB (by rfl) T.n_len qv (qa (qm G_e h_e rfl T.d_e.m T.d_e.k T.d_e.b .nil qp (qa (qz (pv 0) T.cl_Log T.d_b.mt G_b h_b T.d_b.b .nil qp) (qa (qz (pv 1) T.cl_Log T.d_b.mt G_b h_b T.d_b.b .nil qp) qb))) qb)) (qa (qQ (v:=.int 6) rfl c_MOST_PLACES ⟨_,rfl⟩) qb))))
     (qf (qF (qm G_U h_U rfl T.d_U.m T.d_U.k T.d_U.b .nil throws_cx.passes (qa (pv 0) (qa (pv 1) qb))))
     (qf (q9 PassesOwn.leaving rfl (qH (qz (pv 0) T.cl_Log T.d_a.mt G_a h_a T.d_a.b .nil qp)) (qt (i:=2) (sc_check_together.nd) rfl (Or.inl rfl))
       (qe (qF (qm G_g h_g rfl T.d_g.m T.d_g.k T.d_g.b .nil throws_cx.passes (qa (ql qB (by rfl) T.n_len qv (qa (qm G_q h_q rfl T.d_q.m T.d_q.k T.d_q.b .nil qp (qa (pv 0) (qa (pv 1) (qa (pv 2) qb)))) qb)) (qa (qQ (v:=.int 8) rfl c_MOST_PARTS ⟨_,rfl⟩) qb))))))
     (qf (qF (qm G_g h_g rfl T.d_g.m T.d_g.k T.d_g.b .nil throws_cx.passes (qa (ql qB (by rfl) T.n_len qv (qa (qm G_e h_e rfl T.d_e.m T.d_e.k T.d_e.b .nil qp (qa (qz (pv 0) T.cl_Log T.d_a.mt G_a h_a T.d_a.b .nil qp) (qa (qz (pv 1) T.cl_Log T.d_a.mt G_a h_a T.d_a.b .nil qp) qb))) qb)) (qa (qQ (v:=.int 60) rfl c_MOST_ENTRIES ⟨_,rfl⟩) qb))))
     (qe (qF (qm G_g h_g rfl T.d_g.m T.d_g.k T.d_g.b .nil throws_cx.passes (qa (qA z8 (ql qB (by rfl) T.n_len qv (qa (qz (pv 0) T.cl_Log T.d_c.mt G_c h_c T.d_c.b .nil qp) qb)) (ql qB (by rfl) T.n_len qv (qa (qz (pv 1) T.cl_Log T.d_c.mt G_c h_c T.d_c.b .nil qp) qb))) (qa (qQ (v:=.int 100) rfl c_MOST_BONDS ⟨_,rfl⟩) qb))))))))),?_⟩
   try dsimp only [qY,Cx.nox]
   obtain⟨td1,ed1,bl1,zs1,lo1,_⟩:=id h1.lo;obtain⟨dx1,hx1⟩:=lo1.hx;refine⟨_,rfl,x,dx1,_,rfl,hx1,rfl,x,td1,ed1,bl1,_,_,zs1,rfl,lo1,(by rw[List.length_map];exact h1.fewt),fun l1 ss1 fl1 pm1 so1=>?_⟩;rw[zC]at pm1;generalize hG:upd H l1 _=G1;obtain⟨Sl1,el1⟩:=qi hG fl1;clear hG;obtain⟨td2,ed2,bl2,zs2,lo2,_⟩:=id (h2.sm Sl1).lo;obtain⟨dx2,hx2⟩:=lo2.hx;refine⟨_,rfl,y,dx2,_,rfl,hx2,rfl,y,td2,ed2,bl2,_,_,zs2,rfl,lo2,(by rw[List.length_map];exact(h2.sm Sl1).fewt),fun l2 ss2 fl2 pm2 so2=>?_⟩;rw[zC]at pm2;generalize hG:upd G1 l2 _=G2;obtain⟨Sl2,el2⟩:=qi hG fl2;clear hG;refine⟨l1,l2,ss1,ss2,rfl,Sl2 _ _ el1,el2,(by rw[pm1.length_eq,List.length_map];have:=h1.fewt;omega),(by rw[pm2.length_eq,List.length_map];have:=h2.fewt;omega),fun d G3 fd Sd ed=>?_⟩;have np:(bt ss1 ss2).length=npl ts us:=qfF pm1 pm2;refine⟨_,_,rfl,.inl ⟨_,SqL.of ed,rfl⟩,_,_,rfl,?_⟩;rw[List.length_map,np];have S3:=(Sl1.trans Sl2).trans Sd;by_cases c1:npl ts us≤6
   case neg =>
     refine .inr ⟨by omega,?_⟩
     cases out with
     | pl h=>exact Rz.same kz S3
     | un h _=>exact absurd h c1
     | pt h _ _ _ _ _ _=>exact absurd h c1
     | en h _ _ _=>exact absurd h c1
     | bo h _ _ _ _=>exact absurd h c1
     | ok h _ _ _ _=>exact absurd h c1
   refine .inl ⟨by omega,?_⟩;(try unfold qM);(try dsimp only);refine⟨_,rfl,_,rfl,x,y,ts,us,es,fs,bs,cs,rfl,h1.sm S3,h2.sm S3,?_⟩
   have fin:(NoUn ts us∧((∃ l r e f,es=l++e::r∧(∀ g∈l,okk fs g)∧f∈fs∧f.nm=e.nm∧8 < e.k+f.k∧o=.many (e.k+f.k))∨((∀ g∈es,okk fs g)∧((60 < nen es fs∧o=.many (nen es fs))∨(nen es fs≤60∧((100 < bs.length+cs.length∧o=.many (bs.length+cs.length))∨(bs.length+cs.length≤100∧o.good)))))))∨∃ p m,IsUn ts us p m∧o=.unl p m:=by
     cases out with
     | pl h=>omega
     | un h u=>exact .inr ⟨_,_,u,rfl⟩
     | pt h n e l f q k=>exact .inl ⟨n,.inl ⟨_,_,_,_,e,l,f,q,k,rfl⟩⟩
     | en h n a e=>exact .inl ⟨n,.inr ⟨a,.inl ⟨e,rfl⟩⟩⟩
     | bo h n a e b=>exact .inl ⟨n,.inr ⟨a,.inr ⟨e,.inl ⟨b,rfl⟩⟩⟩⟩
     | ok h n a e b=>exact .inl ⟨n,.inr ⟨a,.inr ⟨e,.inr ⟨b,trivial⟩⟩⟩⟩
   rcases fin with ⟨nu,fin⟩|⟨p,m,iu,rfl⟩
   case inr=>exact .inr ⟨p,m,iu,Rz2.same kz S3⟩
   refine .inl ⟨nu,fun G4 S4'=>?_⟩;have S4:=S3.trans S4';(try unfold qM);(try dsimp only);refine qV (t:=qd5 _ _ _) (fun σ' H'=>∃ s2:Option V,σ'=[some (.ref x),some (.ref y),s2]∧Same H H'∧(∀ g∈es,okk fs g)) (fun N hN=>?_) ?_
   · obtain⟨td3,ed3,bl3,zs3,lo3,_⟩:=id (h1.sm S4).lo;obtain⟨dx3,hx3⟩:=lo3.hx;refine⟨_,rfl,x,dx3,_,rfl,hx3,rfl,x,td3,ed3,bl3,_,_,zs3,rfl,lo3,fun l fl=>?_⟩;rw[zj];generalize hG:upd G4 l _=G5;obtain⟨Sl,el⟩:=qi hG fl;clear hG;have S5:=S4.trans Sl;refine⟨l,rfl,⟨_,SqL.of el⟩,qK (D:={ nx:=N,rt:=Q }) (K:=K) (a:=l) (xs:=(es.map (·.nm)).map V.str) (fun j σ H'=>∃ s2:Option V,σ=[some (.ref x),some (.ref y),s2]∧Same H H'∧H' l=some (.lst ((es.map (·.nm)).map V.str))∧∀ g∈es.take j,okk fs g) ⟨_,rfl,S5,el,fun _ m=>by simp at m⟩ (fun j σ H' _ ⟨_,_,_,h,_⟩=>SqL.of h) ?_ ?_⟩
     · rintro j z σ H1 hz ⟨s2,rfl,S1,hl,hk⟩
       obtain⟨e,he,rfl⟩:∃ e,es[j]?=some e∧V.str e.nm=z:=by
         rw[List.getElem?_map,List.getElem?_map,Option.map_map]at hz;exact Option.map_eq_some_iff.mp hz
       have me:=List.mem_of_getElem? he;refine⟨_,rfl,_,rfl,_,rfl,x,y,ts,us,es,fs,bs,cs,e.nm,rfl,h1.sm S1,h2.sm S1,fun d ps qs H2 fd S2 ed w k1 k2=>?_⟩
       have lp:ps.length=e.k:=by
         rcases k1 with ⟨n,_⟩|⟨e',m',en',l'⟩
         · exact absurd (List.mem_map_of_mem me) n
         · rw[l',qdi h1.nde m' me en']
       refine⟨_,_,rfl,.inl ⟨_,SqL.of ed,rfl⟩,_,_,rfl,?_⟩;rw[List.length_map,List.length_append];have tk:es.take (j+1)=es.take j++[e]:=by rw[List.take_add_one,he];rfl
       by_cases c:ps.length+qs.length≤8
       · refine .inl ⟨by omega,⟨_,rfl,S1.trans S2,S2 _ _ hl,fun g m=>?_⟩⟩;rw[tk]at m;rcases List.mem_append.mp m with m|m
         · exact hk g m
         · rw[List.mem_singleton.mp m];intro f mf ef;rcases k2 with ⟨n,_⟩|⟨f',m',en',l'⟩
           · exact absurd (by rw[← ef];exact List.mem_map_of_mem mf) n
           · rw[qdi h2.nde mf m' (ef.trans en'.symm)];omega
       · refine .inr ⟨by omega,?_⟩
         obtain⟨f,mf,ef,lf⟩:∃ f∈fs,f.nm=e.nm∧qs.length=f.k:=by
           rcases k2 with ⟨_,z⟩|h
           · have:=(h1.en e me).1.k.2
             rw[z]at c;simp at c;omega
           · exact h
         have bad:¬ okk fs e:=fun h=>by have:=h f mf ef;omega
         rcases fin with ⟨l0,r0,e0,f0,hes,hl0,mf0,ef0,k0,rfl⟩|⟨ha,_⟩
         case inr=>exact absurd (ha e me) bad
         have ee:e0=e:=by
           have lj:l0.length=j:=by
             rcases Nat.lt_trichotomy l0.length j with z|z|z
             · refine absurd (hk e0 (List.mem_of_getElem? (i:=l0.length) ?_)) fun h=>by have:=h f0 mf0 ef0;omega
               rw[List.getElem?_take_of_lt z,hes,List.getElem?_append_right (Nat.le_refl _),Nat.sub_self];rfl
             · exact z
             · refine absurd (hl0 e (List.mem_of_getElem? (i:=j) ?_)) bad;rw[hes,List.getElem?_append_left z]at he;exact he
           subst lj;rw[hes,List.getElem?_append_right (Nat.le_refl _),Nat.sub_self]at he;cases he;rfl
         subst ee;have ff:f0=f:=qdi h2.nde mf0 mf (ef0.trans ef.symm);subst ff;have q:=Rz.same kz (S1.trans S2);rw[show ((ps.length+qs.length:Nat):Int)=((e0.k+f0.k:Nat):Int) by omega];exact q
     · rintro σ H1 ⟨s2,rfl,S1,hl,hk⟩;rw[List.length_map,List.length_map,List.take_length]at hk;exact hN _ _ ⟨_,rfl,S1,hk⟩
   rintro _ H5 ⟨s2,rfl,S5,allk⟩;rcases fin with ⟨l0,r0,e0,f0,hes,hl0,mf0,ef0,k0,rfl⟩|⟨_,fin⟩
   · have:=allk e0 (by rw[hes];simp) f0 mf0 ef0
     omega
   obtain⟨td6,ed6,bl6,zs6,lo6,_⟩:=id (h1.sm S5).lo;obtain⟨dx6,hx6⟩:=lo6.hx;refine⟨_,rfl,x,dx6,_,rfl,hx6,rfl,x,td6,ed6,bl6,_,_,zs6,rfl,lo6,fun l6 fl6=>?_⟩;rw[zj];generalize hG:upd H5 l6 _=G6;obtain⟨Sl6,el6⟩:=qi hG fl6;clear hG;obtain⟨td7,ed7,bl7,zs7,lo7,_⟩:=id (h2.sm (S5.trans Sl6)).lo;obtain⟨dx7,hx7⟩:=lo7.hx;refine⟨_,rfl,y,dx7,_,rfl,hx7,rfl,y,td7,ed7,bl7,_,_,zs7,rfl,lo7,fun l7 fl7=>?_⟩;rw[zj];generalize hG:upd G6 l7 _=G7;obtain⟨Sl7,el7⟩:=qi hG fl7;clear hG;refine⟨l6,l7,_,_,rfl,Sl7 _ _ el6,el7,(by rw[List.length_map];exact h1.fewe),(by rw[List.length_map];exact h2.fewe),fun d8 G8 fd8 Sd8 ed8=>?_⟩;refine⟨_,_,rfl,.inl ⟨_,SqL.of ed8,rfl⟩,_,_,rfl,?_⟩;rw[List.length_map];have S8:=S5.trans ((Sl6.trans Sl7).trans Sd8);rcases fin with ⟨h60,rfl⟩|⟨h60,fin⟩
   · exact .inr ⟨by show (60:Int) < (nen es fs:Nat);omega,Rz.same kz S8⟩
   refine .inl ⟨by show ((nen es fs:Nat):Int)≤60;omega,?_⟩;(try unfold qM);(try dsimp only);obtain⟨td9,ed9,bl9,zs9,lo9,tb9⟩:=id (h1.sm S8).lo;obtain⟨dx9,hx9⟩:=lo9.hx;refine⟨_,rfl,x,dx9,_,rfl,hx9,rfl,x,td9,ed9,bl9,_,_,zs9,rfl,lo9,fun l9 fl9=>?_⟩;generalize hG:upd G8 l9 _=G9;obtain⟨Sl9,el9⟩:=qi hG fl9;clear hG;refine⟨_,_,rfl,.inl ⟨_,SqL.of el9,rfl⟩,?_⟩;obtain⟨tda,eda,bla,zsa,loa,tba⟩:=id (h2.sm (S8.trans Sl9)).lo;obtain⟨dxa,hxa⟩:=loa.hx;refine⟨_,rfl,y,dxa,_,rfl,hxa,rfl,y,tda,eda,bla,_,_,zsa,rfl,loa,fun la fla=>?_⟩;generalize hG:upd G9 la _=Ga;obtain⟨Sla,ela⟩:=qi hG fla;clear hG;refine⟨_,_,rfl,.inl ⟨_,SqL.of ela,rfl⟩,.inl ⟨_,_,rfl,rfl,_,_,rfl,?_⟩⟩;have Sa:=S8.trans (Sl9.trans Sla);have e1:zs9.length=bs.length:=tb9.1;have e2:zsa.length=cs.length:=tba.1;rw[e1,e2];rcases fin with ⟨h100,rfl⟩|⟨h100,og⟩
   · refine .inr ⟨by omega,?_⟩;have q:=Rz.same kz Sa;rw[show ((bs.length:Int)+(cs.length:Int))=((bs.length+cs.length:Nat):Int) by omega];exact q
   · exact .inl ⟨by omega,kk og _ Sa⟩
end
theorem qhQ {H:Hp}{x dx C:Addr} (h1:H x=none) (h2:H dx=none):Same H (upd (upd H dx (.own x)) x (.ins C dx [])):=fun c o e=>by
 rw[qg (qj e h1),qg (qj e h2)];exact e
theorem qal {H G G':Hp}{p:Addr} (s:Same H G) (f:H p=none) (b:But p G G'):Same H G':=fun c o e=>b c o (s c o e) (qj e f)
theorem qgd {l:List Str}{j:Nat}{x:Str} (nd:l.Nodup) (h:l[j]?=some x):x∉l.take j:=by
 intro m;rw[← List.take_append_drop j l]at nd;refine(List.nodup_append.mp nd).2.2 x m x (List.mem_of_getElem? (i:=0) ?_) rfl;rw[List.getElem?_drop];exact h
theorem qcj {β:Type}{f:β->List V}{H:Hp}{xs ys:List V}{ps qs:List β} (h:TupL f H xs ps) (g:TupL f H ys qs):TupL f H (xs++ys) (ps++qs):=by
 refine⟨by rw[List.length_append,List.length_append,h.1,g.1],fun i z p e1 e2=>?_⟩;by_cases c:i < xs.length
 · rw[List.getElem?_append_left c]at e1;rw[List.getElem?_append_left (by rw[← h.1];exact c)]at e2;exact h.2 i z p e1 e2
 · rw[List.getElem?_append_right (by omega)]at e1;rw[List.getElem?_append_right (by rw[← h.1];omega),← h.1]at e2;exact g.2 _ z p e1 e2
theorem z6 {H:Hp}{a b:Addr}{o:HO} (h:upd H a o b=none):H b=none:=by
 unfold upd at h;split at h
 · cases h
 · exact h
inductive Qd (a:Ad) (vs:List V) (H:Hp) (Q:VK) (E:XK):Prop
 | mk (x y:Addr) (ts us:List Tt) (es fs:List Et) (bs cs:List (Str×Str×Int)) (o:Oc) (h1:vs=[.ref x,.ref y]) (h2:Lc a H x ts es bs) (h3:Lc a H y us fs cs) (h4:Out ts us es fs (bs.length+cs.length) o) (h5:Rf a H E o) (h6:∀ (z td ed bl:Addr) (ps ns:List (Str×V)) (zs:List V) (H':Hp),Same H H'->Lo a H' z td ed bl ps ns zs->ps.length≤6->o=.ok ns.length zs.length ps.length->Q (.ref z) H'):Qd a vs H Q E
def QO (a:Ad):Sp:=fun vs H Q E=>Qd a vs H Q E
section
variable {P:Program}{w:World}{K:Frag}{mg:Str->Option Value}{base:Heap}
theorem jo {a:Ad} (T:Txt K mg a):qx P w K mg base CX0 7 a.f_W a.fd_W ["one","other","name"] (Qf a):=by
 have G_x:=Z8 (P:=P) (w:=w) (base:=base) T;have G_a:=zm (P:=P) (w:=w) (base:=base) T;have G_k:=jS (P:=P) (w:=w) (base:=base) T;have G_q:=Qq (P:=P) (w:=w) (base:=base) T;refine T.d_W.F.ok jm (fun vs H Q E h=>?_) (fun cdv A outer s H vs Q E hr h=>?_)
 · obtain⟨x,y,ts,us,es,fs,bs,cs,nm,rfl,h1,h2,mb,al,kk⟩:=h;rfl
 · obtain⟨x,y,ts,us,es,fs,bs,cs,nm,rfl,h1,h2,mb,al,kk⟩:=h;have h_x:Room (5+1) _:=hr.mono (by decide);have h_a:Room (1) _:=hr.mono (by decide);have h_k:Room (3) _:=hr.mono (by decide);have h_q:Room (5) _:=hr.mono (by decide)
   refine⟨_,(qf (qN (qy (r:=rIn K true) zF (pv 2) (qz (pv 1) T.cl_Log T.d_a.mt G_a h_a T.d_a.b .nil qp) (by with_unfolding_all rfl))
       (qe (qu (zf (pv 0) T.cl_Log T.d_k.mt G_k h_k T.d_k.b .nil qp (qa (pv 2) qb))))
       qw)
     (qf (qN (qy (r:=rIn K true) zF (pv 2) (qz (pv 0) T.cl_Log T.d_a.mt G_a h_a T.d_a.b .nil qp) (by with_unfolding_all rfl))
       (qe (qu (zf (pv 1) T.cl_Log T.d_k.mt G_k h_k T.d_k.b .nil qp (qa (pv 2) qb))))
       qw)
     (qe (qu (Jq T.M_Joint G_x h_x rfl T.g_Joint T.d_x.b .nil qp (qa (pv 2) (qa (qm G_q h_q rfl T.d_q.m T.d_q.k T.d_q.b .nil qp (qa (pv 0) (qa (pv 1) (qa (pv 2) qb)))) qb))))))),?_⟩
   try dsimp only [qY,Cx.nox]
   rw[bt_mem]at mb;obtain⟨td1,ed1,bl1,zs1,lo1,_⟩:=id h2.lo;obtain⟨dx1,hx1⟩:=lo1.hx;refine⟨_,rfl,_,rfl,y,dx1,_,rfl,hx1,rfl,y,td1,ed1,bl1,_,_,zs1,rfl,lo1,fun l1 fl1=>?_⟩;rw[zj];generalize hG:upd H l1 _=G1;obtain⟨Sl1,el1⟩:=qi hG fl1;clear hG;refine⟨l1,_,rfl,.inl (SqL.of el1),rfl,zX _,_,rfl,?_⟩;show if (!inV (V.str nm) ((fs.map (·.nm)).map V.str))=true then _ else _
   rw[Qx];refine jX (fun g1=>?_) (fun g1=>?_)
   · have m1:nm∈es.map (·.nm):=mb.resolve_right g1;obtain⟨td2,ed2,bl2,zs2,lo2,_⟩:=id (h1.sm Sl1).lo;obtain⟨dx2,hx2⟩:=lo2.hx;obtain⟨e,me,ee⟩:=List.mem_map.mp m1;have en:=(h1.en e me).1.same Sl1;refine⟨_,rfl,x,dx2,_,rfl,hx2,rfl,_,rfl,x,td2,ed2,bl2,_,_,zs2,(e.nm,.ref e.x),by rw[ee];rfl,lo2,qe4 me,?_⟩;exact kk e _ Sl1 ee en
   try unfold qM
   try dsimp only
   obtain⟨td3,ed3,bl3,zs3,lo3,_⟩:=id (h1.sm Sl1).lo;obtain⟨dx3,hx3⟩:=lo3.hx;refine⟨_,rfl,_,rfl,x,dx3,_,rfl,hx3,rfl,x,td3,ed3,bl3,_,_,zs3,rfl,lo3,fun l2 fl2=>?_⟩;rw[zj];generalize hG:upd G1 l2 _=G2;obtain⟨Sl2,el2⟩:=qi hG fl2;clear hG;refine⟨l2,_,rfl,.inl (SqL.of el2),rfl,zX _,_,rfl,?_⟩;show if (!inV (V.str nm) ((es.map (·.nm)).map V.str))=true then _ else _
   rw[Qx];have S2:=Sl1.trans Sl2;refine jX (fun g2=>?_) (fun g2=>?_)
   · obtain⟨td4,ed4,bl4,zs4,lo4,_⟩:=id (h2.sm S2).lo;obtain⟨dx4,hx4⟩:=lo4.hx;obtain⟨e,me,ee⟩:=List.mem_map.mp g1;have en:=(h2.en e me).1.same S2;refine⟨_,rfl,y,dx4,_,rfl,hx4,rfl,_,rfl,y,td4,ed4,bl4,_,_,zs4,(e.nm,.ref e.x),by rw[ee];rfl,lo4,qe4 me,?_⟩;exact kk e _ S2 ee en
   try unfold qM
   try dsimp only
   obtain⟨e,me,ee⟩:=List.mem_map.mp g2;have ok:zV (.str nm)=true:=ee▸(h1.en e me).2;refine⟨_,rfl,_,rfl,_,rfl,_,rfl,x,y,ts,us,es,fs,bs,cs,nm,rfl,h1.sm S2,h2.sm S2,fun d ps qs G3 fd S3 ed w k1 k2=>?_⟩
   have lp:ps.length=e.k:=by
     rcases k1 with ⟨n,_⟩|⟨e',m',en',l'⟩
     · exact absurd g2 n
     · rw[l',qdi h1.nde m' me (en'.trans ee.symm)]
   obtain⟨f,mf,ef,lq⟩:∃ f∈fs,f.nm=nm∧qs.length=f.k:=by
     rcases k2 with ⟨n,_⟩|h
     · exact absurd g1 n
     · exact h
   have le:ps.length+qs.length≤8:=by rw[lp,lq];exact al e me f mf (ef.trans ee.symm)
   have lo:0 < ps.length:=by rw[lp];exact(h1.en e me).1.k.1
   refine fun xj dj f1 f2 ne=>?_;have Sm:=qhQ (C:=a.c_Joint) f1 f2;refine⟨xj,dj,d,nm,ps++qs,rfl,qc,ok,Sm _ _ ed,by rw[List.length_append];omega,by rw[List.length_append];omega,fun p m=>let ⟨n,z⟩:=w p m;⟨n,z.same Sm⟩,fun l H4 fl B4 h4 hl=>⟨rfl,?_⟩⟩;have S4:=zH f1 f2 B4;exact kk ⟨nm,xj,some (l,ps++qs)⟩ H4 ((S2.trans S3).trans S4) rfl (.jn h4 hl (by rw[List.length_append];omega) (by rw[List.length_append];exact le) fun p m=>let ⟨n,z⟩:=w p m;⟨n,z.same S4⟩)
theorem Js {a:Ad} (T:Txt K mg a):qx P w K mg base (CX1 P w) 8 a.f_X a.fd_X ["one","other"] (QO a):=by
 have G_V:=jp (P:=P) (w:=w) (base:=base) T;have G_y:=Jx (P:=P) (w:=w) (base:=base) T;have G_e:=jQ (P:=P) (w:=w) (base:=base) T;have G_b:=zM (P:=P) (w:=w) (base:=base) T;have G_u:=jT (P:=P) (w:=w) (base:=base) T;have G_a:=zm (P:=P) (w:=w) (base:=base) T;have G_v:=qaw (P:=P) (w:=w) (base:=base) T;have G_c:=z5 (P:=P) (w:=w) (base:=base) T;have G_w:=Jy (P:=P) (w:=w) (base:=base) T;have G_W:=jo (P:=P) (w:=w) (base:=base) T;have G_i:=jR (P:=P) (w:=w) (base:=base) T;refine T.d_X.F.okX sc_put_together (fun vs H Q E h=>?_) (fun cdv A outer s H vs Q E hr h=>?_)
 · obtain⟨x,y,ts,us,es,fs,bs,cs,o,rfl,h1,h2,out,kz,kk⟩:=h;rfl
 · obtain⟨x,y,ts,us,es,fs,bs,cs,o,rfl,h1,h2,out,kz,kk⟩:=h;have hu:=qG hr;have h_V:Room (6) _:=hr.mono (by decide);have h_y:Room (1+1) _:=hr.mono (by decide);have h_e:Room (1) _:=hr.mono (by decide);have h_b:Room (1) _:=hr.mono (by decide);have h_u:Room (2) _:=hr.mono (by decide);have h_a:Room (1) _:=hr.mono (by decide);have h_v:Room (3) _:=hr.mono (by decide);have h_c:Room (1) _:=hr.mono (by decide);have h_w:Room (4) _:=hr.mono (by decide);have h_W:Room (7) _:=hr.mono (by decide);have h_i:Room (2) _:=hr.mono (by decide)
   refine⟨_,(qf (qF (qm G_V h_V rfl T.d_V.m T.d_V.k T.d_V.b .nil throws_cx.passes (qa (pv 0) (qa (pv 1) qb))))
     (qf (qJ (i:=2) sc_put_together.nd rfl (Or.inl rfl) (qde T.M_Log G_y h_y rfl T.g_Log T.d_y.b .nil qp))
     (qf (q9 PassesOwn.leaving rfl (qH (qm G_e h_e rfl T.d_e.m T.d_e.k T.d_e.b .nil qp (qa (qz (pv 0) T.cl_Log T.d_b.mt G_b h_b T.d_b.b .nil qp) (qa (qz (pv 1) T.cl_Log T.d_b.mt G_b h_b T.d_b.b .nil qp) qb)))) (qt (i:=3) (sc_put_together.nd) rfl (Or.inl rfl))
       (qe (qF (zf (pv 2) T.cl_Log T.d_u.mt G_u h_u T.d_u.b .nil qp (qa (pv 3) (qa (qdf (qy (r:=rIn K false) Jr (pv 3) (qz (pv 0) T.cl_Log T.d_b.mt G_b h_b T.d_b.b .nil qp) (by with_unfolding_all rfl)) (zf (pv 0) T.cl_Log T.d_i.mt G_i h_i T.d_i.b .nil qp (qa (pv 3) qb)) (zf (pv 1) T.cl_Log T.d_i.mt G_i h_i T.d_i.b .nil qp (qa (pv 3) qb))) qb))))))
     (qf (q9 PassesOwn.leaving rfl (qH (qm G_e h_e rfl T.d_e.m T.d_e.k T.d_e.b .nil qp (qa (qz (pv 0) T.cl_Log T.d_a.mt G_a h_a T.d_a.b .nil qp) (qa (qz (pv 1) T.cl_Log T.d_a.mt G_a h_a T.d_a.b .nil qp) qb)))) (qt (i:=4) (sc_put_together.nd) rfl (Or.inl rfl))
       (qe (qF (zf (pv 2) T.cl_Log T.d_v.mt G_v h_v T.d_v.b .nil qp (qa (qm G_W h_W rfl T.d_W.m T.d_W.k T.d_W.b .nil qp (qa (pv 0) (qa (pv 1) (qa (pv 4) qb)))) qb)))))
     (qf (q9 PassesOwn.leaving rfl (qH (qA z8 (qz (pv 0) T.cl_Log T.d_c.mt G_c h_c T.d_c.b .nil qp) (qz (pv 1) T.cl_Log T.d_c.mt G_c h_c T.d_c.b .nil qp))) (Qo rfl (qE (qt (i:=5) (sc_put_together.nd) rfl (Or.inl rfl)) (qE (qt (i:=6) (sc_put_together.nd) rfl (Or.inl rfl)) (qE (qt (i:=7) (sc_put_together.nd) rfl (Or.inl rfl)) zw))))
       (qe (qF (zf (pv 2) T.cl_Log T.d_w.mt G_w h_w T.d_w.b .nil qp (qa (pv 5) (qa (pv 6) (qa (pv 7) qb)))))))
     (qe (qu (pv 2)))))))),?_⟩
   try dsimp only [qY,Cx.nox]
   refine⟨_,rfl,_,rfl,x,y,ts,us,es,fs,bs,cs,o,rfl,h1,h2,out,kz,fun og G1 S1=>?_⟩
   obtain⟨hp6,nou,allk,he60,hb100,rfl⟩:npl ts us≤6∧NoUn ts us∧(∀ g∈es,okk fs g)∧nen es fs≤60∧bs.length+cs.length≤100∧o=.ok (nen es fs) (bs.length+cs.length) (npl ts us):=by
     cases out with
     | pl _=>exact og.elim
     | un _ _=>exact og.elim
     | pt _ _ _ _ _ _ _=>exact og.elim
     | en _ _ _ _=>exact og.elim
     | bo _ _ _ _ _=>exact og.elim
     | ok a b c d e=>exact⟨a,b,c,d,e,rfl⟩
   clear out;(try unfold qM);(try dsimp only);refine fun z dz f1 f2 ne1=>⟨z,dz,rfl,qc,fun td ed bl L1 BL1 g1 g2 g3 hL1=>⟨rfl,?_⟩⟩
   have SL1:Same H L1:=S1.trans (zH f1 f2 BL1);have ftd:H td=none:=S1.none (z6 (z6 g1));have fed:H ed=none:=S1.none (z6 (z6 g2));have fbl:H bl=none:=S1.none (z6 (z6 g3));clear g1 g2 g3 BL1 f1 f2 ne1 S1;(try unfold qM);(try dsimp only);refine qV (t:=qd5 _ _ _) (fun σ' H'=>∃ (s3:Option V) (ps:List (Str×V)),σ'=[some (.ref x),some (.ref y),some (.ref z),s3,none,none,none,none]∧Same H H'∧Lo a H' z td ed bl ps [] []∧ps.length=npl ts us) (fun N hN=>?_) ?_
   · obtain⟨td1,ed1,bl1,zs1,lo1,_⟩:=id (h1.sm SL1).lo;obtain⟨dx1,hx1⟩:=lo1.hx;refine⟨_,rfl,x,dx1,_,rfl,hx1,rfl,x,td1,ed1,bl1,_,_,zs1,rfl,lo1,(by rw[List.length_map];exact(h1.sm SL1).fewt),fun l1 ss1 fl1 pm1 so1=>?_⟩;rw[zC]at pm1;generalize hG:upd L1 l1 _=G1;obtain⟨Sl1,el1⟩:=qi hG fl1;clear hG;obtain⟨td2,ed2,bl2,zs2,lo2,_⟩:=id (h2.sm (SL1.trans Sl1)).lo;obtain⟨dx2,hx2⟩:=lo2.hx;refine⟨_,rfl,y,dx2,_,rfl,hx2,rfl,y,td2,ed2,bl2,_,_,zs2,rfl,lo2,(by rw[List.length_map];exact(h2.sm (SL1.trans Sl1)).fewt),fun l2 ss2 fl2 pm2 so2=>?_⟩;rw[zC]at pm2;generalize hG:upd G1 l2 _=G2;obtain⟨Sl2,el2⟩:=qi hG fl2;clear hG;refine⟨l1,l2,ss1,ss2,rfl,Sl2 _ _ el1,el2,(by rw[pm1.length_eq,List.length_map];have:=h1.fewt;omega),(by rw[pm2.length_eq,List.length_map];have:=h2.fewt;omega),fun d G3 fd Sd ed'=>?_⟩;have np:(bt ss1 ss2).length=npl ts us:=qfF pm1 pm2;have nd:(bt ss1 ss2).Nodup:=qju (pm1.nodup_iff.mpr h1.ndt) (pm2.nodup_iff.mpr h2.ndt);have S3:Same L1 G3:=(Sl1.trans Sl2).trans Sd;refine⟨d,rfl,⟨_,SqL.of ed'⟩,qK (K:=K) (a:=d) (xs:=(bt ss1 ss2).map V.str) (D:={ nx:=N,rt:=Q }) (fun j σ H'=>∃ (s3:Option V) (ps:List (Str×V)),σ=[some (.ref x),some (.ref y),some (.ref z),s3,none,none,none,none]∧Same H H'∧H' d=some (.lst ((bt ss1 ss2).map V.str))∧Lo a H' z td ed bl ps [] []∧ps.map (·.1)=(bt ss1 ss2).take j) ⟨_,[],rfl,SL1.trans S3,ed',hL1.sm S3,rfl⟩ (fun j σ H' _ ⟨_,_,_,_,h,_⟩=>SqL.of h) ?_ ?_⟩
     · rintro j v σ H2 hv ⟨s3,ps,rfl,S2,hd2,hL2,ep⟩
       obtain⟨pl,hpl,rfl⟩:∃ pl,(bt ss1 ss2)[j]?=some pl∧V.str pl=v:=by
         rw[List.getElem?_map]at hv;exact Option.map_eq_some_iff.mp hv
       have hj:j < (bt ss1 ss2).length:=(List.getElem?_eq_some_iff.mp hpl).1
       have lps:ps.length=j:=by
         have:=congrArg List.length ep
         rw[List.length_map,List.length_take]at this;omega
       have no:pl∉ps.map (·.1):=by rw[ep];exact qgd nd hpl
       have mb:=bt_mem.mp (List.mem_of_getElem? hpl);obtain⟨dz2,hz2⟩:=hL2.hx;refine⟨_,rfl,z,dz2,_,rfl,hz2,rfl,_,rfl,?_⟩;obtain⟨td4,ed4,bl4,zs4,lo4,_⟩:=id (h1.sm S2).lo;obtain⟨dx4,hx4⟩:=lo4.hx;refine⟨_,rfl,_,rfl,x,dx4,_,rfl,hx4,rfl,x,td4,ed4,bl4,_,_,zs4,rfl,lo4,(by rw[List.length_map];exact(h1.sm S2).fewt),fun l4 ss4 fl4 pm4 so4=>?_⟩;rw[zC]at pm4;generalize hG:upd H2 l4 _=G4;obtain⟨Sl4,el4⟩:=qi hG fl4;clear hG;refine⟨l4,_,rfl,.inl (SqL.of el4),rfl,zX _,_,rfl,?_⟩;show if (inV (V.str pl) (ss4.map V.str))=true then _ else _
       rw[Qx];have S4:=S2.trans Sl4
       have fin:∀ (v:V) (G:Hp) (Ex:XK),G=G4->zV (.str pl)=true->zZ a [.ref z,.str pl,v] G (fun _ H'=>∃ (s3:Option V) (ps:List (Str×V)),([some (.ref x),some (.ref y),some (.ref z),some (.str pl),none,none,none,none]:List (Option V))=[some (.ref x),some (.ref y),some (.ref z),s3,none,none,none,none]∧Same H H'∧H' d=some (.lst ((bt ss1 ss2).map V.str))∧Lo a H' z td ed bl ps [] []∧ps.map (·.1)=(bt ss1 ss2).take (j+1)) Ex:=fun v G Ex eg ok=>by
         subst eg;refine⟨z,td,ed,bl,ps,[],[],pl,v,rfl,hL2.sm Sl4,ok,no,by omega,fun H5 B5 hL5=>?_⟩;refine⟨_,_,rfl,qal S4 ftd B5,B5 _ _ (Sl4 _ _ hd2) (zi (Sl4 _ _ hd2) (hL2.sm Sl4).ht (by intro z;cases z)),hL5,?_⟩;rw[List.map_append,ep,List.take_add_one,hpl];rfl
       refine jr (fun g=>?_) (fun g=>?_)
       · obtain⟨t,mt,et⟩:=List.mem_map.mp (pm4.mem_iff.mp (by simpa using g));obtain⟨td5,ed5,bl5,zs5,lo5,_⟩:=id (h1.sm S4).lo;obtain⟨dx5,hx5⟩:=lo5.hx;refine⟨_,rfl,x,dx5,_,rfl,hx5,rfl,_,rfl,x,td5,ed5,bl5,_,_,zs5,(t.1,.ref t.2.1),by rw[et];rfl,lo5,qdN mt,?_⟩;exact fin _ _ E rfl (et▸(h1.tt t mt).2.2)
       · have n1:pl∉ss1:=fun m=>g (by simpa using pm4.mem_iff.mpr (pm1.mem_iff.mp m));obtain⟨t,mt,et⟩:=List.mem_map.mp (pm2.mem_iff.mp (mb.resolve_left n1));obtain⟨td5,ed5,bl5,zs5,lo5,_⟩:=id (h2.sm S4).lo;obtain⟨dx5,hx5⟩:=lo5.hx;refine⟨_,rfl,y,dx5,_,rfl,hx5,rfl,_,rfl,y,td5,ed5,bl5,_,_,zs5,(t.1,.ref t.2.1),by rw[et];rfl,lo5,qdN mt,?_⟩;exact fin _ _ E rfl (et▸(h2.tt t mt).2.2)
     · rintro σ H2 ⟨s3,ps,rfl,S2,hd2,hL2,ep⟩;rw[List.length_map,List.take_length]at ep;refine hN _ _ ⟨_,ps,rfl,S2,hL2,?_⟩;rw[← np,← ep,List.length_map]
   rintro _ H2 ⟨s3,ps,rfl,S2,hL2,lps⟩;clear hL1 SL1;refine qV (t:=qd5 _ _ _) (fun σ' H'=>∃ (s4:Option V) (ns:List (Str×V)),σ'=[some (.ref x),some (.ref y),some (.ref z),s3,s4,none,none,none]∧Same H H'∧Lo a H' z td ed bl ps ns []∧ns.map (·.1)=bt (es.map (·.nm)) (fs.map (·.nm))) (fun N hN=>?_) ?_
   · obtain⟨td6,ed6,bl6,zs6,lo6,_⟩:=id (h1.sm S2).lo;obtain⟨dx6,hx6⟩:=lo6.hx;refine⟨_,rfl,x,dx6,_,rfl,hx6,rfl,x,td6,ed6,bl6,_,_,zs6,rfl,lo6,fun l6 fl6=>?_⟩;rw[zj];generalize hG:upd H2 l6 _=G6;obtain⟨Sl6,el6⟩:=qi hG fl6;clear hG;obtain⟨td7,ed7,bl7,zs7,lo7,_⟩:=id (h2.sm (S2.trans Sl6)).lo;obtain⟨dx7,hx7⟩:=lo7.hx;refine⟨_,rfl,y,dx7,_,rfl,hx7,rfl,y,td7,ed7,bl7,_,_,zs7,rfl,lo7,fun l7 fl7=>?_⟩;rw[zj];generalize hG:upd G6 l7 _=G7;obtain⟨Sl7,el7⟩:=qi hG fl7;clear hG;refine⟨l6,l7,_,_,rfl,Sl7 _ _ el6,el7,(by rw[List.length_map];exact h1.fewe),(by rw[List.length_map];exact h2.fewe),fun d G3 fd Sd ed'=>?_⟩;have nd:(bt (es.map (·.nm)) (fs.map (·.nm))).Nodup:=qju h1.nde h2.nde;have S3:Same H2 G3:=(Sl6.trans Sl7).trans Sd;refine⟨d,rfl,⟨_,SqL.of ed'⟩,qK (K:=K) (a:=d) (xs:=(bt (es.map (·.nm)) (fs.map (·.nm))).map V.str) (D:={ nx:=N,rt:=Q }) (fun j σ H'=>∃ (s4:Option V) (ns:List (Str×V)),σ=[some (.ref x),some (.ref y),some (.ref z),s3,s4,none,none,none]∧Same H H'∧H' d=some (.lst ((bt (es.map (·.nm)) (fs.map (·.nm))).map V.str))∧Lo a H' z td ed bl ps ns []∧ns.map (·.1)=(bt (es.map (·.nm)) (fs.map (·.nm))).take j) ⟨_,[],rfl,S2.trans S3,ed',hL2.sm S3,rfl⟩ (fun j σ H' _ ⟨_,_,_,_,h,_⟩=>SqL.of h) ?_ ?_⟩
     · rintro j v σ H3 hv ⟨s4,ns,rfl,S3,hd3,hL3,ep⟩
       obtain⟨nm,hnm,rfl⟩:∃ nm,(bt (es.map (·.nm)) (fs.map (·.nm)))[j]?=some nm∧V.str nm=v:=by
         rw[List.getElem?_map]at hv;exact Option.map_eq_some_iff.mp hv
       have hj:j < (bt (es.map (·.nm)) (fs.map (·.nm))).length:=(List.getElem?_eq_some_iff.mp hnm).1
       have lns:ns.length=j:=by
         have:=congrArg List.length ep
         rw[List.length_map,List.length_take]at this;omega
       have no:nm∉ns.map (·.1):=by rw[ep];exact qgd nd hnm
       obtain⟨dz2,hz2⟩:=hL3.hx;refine⟨_,rfl,z,dz2,_,rfl,hz2,rfl,_,rfl,_,rfl,_,rfl,x,y,ts,us,es,fs,bs,cs,nm,rfl,h1.sm S3,h2.sm S3,List.mem_of_getElem? hnm,allk,fun e H4 S4 ee en=>?_⟩
       have lt:ns.length < 60:=by
         have:nen es fs≤60:=he60
         unfold nen at this;omega
       refine⟨z,td,ed,bl,ps,ns,[],e,rfl,hL3.sm S4,en,by rw[ee];exact no,lt,fun H5 B5 hL5=>?_⟩;refine⟨_,_,rfl,qal (S3.trans S4) fed B5,B5 _ _ (S4 _ _ hd3) (zi (S4 _ _ hd3) (hL3.sm S4).he (by intro z;cases z)),hL5,?_⟩;rw[List.map_append,ep,List.take_add_one,hnm,← ee];rfl
     · rintro σ H3 ⟨s4,ns,rfl,S3,hd3,hL3,ep⟩;rw[List.length_map,List.take_length]at ep;exact hN _ _ ⟨_,ns,rfl,S3,hL3,ep⟩
   rintro _ H3 ⟨s4,ns,rfl,S3,hL3,ep⟩
   have inns:∀ n:Str,n∈es.map (·.nm)∨n∈fs.map (·.nm)->∃ v:V,(n,v)∈ns:=fun n h=>by
     have h':=bt_mem.mpr h;rw[← ep]at h';obtain⟨p,mp,e⟩:=List.mem_map.mp h';exact⟨p.2,by rw[← e];exact mp⟩
   refine qV (t:=qd5 _ _ _) (fun σ' H'=>∃ (s5 s6 s7:Option V) (zs:List V),σ'=[some (.ref x),some (.ref y),some (.ref z),s3,s4,s5,s6,s7]∧Same H H'∧Lo a H' z td ed bl ps ns zs∧zs.length=bs.length+cs.length) (fun N hN=>?_) ?_
   · obtain⟨td9,ed9,bl9,zs9,lo9,tb9⟩:=id (h1.sm S3).lo;obtain⟨dx9,hx9⟩:=lo9.hx;refine⟨_,rfl,x,dx9,_,rfl,hx9,rfl,x,td9,ed9,bl9,_,_,zs9,rfl,lo9,fun l9 fl9=>?_⟩;generalize hG:upd H3 l9 _=G9;obtain⟨Sl9,el9⟩:=qi hG fl9;clear hG;obtain⟨tda,eda,bla,zsa,loa,tba⟩:=id (h2.sm (S3.trans Sl9)).lo;obtain⟨dxa,hxa⟩:=loa.hx;refine⟨_,rfl,y,dxa,_,rfl,hxa,rfl,y,tda,eda,bla,_,_,zsa,rfl,loa,fun la fla=>?_⟩;generalize hG:upd G9 la _=Ga;obtain⟨Sla,ela⟩:=qi hG fla;clear hG;have lz9:=tb9.1;have lza:=tba.1;refine .inr (.inl ⟨l9,la,_,_,rfl,rfl,Sla _ _ el9,ela,Nat.le_of_lt (qD (by omega)),fun d fd=>?_⟩);have Sd:=Same.new (.lst (zs9++zsa)) fd;have tz:TupL prB _ (zs9++zsa) (bs++cs):=qcj (((tb9.same Sl9).same Sla).same Sd) ((tba.same Sla).same Sd);have ed':(upd Ga d (.lst (zs9++zsa))) d=some (.lst (zs9++zsa)):=qc;have S4:Same H3 (upd Ga d (.lst (zs9++zsa))):=(Sl9.trans Sla).trans Sd;generalize upd Ga d (.lst (zs9++zsa))=H4 at tz ed' S4 ⊢;have hdbl:d≠bl:=(qj (Sla _ _ (Sl9 _ _ hL3.hb)) fd).symm;refine⟨d,rfl,⟨_,SqL.of ed'⟩,qK (K:=K) (a:=d) (xs:=zs9++zsa) (D:={ nx:=N,rt:=Q }) (fun j σ H'=>∃ (s5 s6 s7:Option V) (zs:List V),σ=[some (.ref x),some (.ref y),some (.ref z),s3,s4,s5,s6,s7]∧Same H H'∧But bl H4 H'∧Lo a H' z td ed bl ps ns zs∧zs.length=j) ⟨_,_,_,[],rfl,S3.trans S4,But.refl _ _,hL3.sm S4,rfl⟩ (fun j σ H' _ ⟨_,_,_,_,_,_,B,_⟩=>SqL.of (B _ _ ed' hdbl)) ?_ ?_⟩
     · rintro j v σ H5 hv ⟨s5,s6,s7,zs,rfl,S5,B5,hL5,lz⟩;have hj:j < (zs9++zsa).length:=(List.getElem?_eq_some_iff.mp hv).1;rw[List.length_append]at hj;obtain⟨b,u,hb,rfl,hu0⟩:=tz.of hv;have hu:=B5 _ _ hu0 (zi hu0 (S4 _ _ hL3.hb) (by intro z;cases z))
       obtain⟨c1,c2,c3,c4⟩:(∃ v:V,(b.1,v)∈ns)∧(∃ v:V,(b.2.1,v)∈ns)∧-2000000000≤b.2.2∧b.2.2≤2000000001:=by
         rcases List.mem_append.mp (List.mem_of_getElem? hb) with m|m
         · obtain⟨q1,q2,q3,q4⟩:=h1.bo b m;exact⟨inns _ (.inl q1),inns _ (.inl q2),q3,q4⟩
         · obtain⟨q1,q2,q3,q4⟩:=h2.bo b m;exact⟨inns _ (.inr q1),inns _ (.inr q2),q3,q4⟩
       obtain⟨v1,c1⟩:=c1;obtain⟨v2,c2⟩:=c2;obtain⟨dz2,hz2⟩:=hL5.hx;refine⟨u,_,rfl,SqT.of hu,rfl,_,_,rfl,_,_,rfl,_,_,rfl,rfl,?_⟩;refine⟨_,rfl,z,dz2,_,rfl,hz2,rfl,_,rfl,_,rfl,_,rfl,z,td,ed,bl,ps,ns,zs,(b.1,v1),(b.2.1,v2),b.2.2,rfl,hL5,c1,c2,c3,c4,by omega,fun t v H6 ft B6 et hL6=>?_⟩;exact⟨_,_,_,_,rfl,qal S5 fbl B6,fun c o e n=>B6 c o (B5 c o e n) n,hL6,by rw[List.length_append,lz];rfl⟩
     · rintro σ H5 ⟨s5,s6,s7,zs,rfl,S5,_,hL5,lz⟩;exact hN _ _ ⟨_,_,_,zs,rfl,S5,hL5,by rw[lz,List.length_append,lz9,lza]⟩
   rintro _ H4 ⟨s5,s6,s7,zs,rfl,S4,hL4,lz⟩;refine⟨_,rfl,kk z td ed bl ps ns zs H4 S4 hL4 (by omega) ?_⟩;rw[lz,lps,show ns.length=nen es fs by unfold nen;rw[← ep,List.length_map]]
end
inductive qaj (K:Frag) (vs:List V) (H:Hp) (Q:VK):Prop
 | mk (sa:Addr) (ns:List Int) (k:Int) (h1:vs=[.ref sa,.int k]) (h2:SqL K H sa (ns.map V.int)) (h3:0≤k) (h4:∀ (c:Int) (H':Hp),Same H H'->Q (.int c) H'):qaj K vs H Q
def qcS (K:Frag):Sp:=fun vs H Q _=>qaj K vs H Q
inductive qbi (vs:List V) (H:Hp) (Q:VK):Prop
 | mk (c:Int) (p:Addr) (sz:List Int) (h1:vs=[.int c,.ref p]) (h2:H p=some (.lst (sz.map V.int))) (h3:(∀ s∈sz,0 < s∧s < 1073741824)) (h4:sz.length≤100) (h5:∀ (q:Addr) (fs:List Int) (H':Hp),Same H H'->H' q=some (.lst (fs.map V.int))->fs.length=sz.length->(∀ (k:Nat) (f s:Int),fs[k]?=some f->sz[k]?=some s->0≤f∧f < s)->Q (.ref q) H'):qbi vs H Q
def qep:Sp:=fun vs H Q _=>qbi vs H Q
def PvR (c:Int) (p q:Addr) (sz:List Int) (H:Hp) (i:Nat) (σ:L2.St) (H2:Hp):Prop:=∃ (lf nu:Int) (s5 s6:Option V) (fs:List Int),σ=[some (.int c),some (.ref p),some (.ref q),some (.int lf),some (.int nu),s5,s6]∧Same H H2∧H2 q=some (.lst (fs.map V.int))∧fs.length=i∧(∀ (k:Nat) (f s:Int),fs[k]?=some f->sz[k]?=some s->0≤f∧f < s)∧0≤nu∧nu < 2147483647
theorem qc3 {fs sz:List Int}{i:Nat}{f s:Int} (hl:fs.length=i) (hs:sz[i]?=some s) (h:∀ (k:Nat) (f s:Int),fs[k]?=some f->sz[k]?=some s->0≤f∧f < s) (h1:0≤f∧f < s):∀ (k:Nat) (g s:Int),(fs++[f])[k]?=some g->sz[k]?=some s->0≤g∧g < s:=by
 intro k g s' hg hs';by_cases hk:k < fs.length
 · rw[List.getElem?_append_left hk]at hg;exact h k g s' hg hs'
 · rw[List.getElem?_append_right (by omega)]at hg
   have hk2:k=i:=by
     by_cases hz:k - fs.length=0
     · omega
     · rw[List.getElem?_eq_none (by simp;omega)]at hg;cases hg
   subst hk2;rw[hs]at hs';injection hs' with hs';subst hs';rw[hl,Nat.sub_self]at hg
   have:f=g:=by simpa using hg
   subst this;exact h1
def wd (k:Nat):Str:=⟨(List.replicate (1+k / 26) (97+k * 7 % 26)).toArray⟩
theorem qiq {i j:Nat} (h:wd i=wd j):i=j:=by
 unfold wd at h;injection h with h;have h:=congrArg Array.toList h;simp only[List.toList_toArray]at h;have l:=congrArg List.length h;rw[List.length_replicate,List.length_replicate]at l;have c:=congrArg (fun x:List Nat=>x.headD 0) h;simp only[show ∀ n,1+n=n+1 from fun n=>Nat.add_comm _ _,List.replicate_succ,List.headD_cons]at c;omega
theorem qip {k:Nat} (h:k < 130):zV (.str (wd k))=true:=by
 have e:(wd k).cps.toList=List.replicate (1+k / 26) (97+k * 7 % 26):=rfl
 revert k
 decide +kernel
theorem qjx:∀ n:Nat,n < 26->atI (Str.ofString "abcdefghijklmnopqrstuvwxyz").cps.toList (n:Int)=some (97+n):=by decide +kernel
inductive qad (vs:List V) (H:Hp) (Q:VK):Prop
 | mk (k:Nat) (h1:vs=[.int (k:Int)]) (h2:k < 130) (h3:Q (.str (wd k)) H):qad vs H Q
def qcQ:Sp:=fun vs H Q _=>qad vs H Q
inductive qag (vs:List V) (H:Hp) (Q:VK):Prop
 | mk (w n:Int) (l:Addr) (ns:List Int) (m:Int) (h1:vs=[.int w,.int n,.ref l]) (h2:H l=some (.lst (ns.map V.int))) (h3:0≤w) (h4:0≤n) (h5:n≤m) (h6:(∀ x∈ns,0≤x∧x≤m)) (h7:∀ r:Int,0≤r->r≤m->Q (.int r) H):qag vs H Q
def qaI:Sp:=fun vs H Q _=>qag vs H Q
inductive j8 (a:Ad) (vs:List V) (H:Hp) (Q:VK):Prop
 | mk (k:Nat) (l:Addr) (ns:List Int) (m:Nat) (h1:vs=[.int (k:Int),.ref l,.int (m:Int)]) (h2:k < 130) (h3:H l=some (.lst (ns.map V.int))) (h4:m≤8) (h5:∀ (e:Et) (H':Hp),Same H H'->e.nm=wd k->EnT a H' e->(∀ l ps,e.j=some (l,ps)->H l=none)->Q (.ref e.x) H'):j8 a vs H Q
def qbl (a:Ad):Sp:=fun vs H Q _=>j8 a vs H Q
theorem qfp (ns:List Int):(ns.map V.int).all J9=true:=by
 rw[List.all_map,List.all_eq_true];intro x _;rfl
section
variable {P:Program}{w:World}{K:Frag}{mg:Str->Option Value}{base:Heap}
theorem qgc {a:Ad} (T:Txt K mg a):qx P w K mg base CX0 1 a.f_Y a.fd_Y ["_law_script","_law_k"] (qcS K):=by
 refine T.d_Y.F.ok qf0 (fun vs H Q E h=>?_) (fun cdv A outer s H vs Q E hr h=>?_)
 · obtain⟨sa,ns,k,rfl,hS,k0,kk⟩:=h;rfl
 · obtain⟨sa,ns,k,rfl,hS,k0,kk⟩:=h;have hU:=hr.units
   refine⟨_,(qf (qN (qy (qf9 hU) (pv 0) (qL qb) (qI _))
       (qe (qu qd))
       qw)
     (qe (qu (qC (r:=rIx K) qq (pv 0) (qA Qp (pv 1) (ql qB (by rfl) T.n_len qv (qa (pv 0) qb))) (fun _ _=>rfl))))),?_⟩
   try dsimp only [qY,Cx.nox]
   refine⟨_,rfl,qk (Nat.le_of_ble_eq_true rfl),fun l0 fl0=>?_⟩;have S0:=Same.new (.lst []) fl0;have hS0:=S0.seq hS;refine⟨sa,l0,_,rfl,rfl,hS0,SqL.of qc,_,rfl,?_⟩
   cases ns with
   | nil=>exact qa5 (kk _ _ S0)
   | cons n0 nr =>
     refine qcx ?_;have pos:(0:Int) < (((n0::nr).map V.int).length:Int):=by rw[List.length_map];show (0:Int) < ((nr.length+1:Nat):Int);omega
     have h1:=Int.emod_nonneg k (show (((n0::nr).map V.int).length:Int)≠0 by omega);have h2:=Int.emod_lt_of_pos k pos;obtain⟨v,hv,mv⟩:=qia (xs:=(n0::nr).map V.int) (i:=k % (((n0::nr).map V.int).length:Int)) h1 h2
     obtain⟨n,rfl⟩:∃ n,v=.int n:=by
       obtain⟨n,_,e⟩:=List.mem_map.mp mv;exact⟨n,e.symm⟩
     exact⟨_,rfl,_,rfl,_,rfl,_,_,rfl,.inl ⟨_,hS0,rfl⟩,_,_,rfl,rfl,pos,.inl ⟨sa,_,_,_,rfl,rfl,hS0,hv,kk _ _ S0⟩⟩
theorem qhI {a:Ad} (T:Txt K mg a):qx P w K mg base CX0 1 a.f_Z a.fd_Z ["_law_cell_here","_law_sizes"] qep:=by
 refine T.d_Z.F.ok sc_Lrow (fun vs H Q E h=>?_) (fun cdv A outer s H vs Q E hr h=>?_)
 · obtain⟨c,p,sz,rfl,hp,hs,hl,k⟩:=h;rfl
 · obtain⟨c,p,sz,rfl,hp,hs,hl,k⟩:=h;have hU:=hr.units
   refine⟨_,(qf (qJ (i:=2) sc_Lrow.nd rfl (Or.inl rfl) (qL qb))
     (qf (qJ (i:=3) sc_Lrow.nd rfl (Or.inl rfl) (qA QJ (pv 0) (qA qi3 qd qd)))
     (qf (qJ (i:=4) sc_Lrow.nd rfl (Or.inl rfl) (qA Qp (pv 0) qd))
     (qf (q9 PassesOwn.never rfl (Qn rfl T.n_range (qa (ql qB (by rfl) T.n_len qv (qa (pv 1) qb)) qb)) (qt (i:=5) (sc_Lrow.nd) rfl (Or.inl rfl))
       (qe (qN (qy qf8 (pv 3) qd (qI _))
         (qf (qF (qcq PySem.F.plainAttrs_list PySem.F.slot_list_append PySem.F.type_list_append zG (pv 2) (qa (qA Qp (pv 3) (qC (r:=rIx K) qq (pv 1) (pv 5) (fun _ _=>rfl))) qb)))
         (qe (qJ (i:=3) sc_Lrow.nd rfl (Or.inl rfl) (qA qeP (pv 3) (qC (r:=rIx K) qq (pv 1) (pv 5) (fun _ _=>rfl))))))
         (qf (qJ (i:=4) sc_Lrow.nd rfl (Or.inl rfl) (qA Qp (qA z8 (qA z8 (qA Z7 (pv 4) qd) (qA Z7 qd (pv 5))) qd) qd))
         (qf (qJ (i:=6) sc_Lrow.nd rfl (Or.inl rfl) (qA Qp (qA z8 (qA z8 (qA Z7 (pv 4) (pv 4)) (qA Z7 qd (pv 5))) qd) qd))
         (qe (qF (qcq PySem.F.plainAttrs_list PySem.F.slot_list_append PySem.F.type_list_append zG (pv 2) (qa (qA Qp (pv 6) (qC (r:=rIx K) qq (pv 1) (pv 5) (fun _ _=>rfl))) qb)))))))))
     (qe (qu (pv 2))))))),?_⟩
   try dsimp only [qY,Cx.nox]
   refine⟨Nat.zero_le _,fun q fq=>?_⟩;have npq:p≠q:=qj hp fq;have S0:Same H (upd H q (.lst [])):=Same.new _ fq;have hq:(upd H q (.lst [])) q=some (.lst []):=qc;(try dsimp only);generalize upd H q (.lst [])=G0 at S0 hq ⊢;refine⟨_,rfl,_,_,rfl,rfl,⟨by decide,by decide,by decide⟩,_,_,rfl,rfl,?_⟩;refine⟨_,rfl,_,_,rfl,rfl,(by show (0:Int) < 2147483647;decide),?_⟩;refine⟨_,rfl,_,_,rfl,.inl ⟨_,SqL.of (S0 _ _ hp),rfl⟩,_,rfl,?_,?_,?_⟩
   · omega
   · rw[List.length_map];omega
   rw[List.length_map];refine jb (D:={ nx:=qjD (qie 2) { nx:=fun _ H'=>Q .non H',rt:=Q },rt:=Q }) (lo:=0) (PvR c p q sz H) ⟨_,_,_,_,[],rfl,S0,hq,rfl,(fun k f s h=>by simp at h),by omega,by omega⟩ ?_ ?_
   case refine_2 =>
     rintro σ H2 ⟨lf,nu,s5,s6,fs,rfl,S,hf,hlen,hb,_⟩;refine⟨_,rfl,k q fs _ S hf (by omega) hb⟩
   rintro i σ H2 hi ⟨lf,nu,s5,s6,fs,rfl,S,hf,hlen,hb,n0,n1⟩;have hi:i < sz.length:=by omega
   obtain⟨s,hsi⟩:∃ s,sz[i]?=some s:=⟨_,List.getElem?_eq_getElem hi⟩
   have hss:=hs s (List.mem_of_getElem? hsi)
   have hat:atI (sz.map V.int) (0+(i:Int))=some (.int s):=by
     rw[Int.zero_add];exact Qc (by rw[List.getElem?_map,hsi];rfl)
   have hp2:=S _ _ hp;have hfl:(fs.map V.int).length < sizeLine:=qD (by rw[List.length_map];omega);(try unfold qM);(try dsimp only);refine⟨_,rfl,_,_,rfl,rfl,_,rfl,?_⟩;refine jr (fun h=>?_) (fun h=>?_)
   · refine⟨_,rfl,.inl ⟨rfl,_,SqL.of hf⟩,_,rfl,_,rfl,_,rfl,.inl ⟨p,_,_,_,rfl,rfl,SqL.of hp2,hat,_,_,rfl,rfl,hss.1,?_⟩⟩;refine⟨q,_,_,rfl,rfl,hf,hfl,?_⟩;refine⟨_,rfl,_,rfl,_,rfl,.inl ⟨p,_,_,_,rfl,rfl,SqL.of (by rw[qg npq];exact hp2),hat,_,_,rfl,rfl,hss,?_⟩⟩;exact⟨_,nu,_,_,fs++[lf % s],rfl,(fun b o z=>by rw[qg (qj z fq)];exact S b o z),by rw[qc,List.map_append];rfl,by rw[List.length_append,hlen];rfl,qc3 hlen hsi hb ⟨Int.emod_nonneg _ (by omega),Int.emod_lt_of_pos _ hss.1⟩,n0,n1⟩
   · refine⟨_,rfl,_,_,rfl,rfl,.inr ⟨by decide,by decide⟩,_,rfl,_,_,rfl,rfl,.inl ⟨by decide,by decide⟩,.inl ⟨_,_,rfl,rfl,.inl ⟨_,_,rfl,rfl,_,_,rfl,rfl,(by show (0:Int) < 2147483647;decide),?_⟩⟩⟩;have m0:0≤(nu * 48271+7919 * (0+(i:Int))+12345) % 2147483647∧(nu * 48271+7919 * (0+(i:Int))+12345) % 2147483647 < 2147483647:=by omega
     try dsimp only
     generalize (nu * 48271+7919 * (0+(i:Int))+12345) % 2147483647=nn at m0 ⊢;refine⟨_,rfl,_,rfl,_,_,rfl,rfl,.inl ⟨by omega,by omega⟩,_,rfl,_,_,rfl,rfl,.inl ⟨by decide,by decide⟩,.inl ⟨_,_,rfl,rfl,.inl ⟨_,_,rfl,rfl,_,_,rfl,rfl,(by show (0:Int) < 2147483629;decide),?_⟩⟩⟩;(try dsimp only);generalize (nn * nn+69621 * (0+(i:Int))+271) % 2147483629=ot;refine⟨_,rfl,.inl ⟨rfl,_,SqL.of hf⟩,_,rfl,_,rfl,_,rfl,.inl ⟨p,_,_,_,rfl,rfl,SqL.of hp2,hat,_,_,rfl,rfl,hss.1,?_⟩⟩;refine⟨q,_,_,rfl,rfl,hf,hfl,?_⟩;exact⟨lf,nn,_,_,fs++[ot % s],rfl,(fun b o z=>by rw[qg (qj z fq)];exact S b o z),by rw[qc,List.map_append];rfl,by rw[List.length_append,hlen];rfl,qc3 hlen hsi hb ⟨Int.emod_nonneg _ (by omega),Int.emod_lt_of_pos _ hss.1⟩,m0.1,m0.2⟩
theorem qdj {a:Ad} (T:Txt K mg a):qx P w K mg base CX0 1 a.f_d a.fd_d ["_law_which","_law_number","_law_some"] qaI:=by
 refine T.d_d.F.ok qfZ (fun vs H Q E h=>?_) (fun cdv A outer s H vs Q E hr h=>?_)
 · obtain⟨w,n,l,ns,m,rfl,hl,w0,n0,n1,hm,kk⟩:=h;rfl
 · obtain⟨w,n,l,ns,m,rfl,hl,w0,n0,n1,hm,kk⟩:=h;have hU:=hr.units
   refine⟨_,(qf (qN (qy qjZ (pv 0) (ql qB (by rfl) T.n_len qv (qa (pv 2) qb)) (qI _))
       (qe (qu (qC (r:=rIx K) qq (pv 2) (pv 0) (fun _ _=>rfl))))
       qw)
     (qe (qu (pv 1)))),?_⟩
   try dsimp only [qY,Cx.nox]
   refine⟨_,rfl,_,rfl,_,_,rfl,.inl ⟨_,SqL.of hl,rfl⟩,_,_,rfl,rfl,_,rfl,?_⟩;rw[List.length_map];refine jr (fun h=>?_) (fun _=>?_)
   · obtain⟨i,rfl⟩:=Int.eq_ofNat_of_zero_le w0;have hi:i < ns.length:=by omega
     have mi:=hm ns[i] (List.getElem_mem _);exact⟨_,rfl,_,rfl,.inl ⟨l,_,_,.int ns[i],rfl,rfl,SqL.of hl,Qc (by rw[List.getElem?_map,List.getElem?_eq_getElem hi];rfl),kk _ mi.1 mi.2⟩⟩
   · exact⟨_,rfl,kk _ n0 n1⟩
theorem qga {a:Ad} (T:Txt K mg a):qx P w K mg base CX0 1 a.f_0 a.fd_0 ["_law_k"] qcQ:=by
 refine T.d_0.F.ok qfY (fun vs H Q E h=>?_) (fun cdv A outer s H vs Q E hr h=>?_)
 · obtain⟨k,rfl,hk,kk⟩:=h;rfl
 · obtain⟨k,rfl,hk,kk⟩:=h;refine⟨_,(qe (qu (qA (r:=qiP) qhF (qC (r:=rIx K) qq zg (qA Qp (qA Z7 (pv 0) qd) qd) (fun _ _=>rfl)) (qA z8 qd (qA qeP (pv 0) qd))))),?_⟩;(try dsimp only [qY,Cx.nox]);have c0:((k:Int) * 7) % 26=((k * 7 % 26:Nat):Int):=by omega
   have hat:=qjx (k * 7 % 26) (Nat.mod_lt _ (by decide));refine⟨_,rfl,_,_,rfl,rfl,.inr ⟨by decide,by decide⟩,_,_,rfl,rfl,(by show (0:Int) < 26;decide),.inr (.inr ⟨_,_,_,rfl,rfl,qk (by decide +kernel),(by rw[c0];exact hat),?_⟩)⟩;refine⟨_,rfl,_,_,rfl,rfl,⟨by decide,by decide⟩,.inl ⟨_,_,rfl,rfl,97+k * 7 % 26,_,rfl,rfl,by omega,by omega,?_⟩⟩;rw[show ((1:Int)+(k:Int) / 26).toNat=1+k / 26 by omega];exact kk
theorem qeW {a:Ad} (T:Txt K mg a):qx P w K mg base CX0 9 a.f_E a.fd_E ["_law_k","_law_places_here","_law_many"] (qbl a):=by
 have G_0:=qga (P:=P) (w:=w) (base:=base) T;have G_5:=qdM (P:=P) (w:=w) (base:=base) T;have G_x:=Z8 (P:=P) (w:=w) (base:=base) T;have G_s:=ZF (P:=P) (w:=w) (base:=base) T;refine T.d_E.F.ok sc_Lentry (fun vs H Q E h=>?_) (fun cdv A outer s H vs Q E hr h=>?_)
 · obtain⟨k,l,ns,m,rfl,hk,hl,hm,kk⟩:=h;rfl
 · obtain⟨k,l,ns,m,rfl,hk,hl,hm,kk⟩:=h;have h_0:Room (1) _:=hr.mono (by decide);have h_5:Room (7+1) _:=hr.mono (by decide);have h_x:Room (5+1) _:=hr.mono (by decide);have h_s:Room (5+1) _:=hr.mono (by decide)
   refine⟨_,(qf (qJ (i:=3) sc_Lentry.nd rfl (Or.inl rfl) (qm G_0 h_0 rfl T.d_0.m T.d_0.k T.d_0.b .nil qp (qa (pv 0) qb)))
     (qf (qN (PW.pt (qc9 (qy qaY (pv 2) qd (qI _)) (qaU (qy (r:=rIn K false) Jr (qA Qp (pv 0) qd) (pv 1) (by with_unfolding_all rfl)))))
       (qe (qu (Jq T.M_Joint G_x h_x rfl T.g_Joint T.d_x.b .nil qp (qa (pv 3) (qa (zA rfl (CompOk.def ["_law_j"] [none]) (Qn rfl T.n_range (qa (pv 2) qb)) (fun _ _ _ _ _=>(qt (i:=0) (show List.Nodup (["_law_j"]:List Str) by decide +kernel) rfl (Or.inl rfl))) (fun _ _ _ _ _=>zU) (fun _ _ _ _ _=>(Jq T.M_Within G_s h_s rfl T.g_Within T.d_s.b .nil qp (qa zg (qa qd (qa (qA z8 qd (pv 0)) qb)))))) qb)))))
       qw)
     (qe (qu (Jq T.M_At G_5 h_5 rfl T.g_At T.d_5.b .nil qp (qa (pv 3) (qa (pv 0) qb))))))),?_⟩
   try dsimp only [qY,Cx.nox]
   have ok:=qip hk;refine⟨_,rfl,k,rfl,hk,?_⟩;(try unfold qM);(try dsimp only);refine⟨_,rfl,_,_,rfl,rfl,_,rfl,?_⟩;refine jr (fun h=>?_) (fun _=>qcx ?_)
   case refine_2=>exact⟨_,rfl,_,rfl,fun x dx f1 f2 ne=>⟨x,dx,wd k,k,rfl,qc,ok,⟨by omega,by omega⟩,fun H1 B1 h1=>⟨rfl,kk ⟨wd k,x,none⟩ H1 (zH f1 f2 B1) rfl (.at_ h1) (fun _ _ z=>nomatch z)⟩⟩⟩
   refine⟨_,rfl,_,_,rfl,rfl,(by show (0:Int) < 30;decide),_,rfl,l,_,rfl,.inl (SqL.of hl),rfl,qfp _,_,rfl,?_⟩;generalize inV _ _=b
   cases b with
   | false=>exact qcx ⟨_,rfl,_,rfl,fun x dx f1 f2 ne=>⟨x,dx,wd k,k,rfl,qc,ok,⟨by omega,by omega⟩,fun H1 B1 h1=>⟨rfl,kk ⟨wd k,x,none⟩ H1 (zH f1 f2 B1) rfl (.at_ h1) (fun _ _ z=>nomatch z)⟩⟩⟩
   | true =>
     refine qa5 ⟨_,rfl,_,rfl,_,rfl,(by omega),(by omega),fun D fD=>?_⟩;have em:((m:Int) - 0).toNat=m:=by omega
     refine jv (lo:=0) (n:=m) (D:=D) (fun i σ H2=>∃ (c0:Option V) (ps:List Addr),σ=[c0]∧Same H H2∧H2 D=some (.lst (ps.map V.ref))∧ps.length=i∧∀ p∈ps,∃ n,Wt a H2 p n) ⟨none,[],rfl,Same.new _ fD,qc,rfl,fun _ m=>nomatch m⟩ ?_ ?_
     · rintro i σ H2 hi ⟨c0,ps,rfl,S2,hD,lp,w⟩;refine⟨_,rfl,.inl ⟨_,_,rfl,rfl,fun x dx f1 f2 ne=>⟨x,_,dx,"part",0,_,rfl,qc,(by decide +kernel),⟨by omega,by omega⟩,⟨by omega,by omega⟩,.inl rfl,fun H3 B3 h3=>⟨rfl,?_⟩⟩⟩⟩;have S3:=zH f1 f2 B3;refine⟨_,S3 _ _ hD,qD (by rw[List.length_map];omega),_,ps++[x],rfl,(S2.trans S3).put fD _,by rw[qc,List.map_append];rfl,by rw[List.length_append,lp];rfl,fun p m=>?_⟩
       have wl:∀ p n,Wt a H3 p n->Wt a (upd H3 D (.lst (ps.map V.ref++[.ref x]))) p n:=fun p n w=>by
         cases w with
         | within e=>exact .within (by rw[qg (zi e (S3 _ _ hD) (by intro z;cases z))];exact e)
         | at_ e=>exact .at_ (by rw[qg (zi e (S3 _ _ hD) (by intro z;cases z))];exact e)
       rcases List.mem_append.mp m with m|m
       · obtain⟨n,z⟩:=w p m;exact⟨n,wl p n (z.same S3)⟩
       · rw[List.mem_singleton.mp m];exact⟨_,wl x _ (.within h3)⟩
     · rintro σ H2 ⟨c0,ps,rfl,S2,hD,lp,w⟩;refine fun xj dj f1 f2 ne=>?_;have Sm:=qhQ (C:=a.c_Joint) f1 f2;refine⟨xj,dj,D,wd k,ps,rfl,qc,ok,Sm _ _ hD,by omega,by omega,fun p m=>let ⟨n,z⟩:=w p m;⟨n,z.same Sm⟩,fun l' H4 fl B4 h4 hl'=>⟨rfl,?_⟩⟩;have S4:=zH f1 f2 B4;exact kk ⟨wd k,xj,some (l',ps)⟩ H4 (S2.trans S4) rfl (.jn h4 hl' (by omega) (by omega) fun p m=>let ⟨n,z⟩:=w p m;⟨n,z.same S4⟩) (fun _ _ z=>by cases z;exact S2.none (z6 (z6 fl)))
end
abbrev tR (t:Tt):Str×List (Int×Int):=(t.1,t.2.2)
abbrev prT (t:Tt):List V:=[.str t.1,.ref t.2.1]
structure Lt (H:Hp) (d:Addr) (ts:List Tt):Prop where
 hd:∃ zs,H d=some (.lst zs)∧TupL prT H zs ts
 rs:∀ t∈ts,Rs H t.2.1 t.2.2∧Good t.2.2∧zV (.str t.1)=true
 nd:(ts.map (·.1)).Nodup
 few:ts.length≤6
theorem Lt.sm {H H':Hp}{d:Addr}{ts:List Tt} (h:Lt H d ts) (s:Same H H'):Lt H' d ts :=
 ⟨let ⟨zs,e,t⟩:=h.hd;⟨zs,s _ _ e,t.same s⟩,fun t m=>⟨(h.rs t m).1.same s,(h.rs t m).2⟩,h.nd,h.few⟩
structure Le (a:Ad) (H:Hp) (d:Addr) (es:List Et):Prop where
 hd:H d=some (.lst (es.map fun e=>V.ref e.x))
 en:∀ e∈es,EnT a H e∧zV (.str e.nm)=true
 nd:(es.map (·.nm)).Nodup
 few:es.length≤60
theorem Le.sm {a:Ad}{H H':Hp}{d:Addr}{es:List Et} (h:Le a H d es) (s:Same H H'):Le a H' d es :=
 ⟨s _ _ h.hd,fun e m=>⟨(h.en e m).1.same s,(h.en e m).2⟩,h.nd,h.few⟩
theorem qcv {ts us:List Tt} (e:ts.map tR=us.map tR):ts.map (·.1)=us.map (·.1):=by
 have:=congrArg (List.map Prod.fst) e
 rw[List.map_map,List.map_map]at this;exact this
theorem qax {ts us:List Tt} (e:ts.map tR=us.map tR) {t:Tt} (m:t∈us):∃ s∈ts,s.1=t.1∧s.2.2=t.2.2:=by
 have m':tR t∈ts.map tR:=by rw[e];exact List.mem_map_of_mem m
 obtain⟨s,ms,es⟩:=List.mem_map.mp m';injection es with e1 e2;exact⟨s,ms,e1,e2⟩
theorem NoUn.tr {ts us ts' us':List Tt} (h:NoUn ts us) (e1:ts.map tR=ts'.map tR) (e2:us.map tR=us'.map tR):NoUn ts' us':=fun t m u n q=>by
 obtain⟨t0,m0,a0,b0⟩:=qax e1 m;obtain⟨u0,n0,c0,d0⟩:=qax e2 n
 have:=h t0 m0 u0 n0 (by rw[a0,c0,q])
 rwa [b0,d0]at this
theorem IsUn.tr {ts us ts' us':List Tt}{p:Str}{k:Int} (h:IsUn ts us p k) (e1:ts.map tR=ts'.map tR) (e2:us.map tR=us'.map tR):IsUn ts' us' p k:=by
 obtain⟨⟨t,m,u,n,q1,q2,q3⟩,q4⟩:=h;refine⟨?_,fun t m u n q l=>?_⟩
 · obtain⟨t0,m0,a0,b0⟩:=qax e1.symm m;obtain⟨u0,n0,c0,d0⟩:=qax e2.symm n;exact⟨t0,m0,u0,n0,by rw[a0,q1],by rw[c0,q2],by rw[b0,d0];exact q3⟩
 · obtain⟨t0,m0,a0,b0⟩:=qax e1 m;obtain⟨u0,n0,c0,d0⟩:=qax e2 n
   have:=q4 t0 m0 u0 n0 (by rw[a0,c0,q]) (by rw[a0];exact l)
   rwa [b0,d0]at this
theorem Out.tr {ts us ts' us':List Tt}{es fs:List Et}{b:Nat}{o:Oc} (h:Out ts us es fs b o) (e1:ts.map tR=ts'.map tR) (e2:us.map tR=us'.map tR):Out ts' us' es fs b o:=by
 have n:npl ts us=npl ts' us':=by unfold npl;rw[qcv e1,qcv e2]
 cases h with
 | pl h=>rw[n]at h ⊢;exact .pl h
 | un h u=>exact .un (n▸h) (u.tr e1 e2)
 | pt h u e l f q k=>exact .pt (n▸h) (u.tr e1 e2) e l f q k
 | en h u l k=>exact .en (n▸h) (u.tr e1 e2) l k
 | bo h u l k b=>exact .bo (n▸h) (u.tr e1 e2) l k b
 | ok h u l k b=>rw[n]at h ⊢;exact .ok h (u.tr e1 e2) l k b
inductive QE (a:Ad) (vs:List V) (H:Hp) (Q:VK):Prop
 | mk (e:Et) (h1:vs=[.ref e.x]) (h2:EnT a H e) (h3:∀ H',Same H H'->Q (.int (e.k:Nat)) H'):QE a vs H Q
def Zw (a:Ad):Sp:=fun vs H Q _=>QE a vs H Q
inductive jC (vs:List V) (H:Hp) (Q:VK):Prop
 | mk (x y:Addr) (ts us:List Tt) (h1:vs=[.ref x,.ref y]) (h2:Lt H x ts) (h3:Lt H y us) (h4:∀ H',Same H H'->Q (.int (npl ts us:Nat)) H'):jC vs H Q
def qah:Sp:=fun vs H Q _=>jC vs H Q
inductive j6 (vs:List V) (H:Hp) (Q:VK):Prop
 | mk (q:Addr) (t n:Int) (rows:List (Int×Int)) (h1:vs=[.ref q,.int t]) (h2:Rs H q rows) (h3:rows.length≤21) (h4:na rows t=some n) (h5:∀ H',Same H H'->Q (.int n) H'):j6 vs H Q
def qbh:Sp:=fun vs H Q _=>j6 vs H Q
inductive qbk (a:Ad) (vs:List V) (H:Hp) (Q:VK):Prop
 | mk (t e:Addr) (ts:List Tt) (es:List Et) (b:Nat) (h1:vs=[.ref t,.ref e,.int (b:Nat)]) (h2:Lt H t ts) (h3:Le a H e es) (h4:b≤100) (h5:∀ (x:Addr) (us:List Tt) (bs:List (Str×Str×Int)) (H':Hp),Same H H'->Lc a H' x us es bs->ts.map tR=us.map tR->bs.length=(if es=[] then 0 else b)->Q (.ref x) H'):qbk a vs H Q
def qeq (a:Ad):Sp:=fun vs H Q _=>qbk a vs H Q
theorem qa9:∀ (us acc:List Str),us.Nodup->us.foldl SetO.stepS acc=acc++us.filter fun u=>decide (u∉acc)
 | [],acc,_=>by simp
 | u::us,acc,nd=>by
   have hn:=List.nodup_cons.mp nd;rw[List.foldl_cons];unfold SetO.stepS;by_cases c:u∈acc
   · rw[if_pos c,← show SetO.stepS=fun acc x=>if x∈acc then acc else acc++[x] from rfl,qa9 us acc hn.2,List.filter_cons_of_neg (by simpa using c)]
   · rw[if_neg c,← show SetO.stepS=fun acc x=>if x∈acc then acc else acc++[x] from rfl,qa9 us _ hn.2,List.filter_cons_of_pos (by simpa using c),List.append_assoc];congr 1;show u::_=_;congr 1;refine List.filter_congr fun v m=>?_;rw[decide_eq_decide,List.mem_append,List.mem_singleton];constructor
     · exact fun h z=>h (.inl z)
     · rintro h (z|z)
       · exact h z
       · exact hn.1 (z▸m)
theorem qjc {ss us:List Str} (h1:ss.Nodup) (h2:us.Nodup):SetO.metS (ss++us) (ss++us).length=bt ss us:=by
 unfold SetO.metS;rw[ZE,List.foldl_append,qa9 ss [] h1,qa9 us _ h2];simp[bt]
section
variable {P:Program}{w:World}{K:Frag}{mg:Str->Option Value}{base:Heap}
theorem J6 {a:Ad} (T:Txt K mg a):qx P w K mg base CX0 2 a.f_h a.fd_h ["_law_entry_here"] (Zw a):=by
 have G_t:=ZG (P:=P) (w:=w) (base:=base) T;refine T.d_h.F.ok JX (fun vs H Q E h=>?_) (fun cdv A outer s H vs Q E hr h=>?_)
 · obtain⟨e,rfl,en,kk⟩:=h;rfl
 · obtain⟨e,rfl,en,kk⟩:=h;have h_t:Room (1) _:=hr.mono (by decide)
   refine⟨_,(qf (qN (zd (ql (r:=qii K) je (by rfl) T.n_isinstance qr (qa (pv 0) (qa (qQ (v:=.ref a.c_Joint) rfl T.g_Joint rfl) qb))))
       (qe (qu (ql qB (by rfl) T.n_len qv (qa (qz (pv 0) T.cl_Joint T.d_t.mt G_t h_t T.d_t.b .nil qp) qb))))
       qw)
     (qe (qu qd))),?_⟩
   try dsimp only [qY,Cx.nox]
   obtain⟨C,de,fe,he,ty,_,hj,_⟩:=Qy T en;refine⟨_,rfl,_,_,_,_,rfl,ty,hj,_,rfl,?_⟩
   cases en with
   | @at_ d0 x0 nm0 m0 h0=>exact qcx (kk _ (Same.refl _))
   | @jn d0 x0 l0 nm0 qs h0 hl0 q0 q8 w0 =>
     refine qa5 ⟨_,rfl,x0,d0,_,rfl,h0,rfl,x0,d0,l0,nm0,qs,rfl,h0,hl0,fun d fd=>?_⟩;refine⟨_,_,rfl,.inl ⟨_,SqL.of qc,rfl⟩,?_⟩;rw[List.length_map];exact kk _ (Same.new _ fd)
theorem qdL {a:Ad} (T:Txt K mg a):qx P w K mg base CX0 1 a.f_l a.fd_l ["_law_one","_law_other"] qah:=by
 refine T.d_l.F.ok qdB (fun vs H Q E h=>?_) (fun cdv A outer s H vs Q E hr h=>?_)
 · obtain⟨x,y,ts,us,rfl,h1,h2,kk⟩:=h;rfl
 · obtain⟨x,y,ts,us,rfl,h1,h2,kk⟩:=h;refine⟨_,(qe (qu (qdF rfl rfl T.n_len rfl T.n_set (qa (zA rfl (CompOk.def ["_law_place","_law_rows"] [none,none]) (qH (qA z8 (pv 0) (pv 1))) (fun _ _ _ _ _=>(show PG _ _ (qjn K 2 _) from (Qo rfl (qE (qt (i:=0) (show List.Nodup (["_law_place","_law_rows"]:List Str) by decide +kernel) rfl (Or.inl rfl)) (qE (qt (i:=1) (show List.Nodup (["_law_place","_law_rows"]:List Str) by decide +kernel) rfl (Or.inl rfl)) zw))))) (fun _ _ _ _ _=>zU) (fun _ _ _ _ _=>(pv 0))) qb)))),?_⟩;(try dsimp only [qY,Cx.nox]);obtain⟨zs,hx,tz⟩:=h1.hd;obtain⟨ws,hy,tw⟩:=h2.hd;have f1:=h1.few;have f2:=h2.few;have l1:=tz.1;have l2:=tw.1;refine⟨_,rfl,_,rfl,.inr (.inl ⟨x,y,_,_,rfl,rfl,hx,hy,qk (by omega),fun d fd=>?_⟩)⟩;generalize hG:upd H d _=G;obtain⟨SG,eG⟩:=qi hG fd;clear hG;have tt:TupL prT G (zs++ws) (ts++us):=qcj (tz.same SG) (tw.same SG);refine⟨d,rfl,⟨_,SqL.of eG⟩,fun D fD=>?_⟩;refine qW (K:=K) (a:=d) (xs:=zs++ws) (D:=D) (fun i σ H2=>∃ (s0 s1:Option V),σ=[s0,s1]∧Same G H2∧H2 D=some (.lst (((ts++us).map (·.1)).take i |>.map V.str))) ⟨none,none,rfl,Same.new _ fD,qc⟩ (fun i σ H2 _ ⟨_,_,_,S,_⟩=>SqL.of (S _ _ eG)) ?_ ?_
   · rintro i z σ H2 hz ⟨s0,s1,rfl,S2,hD⟩;obtain⟨t,u,ht,rfl,hu'⟩:=tt.of hz;have hi:=(List.getElem?_eq_some_iff.mp ht).1;rw[List.length_append]at hi;refine⟨u,_,rfl,SqT.of (S2 _ _ hu'),rfl,_,_,rfl,_,_,rfl,rfl,?_⟩;refine⟨_,rfl,_,hD,qD (by rw[List.length_map,List.length_take];omega),_,_,rfl,S2.put fD _,?_⟩;rw[qc,List.take_add_one,List.getElem?_map,ht];exact(congrArg (fun l=>some (HO.lst l)) (List.map_append (f:=V.str) (l₁:=((ts++us).map (·.1)).take i) (l₂:=[t.1]))).symm
   rintro σ H2 ⟨s0,s1,rfl,S2,hD⟩;rw[show (zs++ws).length=((ts++us).map (·.1)).length by rw[List.length_map,tt.1],List.take_length]at hD;refine⟨D,_,rfl,SqL.of hD,by rw[List.length_map,List.length_append];omega,?_⟩;rw[List.map_append,qjc h1.nd h2.nd];exact kk _ (SG.trans S2)
theorem qhJ {a:Ad} (T:Txt K mg a):qx P w K mg base CX0 8 a.f_F a.fd_F ["_law_tables_here","_law_entries","_law_bonds"] (qeq a):=by
 have G_y:=Jx (P:=P) (w:=w) (base:=base) T;have G_u:=jT (P:=P) (w:=w) (base:=base) T;have G_v:=qaw (P:=P) (w:=w) (base:=base) T;have G_w:=Jy (P:=P) (w:=w) (base:=base) T;have G_7:=qa4 (P:=P) (w:=w) (base:=base) T;refine T.d_F.F.ok sc_Llog (fun vs H Q E h=>?_) (fun cdv A outer s H vs Q E hr h=>?_)
 · obtain⟨t,e,ts,es,b,rfl,h1,h2,hb,kk⟩:=h;rfl
 · obtain⟨t,e,ts,es,b,rfl,h1,h2,hb,kk⟩:=h;have hU:=hr.units;have h_y:Room (1+1) _:=hr.mono (by decide);have h_u:Room (2) _:=hr.mono (by decide);have h_v:Room (3) _:=hr.mono (by decide);have h_w:Room (4) _:=hr.mono (by decide);have h_7:Room (6+1) _:=hr.mono (by decide)
   refine⟨_,(qf (qJ (i:=3) sc_Llog.nd rfl (Or.inl rfl) (qde T.M_Log G_y h_y rfl T.g_Log T.d_y.b .nil qp))
     (qf (q9 PassesOwn.never rfl (qH (pv 0)) (Qo rfl (qE (qt (i:=4) (sc_Llog.nd) rfl (Or.inl rfl)) (qE (qt (i:=5) (sc_Llog.nd) rfl (Or.inl rfl)) zw)))
       (qe (qF (zf (pv 3) T.cl_Log T.d_u.mt G_u h_u T.d_u.b .nil qp (qa (pv 4) (qa (Jq T.M_Table G_7 h_7 rfl T.g_Table T.d_7.b .nil qp (qa (zh (r:=qih K) zn (by rfl) T.n_list zc (qa (pv 5) qb)) qb)) qb))))))
     (qf (q9 PassesOwn.never rfl (qH (pv 1)) (qt (i:=6) (sc_Llog.nd) rfl (Or.inl rfl))
       (qe (qF (zf (pv 3) T.cl_Log T.d_v.mt G_v h_v T.d_v.b .nil qp (qa (pv 6) qb)))))
     (qf (q9 PassesOwn.never rfl (Qn rfl T.n_range (qa (qA Z7 (pv 2) (zh JP (by rfl) T.n_int jf (qa (Q9 (qaX hU) (pv 1) (qL qb) (qI _)) qb))) qb)) (qt (i:=7) (sc_Llog.nd) rfl (Or.inl rfl))
       (qe (qF (zf (pv 3) T.cl_Log T.d_w.mt G_w h_w T.d_w.b .nil qp (qa (qT (qC (r:=rIx K) qq (pv 1) (qA Qp (pv 7) (ql qB (by rfl) T.n_len qv (qa (pv 1) qb))) (fun _ _=>rfl)) rfl) (qa (qT (qC (r:=rIx K) qq (pv 1) qd (fun _ _=>rfl)) rfl) (qa (qA QJ qd (pv 7)) qb)))))))
     (qe (qu (pv 3))))))),?_⟩
   try dsimp only [qY,Cx.nox]
   refine fun x dx f1 f2 ne1=>⟨x,dx,rfl,qc,fun td ed bl L1 BL1 g1 g2 g3 hL1=>⟨rfl,?_⟩⟩
   have SL1:Same H L1:=zH f1 f2 BL1;have ftd:=z6 (z6 g1);have fed:=z6 (z6 g2);have fbl:=z6 (z6 g3);clear g1 g2 g3 BL1 f1 f2 ne1;obtain⟨zt,ht,tt⟩:=h1.hd;have fewt:=h1.few;have fewe:=h2.few;(try unfold qM);(try dsimp only);refine qV (t:=qd5 _ _ _) (fun σ' H'=>∃ (s4 s5:Option V) (us:List Tt),σ'=[some (.ref t),some (.ref e),some (.int (b:Nat)),some (.ref x),s4,s5,none,none]∧Same H H'∧Lo a H' x td ed bl (tkv us) [] []∧ts.map tR=us.map tR∧∀ u∈us,Tb a H' u.2.1 u.2.2∧Good u.2.2∧zV (.str u.1)=true) (fun N hN=>?_) ?_
   · refine⟨_,rfl,t,rfl,⟨_,SqL.of (SL1 _ _ ht)⟩,qK (K:=K) (a:=t) (xs:=zt) (D:={ nx:=N,rt:=Q }) (fun j σ H'=>∃ (s4 s5:Option V) (us:List Tt),σ=[some (.ref t),some (.ref e),some (.int (b:Nat)),some (.ref x),s4,s5,none,none]∧Same H H'∧Lo a H' x td ed bl (tkv us) [] []∧(ts.take j).map tR=us.map tR∧∀ u∈us,Tb a H' u.2.1 u.2.2∧Good u.2.2∧zV (.str u.1)=true) ⟨_,_,[],rfl,SL1,hL1,rfl,fun _ m=>nomatch m⟩ (fun j σ H' _ ⟨_,_,_,_,S,_⟩=>SqL.of (S _ _ ht)) ?_ ?_⟩
     · rintro j z σ H2 hz ⟨s4,s5,us,rfl,S2,hL2,et,tb⟩;obtain⟨p0,u,hp0,rfl,hu'⟩:=tt.of hz;have m0:=List.mem_of_getElem? hp0;obtain⟨rs0,good,okn⟩:=h1.rs p0 m0;obtain⟨zr,hq,tz⟩:=rs0.same S2;have hj:j < ts.length:=(List.getElem?_eq_some_iff.mp hp0).1
       have lus:us.length=j:=by
         have:=congrArg List.length et
         rw[List.length_map,List.length_map,List.length_take]at this;omega
       have no:p0.1∉(tkv us).map (·.1):=by
         rw[zC,← qcv et,List.map_take];exact qgd h1.nd (by rw[List.getElem?_map,hp0];rfl)
       obtain⟨dz2,hz2⟩:=hL2.hx;refine⟨u,_,rfl,SqT.of (S2 _ _ hu'),rfl,_,_,rfl,_,_,rfl,rfl,?_⟩;refine⟨_,rfl,x,dz2,_,rfl,hz2,rfl,_,rfl,_,rfl,p0.2.1,zr,rfl,.inl (SqL.of hq),fun lr fl t' dt f1' f2' ne'=>?_⟩;have Sl:=Same.new (.lst zr) fl;have Sm:=qhQ (C:=a.c_Table) f1' f2';refine⟨t',dt,lr,p0.2.2,rfl,qc,Rs.same ⟨zr,qc,tz.same Sl⟩ Sm,good,fun G B tbl=>⟨rfl,?_⟩⟩;have SG:=Sl.trans (zH f1' f2' B);refine⟨x,td,ed,bl,tkv us,[],[],p0.1,.ref t',rfl,hL2.sm SG,okn,no,by rw[List.length_map];omega,fun H3 B3 hL3=>?_⟩
       have keep:∀ (y:Addr) (r:List (Int×Int)),Tb a G y r->Tb a H3 y r:=fun y r h=>by
         obtain⟨k,dk,zs,q1,q2,q3⟩:=h;have ht3:=(hL2.sm SG).ht;refine⟨k,dk,zs,B3 _ _ q1 (zi q1 ht3 (by intro z;cases z)),B3 _ _ q2 (zi q2 ht3 (by intro z;cases z)),⟨q3.1,fun i z p e1 e2=>?_⟩⟩;obtain⟨w',r1,r2⟩:=q3.2 i z p e1 e2;exact⟨w',r1,B3 _ _ r2 (zi r2 ht3 (by intro z;cases z))⟩
       refine⟨_,_,us++[(p0.1,t',p0.2.2)],rfl,qal (S2.trans SG) ftd B3,by rw[show tkv (us++[(p0.1,t',p0.2.2)])=tkv us++[(p0.1,V.ref t')] from List.map_append ..];exact hL3,?_,fun u m=>?_⟩
       · rw[List.map_append,← et,List.take_add_one,hp0,List.map_append];rfl
       · rcases List.mem_append.mp m with m|m
         · obtain⟨q1,q2⟩:=tb u m;exact⟨keep _ _ (q1.same SG),q2⟩
         · rw[List.mem_singleton.mp m];exact⟨keep _ _ tbl,good,okn⟩
     · rintro σ H2 ⟨s4,s5,us,rfl,S2,hL2,et,tb⟩;rw[tt.1,List.take_length]at et;exact hN _ _ ⟨_,_,us,rfl,S2,hL2,et,tb⟩
   rintro _ H2 ⟨s4,s5,us,rfl,S2,hL2,et,tb⟩
   have lus:us.length=ts.length:=by
     have:=congrArg List.length et
     rw[List.length_map,List.length_map]at this;exact this.symm
   refine qV (t:=qd5 _ _ _) (fun σ' H'=>∃ (s6:Option V),σ'=[some (.ref t),some (.ref e),some (.int (b:Nat)),some (.ref x),s4,s5,s6,none]∧Same H H'∧But ed H2 H'∧Lo a H' x td ed bl (tkv us) (ekv es) []) (fun N hN=>?_) ?_
   · refine⟨_,rfl,e,rfl,⟨_,SqL.of (S2 _ _ h2.hd)⟩,qK (K:=K) (a:=e) (xs:=es.map fun e=>V.ref e.x) (D:={ nx:=N,rt:=Q }) (fun j σ H'=>∃ (s6:Option V),σ=[some (.ref t),some (.ref e),some (.int (b:Nat)),some (.ref x),s4,s5,s6,none]∧Same H H'∧But ed H2 H'∧Lo a H' x td ed bl (tkv us) (ekv (es.take j)) []) ⟨_,rfl,S2,But.refl _ _,hL2⟩ (fun j σ H' _ ⟨_,_,S,_⟩=>SqL.of (S _ _ h2.hd)) ?_ ?_⟩
     · rintro j z σ H3 hz ⟨s6,rfl,S3,B3,hL3⟩
       obtain⟨g,hg,rfl⟩:∃ g,es[j]?=some g∧V.ref g.x=z:=by
         rw[List.getElem?_map]at hz;exact Option.map_eq_some_iff.mp hz
       have hj:j < es.length:=(List.getElem?_eq_some_iff.mp hg).1;obtain⟨en,okn⟩:=h2.en g (List.mem_of_getElem? hg);obtain⟨dz2,hz2⟩:=hL3.hx;refine⟨_,rfl,x,dz2,_,rfl,hz2,rfl,_,rfl,x,td,ed,bl,tkv us,ekv (es.take j),[],g,rfl,hL3,en.same S3,?_,by rw[List.length_map,List.length_take];omega,fun H4 B4 hL4=>?_⟩
       · rw[zj,List.map_take];exact qgd h2.nd (by rw[List.getElem?_map,hg];rfl)
       · refine⟨_,rfl,qal S3 fed B4,fun c o e n=>B4 c o (B3 c o e n) n,?_⟩;rw[List.take_add_one,hg,show ekv (es.take j++(some g).toList)=ekv (es.take j)++[(g.nm,V.ref g.x)] from List.map_append ..];exact hL4
     · rintro σ H3 ⟨s6,rfl,S3,B3,hL3⟩;rw[List.length_map,List.take_length]at hL3;exact hN _ _ ⟨_,rfl,S3,B3,hL3⟩
   rintro _ H3 ⟨s6,rfl,S3,B3,hL3⟩
   have tb3:∀ u∈us,Tb a H3 u.2.1 u.2.2∧Good u.2.2∧zV (.str u.1)=true:=fun u m=>by
     obtain⟨⟨k,dk,zs,q1,q2,q3⟩,q⟩:=tb u m;have he3:=hL2.he;refine⟨⟨k,dk,zs,B3 _ _ q1 (zi q1 he3 (by intro z;cases z)),B3 _ _ q2 (zi q2 he3 (by intro z;cases z)),⟨q3.1,fun i z p e1 e2=>?_⟩⟩,q⟩;obtain⟨w',r1,r2⟩:=q3.2 i z p e1 e2;exact⟨w',r1,B3 _ _ r2 (zi r2 he3 (by intro z;cases z))⟩
   have he:H3 e=some (.lst (es.map fun e=>V.ref e.x)):=S3 _ _ h2.hd;refine qV (t:=qd5 _ _ _) (fun σ' H'=>∃ (s7:Option V) (zs:List V) (bs:List (Str×Str×Int)),σ'=[some (.ref t),some (.ref e),some (.int (b:Nat)),some (.ref x),s4,s5,s6,s7]∧Same H H'∧Lo a H' x td ed bl (tkv us) (ekv es) zs∧TupL prB H' zs bs∧(∀ b∈bs,b.1∈es.map (·.nm)∧b.2.1∈es.map (·.nm)∧-2000000000≤b.2.2∧b.2.2≤2000000001)∧bs.length=(if es=[] then 0 else b)∧∀ u∈us,Tb a H' u.2.1 u.2.2) (fun N hN=>?_) ?_
   · refine⟨_,rfl,_,rfl,Nat.zero_le _,fun n0 fn0=>?_⟩;generalize hG:upd H3 n0 _=G4;obtain⟨S4,e4⟩:=qi hG fn0;clear hG
     have hv:(b:Int) * (if (!(es.map fun e=>V.ref e.x).isEmpty)=true then 1 else 0)=((if es=[] then 0 else b:Nat):Int):=by
       cases es<;>simp
     refine⟨e,n0,_,rfl,rfl,SqL.of (S4 _ _ he),SqL.of e4,.inr ⟨_,rfl,_,_,rfl,rfl,.inr ⟨by split<;>decide,by split<;>decide⟩,?_⟩⟩;rw[hv];refine⟨_,rfl,by split<;>omega,by split<;>omega,?_⟩;refine jb (lo:=0) (n:=if es=[] then 0 else b) (D:={ nx:=N,rt:=Q }) (fun j σ H'=>∃ (s7:Option V) (zs:List V) (bs:List (Str×Str×Int)),σ=[some (.ref t),some (.ref e),some (.int (b:Nat)),some (.ref x),s4,s5,s6,s7]∧Same H H'∧But bl G4 H'∧Lo a H' x td ed bl (tkv us) (ekv es) zs∧TupL prB H' zs bs∧(∀ b∈bs,b.1∈es.map (·.nm)∧b.2.1∈es.map (·.nm)∧-2000000000≤b.2.2∧b.2.2≤2000000001)∧bs.length=j) ⟨_,[],[],rfl,S3.trans S4,But.refl _ _,hL3.sm S4,.nil,(fun _ m=>nomatch m),rfl⟩ ?_ ?_
     · rintro i σ H5 hi ⟨s7,zs,bs,rfl,S5,B5,hL5,tz,hbs,lb⟩;have ne0:es≠[]:=fun z=>by rw[if_pos z]at hi;omega
       rw[if_neg ne0]at hi;have pos:0 < es.length:=List.length_pos_iff.mpr ne0;have he5:H5 e=some (.lst (es.map fun e=>V.ref e.x)):=S5 _ _ h2.hd;have hm:i % es.length < es.length:=Nat.mod_lt _ pos;obtain⟨g,hg⟩:∃ g,es[i % es.length]?=some g:=⟨_,List.getElem?_eq_getElem hm⟩
       obtain⟨g0,hg0⟩:∃ g,es[0]?=some g:=⟨_,List.getElem?_eq_getElem pos⟩
       have mg:=List.mem_of_getElem? hg;have mg0:=List.mem_of_getElem? hg0;obtain⟨C,de,fe,q1,_,_,_,q2,q3,q4⟩:=Qy T ((h2.en g mg).1.same S5);obtain⟨C0,de0,fe0,r1,_,_,_,r2,r3,r4⟩:=Qy T ((h2.en g0 mg0).1.same S5)
       have at1:atI (es.map fun e=>V.ref e.x) ((0+(i:Int)) % (((es.map fun e=>V.ref e.x).length:Nat):Int))=some (.ref g.x):=by
         rw[List.length_map,Int.zero_add,← Int.natCast_emod];exact Qc (by rw[List.getElem?_map,hg];rfl)
       have at0:atI (es.map fun e=>V.ref e.x) ((0:Nat):Int)=some (.ref g0.x):=Qc (by rw[List.getElem?_map,hg0];rfl);have lz:=tz.1;obtain⟨dz2,hz2⟩:=hL5.hx;refine⟨_,rfl,x,dz2,_,rfl,hz2,rfl,_,rfl,_,rfl,_,rfl,_,_,rfl,.inl ⟨_,SqL.of he5,rfl⟩,_,_,rfl,rfl,(by show (0:Int) < _;rw[List.length_map];omega),.inl ⟨e,_,_,_,rfl,rfl,SqL.of he5,at1,g.x,C,de,fe,_,rfl,q1,q2,q3,q4,?_⟩⟩;refine⟨_,rfl,.inl ⟨e,_,_,_,rfl,rfl,SqL.of he5,at0,g0.x,C0,de0,fe0,_,rfl,r1,r2,r3,r4,?_⟩⟩;refine⟨_,rfl,_,_,rfl,rfl,x,td,ed,bl,tkv us,ekv es,zs,(g.nm,.ref g.x),(g0.nm,.ref g0.x),_,rfl,hL5,qe4 mg,qe4 mg0,by omega,by omega,by omega,fun u v H6 fu B6 eu hL6=>?_⟩;have kt:TupL prB H6 zs bs:=⟨tz.1,fun i z p e1 e2=>let ⟨w',k1,k2⟩:=tz.2 i z p e1 e2;⟨w',k1,B6 _ _ k2 (zi k2 hL5.hb (by intro z;cases z))⟩⟩
       refine⟨_,_,bs++[(g.nm,g0.nm,0 - (0+(i:Int)))],rfl,qal S5 fbl B6,fun c o e n=>B6 c o (B5 c o e n) n,hL6,kt.snoc eu,fun p m=>?_,by rw[List.length_append,lb];rfl⟩;rcases List.mem_append.mp m with m|m
       · exact hbs p m
       · rw[List.mem_singleton.mp m];exact⟨List.mem_map_of_mem mg,List.mem_map_of_mem mg0,by show _≤0 - (0+(i:Int));omega,by show 0 - (0+(i:Int))≤_;omega⟩
     · rintro σ H5 ⟨s7,zs,bs,rfl,S5,B5,hL5,tz,hbs,lb⟩;refine hN _ _ ⟨_,zs,bs,rfl,S5,hL5,tz,hbs,lb,fun u m=>?_⟩;obtain⟨k,dk,zk,q1,q2,q3⟩:=(tb3 u m).1.same S4;have hb4:=(hL3.sm S4).hb
       have kb:k≠bl:=fun z=>by
         rw[z,hb4]at q2;cases q2;obtain⟨n,hn⟩:=(tb3 u m).2.1.fst
         have:=q3.1
         cases hu2:u.2.2 with
         | nil=>rw[hu2]at hn;cases hn
         | cons _ _=>rw[hu2]at this;cases this
       refine⟨k,dk,zk,B5 _ _ q1 (zi q1 hb4 (by intro z;cases z)),B5 _ _ q2 kb,⟨q3.1,fun i z p e1 e2=>?_⟩⟩;obtain⟨w',k1,k2⟩:=q3.2 i z p e1 e2;exact⟨w',k1,B5 _ _ k2 (zi k2 hb4 (by intro z;cases z))⟩
   rintro _ H4 ⟨s7,zs,bs,rfl,S4,hL4,tz,hbs,lb,tb4⟩;refine⟨_,rfl,kk x us bs H4 S4 ⟨⟨td,ed,bl,zs,hL4,tz⟩,fun u m=>⟨tb4 u m,(tb3 u m).2⟩,fun e m=>⟨(h2.en e m).1.same S4,(h2.en e m).2⟩,hbs,by omega,fewe,by rw[lb];split<;>omega⟩ et lb⟩
theorem qeU {a:Ad} (T:Txt K mg a):qx P w K mg base CX0 1 a.f_G a.fd_G ["_law_rows","_law_moment"] qbh:=by
 refine T.d_G.F.ok qew (fun vs H Q E h=>?_) (fun cdv A outer s H vs Q E hr h=>?_)
 · obtain⟨q,t,n,rows,rfl,⟨zs,hq,tz⟩,few,hn,kk⟩:=h;rfl
 · obtain⟨q,t,n,rows,rfl,⟨zs,hq,tz⟩,few,hn,kk⟩:=h;refine⟨_,(qe (qu (qC (r:=rIx K) qq (zA rfl (CompOk.def ["_law_row_here","_law_moment"] [none,some 1]) (qH (pv 0)) (fun _ _ _ _ _=>(qt (i:=0) (show List.Nodup (["_law_row_here","_law_moment"]:List Str) by decide +kernel) rfl (Or.inl rfl))) (fun _ _ _ _ _=>(qaV (qy qdH (qC (r:=rIx K) qq (pv 0) qd (fun _ _=>rfl)) (pv 1) (qI _)))) (fun _ _ _ _ _=>(qC (r:=rIx K) qq (pv 0) qd (fun _ _=>rfl)))) (qdD qab qd) (fun _ _=>rfl)))),?_⟩;(try dsimp only [qY,Cx.nox]);have lz:=tz.1;refine⟨_,rfl,q,rfl,⟨_,SqL.of hq⟩,fun D fD=>?_⟩;refine qW (K:=K) (a:=q) (xs:=zs) (D:=D) (fun i σ H2=>∃ (s0:Option V),σ=[s0,some (.int t)]∧Same H H2∧H2 D=some (.lst (((rows.take i).filter fun r=>decide (r.1≤t)).map fun r=>V.int r.2))) ⟨none,rfl,Same.new _ fD,qc⟩ (fun i σ H2 _ ⟨_,_,S,_⟩=>SqL.of (S _ _ hq)) ?_ ?_
   · rintro i z σ H2 hz ⟨s0,rfl,S2,hD⟩;obtain⟨r,u,hr',rfl,hu'⟩:=tz.of hz;have hi:=(List.getElem?_eq_some_iff.mp hr').1;have tf:=Qr (p:=fun r:Int×Int=>decide (r.1≤t)) hr';refine⟨_,rfl,.inr (.inl ⟨u,_,_,_,rfl,rfl,SqT.of (S2 _ _ hu'),rfl,_,rfl,_,_,rfl,rfl,_,rfl,?_⟩)⟩;refine jr (fun c=>?_) (fun c=>?_)
     · refine⟨_,rfl,.inr (.inl ⟨u,_,_,_,rfl,rfl,SqT.of (S2 _ _ hu'),rfl,_,hD,qD ?_,_,rfl,S2.put fD _,?_⟩)⟩
       · rw[List.length_map];have h1:=List.length_filter_le (fun r:Int×Int=>decide (r.1≤t)) (rows.take i);rw[List.length_take]at h1;omega
       · rw[qc,tf,if_pos (by simpa using c),List.map_append];rfl
     · refine⟨_,rfl,S2,?_⟩;rw[tf,if_neg (by simpa using c),List.append_nil];exact hD
   rintro σ H2 ⟨s0,rfl,S2,hD⟩;rw[lz,List.take_length]at hD
   have la:atI ((rows.filter fun r=>decide (r.1≤t)).map fun r=>V.int r.2) (-1)=some (.int n):=by
     apply qgw;unfold na at hn;rw[List.getLast?_map]
     cases h:(rows.filter fun r=>decide (r.1≤t)).getLast? with
     | none=>rw[h]at hn;cases hn
     | some r=>rw[h]at hn;cases hn;rfl
   exact⟨1,rfl,.inl ⟨D,_,_,_,rfl,rfl,SqL.of hD,la,kk _ S2⟩⟩
end
abbrev pP (t:Tt):Str×Addr:=(t.1,t.2.1)
theorem qhh {H:Hp}{zs:List V}{ts:List Tt} (h:TupL prT H zs ts):TupL prP H zs (ts.map pP):=by
 refine⟨by rw[List.length_map];exact h.1,fun i z p e1 e2=>?_⟩;rw[List.getElem?_map]at e2;obtain⟨t,ht,rfl⟩:=Option.map_eq_some_iff.mp e2;exact h.2 i z t e1 ht
theorem qhG:∀ {ts:List Tt},(ts.map (·.1)).Nodup->∀ {t u:Tt},t∈ts->u∈ts->t.1=u.1->t=u
 | [],_,_,_,m,_,_=>nomatch m
 | w::ts,nd,t,u,m,n,e=>by
   rw[List.map_cons,List.nodup_cons]at nd;rcases List.mem_cons.mp m with h1|m2
   · rcases List.mem_cons.mp n with h2|n2
     · rw[h1,h2]
     · exact absurd (by rw[← h1,e];exact List.mem_map_of_mem n2) nd.1
   · rcases List.mem_cons.mp n with h2|n2
     · exact absurd (by rw[← h2,← e];exact List.mem_map_of_mem m2) nd.1
     · exact qhG nd.2 m2 n2 e
theorem qhx {ms:List Int} (so:ms.Pairwise (·≤·)) {k:Nat}{m u:Int} (hk:ms[k]?=some m) (hu:u∈ms) (lt:u < m):u∈ms.take k:=by
 obtain⟨i,hi⟩:=List.mem_iff_getElem?.mp hu;rcases Nat.lt_or_ge i k with c|c
 · exact List.mem_of_getElem? (i:=i) (by rw[List.getElem?_take_of_lt c];exact hi)
 · exfalso;obtain⟨h1,e1⟩:=List.getElem?_eq_some_iff.mp hi;obtain⟨h2,e2⟩:=List.getElem?_eq_some_iff.mp hk;rcases Nat.lt_or_ge k i with d|d
   · have:=List.pairwise_iff_getElem.mp so k i h2 h1 d
     omega
   · have:i=k:=by omega
     subst this;omega
theorem qjS {rs:List (Str×Addr)} (so:rs.Pairwise fun a b=>¬ b.1.cps.toList < a.1.cps.toList) {j:Nat}{q p:Str×Addr} (hj:rs[j]?=some q) (hp:p∈rs) (lt:sl p.1 q.1):p∈rs.take j:=by
 obtain⟨i,hi⟩:=List.mem_iff_getElem?.mp hp;rcases Nat.lt_or_ge i j with c|c
 · exact List.mem_of_getElem? (i:=i) (by rw[List.getElem?_take_of_lt c];exact hi)
 · exfalso;obtain⟨h1,e1⟩:=List.getElem?_eq_some_iff.mp hi;obtain⟨h2,e2⟩:=List.getElem?_eq_some_iff.mp hj;rcases Nat.lt_or_ge j i with d|d
   · have:=List.pairwise_iff_getElem.mp so j i h2 h1 d
     rw[e1,e2]at this;exact this lt
   · have:i=j:=by omega
     subst this;rw[e1]at e2;subst e2;exact qiI _ lt
inductive jA (vs:List V) (H:Hp) (Q:VK):Prop
 | mk (x y:Addr) (ts us:List Tt) (h1:vs=[.ref x,.ref y]) (h2:Lt H x ts) (h3:Lt H y us) (h4:(NoUn ts us->∀ H',Same H H'->Q .non H')) (h5:∀ (p:Str) (m:Int),IsUn ts us p m->∀ (v:Addr) (H':Hp),Same H H'->H' v=some (.tup [.str "unlike",.str p,.int m])->Q (.ref v) H'):jA vs H Q
def qae:Sp:=fun vs H Q _=>jA vs H Q
section
variable {P:Program}{w:World}{K:Frag}{mg:Str->Option Value}{base:Heap}
theorem qdJ {a:Ad} (T:Txt K mg a):qx P w K mg base CX0 2 a.f_1 a.fd_1 ["_law_one","_law_other"] qae:=by
 have G_G:=qeU (P:=P) (w:=w) (base:=base) T;refine T.d_1.F.ok sc_Lunlike (fun vs H Q E h=>?_) (fun cdv A outer s H vs Q E hr h=>?_)
 · obtain⟨x,y,ts,us,rfl,h1,h2,kn,ku⟩:=h;rfl
 · obtain⟨x,y,ts,us,rfl,h1,h2,kn,ku⟩:=h;have hU:=hr.units;have h_G:Room (1) _:=hr.mono (by decide)
   refine⟨_,(qf (q9 PassesOwn.never rfl (qH (ql (r:=qgH K) qdX (by rfl) T.n_sorted Ze (qa (pv 0) qb))) (Qo rfl (qE (qt (i:=2) (sc_Lunlike.nd) rfl (Or.inl rfl)) (qE (qt (i:=3) (sc_Lunlike.nd) rfl (Or.inl rfl)) zw)))
       (qe (q9 PassesOwn.never rfl (qH (pv 1)) (Qo rfl (qE (qt (i:=4) (sc_Lunlike.nd) rfl (Or.inl rfl)) (qE (qt (i:=5) (sc_Lunlike.nd) rfl (Or.inl rfl)) zw)))
         (qe (qN (qy (uEq hU) (pv 2) (pv 4) (qI _))
           (qe (q9 PassesOwn.never rfl (qH (ql qdY (by rfl) T.n_sorted Ze (qa (zA rfl (CompOk.def ["_law_row_here"] [none]) (qH (qA z8 (pv 3) (pv 5))) (fun _ _ _ _ _=>(qt (i:=0) (show List.Nodup (["_law_row_here"]:List Str) by decide +kernel) rfl (Or.inl rfl))) (fun _ _ _ _ _=>zU) (fun _ _ _ _ _=>(qC (r:=rIx K) qq (pv 0) qd (fun _ _=>rfl)))) qb))) (qt (i:=6) (sc_Lunlike.nd) rfl (Or.inl rfl))
             (qe (qN (qy (uNe hU) (qm G_G h_G rfl T.d_G.m T.d_G.k T.d_G.b .nil qp (qa (pv 3) (qa (pv 6) qb))) (qm G_G h_G rfl T.d_G.m T.d_G.k T.d_G.b .nil qp (qa (pv 5) (qa (pv 6) qb))) (qI _))
               (qe (qu (ze (qa zg (qa (pv 2) (qa (pv 6) qb))))))
               qw))))
           qw)))))
     (qe (qu qbJ))),?_⟩
   try dsimp only [qY,Cx.nox]
   obtain⟨zs,hx,tz⟩:=h1.hd;obtain⟨ws,hy,tw⟩:=h2.hd;have f1:=h1.few;have f2:=h2.few;have l1:=tz.1;refine⟨_,rfl,x,zs,ts.map pP,rfl,SqL.of hx,qhh tz,?_,by omega,fun l zs' rs fl pm tl so=>?_⟩
   · intro p m q n e;obtain⟨t,mt,rfl⟩:=List.mem_map.mp m;obtain⟨u,mu,rfl⟩:=List.mem_map.mp n;rw[qhG h1.nd mt mu e]
   generalize hG:upd H l _=G;obtain⟨SG,eG⟩:=qi hG fl;clear hG;have tl:=tl.same SG;have tw:=tw.same SG;refine⟨l,rfl,⟨_,SqL.of eG⟩,qK (K:=K) (a:=l) (xs:=zs') (fun j σ H'=>∃ s2 s3 s4 s5 s6:Option V,σ=[some (.ref x),some (.ref y),s2,s3,s4,s5,s6]∧Same G H'∧∀ q∈rs.take j,∀ t∈ts,t.1=q.1->∀ u∈us,t.1=u.1->Fu t.2.2 u.2.2 none) ⟨_,_,_,_,_,rfl,Same.refl _,fun _ m=>nomatch m⟩ (fun j σ H' _ ⟨_,_,_,_,_,_,S,_⟩=>SqL.of (S _ _ eG)) ?_ ?_⟩
   case refine_2 =>
     rintro σ H2 ⟨s2,s3,s4,s5,s6,rfl,S2,inv⟩;refine kn (fun t mt u mu e=>?_) _ (SG.trans S2);rw[tl.1,List.take_length]at inv;exact inv (pP t) (pm.mem_iff.mpr (List.mem_map_of_mem mt)) t mt rfl u mu e
   rintro j z σ H2 hz ⟨s2,s3,s4,s5,s6,rfl,S2,inv⟩;obtain⟨q,u0,hq,rfl,hu0⟩:=tl.of hz;obtain⟨t,mt,rfl⟩:=List.mem_map.mp (pm.mem_iff.mp (List.mem_of_getElem? hq));obtain⟨rt,gt,_⟩:=h1.rs t mt;refine⟨u0,_,rfl,SqT.of (S2 _ _ hu0),rfl,_,_,rfl,_,_,rfl,rfl,?_⟩;refine⟨_,rfl,y,rfl,⟨_,SqL.of (S2 _ _ (SG _ _ hy))⟩,qK (K:=K) (a:=y) (xs:=ws) (fun i σ H'=>∃ s4 s5 s6:Option V,σ=[some (.ref x),some (.ref y),some (.str t.1),some (.ref t.2.1),s4,s5,s6]∧Same G H'∧∀ u∈us.take i,t.1=u.1->Fu t.2.2 u.2.2 none) ⟨_,_,_,rfl,S2,fun _ m=>nomatch m⟩ (fun j σ H' _ ⟨_,_,_,_,S,_⟩=>SqL.of (S _ _ (SG _ _ hy))) ?_ ?_⟩
   case refine_2 =>
     rintro σ H3 ⟨s4,s5,s6,rfl,S3,inv3⟩;refine⟨_,_,_,_,_,rfl,S3,fun q m t' mt' e u mu e'=>?_⟩;rw[List.take_add_one,hq]at m;rcases List.mem_append.mp m with m|m
     · exact inv q m t' mt' e u mu e'
     · have:q=pP t:=List.mem_singleton.mp m
       subst this;rw[qhG h1.nd mt' mt e]at e' ⊢;rw[tw.1,List.take_length]at inv3;exact inv3 u mu e'
   rintro i z σ H3 hz ⟨s4,s5,s6,rfl,S3,inv3⟩;obtain⟨u,v0,hu',rfl,hv0⟩:=tw.of hz;have mu:=List.mem_of_getElem? hu';obtain⟨ru,gu,_⟩:=h2.rs u mu;refine⟨v0,_,rfl,SqT.of (S3 _ _ hv0),rfl,_,_,rfl,_,_,rfl,rfl,?_⟩;have tk:us.take (i+1)=us.take i++[u]:=by rw[List.take_add_one,hu'];rfl
   refine⟨_,rfl,_,rfl,.inl ⟨rfl,_,rfl,jr (fun g=>?_) (fun g=>?_)⟩⟩
   case refine_2 =>
     refine⟨_,_,_,rfl,S3,fun w m e=>?_⟩;rw[tk]at m;rcases List.mem_append.mp m with m|m
     · exact inv3 w m e
     · rw[List.mem_singleton.mp m]at e;exact absurd (by rw[e]) g
   have ee:t.1=u.1:=by injection g
   obtain⟨za,ha,ta⟩:=(rt.same SG).same S3;obtain⟨zb,hb,tb⟩:=(ru.same SG).same S3;have la:=ta.1;have lb:=tb.1;have ga:=gt.few;have gb:=gu.few;refine⟨_,rfl,_,rfl,.inr (.inl ⟨t.2.1,u.2.1,_,_,rfl,rfl,ha,hb,qk (by omega),fun d fd=>?_⟩)⟩;generalize hG:upd H3 d _=G4;obtain⟨S4,e4⟩:=qi hG fd;clear hG;have tt:TupL pr G4 (za++zb) (t.2.2++u.2.2):=qcj (ta.same S4) (tb.same S4);refine⟨d,rfl,⟨_,SqL.of e4⟩,fun D fD=>?_⟩;refine qW (K:=K) (a:=d) (xs:=za++zb) (D:=D) (fun k σ H'=>∃ s0:Option V,σ=[s0]∧Same G4 H'∧H' D=some (.lst (((t.2.2++u.2.2).take k).map fun r=>V.int r.1))) ⟨none,rfl,Same.new _ fD,qc⟩ (fun k σ H' _ ⟨_,_,S,_⟩=>SqL.of (S _ _ e4)) ?_ ?_
   · rintro k z σ H5 hz ⟨s0,rfl,S5,hD⟩;obtain⟨r,w0,hr',rfl,hw0⟩:=tt.of hz;refine⟨_,rfl,.inr (.inl ⟨w0,_,_,_,rfl,rfl,SqT.of (S5 _ _ hw0),rfl,_,hD,qD (by rw[List.length_map,List.length_take,List.length_append];omega),_,rfl,S5.put fD _,?_⟩)⟩;rw[qc,List.take_add_one,hr',List.map_append];rfl
   rintro σ H5 ⟨s0,rfl,S5,hD⟩;rw[tt.1,List.take_length]at hD;refine⟨D,(t.2.2++u.2.2).map (·.1),rfl,SqL.of (by rw[List.map_map];exact hD),by rw[List.length_map,List.length_append];omega,fun p ms fp pms sm=>?_⟩;generalize hG:upd H5 p _=G6;obtain⟨S6,e6⟩:=qi hG fp;clear hG;have S36:=(S4.trans S5).trans S6
   have mm:∀ k,k∈ms↔Bg t.2.2 u.2.2 k:=fun k=>by
     rw[pms.mem_iff,List.mem_map];constructor
     · rintro⟨r,m,e⟩;exact⟨r,List.mem_append.mp m,e⟩
     · rintro⟨r,m,e⟩;exact⟨r,List.mem_append.mpr m,e⟩
   have pos:∀ k∈ms,0≤k:=fun k m=>by
     obtain⟨r,m,e⟩:=(mm k).mp m;rcases m with m|m
     · rw[← e];exact(gt.ok r m).1
     · rw[← e];exact(gu.ok r m).1
   refine⟨p,rfl,⟨_,SqL.of e6⟩,qK (K:=K) (a:=p) (xs:=ms.map V.int) (fun k σ H'=>∃ s6:Option V,σ=[some (.ref x),some (.ref y),some (.str t.1),some (.ref t.2.1),some (.str u.1),some (.ref u.2.1),s6]∧Same G6 H'∧∀ m∈ms.take k,na t.2.2 m=na u.2.2 m) ⟨_,rfl,Same.refl _,fun _ m=>nomatch m⟩ (fun k σ H' _ ⟨_,_,S,_⟩=>SqL.of (S _ _ e6)) ?_ ?_⟩
   case refine_2 =>
     rintro σ H7 ⟨s6,rfl,S7,inv7⟩;rw[List.length_map,List.take_length]at inv7;refine⟨_,_,_,rfl,S3.trans (S36.trans S7),fun w m e=>?_⟩;rw[tk]at m;rcases List.mem_append.mp m with m|m
     · exact inv3 w m e
     · rw[List.mem_singleton.mp m];exact fun k b=>inv7 k ((mm k).mpr b)
   rintro k z σ H7 hz ⟨s6,rfl,S7,inv7⟩
   obtain⟨m,hm,rfl⟩:∃ m,ms[k]?=some m∧V.int m=z:=by
     rw[List.getElem?_map]at hz;exact Option.map_eq_some_iff.mp hz
   have mm0:=List.mem_of_getElem? hm;have p0:=pos m mm0;have S37:=S36.trans S7;refine⟨_,rfl,_,rfl,t.2.1,m,_,t.2.2,rfl,((rt.same SG).same S3).same S37,ga,qbR gt p0,fun H8 S8=>?_⟩;refine⟨_,rfl,_,rfl,u.2.1,m,_,u.2.2,rfl,(((ru.same SG).same S3).same S37).same S8,gb,qbR gu p0,fun H9 S9=>?_⟩;refine .inl ⟨rfl,_,rfl,?_⟩;have ST:=SG.trans (S3.trans ((S37.trans S8).trans S9));refine jX (fun g2=>?_) (fun g2=>?_)
   · refine⟨_,rfl,_,rfl,qk (Nat.le_of_ble_eq_true rfl),fun v fv=>?_⟩;refine ku t.1 m ⟨⟨t,mt,u,mu,rfl,ee.symm,(mm m).mp mm0,fun z=>g2 ?_,fun w bw lw=>?_⟩,fun t' mt' u' mu' e' l'=>?_⟩ v _ (ST.trans (Same.new _ fv)) qc
     · rw[z]
     · exact inv7 w (qhx sm hm ((mm w).mpr bw) lw)
     · exact inv (pP t') (qjS so hq (pm.mem_iff.mpr (List.mem_map_of_mem mt')) l') t' mt' rfl u' mu' e'
   · refine⟨_,rfl,(S7.trans S8).trans S9,fun w m'=>?_⟩;rw[List.take_add_one,hm]at m';rcases List.mem_append.mp m' with m'|m'
     · exact inv7 w m'
     · have:w=m:=List.mem_singleton.mp m'
       subst this;rw[qbR gt p0,qbR gu p0];injection g2 with g2;rw[g2]
end
def Od (H:Hp) (v:Addr):Oc->Prop
 | .many n=>H v=some (.tup [.str "many",.int (n:Int)])
 | .unl p m=>H v=some (.tup [.str "unlike",.str p,.int m])
 | .ok e b p=>H v=some (.tup [.int (e:Int),.int (b:Int),.int (p:Int)])
structure Sd (a:Ad) (H:Hp) (p:Addr) (ts:List Tt) (es:List Et):Prop where
 h:∃ x e,H p=some (.tup [.ref x,.ref e])∧Lt H x ts∧Le a H e es
theorem Sd.sm {a:Ad}{H H':Hp}{p:Addr}{ts:List Tt}{es:List Et} (h:Sd a H p ts es) (s:Same H H'):Sd a H' p ts es :=
 ⟨let ⟨x,e,h1,h2,h3⟩:=h.h;⟨x,e,s _ _ h1,h2.sm s,h3.sm s⟩⟩
inductive qbm (a:Ad) (vs:List V) (H:Hp) (Q:VK):Prop
 | mk (p q:Addr) (ts us:List Tt) (es fs:List Et) (b:Nat) (h1:vs=[.ref p,.ref q,.int (b:Int)]) (h2:Sd a H p ts es) (h3:Sd a H q us fs) (h4:∀ (o:Oc) (v:Addr) (H':Hp),Same H H'->Out ts us es fs b o->Od H' v o->Q (.ref v) H'):qbm a vs H Q
def qer (a:Ad):Sp:=fun vs H Q _=>qbm a vs H Q
abbrev cmn (es fs:List Et):Nat:=(es.filter fun e=>decide (e.nm∈fs.map (·.nm))).length
theorem qjr {es fs:List Et}:(es.filter fun e=>decide (e.nm∈fs.map (·.nm))).map (·.nm)=(es.map (·.nm)).filter fun n=>decide (n∈fs.map (·.nm)):=by
 rw[List.filter_map];rfl
theorem qh9 {es fs:List Et} (h1:(es.map (·.nm)).Nodup) (h2:(fs.map (·.nm)).Nodup):nen es fs+cmn es fs=es.length+fs.length:=by
 have c1:cmn es fs=((es.map (·.nm)).filter fun n=>decide (n∈fs.map (·.nm))).length:=by rw[← qjr,List.length_map]
 have c2:((es.map (·.nm)).filter fun n=>decide (n∈fs.map (·.nm))).length=((fs.map (·.nm)).filter fun n=>decide (n∈es.map (·.nm))).length:=by
   refine List.Perm.length_eq ((List.perm_ext_iff_of_nodup (h1.sublist List.filter_sublist) (h2.sublist List.filter_sublist)).mpr fun x=>?_);rw[List.mem_filter,List.mem_filter,decide_eq_true_iff,decide_eq_true_iff];exact⟨fun h=>⟨h.2,h.1⟩,fun h=>⟨h.2,h.1⟩⟩
 have c3:∀ l:List Str,(l.filter fun n=>decide (n∉es.map (·.nm))).length+(l.filter fun n=>decide (n∈es.map (·.nm))).length=l.length:=by
   intro l
   induction l with
   | nil=>rfl
   | cons x l ih =>
     by_cases c:x∈es.map (·.nm)
     · rw[List.filter_cons_of_neg (by simpa using c),List.filter_cons_of_pos (by simpa using c),List.length_cons,List.length_cons];omega
     · rw[List.filter_cons_of_pos (by simpa using c),List.filter_cons_of_neg (by simpa using c),List.length_cons,List.length_cons];omega
 have c4:=c3 (fs.map (·.nm));unfold nen bt;rw[List.length_append,List.length_map,c1,c2];rw[List.length_map]at c4;omega
theorem qi6 {fs:List Et} (nd:(fs.map (·.nm)).Nodup) (e:Et):(fs.filter fun f=>decide (e.nm=f.nm)).length=if e.nm∈fs.map (·.nm) then 1 else 0:=by
 induction fs with
 | nil=>rfl
 | cons f fs ih =>
   rw[List.map_cons,List.nodup_cons]at nd;have ih:=ih nd.2;by_cases c:e.nm=f.nm
   · rw[List.filter_cons_of_pos (by simpa using c),List.length_cons,ih,if_neg (by rw[c];exact nd.1),if_pos (by rw[c];exact List.mem_cons_self)]
   · rw[List.filter_cons_of_neg (by simpa using c),ih,List.map_cons];simp only[List.mem_cons,c,false_or]
theorem qgu {es fs:List Et}{i:Nat}{e:Et} (h:es[i]?=some e):cmn (es.take (i+1)) fs=cmn (es.take i) fs+if e.nm∈fs.map (·.nm) then 1 else 0:=by
 unfold cmn;rw[Qr (p:=fun e:Et=>decide (e.nm∈fs.map (·.nm))) h,List.length_append];by_cases c:e.nm∈fs.map (·.nm)
 · rw[if_pos (by simpa using c),if_pos c];rfl
 · rw[if_neg (by simpa using c),if_neg c];rfl
section
variable {P:Program}{w:World}{K:Frag}{mg:Str->Option Value}{base:Heap}
theorem qhK {a:Ad} (T:Txt K mg a):qx P w K mg base CX0 3 a.f_2 a.fd_2 ["_law_one","_law_other","_law_bonds"] (qer a):=by
 have G_1:=qdJ (P:=P) (w:=w) (base:=base) T;have G_l:=qdL (P:=P) (w:=w) (base:=base) T;have G_h:=J6 (P:=P) (w:=w) (base:=base) T;refine T.d_2.F.ok sc_Ldue (fun vs H Q E h=>?_) (fun cdv A outer s H vs Q E hr h=>?_)
 · obtain⟨p,q,ts,us,es,fs,b,rfl,d1,d2,kk⟩:=h;rfl
 · obtain⟨p,q,ts,us,es,fs,b,rfl,d1,d2,kk⟩:=h;have hU:=hr.units;have h_1:Room (2) _:=hr.mono (by decide);have h_l:Room (1) _:=hr.mono (by decide);have h_h:Room (2) _:=hr.mono (by decide)
   refine⟨_,(qf (qN (qy qaY (qm G_l h_l rfl T.d_l.m T.d_l.k T.d_l.b .nil qp (qa (qC (r:=rIx K) qq (pv 0) qd (fun _ _=>rfl)) (qa (qC (r:=rIx K) qq (pv 1) qd (fun _ _=>rfl)) qb))) qd (qI _))
       (qe (qu (ze (qa zg (qa (qm G_l h_l rfl T.d_l.m T.d_l.k T.d_l.b .nil qp (qa (qC (r:=rIx K) qq (pv 0) qd (fun _ _=>rfl)) (qa (qC (r:=rIx K) qq (pv 1) qd (fun _ _=>rfl)) qb))) qb)))))
       qw)
     (qf (qJ (i:=3) sc_Ldue.nd rfl (Or.inl rfl) (qm G_1 h_1 rfl T.d_1.m T.d_1.k T.d_1.b .nil qp (qa (qC (r:=rIx K) qq (pv 0) qd (fun _ _=>rfl)) (qa (qC (r:=rIx K) qq (pv 1) qd (fun _ _=>rfl)) qb))))
     (qf (qN (qy qeO (pv 3) qbJ (qI _))
       (qe (qu (pv 3)))
       qw)
     (qf (qJ (i:=4) sc_Ldue.nd rfl (Or.inl rfl) qd)
     (qf (q9 PassesOwn.never rfl (qH (qC (r:=rIx K) qq (pv 0) qd (fun _ _=>rfl))) (qt (i:=5) (sc_Ldue.nd) rfl (Or.inl rfl))
       (qe (q9 PassesOwn.never rfl (qH (qC (r:=rIx K) qq (pv 1) qd (fun _ _=>rfl))) (qt (i:=6) (sc_Ldue.nd) rfl (Or.inl rfl))
         (qe (qN (qy (uEq hU) (qT (pv 5) rfl) (qT (pv 6) rfl) (qI _))
           (qf (qJ (i:=4) sc_Ldue.nd rfl (Or.inl rfl) (qA z8 (pv 4) qd))
           (qe (qN (qy qaY (qA z8 (qm G_h h_h rfl T.d_h.m T.d_h.k T.d_h.b .nil qp (qa (pv 5) qb)) (qm G_h h_h rfl T.d_h.m T.d_h.k T.d_h.b .nil qp (qa (pv 6) qb))) qd (qI _))
             (qe (qu (ze (qa zg (qa (qA z8 (qm G_h h_h rfl T.d_h.m T.d_h.k T.d_h.b .nil qp (qa (pv 5) qb)) (qm G_h h_h rfl T.d_h.m T.d_h.k T.d_h.b .nil qp (qa (pv 6) qb))) qb)))))
             qw)))
           qw)))))
     (qf (qN (qy qaY (qA QJ (qA z8 (ql qB (by rfl) T.n_len qv (qa (qC (r:=rIx K) qq (pv 0) qd (fun _ _=>rfl)) qb)) (ql qB (by rfl) T.n_len qv (qa (qC (r:=rIx K) qq (pv 1) qd (fun _ _=>rfl)) qb))) (pv 4)) qd (qI _))
       (qe (qu (ze (qa zg (qa (qA QJ (qA z8 (ql qB (by rfl) T.n_len qv (qa (qC (r:=rIx K) qq (pv 0) qd (fun _ _=>rfl)) qb)) (ql qB (by rfl) T.n_len qv (qa (qC (r:=rIx K) qq (pv 1) qd (fun _ _=>rfl)) qb))) (pv 4)) qb)))))
       qw)
     (qf (qN (qy qaY (pv 2) qd (qI _))
       (qe (qu (ze (qa zg (qa (pv 2) qb)))))
       qw)
     (qe (qu (ze (qa (qA QJ (qA z8 (ql qB (by rfl) T.n_len qv (qa (qC (r:=rIx K) qq (pv 0) qd (fun _ _=>rfl)) qb)) (ql qB (by rfl) T.n_len qv (qa (qC (r:=rIx K) qq (pv 1) qd (fun _ _=>rfl)) qb))) (pv 4)) (qa (pv 2) (qa (qm G_l h_l rfl T.d_l.m T.d_l.k T.d_l.b .nil qp (qa (qC (r:=rIx K) qq (pv 0) qd (fun _ _=>rfl)) (qa (qC (r:=rIx K) qq (pv 1) qd (fun _ _=>rfl)) qb))) qb))))))))))))),?_⟩
   try dsimp only [qY,Cx.nox]
   obtain⟨x1,e1,hp,t1,g1⟩:=d1.h;obtain⟨x2,e2,hq,t2,g2⟩:=d2.h;have fe1:=g1.few;have fe2:=g2.few;have S0:=Same.refl H;refine⟨_,rfl,.inr (.inl ⟨p,_,_,_,rfl,rfl,SqT.of (S0 _ _ hp),rfl,_,rfl,.inr (.inl ⟨q,_,_,_,rfl,rfl,SqT.of (S0 _ _ hq),rfl,x1,x2,ts,us,rfl,t1.sm S0,t2.sm S0,fun H1 S1=>⟨_,_,rfl,rfl,_,rfl,?_⟩⟩)⟩)⟩;refine jr (fun c=>?_) (fun c=>?_)
   · refine⟨_,rfl,.inr (.inl ⟨p,_,_,_,rfl,rfl,SqT.of (S1 _ _ hp),rfl,_,rfl,.inr (.inl ⟨q,_,_,_,rfl,rfl,SqT.of (S1 _ _ hq),rfl,x1,x2,ts,us,rfl,t1.sm S1,t2.sm S1,fun H2 S2=>⟨qk (Nat.le_of_ble_eq_true rfl),fun v fv=>?_⟩⟩)⟩)⟩;exact kk (.many (npl ts us)) v _ ((S1.trans S2).trans (Same.new _ fv)) (.pl (by omega)) qc
   have np:npl ts us≤6:=by omega
   try unfold qM
   try dsimp only
   refine⟨_,rfl,.inr (.inl ⟨p,_,_,_,rfl,rfl,SqT.of (S1 _ _ hp),rfl,_,rfl,.inr (.inl ⟨q,_,_,_,rfl,rfl,SqT.of (S1 _ _ hq),rfl,x1,x2,ts,us,rfl,t1.sm S1,t2.sm S1,fun nu H2 S2=>?_,fun pl m iu v H2 S2 ev=>?_⟩)⟩)⟩
   case refine_2 =>
     try unfold qM
     try dsimp only
     exact⟨_,rfl,rfl,_,rfl,qa5 ⟨_,rfl,kk (.unl pl m) v _ (S1.trans S2) (.un np iu) ev⟩⟩
   try unfold qM
   try dsimp only
   refine⟨_,rfl,rfl,_,rfl,qcx ?_⟩;have S12:=S1.trans S2;clear c;(try unfold qM);(try dsimp only);refine qhu ?_;refine qV (t:=qd5 _ _ _) (fun σ' H'=>∃ s5 s6:Option V,σ'=[some (.ref p),some (.ref q),some (.int (b:Int)),some .non,some (.int (cmn es fs:Nat)),s5,s6]∧Same H H'∧∀ g∈es,okk fs g) (fun N hN=>?_) ?_
   · refine⟨_,rfl,.inr (.inl ⟨p,_,_,_,rfl,rfl,SqT.of (S12 _ _ hp),rfl,e1,rfl,⟨_,SqL.of (S12 _ _ g1.hd)⟩,qK (K:=K) (a:=e1) (xs:=es.map fun e=>V.ref e.x) (D:={ nx:=N,rt:=Q }) (fun i σ H'=>∃ s5 s6:Option V,σ=[some (.ref p),some (.ref q),some (.int (b:Int)),some .non,some (.int (cmn (es.take i) fs:Nat)),s5,s6]∧Same H H'∧∀ g∈es.take i,okk fs g) ⟨_,_,rfl,S12,fun _ m=>nomatch m⟩ (fun j σ H' _ ⟨_,_,_,S,_⟩=>SqL.of (S _ _ g1.hd)) ?_ ?_⟩)⟩
     case refine_2 =>
       rintro σ H3 ⟨s5,s6,rfl,S3,al⟩;rw[List.length_map,List.take_length]at al ⊢;exact hN _ _ ⟨_,_,rfl,S3,al⟩
     rintro i z σ H3 hz ⟨s5,s6,rfl,S3,al⟩
     obtain⟨e,he,rfl⟩:∃ e,es[i]?=some e∧V.ref e.x=z:=by
       rw[List.getElem?_map]at hz;exact Option.map_eq_some_iff.mp hz
     have me:=List.mem_of_getElem? he;refine⟨_,rfl,.inr (.inl ⟨q,_,_,_,rfl,rfl,SqT.of (S3 _ _ hq),rfl,e2,rfl,⟨_,SqL.of (S3 _ _ g2.hd)⟩,qK (K:=K) (a:=e2) (xs:=fs.map fun e=>V.ref e.x) (fun j σ H'=>∃ s6:Option V,σ=[some (.ref p),some (.ref q),some (.int (b:Int)),some .non,some (.int ((cmn (es.take i) fs+((fs.take j).filter fun f=>decide (e.nm=f.nm)).length:Nat):Int)),some (.ref e.x),s6]∧Same H H'∧∀ f∈fs.take j,f.nm=e.nm->e.k+f.k≤8) ⟨_,rfl,S3,fun _ m=>nomatch m⟩ (fun j σ H' _ ⟨_,_,S,_⟩=>SqL.of (S _ _ g2.hd)) ?_ ?_⟩)⟩
     case refine_2 =>
       rintro σ H4 ⟨s6,rfl,S4,al4⟩;rw[List.length_map,List.take_length]at al4 ⊢;rw[qi6 g2.nd,← qgu he];refine⟨_,_,rfl,S4,fun g m=>?_⟩;rw[List.take_add_one,he]at m;rcases List.mem_append.mp m with m|m
       · exact al g m
       · have:g=e:=List.mem_singleton.mp m
         subst this;exact fun f mf ef=>al4 f mf ef
     rintro j z σ H4 hz ⟨s6,rfl,S4,al4⟩
     obtain⟨f,hf,rfl⟩:∃ f,fs[j]?=some f∧V.ref f.x=z:=by
       rw[List.getElem?_map]at hz;exact Option.map_eq_some_iff.mp hz
     have mf:=List.mem_of_getElem? hf;have tf:=Qr (p:=fun f:Et=>decide (e.nm=f.nm)) hf;have tk:fs.take (j+1)=fs.take j++[f]:=by rw[List.take_add_one,hf];rfl
     have en:=(g1.en e me).1;have fn:=(g2.en f mf).1;obtain⟨C,de,fe,q1,_,_,_,q2,q3,q4⟩:=Qy T (en.same S4);obtain⟨C0,de0,fe0,r1,_,_,_,r2,r3,r4⟩:=Qy T (fn.same S4);refine⟨_,rfl,e.x,C,de,fe,_,rfl,q1,q2,q3,q4,_,rfl,f.x,C0,de0,fe0,_,rfl,r1,r2,r3,r4,.inl ⟨rfl,_,rfl,jr (fun c=>?_) (fun c=>?_)⟩⟩
     case refine_2 =>
       have c':¬ e.nm=f.nm:=fun z=>c (by rw[z]);refine⟨some (.ref f.x),?_,S4,fun w m ew=>?_⟩
       · rw[tf,if_neg (by simpa using c'),List.append_nil];rfl
       · rw[tk]at m;rcases List.mem_append.mp m with m|m
         · exact al4 w m ew
         · rw[List.mem_singleton.mp m]at ew;exact absurd ew.symm c'
     have c':e.nm=f.nm:=by injection c
     try unfold qM
     try dsimp only
     refine⟨_,rfl,.inl ⟨_,_,rfl,rfl,?_⟩⟩;(try unfold qM);(try dsimp only);refine⟨_,rfl,e,rfl,en.same S4,fun H5 S5=>⟨_,rfl,f,rfl,(fn.same S4).same S5,fun H6 S6=>.inl ⟨_,_,rfl,rfl,_,_,rfl,rfl,_,rfl,?_⟩⟩⟩;have S46:=(S4.trans S5).trans S6;refine jr (fun k8=>?_) (fun k8=>?_)
     · refine⟨_,rfl,e,rfl,en.same S46,fun H7 S7=>⟨_,rfl,f,rfl,(fn.same S46).same S7,fun H8 S8=>.inl ⟨_,_,rfl,rfl,qk (Nat.le_of_ble_eq_true rfl),fun v fv=>?_⟩⟩⟩;have hi:=(List.getElem?_eq_some_iff.mp he)
       refine kk (.many (e.k+f.k)) v _ (((S46.trans S7).trans S8).trans (Same.new _ fv)) (.pt (l:=es.take i) (r:=es.drop (i+1)) np nu ?_ al mf c'.symm (by omega)) ?_
       · rw[← hi.2,← List.drop_eq_getElem_cons hi.1,List.take_append_drop]
       · show upd H8 v _ v=_;rw[qc,show ((e.k+f.k:Nat):Int)=(e.k:Int)+(f.k:Int) by omega]
     · refine⟨some (.ref f.x),?_,S46,fun w m ew=>?_⟩
       · rw[tf,if_pos (by simpa using c'),List.length_append];rfl
       · rw[tk]at m;rcases List.mem_append.mp m with m|m
         · exact al4 w m ew
         · rw[List.mem_singleton.mp m];omega
   rintro _ H3 ⟨s5,s6,rfl,S3,al⟩;have ce:=qh9 g1.nd g2.nd;have l1:(es.map fun e=>V.ref e.x).length=es.length:=List.length_map _;have l2:(fs.map fun e=>V.ref e.x).length=fs.length:=List.length_map _
   have ev:(((es.map fun e=>V.ref e.x).length:Nat):Int)+(((fs.map fun e=>V.ref e.x).length:Nat):Int) - ((cmn es fs:Nat):Int)=((nen es fs:Nat):Int):=by
     rw[l1,l2];omega
   refine⟨_,rfl,.inr (.inl ⟨p,_,_,_,rfl,rfl,SqT.of (S3 _ _ hp),rfl,_,_,rfl,.inl ⟨_,SqL.of (S3 _ _ g1.hd),rfl⟩,_,rfl,.inr (.inl ⟨q,_,_,_,rfl,rfl,SqT.of (S3 _ _ hq),rfl,_,_,rfl,.inl ⟨_,SqL.of (S3 _ _ g2.hd),rfl⟩,.inl ⟨_,_,rfl,rfl,_,rfl,_,_,rfl,rfl,_,_,rfl,rfl,_,rfl,?_⟩⟩)⟩)⟩;rw[ev];refine jr (fun c=>?_) (fun c=>?_)
   · refine⟨_,rfl,.inr (.inl ⟨p,_,_,_,rfl,rfl,SqT.of (S3 _ _ hp),rfl,_,_,rfl,.inl ⟨_,SqL.of (S3 _ _ g1.hd),rfl⟩,_,rfl,.inr (.inl ⟨q,_,_,_,rfl,rfl,SqT.of (S3 _ _ hq),rfl,_,_,rfl,.inl ⟨_,SqL.of (S3 _ _ g2.hd),rfl⟩,.inl ⟨_,_,rfl,rfl,_,rfl,_,_,rfl,rfl,qk (Nat.le_of_ble_eq_true rfl),fun v fv=>?_⟩⟩)⟩)⟩;rw[ev]at *;exact kk (.many (nen es fs)) v _ (S3.trans (Same.new _ fv)) (.en np nu al (by omega)) qc
   try unfold qM
   try dsimp only
   refine⟨_,rfl,_,_,rfl,rfl,_,rfl,?_⟩;refine jr (fun cb=>?_) (fun cb=>?_)
   · refine⟨_,rfl,qk (Nat.le_of_ble_eq_true rfl),fun v fv=>?_⟩;exact kk (.many b) v _ (S3.trans (Same.new _ fv)) (.bo np nu al (by omega) (by omega)) qc
   try unfold qM
   try dsimp only
   refine⟨_,rfl,.inr (.inl ⟨p,_,_,_,rfl,rfl,SqT.of (S3 _ _ hp),rfl,_,_,rfl,.inl ⟨_,SqL.of (S3 _ _ g1.hd),rfl⟩,_,rfl,.inr (.inl ⟨q,_,_,_,rfl,rfl,SqT.of (S3 _ _ hq),rfl,_,_,rfl,.inl ⟨_,SqL.of (S3 _ _ g2.hd),rfl⟩,.inl ⟨_,_,rfl,rfl,_,rfl,_,_,rfl,rfl,_,rfl,_,rfl,.inr (.inl ⟨p,_,_,_,rfl,rfl,SqT.of (S3 _ _ hp),rfl,_,rfl,.inr (.inl ⟨q,_,_,_,rfl,rfl,SqT.of (S3 _ _ hq),rfl,x1,x2,ts,us,rfl,t1.sm S3,t2.sm S3,fun H4 S4=>⟨qk (Nat.le_of_ble_eq_true rfl),fun v fv=>?_⟩⟩)⟩)⟩⟩)⟩)⟩;refine kk (.ok (nen es fs) b (npl ts us)) v _ ((S3.trans S4).trans (Same.new _ fv)) (.ok np nu al (by omega) (by omega)) ?_;show upd H4 v _ v=_;rw[qc,ev]
end
inductive j9 (a:Ad) (vs:List V) (H:Hp) (Q:VK):Prop
 | mk (x y:Addr) (ts us:List Tt) (es fs:List Et) (bs cs:List (Str×Str×Int)) (o:Oc) (h1:vs=[.ref x,.ref y]) (h2:Lc a H x ts es bs) (h3:Lc a H y us fs cs) (h4:Out ts us es fs (bs.length+cs.length) o) (h5:∀ (v:Addr) (H':Hp),Same H H'->Od H' v o->Q (.ref v) H'):j9 a vs H Q
def qbn (a:Ad):Sp:=fun vs H Q _=>j9 a vs H Q
section
variable {P:Program}{w:World}{K:Frag}{mg:Str->Option Value}{base:Heap}
theorem qeX {a:Ad} (T:Txt K mg a):qx P w K mg base CX0 9 a.f_H a.fd_H ["_law_one","_law_other"] (qbn a):=by
 have G_X:=Js (P:=P) (w:=w) (base:=base) T;have G_a:=zm (P:=P) (w:=w) (base:=base) T;have G_c:=z5 (P:=P) (w:=w) (base:=base) T;have G_b:=zM (P:=P) (w:=w) (base:=base) T;refine T.d_H.F.ok sc_Lasked (fun vs H Q E h=>?_) (fun cdv A outer s H vs Q E hr h=>?_)
 · obtain⟨x,y,ts,us,es,fs,bs,cs,o,rfl,h1,h2,out,kk⟩:=h;rfl
 · obtain⟨x,y,ts,us,es,fs,bs,cs,o,rfl,h1,h2,out,kk⟩:=h;have h_X:Room (8) _:=hr.mono (by decide);have h_a:Room (1) _:=hr.mono (by decide);have h_c:Room (1) _:=hr.mono (by decide);have h_b:Room (1) _:=hr.mono (by decide)
   refine⟨_,(qf (qiW (i:=3) rfl rfl (by exact(qiV (i:=2) sc_Lasked.nd rfl (Or.inl rfl) (qf6 G_X h_X rfl T.d_X.m T.d_X.k T.d_X.b (qa (pv 0) (qa (pv 1) qb)))))
       rfl T.g_LogError T.xl_LogError sc_Lasked.nd rfl (Or.inl rfl) rfl (fun ea=>(by exact
       (qf (qN (PW.pt (qc9 (zd (ql (r:=qeF K) jd (by rfl) T.n_isinstance qr (qa (pv 3) (qa (qQ (v:=.ref a.c_TooMany) rfl T.g_TooMany rfl) qb)))) (qaU (zu (zd (ql (r:=qeF K) jd (by rfl) T.n_isinstance qr (qa (pv 3) (qa (qQ (v:=.ref a.c_Unlike) rfl T.g_Unlike rfl) qb))))))))
         (qe (qu (ze (qa zg (qa (show PE _ _ (qfU K _ "many") from qcp (pv 3) rfl) qb)))))
         qw)
       (qf (qN (PW.pt (qc9 (zd (ql (r:=qeF K) jd (by rfl) T.n_isinstance qr (qa (pv 3) (qa (qQ (v:=.ref a.c_Unlike) rfl T.g_Unlike rfl) qb)))) (qaU (zd (ql (r:=qeF K) jd (by rfl) T.n_isinstance qr (qa (pv 3) (qa (Za (v:=.ty "ValueError") rfl T.n_ValueError QL rfl) qb)))))))
         (qe (qu (ze (qa zg (qa (show PE _ _ (qfU K _ "place") from qcp (pv 3) rfl) (qa (show PE _ _ (qfU K _ "moment") from qcp (pv 3) rfl) qb))))))
         qw)
       (qe (qu qbJ)))))))
     (qe (qu (ze (qa (ql qB (by rfl) T.n_len qv (qa (qz (pv 2) T.cl_Log T.d_a.mt G_a h_a T.d_a.b .nil qp) qb)) (qa (ql qB (by rfl) T.n_len qv (qa (qz (pv 2) T.cl_Log T.d_c.mt G_c h_c T.d_c.b .nil qp) qb)) (qa (ql qB (by rfl) T.n_len qv (qa (qz (pv 2) T.cl_Log T.d_b.mt G_b h_b T.d_b.b .nil qp) qb)) qb))))))),?_⟩
   try dsimp only [qY,Cx.nox]
   refine⟨_,rfl,_,rfl,x,y,ts,us,es,fs,bs,cs,o,rfl,h1,h2,out,?_,fun z td ed bl ps ns zs H1 S1 lo lp eo=>?_⟩
   · cases o with
     | ok _ _ _=>trivial
     | many n =>
       intro ea dx2 G S fe fd hd xa;refine⟨_,ea,rfl,rfl,T.X_TooMany.c.xi,T.up_TooMany,?_⟩;refine⟨_,rfl,_,_,_,_,rfl,⟨T.X_TooMany.c,ea,rfl,.inr ⟨dx2,_,xa,hd⟩⟩,T.is_TooMany_TooMany,_,rfl,qa5 ?_⟩;refine⟨_,rfl,_,_,_,_,rfl,⟨T.X_TooMany.c,ea,rfl,.inr ⟨dx2,_,xa,hd⟩⟩,T.is_TooMany_Unlike,_,rfl,qa5 ?_⟩;refine⟨_,rfl,ea,_,dx2,_,_,rfl,xa,hd,T.X_TooMany.c,T.n_TooMany_many,rfl,qk (Nat.le_of_ble_eq_true rfl),fun v fv=>?_⟩;exact kk v _ (S.trans (Same.new _ fv)) qc
     | unl p m =>
       intro ea dx2 G S fe fd hd xa;refine⟨_,ea,rfl,rfl,T.X_Unlike.c.xi,T.up_Unlike,?_⟩;refine⟨_,rfl,_,_,_,_,rfl,⟨T.X_Unlike.c,ea,rfl,.inr ⟨dx2,_,xa,hd⟩⟩,T.is_Unlike_TooMany,_,rfl,qcx (qcx ?_)⟩;refine⟨_,rfl,_,_,_,_,rfl,⟨T.X_Unlike.c,ea,rfl,.inr ⟨dx2,_,xa,hd⟩⟩,T.is_Unlike_Unlike,_,rfl,qa5 ?_⟩;refine⟨_,rfl,_,_,_,_,rfl,⟨T.X_Unlike.c,ea,rfl,.inr ⟨dx2,_,xa,hd⟩⟩,(show qce K a.c_Unlike (.ty "ValueError")=some true from rfl),_,rfl,qa5 ?_⟩;refine⟨_,rfl,ea,_,dx2,_,_,rfl,xa,hd,T.X_Unlike.c,T.n_Unlike_place,rfl,_,rfl,ea,_,dx2,_,_,rfl,xa,hd,T.X_Unlike.c,T.n_Unlike_moment,rfl,qk (Nat.le_of_ble_eq_true rfl),fun v fv=>?_⟩;exact kk v _ (S.trans (Same.new _ fv)) qc
   obtain⟨dz,hz⟩:=lo.hx;(try unfold qM);(try dsimp only);refine⟨_,rfl,z,dz,_,rfl,hz,rfl,z,td,ed,bl,ps,ns,zs,rfl,lo,fun l fl=>?_⟩;generalize hG:upd H1 l _=G1;obtain⟨Sl,el⟩:=qi hG fl;clear hG;refine⟨_,_,rfl,.inl ⟨_,SqL.of el,rfl⟩,?_⟩;refine⟨_,rfl,z,dz,_,rfl,Sl _ _ hz,rfl,z,td,ed,bl,ps,ns,zs,rfl,lo.sm Sl,fun l2 fl2=>?_⟩;generalize hG:upd G1 l2 _=G2;obtain⟨Sl2,el2⟩:=qi hG fl2;clear hG;have lo2:=(lo.sm Sl).sm Sl2;refine⟨_,_,rfl,.inl ⟨_,SqL.of el2,rfl⟩,?_⟩;refine⟨_,rfl,z,dz,_,rfl,Sl2 _ _ (Sl _ _ hz),rfl,z,td,ed,bl,ps,ns,zs,rfl,lo2,lp,fun l3 ss fl3 pm so=>?_⟩;generalize hG:upd G2 l3 _=G3;obtain⟨Sl3,el3⟩:=qi hG fl3;clear hG;refine⟨_,_,rfl,.inl ⟨_,SqL.of el3,rfl⟩,qk (Nat.le_of_ble_eq_true rfl),fun v fv=>?_⟩;subst eo;refine kk v _ ((S1.trans ((Sl.trans Sl2).trans Sl3)).trans (Same.new _ fv)) ?_;show upd G3 v _ v=_;rw[qc,List.length_map,List.length_map,List.length_map,pm.length_eq,List.length_map]
end
def POOL:List Str:=["q","bond","a","pq","p","zz","b","abc"]
def plc (x1 x2:Nat) (k:Nat):Str:=POOL.getD ((x1+k * (1+2 * x2)) % 8) ""
theorem qiY:∀ x1 < 8,∀ x2 < 4,((List.range 6).map (plc x1 x2)).Nodup:=by decide +kernel
theorem qiX:∀ n < 8,zV (.str (POOL.getD n ""))=true:=by decide +kernel
theorem qi8:∀ n < 4,atI ([1,3,5,7].map V.int) ((n:Nat):Int)=some (.int ((1+2 * n:Nat):Int)):=by decide +kernel
theorem qiJ:∀ n < 8,∃ m < 4,atI ([0,1,0,1,0,1,2,3].map V.int) ((n:Nat):Int)=some (.int ((m:Nat):Int)):=by decide +kernel
theorem qhD:∀ n < 8,atI (POOL.map V.str) ((n:Nat):Int)=some (.str (POOL.getD n "")):=by decide +kernel
theorem qh3 {u0 u1 u2 u3:V}:∀ n < 4,atI [u0,u1,u2,u3] ((n:Nat):Int)=some ([u0,u1,u2,u3].getD n .non)
 | 0,_=>rfl
 | 1,_=>rfl
 | 2,_=>rfl
 | 3,_=>rfl
structure D9 (H:Hp) (p:Addr) (xs:List Int):Prop where
 hp:H p=some (.lst (xs.map V.int))
 ln:xs.length=9
 bd:∀ (k:Nat) (f s:Int),xs[k]?=some f->([7,8,4,8,8,8,8,8,8]:List Int)[k]?=some s->0≤f∧f < s
theorem D9.ix {H:Hp}{q:Addr}{fs:List Int} (h:D9 H q fs) (k:Nat) {s:Int} (hs:([7,8,4,8,8,8,8,8,8]:List Int)[k]?=some s):∃ f:Nat,atI (fs.map V.int) (k:Int)=some (.int (f:Int))∧(f:Int) < s:=by
 have hk:k < fs.length:=by
   have:=(List.getElem?_eq_some_iff.mp hs).1
   rw[h.ln];exact this
 obtain⟨b1,b2⟩:=h.bd k _ s (List.getElem?_eq_getElem hk) hs;refine⟨fs[k].toNat,?_,by omega⟩;rw[Int.toNat_of_nonneg b1];exact Qc (by rw[List.getElem?_map,List.getElem?_eq_getElem hk];rfl)
theorem D9.more {H:Hp}{q:Addr}{fs:List Int} (h:D9 H q fs) {k:Nat} (hk:k < 6):∃ f:Nat,atI (fs.map V.int) (3+(k:Int))=some (.int (f:Int))∧f < 8:=by
 have e:([7,8,4,8,8,8,8,8,8]:List Int)[3+k]?=some 8:=by
   revert k
   decide +kernel
 obtain⟨f,h1,h2⟩:=h.ix (3+k) e;exact⟨f,by rw[show (3:Int)+(k:Int)=((3+k:Nat):Int) by omega];exact h1,by omega⟩
inductive jB (vs:List V) (H:Hp) (Q:VK):Prop
 | mk (p q:Addr) (xs:List Int) (a b c:Int) (h1:vs=[.ref p,.ref q]) (h2:D9 H p xs) (h3:Rs H q [(0,a),(b,c)]) (h4:(1≤b∧b≤400)) (h5:(-50≤a∧a≤50)) (h6:(-50≤c∧c≤50)) (h7:∀ (d:Addr) (ts:List Tt) (H':Hp),Same H H'->Lt H' d ts->Q (.ref d) H'):jB vs H Q
def qaf:Sp:=fun vs H Q _=>jB vs H Q
theorem qjl {a b c:Int} (hb:1≤b∧b≤400) (ha:-51≤a∧a≤51) (hc:-51≤c∧c≤51):Good [(0,a),(b,c)]:=by
 refine⟨Nat.le_of_ble_eq_true rfl,⟨a,rfl⟩,?_,?_⟩
 · unfold Asc;simp only[List.pairwise_cons,List.mem_cons,List.not_mem_nil,or_false,forall_eq,List.Pairwise.nil,and_true,false_implies,implies_true];omega
 · intro r m;simp only[List.mem_cons,List.not_mem_nil,or_false]at m;rcases m with rfl|rfl<;>(dsimp only;omega)
theorem qjk {a b c d:Int} (hb:1≤b∧b≤400) (ha:-51≤a∧a≤51) (hc:-51≤c∧c≤51) (hd:-51≤d∧d≤51):Good [(0,a),(b,c),(b+3,d)]:=by
 refine⟨Nat.le_of_ble_eq_true rfl,⟨a,rfl⟩,?_,?_⟩
 · unfold Asc;simp only[List.pairwise_cons,List.mem_cons,List.not_mem_nil,or_false,forall_eq_or_imp,forall_eq,List.Pairwise.nil,and_true,false_implies,implies_true];omega
 · intro r m;simp only[List.mem_cons,List.not_mem_nil,or_false]at m;rcases m with rfl|rfl|rfl<;>(dsimp only;omega)
theorem Rs.keep {H:Hp}{l q:Addr}{zs:List V}{rows:List (Int×Int)}{o:HO} (h:Rs H q rows) (hl:H l=some (.lst zs)) (n:q≠l):Rs (upd H l o) q rows:=by
 obtain⟨ws,hq,tq⟩:=h;refine⟨ws,by rw[qg n];exact hq,⟨tq.1,fun i z p e1 e2=>?_⟩⟩;obtain⟨t,r1,r2⟩:=tq.2 i z p e1 e2;exact⟨t,r1,by rw[qg (zi r2 hl (by intro z;cases z))];exact r2⟩
section
variable {P:Program}{w:World}{K:Frag}{mg:Str->Option Value}{base:Heap}
theorem qdK {a:Ad} (T:Txt K mg a):qx P w K mg base CX0 1 a.f_D a.fd_D ["_law_xs","_law_rows"] qaf:=by
 refine T.d_D.F.ok sc_Ltables (fun vs H Q E h=>?_) (fun cdv A outer s H vs Q E hr h=>?_)
 · obtain⟨p,q,xs,a,b,c,rfl,d9,rq,hb,ha,hc,kk⟩:=h;rfl
 · obtain⟨p,q,xs,a,b,c,rfl,d9,rq,hb,ha,hc,kk⟩:=h;have hU:=hr.units
   refine⟨_,(@qf _ _ _ _ _ (by exact(@qJ _ _ 2 _ _ _ _ (by exact sc_Ltables.nd) (by rfl) (by exact(Or.inl rfl)) (by exact(@qL _ _ _ _ (by exact(@qa _ _ _ _ _ (by exact zg) (by exact(@qa _ _ _ _ _ (by exact zg) (by exact(@qa _ _ _ _ _ (by exact zg) (by exact(@qa _ _ _ _ _ (by exact zg) (by exact(@qa _ _ _ _ _ (by exact zg) (by exact(@qa _ _ _ _ _ (by exact zg) (by exact(@qa _ _ _ _ _ (by exact zg) (by exact(@qa _ _ _ _ _ (by exact zg) (by exact(@qb _)) (by rfl))) (by rfl))) (by rfl))) (by rfl))) (by rfl))) (by rfl))) (by rfl))) (by rfl))))) (by rfl) (by exact .inl rfl)))
     (by exact(@qf _ _ _ _ _ (by exact(qJ (i:=3) sc_Ltables.nd rfl (Or.inl rfl) (qL qb)))
     (by exact(@qf _ _ _ _ _ (by exact(@q9 _ _ _ _ _ _ _ _ (by exact PassesOwn.never) (by rfl) (by exact(Qn rfl T.n_range (qa (qC (r:=rIx K) qq (pv 0) qd (fun _ _=>rfl)) qb))) (by exact(qt (i:=4) (sc_Ltables.nd) rfl (Or.inl rfl)))
       (by exact(@qf _ _ _ _ _ (by exact(@qJ _ _ 5 _ _ _ _ (by exact sc_Ltables.nd) (by rfl) (by exact(Or.inl rfl)) (by exact(@qC _ _ _ _ _ _ (rIx K) (by exact qq) (by exact(pv 2)) (by exact(@qA _ _ _ _ _ _ _ _ (by exact Qp) (by exact(@qA _ _ _ _ _ _ _ _ (by exact z8) (by exact(qC (r:=rIx K) qq (pv 0) qd (fun _ _=>rfl))) (by exact(@qA _ _ _ _ _ _ _ _ (by exact Z7) (by exact(pv 4)) (by exact(@qC _ _ _ _ _ _ (rIx K) (by exact qq) (by exact(@qL _ _ _ _ (by exact(@qa _ _ _ _ _ (by exact qd) (by exact(@qa _ _ _ _ _ (by exact qd) (by exact(@qa _ _ _ _ _ (by exact qd) (by exact(@qa _ _ _ _ _ (by exact qd) (by exact(@qb _)) (by rfl))) (by rfl))) (by rfl))) (by rfl))))) (by exact(qC (r:=rIx K) qq (pv 0) qd (fun _ _=>rfl))) (by exact fun _ _=>rfl))))))) (by exact qd))) (by exact fun _ _=>rfl))) (by rfl) (by exact .inl rfl)))
       (by exact(@qf _ _ _ _ _ (by exact(qgT (qC (r:=rIx K) qq (pv 1) (qdD qab qd) (fun _ _=>rfl)) (Qo rfl (qE (qt (i:=6) (sc_Ltables.nd) rfl (Or.inl rfl)) (qE (qt (i:=7) (sc_Ltables.nd) rfl (Or.inl rfl)) zw)))))
       (by exact(@qf _ _ _ _ _ (by exact(@qJ _ _ 8 _ _ _ _ (by exact sc_Ltables.nd) (by rfl) (by exact(Or.inl rfl)) (by exact(@qL _ _ _ _ (by exact(@qa _ _ _ _ _ (by exact(pv 1)) (by exact(@qa _ _ _ _ _ (by exact(@qA _ _ _ _ _ _ _ _ (by exact z8) (by exact(pv 1)) (by exact(@qL _ _ _ _ (by exact(@qa _ _ _ _ _ (by exact(@ze _ _ _ _ _ (by exact(@qa _ _ _ _ _ (by exact(qA z8 (pv 6) qd)) (by exact(@qa _ _ _ _ _ (by exact(pv 7)) (by exact(@qb _)) (by rfl))) (by rfl))))) (by exact(@qb _)) (by rfl))))))) (by exact(@qa _ _ _ _ _ (by exact(@qA _ _ _ _ _ _ _ _ (by exact z8) (by exact(pv 1)) (by exact(@qL _ _ _ _ (by exact(@qa _ _ _ _ _ (by exact(@ze _ _ _ _ _ (by exact(@qa _ _ _ _ _ (by exact(qA z8 (pv 6) qd)) (by exact(@qa _ _ _ _ _ (by exact(qA z8 (pv 7) qd)) (by exact(@qb _)) (by rfl))) (by rfl))))) (by exact(@qb _)) (by rfl))))))) (by exact(@qa _ _ _ _ _ (by exact(@qA _ _ _ _ _ _ _ _ (by exact z8) (by exact(@qL _ _ _ _ (by exact(@qa _ _ _ _ _ (by exact(@ze _ _ _ _ _ (by exact(@qa _ _ _ _ _ (by exact qd) (by exact(@qa _ _ _ _ _ (by exact(qA z8 (qC (r:=rIx K) qq (qC (r:=rIx K) qq (pv 1) qd (fun _ _=>rfl)) qd (fun _ _=>rfl)) qd)) (by exact(@qb _)) (by rfl))) (by rfl))))) (by exact(@qb _)) (by rfl))))) (by exact(zD uSl (pv 1) (zl qd) Jp)))) (by exact(@qb _)) (by rfl))) (by rfl))) (by rfl))) (by rfl))))) (by rfl) (by exact .inl rfl)))
       (by exact(@qe _ _ _ (by exact(qF (qcq PySem.F.plainAttrs_list PySem.F.slot_list_append PySem.F.type_list_append zG (pv 3) (qa (ze (qa (pv 5) (qa (qC (r:=rIx K) qq (pv 8) (@qC _ _ _ _ _ _ (rIx K) (by exact qq) (by exact(@qL _ _ _ _ (by exact(@qa _ _ _ _ _ (by exact qd) (by exact(@qa _ _ _ _ _ (by exact qd) (by exact(@qa _ _ _ _ _ (by exact qd) (by exact(@qa _ _ _ _ _ (by exact qd) (by exact(@qa _ _ _ _ _ (by exact qd) (by exact(@qa _ _ _ _ _ (by exact qd) (by exact(@qa _ _ _ _ _ (by exact qd) (by exact(@qa _ _ _ _ _ (by exact qd) (by exact(@qb _)) (by rfl))) (by rfl))) (by rfl))) (by rfl))) (by rfl))) (by rfl))) (by rfl))) (by rfl))))) (by exact(qC (r:=rIx K) qq (pv 0) (qA z8 qd (pv 4)) (fun _ _=>rfl))) (by exact fun _ _=>rfl)) (fun _ _=>rfl)) qb))) qb)))))))))))) (by intro _;rfl)))
     (by exact(qe (qu (pv 3))))))))),?_⟩
   try dsimp only [qY,Cx.nox]
   obtain⟨u0,u1,hq,hu0,hu1⟩:∃ u0 u1,H q=some (.lst [.ref u0,.ref u1])∧H u0=some (.tup [.int 0,.int a])∧H u1=some (.tup [.int b,.int c]):=by
     obtain⟨zr,hq,tr⟩:=id rq
     match zr,hq,tr with
     | [y0,y1],hq,tr =>
       obtain⟨u0,rfl,h0⟩:=tr.2 0 y0 (0,a) rfl rfl;obtain⟨u1,rfl,h1⟩:=tr.2 1 y1 (b,c) rfl rfl;exact⟨u0,u1,hq,h0,h1⟩
     | [],_,tr=>exact absurd tr.1 (by simp)
     | [_],_,tr=>exact absurd tr.1 (by simp)
     | _::_::_::_,_,tr=>exact absurd tr.1 (by simp)
   obtain⟨x0,at0,bx0⟩:=d9.ix 0 rfl;obtain⟨x1,at1,bx1⟩:=d9.ix 1 rfl;obtain⟨x2,at2,bx2⟩:=d9.ix 2 rfl;refine⟨qk (Nat.le_of_ble_eq_true rfl),fun lp flp=>?_⟩;generalize hG:upd H lp _=H1;obtain⟨S1,elp⟩:=qi hG flp;clear hG;(try unfold qM);(try dsimp only);refine⟨Nat.zero_le _,fun lt flt=>?_⟩;generalize hG:upd H1 lt _=H2;obtain⟨S2,elt⟩:=qi hG flt;clear hG;(try unfold qM);(try dsimp only);have S02:=S1.trans S2;refine qV (t:=qd5 _ _ _) (fun σ' H'=>∃ (s4 s5 s6 s7 s8:Option V) (zs:List V) (ts:List Tt),σ'=[some (.ref p),some (.ref q),some (.ref lp),some (.ref lt),s4,s5,s6,s7,s8]∧Same H H'∧H' lt=some (.lst zs)∧TupL prT H' zs ts∧ts.map (·.1)=(List.range x0).map (plc x1 x2)∧∀ t∈ts,Rs H' t.2.1 t.2.2∧Good t.2.2∧zV (.str t.1)=true) (fun N hN=>?_) ?_
   case refine_2 =>
     rintro _ H3 ⟨s4,s5,s6,s7,s8,zs,ts,rfl,S3,hl,tz,et,ht⟩
     have l6:ts.length=x0:=by
       have:=congrArg List.length et
       rw[List.length_map,List.length_map,List.length_range]at this;exact this
     refine⟨_,rfl,kk lt ts H3 S3 ⟨⟨zs,hl,tz⟩,ht,?_,by omega⟩⟩;rw[et];refine(qiY x1 (by omega) x2 (by omega)).sublist (List.Sublist.map _ ?_);rw[show List.range x0=(List.range 6).take x0 by rw[List.take_range,Nat.min_eq_left (by omega)]];exact List.take_sublist _ _
   refine⟨_,rfl,.inl ⟨p,_,_,_,rfl,rfl,SqL.of (S02 _ _ d9.hp),at0,_,rfl,by omega,by omega,?_⟩⟩;refine jb (lo:=0) (n:=x0) (D:={ nx:=N,rt:=Q }) (fun j σ H'=>∃ (s4 s5 s6 s7 s8:Option V) (zs:List V) (ts:List Tt),σ=[some (.ref p),some (.ref q),some (.ref lp),some (.ref lt),s4,s5,s6,s7,s8]∧Same H1 H'∧H' lt=some (.lst zs)∧TupL prT H' zs ts∧ts.map (·.1)=(List.range j).map (plc x1 x2)∧∀ t∈ts,(Rs H' t.2.1 t.2.2∧t.2.1≠lt)∧Good t.2.2∧zV (.str t.1)=true) ⟨_,_,_,_,_,[],[],rfl,S2,elt,.nil,rfl,fun _ m=>nomatch m⟩ ?_ ?_
   case refine_2 =>
     rintro σ H3 ⟨s4,s5,s6,s7,s8,zs,ts,rfl,S3,hl,tz,et,ht⟩;exact hN _ _ ⟨_,_,_,_,_,zs,ts,rfl,S1.trans S3,hl,tz,et,fun t m=>⟨(ht t m).1.1,(ht t m).2⟩⟩
   rintro k σ H3 hk ⟨s4,s5,s6,s7,s8,zs,ts,rfl,S13,hl,tz,et,ht⟩;have S3:=S1.trans S13
   have lts:ts.length=k:=by
     have:=congrArg List.length et
     rw[List.length_map,List.length_map,List.length_range]at this;exact this
   have lzs:=tz.1;obtain⟨x3,at3,bx3⟩:=d9.more (k:=k) (by omega);refine⟨_,rfl,_,rfl,.inl ⟨p,_,_,_,rfl,rfl,SqL.of (S3 _ _ d9.hp),at1,_,rfl,qk (Nat.le_of_ble_eq_true rfl),fun l4 fl4=>?_⟩⟩;generalize hG:upd H3 l4 _=H4;obtain⟨S4,el4⟩:=qi hG fl4;clear hG;have S34:=S3.trans S4
   have ev:((x1:Int)+(0+(k:Int)) * ((1+2 * x2:Nat):Int)) % 8=(((x1+k * (1+2 * x2)) % 8:Nat):Int):=by
     rw[Int.zero_add]
     exact_mod_cast rfl
   refine⟨_,rfl,.inl ⟨p,_,_,_,rfl,rfl,SqL.of (S34 _ _ d9.hp),at2,.inl ⟨l4,_,_,_,rfl,rfl,SqL.of el4,qi8 x2 (by omega),_,_,rfl,rfl,.inr ⟨by omega,by omega⟩,.inl ⟨_,_,rfl,rfl,_,_,rfl,rfl,(by show (0:Int) < 8;decide),.inl ⟨lp,_,_,_,rfl,rfl,SqL.of (S4 _ _ (S13 _ _ elp)),(by rw[ev];exact qhD _ (Nat.mod_lt _ (by decide))),?_⟩⟩⟩⟩⟩;(try unfold qM);(try dsimp only);refine⟨_,rfl,_,rfl,.inl ⟨q,_,_,_,rfl,rfl,SqL.of (S34 _ _ hq),rfl,u1,_,rfl,SqT.of (S34 _ _ hu1),rfl,_,_,rfl,_,_,rfl,rfl,?_⟩⟩;(try unfold qM);(try dsimp only);refine⟨_,rfl,_,rfl,_,rfl,.inl ⟨_,_,rfl,rfl,_,rfl,qk (Nat.le_of_ble_eq_true rfl),fun t1 ft1=>?_⟩⟩;generalize hG:upd H4 t1 _=H5;obtain⟨S5,e5⟩:=qi hG ft1;clear hG;refine⟨qk (Nat.le_of_ble_eq_true rfl),fun l1 fl1=>?_⟩;generalize hG:upd H5 l1 _=H6;obtain⟨S6,e6⟩:=qi hG fl1;clear hG;have S46:=S5.trans S6;refine .inr (.inl ⟨q,l1,_,_,rfl,rfl,S46 _ _ (S34 _ _ hq),e6,qk (Nat.le_of_ble_eq_true rfl),fun r1 fr1=>?_⟩);generalize hG:upd H6 r1 _=H7;obtain⟨S7,e7⟩:=qi hG fr1;clear hG;have S47:=S46.trans S7;refine⟨_,rfl,_,rfl,.inl ⟨_,_,rfl,rfl,_,rfl,.inl ⟨_,_,rfl,rfl,qk (Nat.le_of_ble_eq_true rfl),fun t2 ft2=>?_⟩⟩⟩;generalize hG:upd H7 t2 _=H8;obtain⟨S8,e8⟩:=qi hG ft2;clear hG;refine⟨qk (Nat.le_of_ble_eq_true rfl),fun l2 fl2=>?_⟩;generalize hG:upd H8 l2 _=H9;obtain⟨S9,e9⟩:=qi hG fl2;clear hG;have S49:=S47.trans (S8.trans S9);refine .inr (.inl ⟨q,l2,_,_,rfl,rfl,S49 _ _ (S34 _ _ hq),e9,qk (Nat.le_of_ble_eq_true rfl),fun r2 fr2=>?_⟩);generalize hG:upd H9 r2 _=Ha;obtain⟨Sa,ea⟩:=qi hG fr2;clear hG;have S4a:=S49.trans Sa;have S3a:=S34.trans S4a;refine⟨_,rfl,.inl ⟨q,_,_,_,rfl,rfl,SqL.of (S3a _ _ hq),rfl,.inr (.inl ⟨u0,_,_,_,rfl,rfl,SqT.of (S3a _ _ hu0),rfl,.inl ⟨_,_,rfl,rfl,qk (Nat.le_of_ble_eq_true rfl),fun t4 ft4=>?_⟩⟩)⟩⟩;generalize hG:upd Ha t4 _=Hb;obtain⟨Sb,eb⟩:=qi hG ft4;clear hG;refine⟨qk (Nat.le_of_ble_eq_true rfl),fun l5 fl5=>?_⟩;generalize hG:upd Hb l5 _=Hc;obtain⟨Sc,ec⟩:=qi hG fl5;clear hG;have S3c:=S3a.trans (Sb.trans Sc);refine⟨_,rfl,_,rfl,.inl ⟨q,_,rfl,SqL.of (S3c _ _ hq),fun l6 fl6=>?_⟩⟩;generalize hG:upd Hc l6 _=Hd;obtain⟨Sd,ed⟩:=qi hG fl6;clear hG;refine .inr (.inl ⟨l5,l6,_,_,rfl,rfl,Sd _ _ ec,ed,qk (Nat.le_of_ble_eq_true rfl),fun r4 fr4=>?_⟩);generalize hG:upd Hd r4 _=He;obtain⟨Se,ee⟩:=qi hG fr4;clear hG;refine⟨qk (Nat.le_of_ble_eq_true rfl),fun ls fls=>?_⟩;generalize hG:upd He ls _=Hf;obtain⟨Sf,ef⟩:=qi hG fls;clear hG;(try unfold qM);(try dsimp only);have S4f:Same H4 Hf:=S4a.trans ((Sb.trans (Sc.trans Sd)).trans (Se.trans Sf));have hlf:Hf lt=some (.lst zs):=S4f _ _ (S4 _ _ hl);refine⟨_,rfl,.inl ⟨rfl,_,SqL.of hlf⟩,_,rfl,_,rfl,qk (Nat.le_of_ble_eq_true rfl),fun l8 fl8=>?_⟩;generalize hG:upd Hf l8 _=Hg;obtain⟨Sg,eg⟩:=qi hG fl8;clear hG;obtain⟨m,bm,hm⟩:=qiJ x3 bx3;refine⟨_,rfl,_,rfl,.inl ⟨_,_,rfl,rfl,.inl ⟨p,_,_,_,rfl,rfl,SqL.of (Sg _ _ (S4f _ _ (S34 _ _ d9.hp))),(by rw[Int.zero_add];exact at3),.inl ⟨l8,_,_,_,rfl,rfl,SqL.of eg,hm,.inl ⟨ls,_,_,_,rfl,rfl,SqL.of (Sg _ _ ef),qh3 m bm,?_⟩⟩⟩⟩⟩;have Seg:=Se.trans (Sf.trans Sg);have Sag:=(Sb.trans (Sc.trans Sd)).trans Seg
   have nlt:∀ (G:Hp) (r:Addr),Same H4 G->G r=none->r≠lt:=fun _ _ s f z=>by
     have:=s _ _ (S4 _ _ hl)
     rw[← z,f]at this;cases this
   have fin:∃ ad rw,([V.ref q,V.ref r1,V.ref r2,V.ref r4].getD m .non)=.ref ad∧Rs Hg ad rw∧Good rw∧ad≠lt:=by
     have w0:Hg u0=some (.tup (pr (0,a))):=Sag _ _ (S3a _ _ hu0);have w1:Hg u1=some (.tup (pr (b,c))):=Sag _ _ (S3a _ _ hu1)
     match m,bm with
     | 0,_=>exact⟨q,_,rfl,rq.same (S3a.trans Sag),qjl hb (by omega) (by omega),fun z=>by have:=S1 _ _ hq;rw[z,flt]at this;cases this⟩
     | 1,_=>exact⟨r1,[(0,a),(b,c),(b+3,c)],rfl,⟨_,Sag _ _ ((S8.trans (S9.trans Sa)) _ _ e7),((TupL.nil.snoc w0).snoc w1).snoc (p:=(b+3,c)) (Sag _ _ ((S6.trans (S7.trans (S8.trans (S9.trans Sa)))) _ _ e5))⟩,qjk hb (by omega) (by omega) (by omega),nlt _ _ S46 fr1⟩
     | 2,_=>exact⟨r2,[(0,a),(b,c),(b+3,c+1)],rfl,⟨_,Sag _ _ ea,((TupL.nil.snoc w0).snoc w1).snoc (p:=(b+3,c+1)) (Sag _ _ ((S9.trans Sa) _ _ e8))⟩,qjk hb (by omega) (by omega) (by omega),nlt _ _ S49 fr2⟩
     | 3,_=>exact⟨r4,[(0,a+1),(b,c)],rfl,⟨_,(Sf.trans Sg) _ _ ee,(TupL.nil.snoc (p:=(0,a+1)) ((Sc.trans (Sd.trans Seg)) _ _ eb)).snoc w1⟩,qjl hb (by omega) (by omega),nlt _ _ (S4a.trans (Sb.trans (Sc.trans Sd))) fr4⟩
   obtain⟨ad,rw_,ead,rad,gad,nad⟩:=fin;rw[ead];refine⟨qk (Nat.le_of_ble_eq_true rfl),fun tt ftt=>?_⟩;generalize hG:upd Hg tt _=Hh;obtain⟨Sh,eh⟩:=qi hG ftt;clear hG;have S3h:Same H3 Hh:=S4.trans (S4f.trans (Sg.trans Sh));refine⟨lt,_,_,rfl,rfl,S3h _ _ hl,qD (by omega),?_⟩;refine⟨_,_,_,_,_,_,ts++[(plc x1 x2 k,ad,rw_)],rfl,(S13.trans S3h).put flt _,qc,((tz.same S3h).snoc (p:=(plc x1 x2 k,ad,rw_)) eh).put (S3h _ _ hl),?_,fun t mt=>?_⟩
   · rw[List.map_append,et,List.range_succ,List.map_append];rfl
   · rcases List.mem_append.mp mt with mt|mt
     · obtain⟨⟨q1,q2⟩,q3⟩:=ht t mt;exact⟨⟨(q1.same S3h).keep (S3h _ _ hl) q2,q2⟩,q3⟩
     · rw[List.mem_singleton.mp mt];exact⟨⟨(rad.same Sh).keep (S3h _ _ hl) nad,nad⟩,gad,qiX _ (Nat.mod_lt _ (by decide))⟩
end
def SZ:List Int:=[101,400,101,7,8,4,8,8,8,8,8,8,7,8,4,8,8,8,8,8,8,7,61,7,61,7,61,30,30,9,9,7,101,7,101]
structure Dr (H:Hp) (q:Addr) (fs:List Int):Prop where
 hq:H q=some (.lst (fs.map V.int))
 ln:fs.length=35
 bd:∀ (k:Nat) (f s:Int),fs[k]?=some f->SZ[k]?=some s->0≤f∧f < s
theorem Dr.ix {H:Hp}{q:Addr}{fs:List Int} (h:Dr H q fs) (k:Nat) {s:Int} (hs:SZ[k]?=some s):∃ f:Nat,atI (fs.map V.int) (k:Int)=some (.int (f:Int))∧(f:Int) < s:=by
 have hk:k < fs.length:=by
   have:=(List.getElem?_eq_some_iff.mp hs).1
   rw[h.ln];exact this
 obtain⟨b1,b2⟩:=h.bd k _ s (List.getElem?_eq_getElem hk) hs;refine⟨fs[k].toNat,?_,by omega⟩;rw[Int.toNat_of_nonneg b1];exact Qc (by rw[List.getElem?_map,List.getElem?_eq_getElem hk];rfl)
theorem JN (xs:List Int) (i j:Nat) (h1:i≤j) (h2:j≤xs.length):ju (xs.map V.int) (some (i:Int)) (some (j:Int))=((xs.drop i).take (j - i)).map V.int:=by
 have e:∀ k:Nat,k≤xs.length->∀ d,HT.sIx (xs.map V.int).length d (some (k:Int))=k:=fun k hk d=>by
   rw[HT.sIx_nat,List.length_map];exact Nat.min_eq_left hk
 unfold ju;rw[e i (by omega),e j h2,List.map_take,List.map_drop]
theorem Dr.cut9 {H H':Hp}{q l:Addr}{fs:List Int} (h:Dr H q fs) (i:Nat) (hi:i=3∨i=12) (hl:H' l=some (.lst (((fs.drop i).take 9).map V.int))):D9 H' l ((fs.drop i).take 9):=by
 refine⟨hl,?_,fun k f s e1 e2=>?_⟩
 · rw[List.length_take,List.length_drop,h.ln];rcases hi with rfl|rfl<;>rfl
 · have hk:k < 9:=(List.getElem?_eq_some_iff.mp e2).1;rw[List.getElem?_take_of_lt hk,List.getElem?_drop]at e1;refine h.bd (i+k) f s e1 ?_;rw[← e2];clear e1 e2
   revert k
   rcases hi with rfl|rfl<;>decide +kernel
inductive qai (a:Ad) (vs:List V) (H:Hp) (Q:VK):Prop
 | mk (q:Addr) (xs:List Int) (h1:vs=[.ref q]) (h2:Dr H q xs) (h3:∀ (v p1 p2:Addr) (ts us:List Tt) (es fs:List Et) (H':Hp),Same H H'->H' v=some (.tup [.ref p1,.ref p2])->Sd a H' p1 ts es->Sd a H' p2 us fs->Q (.ref v) H'):qai a vs H Q
def qcR (a:Ad):Sp:=fun vs H Q _=>qai a vs H Q
theorem EnT.keep {a:Ad}{H:Hp}{D:Addr}{zs:List V}{o:HO}{e:Et} (h:EnT a H e) (hD:H D=some (.lst zs)) (n:∀ l ps,e.j=some (l,ps)->l≠D):EnT a (upd H D o) e:=by
 have kw:∀ p m,Wt a H p m->Wt a (upd H D o) p m:=fun p m w=>by
   cases w with
   | within e=>exact .within (by rw[qg (zi e hD (by intro z;cases z))];exact e)
   | at_ e=>exact .at_ (by rw[qg (zi e hD (by intro z;cases z))];exact e)
 cases h with
 | at_ e=>exact .at_ (by rw[qg (zi e hD (by intro z;cases z))];exact e)
 | jn e1 e2 h0 h8 w=>exact .jn (by rw[qg (zi e1 hD (by intro z;cases z))];exact e1) (by rw[qg (n _ _ rfl)];exact e2) h0 h8 fun p m=>let ⟨k,z⟩:=w p m;⟨k,kw p k z⟩
theorem qjd {a:Ad}{H:Hp}{D:Addr}{es:List Et}{lo n:Nat} (hD:H D=some (.lst (es.map fun e=>V.ref e.x))) (en:∀ e∈es,EnT a H e) (nm:es.map (·.nm)=(List.range n).map fun i=>wd (lo+i)) (hn:n≤60) (hl:lo+n≤120):Le a H D es:=by
 have ln:es.length=n:=by
   have:=congrArg List.length nm
   rw[List.length_map,List.length_map,List.length_range]at this;exact this
 refine⟨hD,fun e m=>⟨en e m,?_⟩,?_,by omega⟩
 · have m':e.nm∈(List.range n).map fun i=>wd (lo+i):=by rw[← nm];exact List.mem_map_of_mem m
   obtain⟨i,mi,ei⟩:=List.mem_map.mp m'
   have:=List.mem_range.mp mi
   rw[← ei];exact qip (by omega)
 · rw[nm];refine List.Pairwise.map _ (R:=fun i j=>i≠j) (fun i j ne e=>ne ?_) List.nodup_range
   have:=qiq e
   omega
section
variable {P:Program}{w:World}{K:Frag}{mg:Str->Option Value}{base:Heap}
theorem qgb {a:Ad} (T:Txt K mg a):qx P w K mg base CX0 10 a.f_3 a.fd_3 ["_law_xs"] (qcR a):=by
 have G_d:=qdj (P:=P) (w:=w) (base:=base) T;have G_E:=qeW (P:=P) (w:=w) (base:=base) T;have G_D:=qdK (P:=P) (w:=w) (base:=base) T;refine T.d_3.F.ok sc_Lpair (fun vs H Q E h=>?_) (fun cdv A outer s H vs Q E hr h=>?_)
 · obtain⟨q,xs,rfl,dr,kk⟩:=h;rfl
 · obtain⟨q,xs,rfl,dr,kk⟩:=h;have h_d:Room (1) _:=hr.mono (by decide);have h_E:Room (9) _:=hr.mono (by decide);have h_D:Room (1) _:=hr.mono (by decide)
   refine⟨_,(@qf _ _ _ _ _ (by exact(@qJ _ _ 1 _ _ _ _ (by exact sc_Lpair.nd) (by rfl) (by exact(Or.inl rfl)) (by exact(@qL _ _ _ _ (by exact(@qa _ _ _ _ _ (by exact(@ze _ _ _ _ _ (by exact(@qa _ _ _ _ _ (by exact qd) (by exact(@qa _ _ _ _ _ (by exact(qA QJ (qC (r:=rIx K) qq (pv 0) qd (fun _ _=>rfl)) qd)) (by exact(@qb _)) (by rfl))) (by rfl))))) (by exact(@qa _ _ _ _ _ (by exact(@ze _ _ _ _ _ (by exact(@qa _ _ _ _ _ (by exact(qA z8 qd (qC (r:=rIx K) qq (pv 0) qd (fun _ _=>rfl)))) (by exact(@qa _ _ _ _ _ (by exact(qA QJ (qC (r:=rIx K) qq (pv 0) qd (fun _ _=>rfl)) qd)) (by exact(@qb _)) (by rfl))) (by rfl))))) (by exact(@qb _)) (by rfl))) (by rfl))))) (by rfl) (by exact .inl rfl)))
     (by exact(@qf _ _ _ _ _ (by exact(@qJ _ _ 2 _ _ _ _ (by exact sc_Lpair.nd) (by rfl) (by exact(Or.inl rfl)) (by exact(qm G_d h_d rfl T.d_d.m T.d_d.k T.d_d.b .nil qp (qa (qC (r:=rIx K) qq (pv 0) qd (fun _ _=>rfl)) (qa (qC (r:=rIx K) qq (pv 0) qd (fun _ _=>rfl)) (qa (qL (qa qd (qa qd (qa qd (qa qd (qa qd qb)))))) qb))))) (by rfl) (by exact .inl rfl)))
     (by exact(@qf _ _ _ _ _ (by exact(@qJ _ _ 3 _ _ _ _ (by exact sc_Lpair.nd) (by rfl) (by exact(Or.inl rfl)) (by exact(qm G_d h_d rfl T.d_d.m T.d_d.k T.d_d.b .nil qp (qa (qC (r:=rIx K) qq (pv 0) qd (fun _ _=>rfl)) (qa (qC (r:=rIx K) qq (pv 0) qd (fun _ _=>rfl)) (qa (qL (qa qd (qa qd (qa qd (qa qd (qa qd qb)))))) qb))))) (by rfl) (by exact .inl rfl)))
     (by exact(@qf _ _ _ _ _ (by exact(@qJ _ _ 4 _ _ _ _ (by exact sc_Lpair.nd) (by rfl) (by exact(Or.inl rfl)) (by exact(ql (r:=qiR) (qfB rfl) (by rfl) T.n_min JQ (qa (pv 2) (qa (pv 3) (qa (qm G_d h_d rfl T.d_d.m T.d_d.k T.d_d.b .nil qp (qa (qC (r:=rIx K) qq (pv 0) qd (fun _ _=>rfl)) (qa (qC (r:=rIx K) qq (pv 0) qd (fun _ _=>rfl)) (qa (qL (qa qd (qa qd (qa qd (qa qd (qa qd qb)))))) qb)))) qb))))) (by rfl) (by exact .inl rfl)))
     (by exact(@qf _ _ _ _ _ (by exact(qeH (i:=5) sc_Lpair.nd rfl (Or.inl rfl) rfl (CompOk.def ["_law_k","_law_xs"] [none,some 0]) (Qn rfl T.n_range (qa (pv 2) qb)) (fun _ _ _ _ _=>(qt (i:=0) (show List.Nodup (["_law_k","_law_xs"]:List Str) by decide +kernel) rfl (Or.inl rfl))) (fun _ _ _ _ _=>zU) (fun _ _ _ _ _=>(qm G_E h_E rfl T.d_E.m T.d_E.k T.d_E.b .nil qp (qa (pv 0) (qa (zD (show SlR _ (fun x lo hi H Q=>qig K x lo hi H Q∨qif x lo hi H Q) from uSl) (pv 1) (zl qd) (zl qd)) (qa (qC (r:=rIx K) qq (pv 1) qd (fun _ _=>rfl)) qb)))))))
     (by exact(@qf _ _ _ _ _ (by exact(qeH (i:=6) sc_Lpair.nd rfl (Or.inl rfl) rfl (CompOk.def ["_law_k","_law_xs"] [none,some 0]) (qeK rfl T.n_range (qa (qA QJ (pv 2) (pv 4)) (qa (qA z8 (qA QJ (pv 2) (pv 4)) (pv 3)) qb))) (fun _ _ _ _ _=>(qt (i:=0) (show List.Nodup (["_law_k","_law_xs"]:List Str) by decide +kernel) rfl (Or.inl rfl))) (fun _ _ _ _ _=>zU) (fun _ _ _ _ _=>(qm G_E h_E rfl T.d_E.m T.d_E.k T.d_E.b .nil qp (qa (pv 0) (qa (zD (show SlR _ (fun x lo hi H Q=>qig K x lo hi H Q∨qif x lo hi H Q) from uSl) (pv 1) (zl qd) (zl qd)) (qa (qC (r:=rIx K) qq (pv 1) qd (fun _ _=>rfl)) qb)))))))
     (by exact(@qe _ _ _ (by exact(@qu _ _ _ _ (by exact(@ze _ _ _ _ _ (by exact(@qa _ _ _ _ _ (by exact(@ze _ _ _ _ _ (by exact(@qa _ _ _ _ _ (by exact(qm G_D h_D rfl T.d_D.m T.d_D.k T.d_D.b .nil qp (qa (zD (show SlR _ (fun x lo hi H Q=>qig K x lo hi H Q∨qif x lo hi H Q) from uSl) (pv 0) (zl qd) (zl qd)) (qa (pv 1) qb)))) (by exact(@qa _ _ _ _ _ (by exact(pv 5)) (by exact(@qb _)) (by rfl))) (by rfl))))) (by exact(@qa _ _ _ _ _ (by exact(@ze _ _ _ _ _ (by exact(@qa _ _ _ _ _ (by exact(qm G_D h_D rfl T.d_D.m T.d_D.k T.d_D.b .nil qp (qa (zD (show SlR _ (fun x lo hi H Q=>qig K x lo hi H Q∨qif x lo hi H Q) from uSl) (pv 0) (zl qd) (zl qd)) (qa (pv 1) qb)))) (by exact(@qa _ _ _ _ _ (by exact(pv 6)) (by exact(@qb _)) (by rfl))) (by rfl))))) (by exact(@qb _)) (by rfl))) (by rfl)))))))))))))))))))),?_⟩
   try dsimp only [qY,Cx.nox]
   obtain⟨x0,at0,bx0⟩:=dr.ix 0 (s:=101) rfl;obtain⟨x1,at1,bx1⟩:=dr.ix 1 (s:=400) rfl;obtain⟨x2,at2,bx2⟩:=dr.ix 2 (s:=101) rfl;obtain⟨x21,at21,bx21⟩:=dr.ix 21 (s:=7) rfl;obtain⟨x22,at22,bx22⟩:=dr.ix 22 (s:=61) rfl;obtain⟨x23,at23,bx23⟩:=dr.ix 23 (s:=7) rfl;obtain⟨x24,at24,bx24⟩:=dr.ix 24 (s:=61) rfl;obtain⟨x25,at25,bx25⟩:=dr.ix 25 (s:=7) rfl;obtain⟨x26,at26,bx26⟩:=dr.ix 26 (s:=61) rfl;obtain⟨x29,at29,bx29⟩:=dr.ix 29 (s:=9) rfl;obtain⟨x30,at30,bx30⟩:=dr.ix 30 (s:=9) rfl;have S0:=Same.refl H;refine⟨_,rfl,.inl ⟨q,_,_,_,rfl,rfl,SqL.of (S0 _ _ dr.hq),at0,_,_,rfl,rfl,qk (Nat.le_of_ble_eq_true rfl),fun t0 ft0=>?_⟩⟩;generalize hG:upd H t0 _=H1;obtain⟨S1,e1⟩:=qi hG ft0;clear hG;refine⟨_,rfl,.inl ⟨q,_,_,_,rfl,rfl,SqL.of (S1 _ _ dr.hq),at1,.inl ⟨_,_,rfl,rfl,_,rfl,.inl ⟨q,_,_,_,rfl,rfl,SqL.of (S1 _ _ dr.hq),at2,_,_,rfl,rfl,qk (Nat.le_of_ble_eq_true rfl),fun t1 ft1=>?_⟩⟩⟩⟩;generalize hG:upd H1 t1 _=H2;obtain⟨S2,e2⟩:=qi hG ft1;clear hG;refine⟨qk (Nat.le_of_ble_eq_true rfl),fun lr flr=>?_⟩;generalize hG:upd H2 lr _=H3;obtain⟨S3,e3⟩:=qi hG flr;clear hG;(try unfold qM);(try dsimp only);have S03:=S1.trans (S2.trans S3);have rq:Rs H3 lr [(0,(x0:Int) - 50),(1+(x1:Int),(x2:Int) - 50)]:=⟨_,e3,(TupL.nil.snoc (p:=(0,(x0:Int) - 50)) ((S2.trans S3) _ _ e1)).snoc (p:=(1+(x1:Int),(x2:Int) - 50)) (S3 _ _ e2)⟩
   refine⟨_,rfl,.inl ⟨q,_,_,_,rfl,rfl,SqL.of (S03 _ _ dr.hq),at21,_,rfl,.inl ⟨q,_,_,_,rfl,rfl,SqL.of (S03 _ _ dr.hq),at22,qk (Nat.le_of_ble_eq_true rfl),fun l4 fl4=>?_⟩⟩⟩;generalize hG:upd H3 l4 _=H4;obtain⟨S4,e4⟩:=qi hG fl4;clear hG;refine⟨_,_,l4,[0,1,30,59,60],60,rfl,e4,by omega,by omega,by omega,by decide,fun mi mi0 mi1=>?_⟩;obtain⟨mn,rfl⟩:=Int.eq_ofNat_of_zero_le mi0;(try unfold qM);(try dsimp only);have S04:=S03.trans S4;refine⟨_,rfl,.inl ⟨q,_,_,_,rfl,rfl,SqL.of (S04 _ _ dr.hq),at23,_,rfl,.inl ⟨q,_,_,_,rfl,rfl,SqL.of (S04 _ _ dr.hq),at24,qk (Nat.le_of_ble_eq_true rfl),fun l5 fl5=>?_⟩⟩⟩;generalize hG:upd H4 l5 _=H5;obtain⟨S5,e5⟩:=qi hG fl5;clear hG;refine⟨_,_,l5,[0,1,30,59,60],60,rfl,e5,by omega,by omega,by omega,by decide,fun oi oi0 oi1=>?_⟩;obtain⟨on,rfl⟩:=Int.eq_ofNat_of_zero_le oi0;(try unfold qM);(try dsimp only);have S05:=S04.trans S5;refine⟨_,rfl,_,rfl,_,rfl,.inl ⟨q,_,_,_,rfl,rfl,SqL.of (S05 _ _ dr.hq),at25,_,rfl,.inl ⟨q,_,_,_,rfl,rfl,SqL.of (S05 _ _ dr.hq),at26,qk (Nat.le_of_ble_eq_true rfl),fun l6 fl6=>?_⟩⟩⟩;generalize hG:upd H5 l6 _=H6;obtain⟨S6,e6⟩:=qi hG fl6;clear hG;refine⟨_,_,l6,[0,1,29,30,60],60,rfl,e6,by omega,by omega,by omega,by decide,fun si si0 si1=>?_⟩;have S06:=S05.trans S6;refine⟨_,_,_,rfl,fun sm q1 q2 q3 so=>?_⟩;have sm0:0≤sm:=by omega
   obtain⟨sn,rfl⟩:=Int.eq_ofNat_of_zero_le sm0;(try unfold qM);(try dsimp only);refine⟨_,rfl,_,rfl,by omega,by omega,fun D1 fD1=>?_⟩;refine jv (lo:=0) (n:=mn) (D:=D1) (fun i σ H'=>∃ (c0:Option V) (es:List Et),σ=[c0,some (.ref q)]∧Same H6 H'∧H' D1=some (.lst (es.map fun e=>V.ref e.x))∧(∀ e∈es,EnT a H' e∧∀ l ps,e.j=some (l,ps)->l≠D1)∧es.map (·.nm)=(List.range i).map fun i=>wd (0+i)) ⟨none,[],rfl,Same.new _ fD1,qc,(fun _ m=>nomatch m),rfl⟩ ?_ ?_
   · rintro i σ H7 hi ⟨c0,es,rfl,S7,hD,en,nm⟩
     have les:es.length=i:=by
       have:=congrArg List.length nm
       rw[List.length_map,List.length_map,List.length_range]at this;exact this
     have S07:=S06.trans S7;refine⟨_,rfl,_,rfl,_,rfl,_,rfl,.inl ⟨q,_,rfl,SqL.of (S07 _ _ dr.hq),fun l7 fl7=>?_⟩⟩
     have el7:(upd H7 l7 (.lst (ju (xs.map V.int) (some (27:Int)) (some (29:Int))))) l7=some (.lst (((xs.drop 27).take (29 - 27)).map V.int)):=by
       rw[qc];exact congrArg (fun z=>some (HO.lst z)) (JN xs 27 29 (by decide) (by rw[dr.ln];decide))
     have S8:=Same.new (.lst (ju (xs.map V.int) (some (27:Int)) (some (29:Int)))) fl7;generalize upd H7 l7 (.lst (ju (xs.map V.int) (some (27:Int)) (some (29:Int))))=H8 at el7 S8 ⊢;refine⟨_,rfl,.inl ⟨q,_,_,_,rfl,rfl,SqL.of (S8 _ _ (S07 _ _ dr.hq)),at29,0+i,l7,_,x29,(by simp),by omega,el7,by omega,fun e H9 S9 ee en9 fr=>?_⟩⟩;have S79:=S8.trans S9;have hD9:=S79 _ _ hD;have nd:∀ l ps,e.j=some (l,ps)->l≠D1:=fun l ps z=>(qj (S8 _ _ hD) (fr l ps z)).symm;refine⟨_,hD9,qD (by rw[List.length_map];omega),_,es++[e],rfl,(S7.trans S79).put fD1 _,by rw[qc,List.map_append];rfl,fun g m=>?_,?_⟩
     · rcases List.mem_append.mp m with m|m
       · obtain⟨q1,q2⟩:=en g m;exact⟨(q1.same S79).keep hD9 q2,q2⟩
       · rw[List.mem_singleton.mp m];exact⟨en9.keep hD9 nd,nd⟩
     · rw[List.map_append,nm,List.range_succ,List.map_append,List.map_singleton,List.map_singleton,ee]
   rintro σ Ha ⟨c0,es,rfl,Sa,hDa,ena,nma⟩;have S0a:=S06.trans Sa;have le1:Le a Ha D1 es:=qjd hDa (fun e m=>(ena e m).1) nma (by omega) (by omega);clear ena nma;(try unfold qM);(try dsimp only);refine⟨_,rfl,_,rfl,_,_,rfl,rfl,_,rfl,_,rfl,_,_,rfl,rfl,_,rfl,.inl ⟨_,_,rfl,rfl,_,_,rfl,⟨by omega,by omega,by omega,by omega⟩,fun D2 fD2=>?_⟩⟩;have em:((mn:Int) - (sn:Int)+(on:Int) - ((mn:Int) - (sn:Int))).toNat=on:=by omega
   have el:(mn:Int) - (sn:Int)=((mn - sn:Nat):Int):=by omega
   rw[em];refine jv (lo:=((mn:Int) - (sn:Int))) (n:=on) (D:=D2) (fun i σ H'=>∃ (c0:Option V) (es:List Et),σ=[c0,some (.ref q)]∧Same Ha H'∧H' D2=some (.lst (es.map fun e=>V.ref e.x))∧(∀ e∈es,EnT a H' e∧∀ l ps,e.j=some (l,ps)->l≠D2)∧es.map (·.nm)=(List.range i).map fun i=>wd ((mn - sn)+i)) ⟨none,[],rfl,Same.new _ fD2,qc,(fun _ m=>nomatch m),rfl⟩ ?_ ?_
   · rintro i σ H7 hi ⟨c0,es,rfl,S7,hD,en,nm⟩
     have les:es.length=i:=by
       have:=congrArg List.length nm
       rw[List.length_map,List.length_map,List.length_range]at this;exact this
     have S07:=S0a.trans S7;refine⟨_,rfl,_,rfl,_,rfl,_,rfl,.inl ⟨q,_,rfl,SqL.of (S07 _ _ dr.hq),fun l7 fl7=>?_⟩⟩
     have el7:(upd H7 l7 (.lst (ju (xs.map V.int) (some (28:Int)) (some (30:Int))))) l7=some (.lst (((xs.drop 28).take (30 - 28)).map V.int)):=by
       rw[qc];exact congrArg (fun z=>some (HO.lst z)) (JN xs 28 30 (by decide) (by rw[dr.ln];decide))
     have S8:=Same.new (.lst (ju (xs.map V.int) (some (28:Int)) (some (30:Int)))) fl7;generalize upd H7 l7 (.lst (ju (xs.map V.int) (some (28:Int)) (some (30:Int))))=H8 at el7 S8 ⊢;refine⟨_,rfl,.inl ⟨q,_,_,_,rfl,rfl,SqL.of (S8 _ _ (S07 _ _ dr.hq)),at30,(mn - sn)+i,l7,_,x30,(by rw[el];simp),by omega,el7,by omega,fun e H9 S9 ee en9 fr=>?_⟩⟩;have S79:=S8.trans S9;have hD9:=S79 _ _ hD;have nd:∀ l ps,e.j=some (l,ps)->l≠D2:=fun l ps z=>(qj (S8 _ _ hD) (fr l ps z)).symm;refine⟨_,hD9,qD (by rw[List.length_map];omega),_,es++[e],rfl,(S7.trans S79).put fD2 _,by rw[qc,List.map_append];rfl,fun g m=>?_,?_⟩
     · rcases List.mem_append.mp m with m|m
       · obtain⟨q1,q2⟩:=en g m;exact⟨(q1.same S79).keep hD9 q2,q2⟩
       · rw[List.mem_singleton.mp m];exact⟨en9.keep hD9 nd,nd⟩
     · rw[List.map_append,nm,List.range_succ,List.map_append,List.map_singleton,List.map_singleton,ee]
   rintro σ Hb ⟨c0,fs,rfl,Sb,hDb,enb,nmb⟩;have S0b:=S0a.trans Sb;have le2:Le a Hb D2 fs:=qjd hDb (fun e m=>(enb e m).1) nmb (by omega) (by omega);clear enb nmb;(try unfold qM);(try dsimp only);have rb:=rq.same ((S4.trans (S5.trans S6)).trans (Sa.trans Sb));refine⟨_,rfl,_,rfl,_,rfl,.inl ⟨q,_,rfl,SqL.of (S0b _ _ dr.hq),fun lc flc=>?_⟩⟩
   have elc:(upd Hb lc (.lst (ju (xs.map V.int) (some (3:Int)) (some (12:Int))))) lc=some (.lst (((xs.drop 3).take 9).map V.int)):=by
     rw[qc];exact congrArg (fun z=>some (HO.lst z)) (JN xs 3 12 (by decide) (by rw[dr.ln];decide))
   have Slc:=Same.new (.lst (ju (xs.map V.int) (some (3:Int)) (some (12:Int)))) flc;generalize upd Hb lc (.lst (ju (xs.map V.int) (some (3:Int)) (some (12:Int))))=Hc at elc Slc ⊢;refine⟨_,rfl,lc,lr,_,(x0:Int) - 50,1+(x1:Int),(x2:Int) - 50,rfl,dr.cut9 3 (.inl rfl) elc,rb.same Slc,by omega,by omega,by omega,fun d1 ts Hd Sd lt1=>?_⟩;refine⟨_,rfl,qk (Nat.le_of_ble_eq_true rfl),fun p1 fp1=>?_⟩;generalize hG:upd Hd p1 _=He;obtain⟨Se,ee⟩:=qi hG fp1;clear hG;have S0e:=(S0b.trans Slc).trans (Sd.trans Se);refine⟨_,rfl,_,rfl,_,rfl,.inl ⟨q,_,rfl,SqL.of (S0e _ _ dr.hq),fun lf flf=>?_⟩⟩
   have elf:(upd He lf (.lst (ju (xs.map V.int) (some (12:Int)) (some (21:Int))))) lf=some (.lst (((xs.drop 12).take 9).map V.int)):=by
     rw[qc];exact congrArg (fun z=>some (HO.lst z)) (JN xs 12 21 (by decide) (by rw[dr.ln];decide))
   have Slf:=Same.new (.lst (ju (xs.map V.int) (some (12:Int)) (some (21:Int)))) flf;generalize upd He lf (.lst (ju (xs.map V.int) (some (12:Int)) (some (21:Int))))=Hf at elf Slf ⊢;refine⟨_,rfl,lf,lr,_,(x0:Int) - 50,1+(x1:Int),(x2:Int) - 50,rfl,dr.cut9 12 (.inr rfl) elf,(rb.same Slc).same (Sd.trans (Se.trans Slf)),by omega,by omega,by omega,fun d2 us Hg Sg lt2=>?_⟩;refine⟨_,rfl,qk (Nat.le_of_ble_eq_true rfl),fun p2 fp2=>?_⟩;generalize hG:upd Hg p2 _=Hh;obtain⟨Sh,eh⟩:=qi hG fp2;clear hG;refine⟨qk (Nat.le_of_ble_eq_true rfl),fun v fv=>?_⟩;have Sv:=Same.new (.tup [.ref p1,.ref p2]) fv;have Seh:=(Slf.trans Sg).trans (Sh.trans Sv);have Sbv:=(Slc.trans (Sd.trans Se)).trans Seh;exact kk v p1 p2 ts us es fs _ ((S0e.trans ((Slf.trans Sg).trans Sh)).trans Sv) qc ⟨d1,D1,Seh _ _ ee,lt1.sm (Se.trans Seh),(le1.sm Sb).sm Sbv⟩ ⟨d2,D2,Sv _ _ eh,lt2.sm (Sh.trans Sv),le2.sm Sbv⟩
end
theorem qcs {x:Str} (h:zV (.str x)=true):PyData.strOk x=true:=by
 have hs:x.cps.toList.all sgn=true:=by
   simp only[zV,Bool.and_eq_true]at h;exact h.2
 unfold PyData.strOk;rw[← Array.all_toList];refine List.all_eq_true.mpr fun c m=>?_
 have:=List.all_eq_true.mp hs c m
 unfold sgn at this;rw[Bool.and_eq_true]at this;have h2:=this.2;rw[Bool.not_eq_true',decide_eq_false_iff_not]at h2
 have h3:¬ (122 < c):=fun z=>h2 (by
   show ([122]:List Nat) < [c]
   exact List.Lex.rel z)
 exact decide_eq_true (by omega)
theorem qfr {H:Hp}:∀ ns:List Str,DVs H (ns.map V.str) (ns.map PyData.str)
 | []=>.nil
 | n::r=>.cons (.str n) (qfr r)
theorem qdn:∀ (ns:List Str),(∀ x∈ns,PyData.strOk x=true)->PyData.canLayAll0 (ns.map PyData.str)=true∧PyData.depthAll (ns.map PyData.str)≤1
 | [],_=>⟨rfl,by simp[PyData.depthAll]⟩
 | n::r,h=>by
   obtain⟨h1,h2⟩:=qdn r fun x m=>h x (List.mem_cons_of_mem _ m);refine⟨by simp[PyData.canLayAll0,PyData.canLay0,h1,h n List.mem_cons_self],?_⟩;simp only[List.map_cons,PyData.depthAll,PyData.depth];omega
theorem shp {d:PyData} (c:PyData.canLay0 d=true) (h:PyData.depth d≤10):SeqAt.shaped d=true:=by
 unfold SeqAt.shaped;rw[c,Bool.true_and];exact decide_eq_true (by omega)
theorem qaG {H:Hp}{a:Addr}{ss:List Str} (ok:∀ x∈ss,PyData.strOk x=true) (h1:H a=some (.lst (ss.map V.str))):DV H (.ref a) (.list (ss.map PyData.str))∧SeqAt.shaped (.list (ss.map PyData.str))=true∧PyData.eqv (.list (ss.map PyData.str)) (.list (ss.map PyData.str))=true:=by
 obtain⟨l1,l2⟩:=qdn ss ok;have cl:PyData.canLay0 (.list (ss.map PyData.str))=true:=by simp only[PyData.canLay0,l1]
 exact⟨.lst (.inl h1) (qfr ss),shp cl (by simp only[PyData.depth];omega),SeqAt.eqv_refl _ cl⟩
theorem qhM {H:Hp}{a b:Addr}{ss:List Str}{Q:VK} (ok:∀ x∈ss,PyData.strOk x=true) (h1:H a=some (.lst (ss.map V.str))) (h2:H b=some (.lst (ss.map V.str))) (q:Q (.bl false) H):qjW (.ref a) (.ref b) H Q:=by
 obtain⟨d1,s1,e1⟩:=qaG ok h1;obtain⟨d2,s2,e2⟩:=qaG ok h2;refine .inr ⟨_,_,d1,d2,s1,s2,?_⟩;rw[e1];exact q
theorem qh4 {H:Hp}{a b:Addr}{ss:List Str}{Q:VK} (ok:∀ x∈ss,PyData.strOk x=true) (h1:H a=some (.lst (ss.map V.str))) (h2:H b=some (.lst (ss.map V.str))) (q:Q (.bl true) H):qkp (.ref a) (.ref b) H Q:=by
 obtain⟨d1,s1,e1⟩:=qaG ok h1;obtain⟨d2,s2,e2⟩:=qaG ok h2;refine .inr ⟨_,_,d1,d2,s1,s2,?_⟩;rw[e1];exact q
def odD:Oc->PyData
 | .many n=>.tuple [.str "many",.int (n:Int)]
 | .unl p m=>.tuple [.str "unlike",.str p,.int m]
 | .ok e b p=>.tuple [.int (e:Int),.int (b:Int),.int (p:Int)]
theorem Od.dv {H:Hp}{v:Addr}{o:Oc} (h:Od H v o):DV H (.ref v) (odD o):=by
 cases o with
 | many n=>exact .tup (.inl h) (.cons (.str _) (.cons (.int _) .nil))
 | unl p m=>exact .tup (.inl h) (.cons (.str _) (.cons (.str _) (.cons (.int _) .nil)))
 | ok e b p=>exact .tup (.inl h) (.cons (.int _) (.cons (.int _) (.cons (.int _) .nil)))
theorem qhH:PyData.strOk "many"=true:=by decide +kernel
theorem qeR:PyData.strOk "unlike"=true:=by decide +kernel
theorem Od.ne {H:Hp}{v w:Addr}{o:Oc}{Q:VK} (h1:Od H v o) (h2:Od H w o) (ok:∀ p m,o=.unl p m->PyData.strOk p=true) (q:Q (.bl false) H):qjW (.ref v) (.ref w) H Q:=by
 have cl:PyData.canLay0 (odD o)=true∧PyData.depth (odD o)≤10:=by
   cases o with
   | many n=>exact⟨by simp[odD,PyData.canLay0,PyData.canLayAll0,qhH],by simp[odD,PyData.depth,PyData.depthAll]⟩
   | unl p m=>exact⟨by simp[odD,PyData.canLay0,PyData.canLayAll0,qeR,ok p m rfl],by simp[odD,PyData.depth,PyData.depthAll]⟩
   | ok e b p=>exact⟨by simp[odD,PyData.canLay0,PyData.canLayAll0],by simp[odD,PyData.depth,PyData.depthAll]⟩
 refine .inr ⟨_,_,h1.dv,h2.dv,shp cl.1 cl.2,shp cl.1 cl.2,?_⟩;rw[SeqAt.eqv_refl _ cl.1];exact q
theorem Od.sm {H H':Hp}{v:Addr}{o:Oc} (h:Od H v o) (s:Same H H'):Od H' v o:=by
 cases o with
 | many n=>exact s _ _ h
 | unl p m=>exact s _ _ h
 | ok e b p=>exact s _ _ h
theorem qgW {α:Type}{r:Int} (es:List Et) (f:Et->α) (r0:0≤r) (r1:r≤100):∃ bn:Nat,r * (if (!(es.map f).isEmpty)=true then 1 else 0)=(bn:Int)∧bn≤100∧(if es=[] then 0 else bn)=bn:=by
 cases es with
 | nil=>exact⟨0,by simp,by omega,rfl⟩
 | cons e es=>exact⟨r.toNat,by simp;omega,by omega,rfl⟩
inductive j7 (vs:List V) (H:Hp) (Q:VK):Prop
 | mk (q:Addr) (xs:List Int) (h1:vs=[.ref q]) (h2:Dr H q xs) (h3:∀ H',Same H H'->Q (.bl true) H'):j7 vs H Q
def qbj (a:Ad):Sp:=fun vs H Q _=>j7 vs H Q
section
variable {P:Program}{w:World}{K:Frag}{mg:Str->Option Value}{base:Heap}
theorem qeV {a:Ad} (T:Txt K mg a):qx P w K mg base CX0 11 a.f_4 a.fd_4 ["_law_xs"] (qbj a):=by
 have G_3:=qgb (P:=P) (w:=w) (base:=base) T;have G_F:=qhJ (P:=P) (w:=w) (base:=base) T;have G_2:=qhK (P:=P) (w:=w) (base:=base) T;have G_d:=qdj (P:=P) (w:=w) (base:=base) T;have G_H:=qeX (P:=P) (w:=w) (base:=base) T;have G_a:=zm (P:=P) (w:=w) (base:=base) T;have G_c:=z5 (P:=P) (w:=w) (base:=base) T;refine T.d_4.F.ok sc_Lright (fun vs H Q E h=>?_) (fun cdv A outer s H vs Q E hr h=>?_)
 · obtain⟨q,xs,rfl,dr,kk⟩:=h;rfl
 · obtain⟨q,xs,rfl,dr,kk⟩:=h;have hU:=hr.units;have h_3:Room (10) _:=hr.mono (by decide);have h_F:Room (8) _:=hr.mono (by decide);have h_2:Room (3) _:=hr.mono (by decide);have h_d:Room (1) _:=hr.mono (by decide);have h_H:Room (9) _:=hr.mono (by decide);have h_a:Room (1) _:=hr.mono (by decide);have h_c:Room (1) _:=hr.mono (by decide)
   refine⟨_,(@qf _ _ _ _ _ (by exact(qgT (qm G_3 h_3 rfl T.d_3.m T.d_3.k T.d_3.b .nil qp (qa (pv 0) qb)) (Qo rfl (qE (qt (i:=1) (sc_Lright.nd) rfl (Or.inl rfl)) (qE (qt (i:=2) (sc_Lright.nd) rfl (Or.inl rfl)) zw)))))
     (by exact(@qf _ _ _ _ _ (by exact(@qJ _ _ 3 _ _ _ _ (by exact sc_Lright.nd) (by rfl) (by exact(Or.inl rfl)) (by exact(@qA _ _ _ _ _ _ _ _ (by exact Z7) (by exact(qm G_d h_d rfl T.d_d.m T.d_d.k T.d_d.b .nil qp (qa (qC (r:=rIx K) qq (pv 0) qd (fun _ _=>rfl)) (qa (qC (r:=rIx K) qq (pv 0) qd (fun _ _=>rfl)) (qa (qL (qa qd (qa qd (qa qd (qa qd (qa qd qb)))))) qb))))) (by exact(zh JP (by rfl) T.n_int jf (qa (Q9 (qaX hU) (qC (r:=rIx K) qq (pv 1) qd (fun _ _=>rfl)) (qL qb) (qI _)) qb))))) (by rfl) (by exact .inl rfl)))
     (by exact(@qf _ _ _ _ _ (by exact(@qJ _ _ 4 _ _ _ _ (by exact sc_Lright.nd) (by rfl) (by exact(Or.inl rfl)) (by exact(@qA _ _ _ _ _ _ _ _ (by exact Z7) (by exact(qm G_d h_d rfl T.d_d.m T.d_d.k T.d_d.b .nil qp (qa (qC (r:=rIx K) qq (pv 0) qd (fun _ _=>rfl)) (qa (qC (r:=rIx K) qq (pv 0) qd (fun _ _=>rfl)) (qa (qL (qa qd (qa qd (qa qd (qa qd (qa qd qb)))))) qb))))) (by exact(zh JP (by rfl) T.n_int jf (qa (Q9 (qaX hU) (qC (r:=rIx K) qq (pv 2) qd (fun _ _=>rfl)) (qL qb) (qI _)) qb))))) (by rfl) (by exact .inl rfl)))
     (by exact(qf (qJ (i:=5) sc_Lright.nd rfl (Or.inl rfl) (qm G_F h_F rfl T.d_F.m T.d_F.k T.d_F.b .nil qp (qa (qC (r:=rIx K) qq (pv 1) qd (fun _ _=>rfl)) (qa (qC (r:=rIx K) qq (pv 1) qd (fun _ _=>rfl)) (qa (pv 3) qb)))))
     (qf (qJ (i:=6) sc_Lright.nd rfl (Or.inl rfl) (qm G_F h_F rfl T.d_F.m T.d_F.k T.d_F.b .nil qp (qa (qC (r:=rIx K) qq (pv 2) qd (fun _ _=>rfl)) (qa (qC (r:=rIx K) qq (pv 2) qd (fun _ _=>rfl)) (qa (pv 4) qb)))))
     (qf (qJ (i:=7) sc_Lright.nd rfl (Or.inl rfl) (qm G_2 h_2 rfl T.d_2.m T.d_2.k T.d_2.b .nil qp (qa (pv 1) (qa (pv 2) (qa (qA z8 (pv 3) (pv 4)) qb)))))
     (qf (qN (PW.pt (qaT (qy (uNe hU) (qm G_H h_H rfl T.d_H.m T.d_H.k T.d_H.b .nil qp (qa (pv 5) (qa (pv 6) qb))) (pv 7) (qI _)) (Z5 (qy (uNe hU) (qm G_H h_H rfl T.d_H.m T.d_H.k T.d_H.b .nil qp (qa (pv 5) (qa (pv 6) qb))) (pv 7) (qI _)))))
       (qe (qu qdG))
       qw)
     (qf (qN (PW.pt (qaT (qy (uNe hU) (qz (pv 5) T.cl_Log T.d_a.mt G_a h_a T.d_a.b .nil qp) (zA rfl (CompOk.def ["_law_entry_here"] [none]) (qH (qC (r:=rIx K) qq (pv 1) qd (fun _ _=>rfl))) (fun _ _ _ _ _=>(qt (i:=0) (show List.Nodup (["_law_entry_here"]:List Str) by decide +kernel) rfl (Or.inl rfl))) (fun _ _ _ _ _=>zU) (fun _ _ _ _ _=>(show PE _ _ (qjN K (qie 0) "name") from qT (pv 0) rfl))) (qI _)) (Z5 (qy (uNe hU) (ql qB (by rfl) T.n_len qv (qa (qz (pv 5) T.cl_Log T.d_c.mt G_c h_c T.d_c.b .nil qp) qb)) (pv 3) (qI _)))))
       (qe (qu qdG))
       qw)
     (qe (qu (qbK (Q9 (uEq hU) (qz (pv 6) T.cl_Log T.d_a.mt G_a h_a T.d_a.b .nil qp) (zA rfl (CompOk.def ["_law_entry_here"] [none]) (qH (qC (r:=rIx K) qq (pv 2) qd (fun _ _=>rfl))) (fun _ _ _ _ _=>(qt (i:=0) (show List.Nodup (["_law_entry_here"]:List Str) by decide +kernel) rfl (Or.inl rfl))) (fun _ _ _ _ _=>zU) (fun _ _ _ _ _=>(show PE _ _ (qjN K (qie 0) "name") from qT (pv 0) rfl))) (qI _)) (qbI (Q9 (uEq hU) (ql qB (by rfl) T.n_len qv (qa (qz (pv 6) T.cl_Log T.d_c.mt G_c h_c T.d_c.b .nil qp) qb)) (pv 4) (qI _))))))))))))))))),?_⟩
   try dsimp only [qY,Cx.nox]
   obtain⟨x31,at31,bx31⟩:=dr.ix 31 (s:=7) rfl;obtain⟨x32,at32,bx32⟩:=dr.ix 32 (s:=101) rfl;obtain⟨x33,at33,bx33⟩:=dr.ix 33 (s:=7) rfl;obtain⟨x34,at34,bx34⟩:=dr.ix 34 (s:=101) rfl;refine⟨_,rfl,q,xs,rfl,dr,fun v p1 p2 ts us es fs H1 S1 hv d1 d2=>⟨v,_,rfl,SqT.of hv,rfl,_,_,rfl,_,_,rfl,rfl,?_⟩⟩;(try unfold qM);(try dsimp only);obtain⟨y1,e1,hp1,lt1,le1⟩:=d1.h;obtain⟨y2,e2,hp2,lt2,le2⟩:=d2.h;have R1:=Same.refl H1;refine⟨_,rfl,.inl ⟨q,_,_,_,rfl,rfl,SqL.of (S1 _ _ dr.hq),at31,_,rfl,.inl ⟨q,_,_,_,rfl,rfl,SqL.of (S1 _ _ dr.hq),at32,qk (Nat.le_of_ble_eq_true rfl),fun l1 fl1=>?_⟩⟩⟩;generalize hG:upd H1 l1 _=H2;obtain⟨Sl1,el1⟩:=qi hG fl1;clear hG;refine⟨_,_,l1,[0,1,40,99,100],100,rfl,el1,by omega,by omega,by omega,by decide,fun ra ra0 ra1=>?_⟩;refine⟨_,rfl,.inr (.inl ⟨p1,_,_,_,rfl,rfl,SqT.of (Sl1 _ _ hp1),rfl,Nat.zero_le _,fun n1 fn1=>?_⟩)⟩;generalize hG:upd H2 n1 _=H3;obtain⟨Sn1,en1⟩:=qi hG fn1;clear hG;obtain⟨bn,ebn,bbn,cbn⟩:=qgW es (fun e=>V.ref e.x) ra0 ra1;refine⟨e1,n1,_,rfl,rfl,SqL.of (Sn1 _ _ (Sl1 _ _ le1.hd)),SqL.of en1,.inr ⟨_,rfl,_,_,rfl,rfl,.inr ⟨by split<;>decide,by split<;>decide⟩,?_⟩⟩;rw[ebn];(try unfold qM);(try dsimp only);have S13:=Sl1.trans Sn1;have S03:=S1.trans S13;have hp2':=S13 _ _ hp2;have le2':=S13 _ _ le2.hd;refine⟨_,rfl,.inl ⟨q,_,_,_,rfl,rfl,SqL.of (S03 _ _ dr.hq),at33,_,rfl,.inl ⟨q,_,_,_,rfl,rfl,SqL.of (S03 _ _ dr.hq),at34,qk (Nat.le_of_ble_eq_true rfl),fun l2 fl2=>?_⟩⟩⟩;generalize hG:upd H3 l2 _=H4;obtain⟨Sl2,el2⟩:=qi hG fl2;clear hG;refine⟨_,_,l2,[0,1,40,99,100],100,rfl,el2,by omega,by omega,by omega,by decide,fun rb rb0 rb1=>?_⟩;refine⟨_,rfl,.inr (.inl ⟨p2,_,_,_,rfl,rfl,SqT.of (Sl2 _ _ hp2'),rfl,Nat.zero_le _,fun n2 fn2=>?_⟩)⟩;generalize hG:upd H4 n2 _=H5;obtain⟨Sn2,en2⟩:=qi hG fn2;clear hG;obtain⟨mn,emn,bmn,cmn⟩:=qgW fs (fun e=>V.ref e.x) rb0 rb1;refine⟨e2,n2,_,rfl,rfl,SqL.of (Sn2 _ _ (Sl2 _ _ le2')),SqL.of en2,.inr ⟨_,rfl,_,_,rfl,rfl,.inr ⟨by split<;>decide,by split<;>decide⟩,?_⟩⟩;rw[emn];(try unfold qM);(try dsimp only);have S15:=S13.trans (Sl2.trans Sn2);refine⟨_,rfl,.inr (.inl ⟨p1,_,_,_,rfl,rfl,SqT.of (S15 _ _ hp1),rfl,_,rfl,.inr (.inl ⟨p1,_,_,_,rfl,rfl,SqT.of (S15 _ _ hp1),rfl,_,rfl,y1,e1,ts,es,bn,rfl,lt1.sm S15,le1.sm S15,bbn,fun f1 tf bs H6 S6 lc1 et1 lb1=>?_⟩)⟩)⟩;(try unfold qM);(try dsimp only);have S16:=S15.trans S6;refine⟨_,rfl,.inr (.inl ⟨p2,_,_,_,rfl,rfl,SqT.of (S16 _ _ hp2),rfl,_,rfl,.inr (.inl ⟨p2,_,_,_,rfl,rfl,SqT.of (S16 _ _ hp2),rfl,_,rfl,y2,e2,us,fs,mn,rfl,lt2.sm S16,le2.sm S16,bmn,fun f2 uf cs H7 S7 lc2 et2 lb2=>?_⟩)⟩)⟩;(try unfold qM);(try dsimp only);rw[cbn]at lb1;rw[cmn]at lb2;have S17:=S16.trans S7;refine⟨_,rfl,_,rfl,_,rfl,_,rfl,.inl ⟨_,_,rfl,rfl,p1,p2,ts,us,es,fs,bn+mn,rfl,d1.sm S17,d2.sm S17,fun o dv H8 S8 out od=>?_⟩⟩;(try unfold qM);(try dsimp only)
   have out2:Out tf uf es fs (bs.length+cs.length) o:=by
     rw[lb1,lb2];exact out.tr et1 et2
   have oko:∀ p m,o=.unl p m->PyData.strOk p=true:=fun p m z=>by
     subst z
     cases out with
     | un _ u =>
       obtain⟨⟨t,mt,_,_,e,_,_⟩,_⟩:=u;rw[← e];exact qcs (lt1.rs t mt).2.2
   have lc18:=(lc1.sm S7).sm S8;have lc28:=lc2.sm S8;refine⟨_,rfl,_,rfl,f1,f2,tf,uf,es,fs,bs,cs,o,rfl,lc18,lc28,out2,fun va H9 S9 oa=>⟨_,rfl,oa.ne (od.sm S9) oko ⟨_,rfl,qcx ?_⟩⟩⟩;refine⟨_,rfl,_,rfl,f1,f2,tf,uf,es,fs,bs,cs,o,rfl,lc18.sm S9,lc28.sm S9,out2,fun vb Ha Sa ob=>⟨_,rfl,ob.ne ((od.sm S9).sm Sa) oko ⟨_,rfl,qcx ?_⟩⟩⟩;(try unfold qM);(try dsimp only);have S8a:=S9.trans Sa;have S1a:=S17.trans (S8.trans S8a);have le1a:=le1.sm S1a;have le2a:=le2.sm S1a;have hp1a:=S1a _ _ hp1;have hp2a:=S1a _ _ hp2;have lc1a:=lc18.sm S8a;have lc2a:=lc28.sm S8a;have Ra:=Same.refl Ha;obtain⟨tdAb,edAb,blAb,zAb,loAb,tbAb⟩:=id (lc1a).lo;obtain⟨dAb,hAb⟩:=loAb.hx;refine⟨_,rfl,f1,dAb,_,rfl,hAb,rfl,f1,tdAb,edAb,blAb,_,_,zAb,rfl,loAb,fun lb flb=>?_⟩;rw[zj];generalize hG:upd Ha lb _=Gb;obtain⟨Slb,elb⟩:=qi hG flb;clear hG;refine⟨_,rfl,.inr (.inl ⟨p1,_,_,_,rfl,rfl,SqT.of (Slb _ _ hp1a),rfl,e1,rfl,⟨_,SqL.of (Slb _ _ le1a.hd)⟩,fun Db fDb=>?_⟩)⟩;refine qW (K:=K) (a:=e1) (xs:=es.map fun e=>V.ref e.x) (D:=Db) (fun j σ H'=>∃ s0:Option V,σ=[s0]∧Same Gb H'∧H' Db=some (.lst ((es.take j).map fun e=>V.str e.nm))) ⟨none,rfl,Same.new _ fDb,qc⟩ (fun j σ H' _ ⟨_,_,S,_⟩=>SqL.of (S _ _ (Slb _ _ le1a.hd))) ?_ ?_
   · rintro j z σ H' hz ⟨s0,rfl,S',hD⟩
     obtain⟨g,hg,rfl⟩:∃ g,es[j]?=some g∧V.ref g.x=z:=by
       rw[List.getElem?_map]at hz;exact Option.map_eq_some_iff.mp hz
     have hj:=(List.getElem?_eq_some_iff.mp hg).1;have few:=le1a.few;obtain⟨C,de,fe,q1,_,_,_,q2,q3,q4⟩:=Qy T ((((le1a.en g (List.mem_of_getElem? hg)).1.same Slb).same S'));refine⟨_,rfl,g.x,C,de,fe,_,rfl,q1,q2,q3,q4,_,hD,qD (by rw[List.length_map,List.length_take];omega),_,rfl,S'.put fDb _,?_⟩;rw[qc,List.take_add_one,hg,List.map_append];rfl
   rintro σ Hxb ⟨s0,rfl,Sxb,hDxb⟩;rw[List.length_map,List.take_length]at hDxb
   have okb:∀ n∈es.map (·.nm),PyData.strOk n=true:=fun n m=>by
     obtain⟨g,mg,rfl⟩:=List.mem_map.mp m;exact qcs (le1a.en g mg).2
   refine qhM okb (Sxb _ _ elb) (by rw[List.map_map];exact hDxb) ?_;have Sac:=Ra.trans (Slb.trans Sxb);refine⟨_,rfl,qcx ?_⟩;obtain⟨tdAc,edAc,blAc,zAc,loAc,tbAc⟩:=id (lc1a.sm Sac).lo;obtain⟨dAc,hAc⟩:=loAc.hx;refine⟨_,rfl,f1,dAc,_,rfl,hAc,rfl,f1,tdAc,edAc,blAc,_,_,zAc,rfl,loAc,fun lc flc=>?_⟩;generalize hG:upd Hxb lc _=Gc;obtain⟨Slc,elc⟩:=qi hG flc;clear hG;have lzc:zAc.length=bs.length:=tbAc.1;refine⟨_,_,rfl,.inl ⟨_,SqL.of elc,rfl⟩,_,rfl,.inl ⟨rfl,_,rfl,jX (fun g=>absurd (by rw[lzc,lb1]) g) (fun _=>?_)⟩⟩;(try unfold qM);(try dsimp only);have Sad:=Sac.trans Slc;have le2d:=le2a.sm Sad;have hp2d:=Sad _ _ hp2a;obtain⟨tdAd,edAd,blAd,zAd,loAd,tbAd⟩:=id (lc2a.sm Sad).lo;obtain⟨dAd,hAd⟩:=loAd.hx;refine⟨_,rfl,f2,dAd,_,rfl,hAd,rfl,f2,tdAd,edAd,blAd,_,_,zAd,rfl,loAd,fun ld fld=>?_⟩;rw[zj];generalize hG:upd Gc ld _=Gd;obtain⟨Sld,eld⟩:=qi hG fld;clear hG;refine⟨_,rfl,.inr (.inl ⟨p2,_,_,_,rfl,rfl,SqT.of (Sld _ _ hp2d),rfl,e2,rfl,⟨_,SqL.of (Sld _ _ le2d.hd)⟩,fun Dd fDd=>?_⟩)⟩;refine qW (K:=K) (a:=e2) (xs:=fs.map fun e=>V.ref e.x) (D:=Dd) (fun j σ H'=>∃ s0:Option V,σ=[s0]∧Same Gd H'∧H' Dd=some (.lst ((fs.take j).map fun e=>V.str e.nm))) ⟨none,rfl,Same.new _ fDd,qc⟩ (fun j σ H' _ ⟨_,_,S,_⟩=>SqL.of (S _ _ (Sld _ _ le2d.hd))) ?_ ?_
   · rintro j z σ H' hz ⟨s0,rfl,S',hD⟩
     obtain⟨g,hg,rfl⟩:∃ g,fs[j]?=some g∧V.ref g.x=z:=by
       rw[List.getElem?_map]at hz;exact Option.map_eq_some_iff.mp hz
     have hj:=(List.getElem?_eq_some_iff.mp hg).1;have few:=le2d.few;obtain⟨C,de,fe,q1,_,_,_,q2,q3,q4⟩:=Qy T ((((le2d.en g (List.mem_of_getElem? hg)).1.same Sld).same S'));refine⟨_,rfl,g.x,C,de,fe,_,rfl,q1,q2,q3,q4,_,hD,qD (by rw[List.length_map,List.length_take];omega),_,rfl,S'.put fDd _,?_⟩;rw[qc,List.take_add_one,hg,List.map_append];rfl
   rintro σ Hxd ⟨s0,rfl,Sxd,hDxd⟩;rw[List.length_map,List.take_length]at hDxd
   have okd:∀ n∈fs.map (·.nm),PyData.strOk n=true:=fun n m=>by
     obtain⟨g,mg,rfl⟩:=List.mem_map.mp m;exact qcs (le2d.en g mg).2
   refine qh4 okd (Sxd _ _ eld) (by rw[List.map_map];exact hDxd) ?_;have Sae:=Sad.trans (Sld.trans Sxd);refine⟨_,rfl,qa5 ?_⟩;obtain⟨tdAe,edAe,blAe,zAe,loAe,tbAe⟩:=id (lc2a.sm Sae).lo;obtain⟨dAe,hAe⟩:=loAe.hx;refine⟨_,rfl,f2,dAe,_,rfl,hAe,rfl,f2,tdAe,edAe,blAe,_,_,zAe,rfl,loAe,fun le fle=>?_⟩;generalize hG:upd Hxd le _=Ge;obtain⟨Sle,ele⟩:=qi hG fle;clear hG;have lze:zAe.length=cs.length:=tbAe.1;refine⟨_,_,rfl,.inl ⟨_,SqL.of ele,rfl⟩,_,rfl,.inl ⟨rfl,?_⟩⟩;have ev:decide (V.int ((zAe.length:Nat):Int)=V.int ((mn:Nat):Int))=true:=decide_eq_true (by rw[lze,lb2]);rw[ev];exact kk _ (S1.trans (S1a.trans (Sae.trans Sle)))
end
def mn5 (x:Int):Int:=if 5 < x then 5 else x
theorem qg2 (xs:List Int) (j:Nat) (h2:j≤xs.length):ju (xs.map V.int) none (some (j:Int))=(xs.take j).map V.int:=by
 unfold ju;rw[HT.sIx_none,HT.sIx_nat,List.length_map,Nat.min_eq_left h2,List.map_take];rfl
theorem qg3 (xs:List Int) (i:Nat) (h2:i≤xs.length):ju (xs.map V.int) (some (i:Int)) none=(xs.drop i).map V.int:=by
 unfold ju;rw[HT.sIx_none,HT.sIx_nat,List.length_map,Nat.min_eq_left h2,List.map_drop];exact List.take_of_length_le (by rw[List.length_drop,List.length_map];omega)
theorem Dr.set {H H':Hp}{q l:Addr}{fs:List Int} (h:Dr H q fs) {k0:Nat}{v s0:Int} (hs:SZ[k0]?=some s0) (hv:0≤v∧v < s0) (hl:H' l=some (.lst ((fs.set k0 v).map V.int))):Dr H' l (fs.set k0 v):=by
 refine⟨hl,by rw[List.length_set];exact h.ln,fun k f s e1 e2=>?_⟩;rw[List.getElem?_set]at e1;split at e1
 · rename_i e
   subst e;rw[hs]at e2;cases e2;split at e1
   · cases e1;exact hv
   · cases e1
 · exact h.bd k f s e1 e2
theorem Dr.min {H H':Hp}{q l:Addr}{fs:List Int} (h:Dr H q fs) (hl:H' l=some (.lst ((((fs.take 21).map mn5)++fs.drop 21).map V.int))):Dr H' l (((fs.take 21).map mn5)++fs.drop 21):=by
 have l21:((fs.take 21).map mn5).length=21:=by rw[List.length_map,List.length_take,h.ln];rfl
 refine⟨hl,by rw[List.length_append,l21,List.length_drop,h.ln],fun k f s e1 e2=>?_⟩;by_cases c:k < 21
 · rw[List.getElem?_append_left (by omega),List.getElem?_map,List.getElem?_take_of_lt c]at e1;obtain⟨g,hg,rfl⟩:=Option.map_eq_some_iff.mp e1
   have:=h.bd k g s hg e2
   unfold mn5;split<;>omega
 · rw[List.getElem?_append_right (by omega),l21,List.getElem?_drop,show 21+(k - 21)=k by omega]at e1;exact h.bd k f s e1 e2
theorem qhg (l:List Int) (a b:Int) (h:l.length=35):l.take 3++[a]++(l.drop 4).take 8++[b]++l.drop 13=(l.set 3 a).set 12 b:=by
 apply List.ext_getElem?;intro k;rw[List.getElem?_set,List.getElem?_set];by_cases c1:k < 3
 · rw[List.append_assoc,List.append_assoc,List.append_assoc,List.getElem?_append_left (by rw[List.length_take];omega),List.getElem?_take_of_lt c1,if_neg (by omega),if_neg (by omega)]
 · by_cases c2:k=3
   · subst c2;rw[List.append_assoc,List.append_assoc,List.append_assoc,List.getElem?_append_right (by rw[List.length_take];omega),List.length_take,h];simp[h]
   · by_cases c3:k < 12
     · rw[List.append_assoc,List.append_assoc,List.append_assoc,List.getElem?_append_right (by rw[List.length_take];omega),List.length_take,h,List.getElem?_append_right (by simp;omega),List.getElem?_append_left (by simp[h];omega),List.getElem?_take_of_lt (by simp;omega),List.getElem?_drop,if_neg (by omega),if_neg (by omega)];congr 1;simp;omega
     · by_cases c4:k=12
       · subst c4;rw[List.append_assoc,List.getElem?_append_right (by simp[h]),if_pos rfl,if_pos (by simp[h])];simp[h]
       · rw[List.getElem?_append_right (by simp[h];omega),List.getElem?_drop,if_neg (by omega),if_neg (by omega)];congr 1;simp[h];omega
inductive qcO (K:Frag) (vs:List V) (H:Hp) (Q:VK):Prop
 | mk (a:Addr) (ns:List Int) (h1:vs=[.ref a]) (h2:SqL K H a (ns.map V.int)) (h3:ns.length≤63) (h4:∀ H',Q (.bl true) H'):qcO K vs H Q
def qcP (K:Frag):Sp:=fun vs H Q _=>qcO K vs H Q
section
variable {P:Program}{w:World}{K:Frag}{mg:Str->Option Value}{base:Heap}
theorem qi7 {a:Ad} (T:Txt K mg a):qx P w K mg base CX0 12 a.f_aa a.fd_aa ["_law_script"] (qcP K):=by
 have G_Z:=qhI (P:=P) (w:=w) (base:=base) T;have G_4:=qeV (P:=P) (w:=w) (base:=base) T;have G_Y:=qgc (P:=P) (w:=w) (base:=base) T;refine T.d_aa.F.ok sc_law (fun vs H Q E h=>?_) (fun cdv A outer s H vs Q E hr h=>?_)
 · obtain⟨sa,nsc,rfl,hS,hlen,kk⟩:=h;rfl
 · obtain⟨sa,nsc,rfl,hS,hlen,kk⟩:=h;have hU:=hr.units;have h_Z:Room (1) _:=hr.mono (by decide);have h_4:Room (11) _:=hr.mono (by decide);have h_Y:Room (1) _:=hr.mono (by decide)
   refine⟨_,(@qf _ _ _ _ _ (by exact(@qJ _ _ 1 _ _ _ _ (by exact sc_law.nd) (by rfl) (by exact(Or.inl rfl)) (by exact(@qA _ _ _ _ _ _ _ _ (by exact z8) (by exact(@qA _ _ _ _ _ _ _ _ (by exact z8) (by exact(@qA _ _ _ _ _ _ _ _ (by exact z8) (by exact(@qA _ _ _ _ _ _ _ _ (by exact z8) (by exact(@qL _ _ _ _ (by exact(@qa _ _ _ _ _ (by exact qd) (by exact(@qa _ _ _ _ _ (by exact qd) (by exact(@qa _ _ _ _ _ (by exact qd) (by exact(@qb _)) (by rfl))) (by rfl))) (by rfl))))) (by exact(@qA _ _ _ _ _ _ _ _ (by exact qeN) (by exact(@qL _ _ _ _ (by exact(@qa _ _ _ _ _ (by exact qd) (by exact(@qa _ _ _ _ _ (by exact qd) (by exact(@qa _ _ _ _ _ (by exact qd) (by exact(@qa _ _ _ _ _ (by exact qd) (by exact(@qa _ _ _ _ _ (by exact qd) (by exact(@qa _ _ _ _ _ (by exact qd) (by exact(@qa _ _ _ _ _ (by exact qd) (by exact(@qa _ _ _ _ _ (by exact qd) (by exact(@qa _ _ _ _ _ (by exact qd) (by exact(@qb _)) (by rfl))) (by rfl))) (by rfl))) (by rfl))) (by rfl))) (by rfl))) (by rfl))) (by rfl))) (by rfl))))) (by exact qd))))) (by exact(@qA _ _ _ _ _ _ _ _ (by exact qeN) (by exact(@qL _ _ _ _ (by exact(@qa _ _ _ _ _ (by exact qd) (by exact(@qa _ _ _ _ _ (by exact qd) (by exact(@qb _)) (by rfl))) (by rfl))))) (by exact qd))))) (by exact(@qL _ _ _ _ (by exact(@qa _ _ _ _ _ (by exact qd) (by exact(@qa _ _ _ _ _ (by exact qd) (by exact(@qa _ _ _ _ _ (by exact qd) (by exact(@qa _ _ _ _ _ (by exact qd) (by exact(@qb _)) (by rfl))) (by rfl))) (by rfl))) (by rfl))))))) (by exact(@qA _ _ _ _ _ _ _ _ (by exact qeN) (by exact(@qL _ _ _ _ (by exact(@qa _ _ _ _ _ (by exact qd) (by exact(@qa _ _ _ _ _ (by exact qd) (by exact(@qb _)) (by rfl))) (by rfl))))) (by exact qd))))) (by rfl) (by exact .inl rfl)))
     (by exact(qf (q9 PassesOwn.never rfl (Qn rfl T.n_range (qa (qA z8 (ql (qb3 rfl) (by rfl) T.n_min JQ (qa qd (qa (ql qB (by rfl) T.n_len qv (qa (pv 0) qb)) qb))) qd) qb)) (qt (i:=2) (sc_law.nd) rfl (Or.inl rfl))
       (qf (qJ (i:=3) sc_law.nd rfl (Or.inl rfl) (qm G_Z h_Z rfl T.d_Z.m T.d_Z.k T.d_Z.b .nil qp (qa (qA z8 (qm G_Y h_Y rfl T.d_Y.m T.d_Y.k T.d_Y.b .nil qp (qa (pv 0) (qa (pv 2) qb))) (pv 2)) (qa (pv 1) qb))))
       (qf (qN (qy (uEq hU) (qA Qp (pv 2) qd) qd (qI _))
         (qf (qJ (i:=3) sc_law.nd rfl (Or.inl rfl) (qA z8 (qA z8 (qA z8 (qA z8 (zD uSl (pv 3) Jp (zl qd)) (qL (qa (qA Qp (qC (r:=rIx K) qq (pv 3) qd (fun _ _=>rfl)) qd) qb))) (zD uSl (pv 3) (zl qd) (zl qd))) (qL (qa (qA Qp (qC (r:=rIx K) qq (pv 3) qd (fun _ _=>rfl)) qd) qb))) (zD uSl (pv 3) (zl qd) Jp)))
         (qe (qJ (i:=3) sc_law.nd rfl (Or.inl rfl) (qA z8 (zA rfl (CompOk.def ["_law_x"] [none]) (qH (zD uSl (pv 3) Jp (zl qd))) (fun _ _ _ _ _=>(qt (i:=0) (show List.Nodup (["_law_x"]:List Str) by decide +kernel) rfl (Or.inl rfl))) (fun _ _ _ _ _=>zU) (fun _ _ _ _ _=>(ql (qb3 rfl) (by rfl) T.n_min JQ (qa (pv 0) (qa qd qb))))) (zD uSl (pv 3) (zl qd) Jp)))))
         qw)
       (qe (qN (zu (zd (qm G_4 h_4 rfl T.d_4.m T.d_4.k T.d_4.b .nil qp (qa (pv 3) qb))))
         (qe (qu qdG))
         qw)))))
     (qe (qu qdG))))),?_⟩
   try dsimp only [qY,Cx.nox]
   have hl:(nsc.map V.int).length=nsc.length:=List.length_map _;refine⟨qk (Nat.le_of_ble_eq_true rfl),fun a1 fa1=>?_⟩;generalize hG:upd H a1 _=H1;obtain⟨Sa1,ea1⟩:=qi hG fa1;clear hG;refine⟨qk (Nat.le_of_ble_eq_true rfl),fun a2 fa2=>?_⟩;generalize hG:upd H1 a2 _=H2;obtain⟨Sa2,ea2⟩:=qi hG fa2;clear hG;refine⟨a2,2,_,rfl,rfl,ea2,by decide,by decide,qk (Nat.le_of_ble_eq_true rfl),fun a3 fa3=>?_⟩;generalize hG:upd H2 a3 _=H3;obtain⟨Sa3,ea3⟩:=qi hG fa3;clear hG;refine .inr (.inl ⟨a1,a3,_,_,rfl,rfl,(Sa2.trans Sa3) _ _ ea1,ea3,qk (Nat.le_of_ble_eq_true rfl),fun a4 fa4=>?_⟩);generalize hG:upd H3 a4 _=H4;obtain⟨Sa4,ea4⟩:=qi hG fa4;clear hG;refine⟨qk (Nat.le_of_ble_eq_true rfl),fun a5 fa5=>?_⟩;generalize hG:upd H4 a5 _=H5;obtain⟨Sa5,ea5⟩:=qi hG fa5;clear hG;refine⟨a5,3,_,rfl,rfl,ea5,by decide,by decide,qk (Nat.le_of_ble_eq_true rfl),fun a6 fa6=>?_⟩;generalize hG:upd H5 a6 _=H6;obtain⟨Sa6,ea6⟩:=qi hG fa6;clear hG;refine .inr (.inl ⟨a4,a6,_,_,rfl,rfl,(Sa5.trans Sa6) _ _ ea4,ea6,qk (Nat.le_of_ble_eq_true rfl),fun a7 fa7=>?_⟩);generalize hG:upd H6 a7 _=H7;obtain⟨Sa7,ea7⟩:=qi hG fa7;clear hG;refine⟨qk (Nat.le_of_ble_eq_true rfl),fun a8 fa8=>?_⟩;generalize hG:upd H7 a8 _=H8;obtain⟨Sa8,ea8⟩:=qi hG fa8;clear hG;refine .inr (.inl ⟨a7,a8,_,_,rfl,rfl,Sa8 _ _ ea7,ea8,qk (Nat.le_of_ble_eq_true rfl),fun a9 fa9=>?_⟩);generalize hG:upd H8 a9 _=H9;obtain⟨Sa9,ea9⟩:=qi hG fa9;clear hG;refine⟨qk (Nat.le_of_ble_eq_true rfl),fun b1 fb1=>?_⟩;generalize hG:upd H9 b1 _=Ha;obtain⟨Sb1,eb1⟩:=qi hG fb1;clear hG;refine⟨b1,2,_,rfl,rfl,eb1,by decide,by decide,qk (Nat.le_of_ble_eq_true rfl),fun b2 fb2=>?_⟩;generalize hG:upd Ha b2 _=Hb;obtain⟨Sb2,eb2⟩:=qi hG fb2;clear hG;refine .inr (.inl ⟨a9,b2,_,_,rfl,rfl,(Sb1.trans Sb2) _ _ ea9,eb2,qk (Nat.le_of_ble_eq_true rfl),fun lz flz=>?_⟩);generalize hG:upd Hb lz _=G;obtain⟨Slz,elz⟩:=qi hG flz;clear hG;(try unfold qM);(try dsimp only);have SG:Same H G:=(((Sa1.trans Sa2).trans (Sa3.trans Sa4)).trans ((Sa5.trans Sa6).trans (Sa7.trans Sa8))).trans ((Sa9.trans Sb1).trans (Sb2.trans Slz));have ez:G lz=some (.lst (SZ.map V.int)):=elz;clear elz;refine⟨_,rfl,_,_,rfl,.inl ⟨_,SG.seq hS,rfl⟩,_,_,rfl,.inl ⟨_,_,rfl,rfl,_,rfl,(by split<;>omega),(by split<;>omega),jb (lo:=0) (fun i σ H'=>∃ s2 s3:Option V,σ=[some (.ref sa),some (.ref lz),s2,s3]∧Same G H') ⟨none,none,rfl,Same.refl _⟩ ?_ ?_⟩⟩
   case refine_2 =>
     rintro σ H' ⟨s2,s3,rfl,_⟩;exact kk H'
   rintro i σ K1 hi ⟨s2,s3,rfl,S1⟩;refine⟨_,rfl,_,rfl,sa,nsc,_,rfl,(SG.trans S1).seq hS,(by omega),fun c K2 S2=>⟨_,rfl,.inl ⟨_,_,rfl,rfl,_,rfl,_,lz,SZ,rfl,S2 _ _ (S1 _ _ ez),by decide,by decide,fun q fs K3 S3 hq lfs bnd=>?_⟩⟩⟩;have dr:Dr K3 q fs:=⟨hq,lfs,bnd⟩
   have S03:=(S1.trans S2).trans S3;(try unfold qM);(try dsimp only);refine qV (t:=qkg _ _ _) (fun σ' H'=>∃ (q':Addr) (fs':List Int),σ'=[some (.ref sa),some (.ref lz),some (.int (0+(i:Int))),some (.ref q')]∧Same G H'∧Dr H' q' fs') (fun N hN=>?_) ?_
   case refine_2 =>
     rintro _ K4 ⟨q',fs',rfl,S4,dr'⟩;exact⟨_,rfl,q',fs',rfl,dr',fun K5 S5=>⟨true,rfl,Qw rfl ⟨_,_,rfl,S4.trans S5⟩⟩⟩
   refine⟨_,rfl,_,_,rfl,rfl,(by show (0:Int) < 2;decide),.inl ⟨rfl,_,rfl,jr (fun g=>?_) (fun g=>?_)⟩⟩
   case refine_2=>exact hN _ _ ⟨q,fs,rfl,S03,dr⟩
   obtain⟨x3,at3,bx3⟩:=dr.ix 3 (s:=7) rfl;obtain⟨x12,at12,bx12⟩:=dr.ix 12 (s:=7) rfl;have l35:fs.length=35:=dr.ln;refine⟨_,rfl,_,rfl,.inl ⟨q,_,rfl,SqL.of hq,fun c1 fc1=>?_⟩⟩;generalize hG:upd K3 c1 _=L1;obtain⟨Sc1,ec1⟩:=qi hG fc1;clear hG;refine⟨_,rfl,.inl ⟨q,_,_,_,rfl,rfl,SqL.of (Sc1 _ _ hq),at3,_,_,rfl,rfl,(by show (0:Int) < 4;decide),qk (Nat.le_of_ble_eq_true rfl),fun c2 fc2=>?_⟩⟩;generalize hG:upd L1 c2 _=L2;obtain⟨Sc2,ec2⟩:=qi hG fc2;clear hG;have z1:ju (fs.map V.int) none (some (3:Int))=(fs.take 3).map V.int:=qg2 fs 3 (by omega);have z2:ju (fs.map V.int) (some (4:Int)) (some (12:Int))=((fs.drop 4).take 8).map V.int:=JN fs 4 12 (by decide) (by omega);have z3:ju (fs.map V.int) (some (13:Int)) none=(fs.drop 13).map V.int:=qg3 fs 13 (by omega);rw[z1]at ec1;have k1:((fs.take 3).map V.int).length≤35:=by rw[List.length_map,List.length_take];omega
   refine .inr (.inl ⟨c1,c2,_,_,rfl,rfl,Sc2 _ _ ec1,ec2,qk (by simp;omega),fun c3 fc3=>?_⟩);generalize hG:upd L2 c3 _=L3;obtain⟨Sc3,ec3⟩:=qi hG fc3;clear hG;have R3:=(Sc1.trans Sc2).trans Sc3;refine⟨_,rfl,_,rfl,_,rfl,.inl ⟨q,_,rfl,SqL.of (R3 _ _ hq),fun c4 fc4=>?_⟩⟩;generalize hG:upd L3 c4 _=L4;obtain⟨Sc4,ec4⟩:=qi hG fc4;clear hG;rw[z2]at ec4;refine .inr (.inl ⟨c3,c4,_,_,rfl,rfl,Sc4 _ _ ec3,ec4,qk (by simp;omega),fun c5 fc5=>?_⟩);generalize hG:upd L4 c5 _=L5;obtain⟨Sc5,ec5⟩:=qi hG fc5;clear hG;have R5:=R3.trans (Sc4.trans Sc5);refine⟨_,rfl,.inl ⟨q,_,_,_,rfl,rfl,SqL.of (R5 _ _ hq),at12,_,_,rfl,rfl,(by show (0:Int) < 3;decide),qk (Nat.le_of_ble_eq_true rfl),fun c6 fc6=>?_⟩⟩;generalize hG:upd L5 c6 _=L6;obtain⟨Sc6,ec6⟩:=qi hG fc6;clear hG;refine .inr (.inl ⟨c5,c6,_,_,rfl,rfl,Sc6 _ _ ec5,ec6,qk (by simp;omega),fun c7 fc7=>?_⟩);generalize hG:upd L6 c7 _=L7;obtain⟨Sc7,ec7⟩:=qi hG fc7;clear hG;have R7:=R5.trans (Sc6.trans Sc7);refine⟨_,rfl,_,rfl,.inl ⟨q,_,rfl,SqL.of (R7 _ _ hq),fun c8 fc8=>?_⟩⟩;generalize hG:upd L7 c8 _=L8;obtain⟨Sc8,ec8⟩:=qi hG fc8;clear hG;rw[z3]at ec8;refine .inr (.inl ⟨c7,c8,_,_,rfl,rfl,Sc8 _ _ ec7,ec8,qk (by simp;omega),fun c9 fc9=>?_⟩);generalize hG:upd L8 c9 _=L9;obtain⟨Sc9,ec9⟩:=qi hG fc9;clear hG;have R9:=R7.trans (Sc8.trans Sc9)
   have e9:L9 c9=some (.lst (((fs.set 3 ((x3:Int) % 4)).set 12 ((x12:Int) % 3)).map V.int)):=by
     rw[← qhg fs _ _ l35,ec9];simp only[List.map_append,List.map_cons,List.map_nil]
   have d9:Dr L9 c9 ((fs.set 3 ((x3:Int) % 4)).set 12 ((x12:Int) % 3)):=by
     have e0:upd L9 c9 (.lst ((fs.set 3 ((x3:Int) % 4)).map V.int)) c9=some (.lst ((fs.set 3 ((x3:Int) % 4)).map V.int)):=qc;exact(dr.set (s0:=7) (k0:=3) rfl (by omega) e0).set (s0:=7) (k0:=12) rfl (by omega) e9
   clear ec1 ec2 ec3 ec4 ec5 ec6 ec7 ec8 ec9;generalize (fs.set 3 ((x3:Int) % 4)).set 12 ((x12:Int) % 3)=gs at e9 d9;have g35:gs.length=35:=d9.ln;(try unfold qM);(try dsimp only);have y1:ju (gs.map V.int) none (some (21:Int))=(gs.take 21).map V.int:=qg2 gs 21 (by omega);have y2:ju (gs.map V.int) (some (21:Int)) none=(gs.drop 21).map V.int:=qg3 gs 21 (by omega);refine⟨_,rfl,_,rfl,.inl ⟨c9,_,rfl,SqL.of e9,fun d1 fd1=>?_⟩⟩;generalize hG:upd L9 d1 _=M1;obtain⟨Sd1,ed1⟩:=qi hG fd1;clear hG;rw[y1]at ed1;refine⟨d1,rfl,⟨_,SqL.of ed1⟩,fun D fD=>?_⟩;refine qW (K:=K) (a:=d1) (xs:=(gs.take 21).map V.int) (D:=D) (fun j σ H'=>∃ s0:Option V,σ=[s0]∧Same M1 H'∧H' D=some (.lst ((((gs.take 21).take j).map mn5).map V.int))) ⟨none,rfl,Same.new _ fD,qc⟩ (fun j σ H' _ ⟨_,_,S,_⟩=>SqL.of (S _ _ ed1)) ?_ ?_
   · rintro j z σ H' hz ⟨s0,rfl,S',hD⟩
     obtain⟨x,hx,rfl⟩:∃ x,(gs.take 21)[j]?=some x∧V.int x=z:=by
       rw[List.getElem?_map]at hz;exact Option.map_eq_some_iff.mp hz
     refine⟨_,rfl,_,_,rfl,_,hD,qD (by rw[List.length_map,List.length_map,List.length_take,List.length_take];omega),_,rfl,S'.put fD _,?_⟩;rw[qc,show (gs.take 21).take (j+1)=(gs.take 21).take j++[x] from (List.take_add_one ..).trans (by rw[hx];rfl),List.map_append,List.map_append];rfl
   rintro σ M2 ⟨s0,rfl,T2,hD⟩;rw[List.length_map,List.take_length]at hD;have R2:=Sd1.trans T2;refine⟨_,rfl,_,rfl,.inl ⟨c9,_,rfl,SqL.of (R2 _ _ e9),fun d2 fd2=>?_⟩⟩;generalize hG:upd M2 d2 _=M3;obtain⟨Sd2,ed2⟩:=qi hG fd2;clear hG;rw[y2]at ed2;refine .inr (.inl ⟨D,d2,_,_,rfl,rfl,Sd2 _ _ hD,ed2,qk (by simp;omega),fun d3 fd3=>?_⟩);generalize hG:upd M3 d3 _=M4;obtain⟨Sd3,ed3⟩:=qi hG fd3;clear hG;exact hN _ _ ⟨d3,_,rfl,S03.trans ((R9.trans R2).trans (Sd2.trans Sd3)),d9.min (by rw[ed3,List.map_append])⟩
end
theorem walkX {q:Program}{loose:List Str}{XP:(Str->Option Value)->Heap->Prop}{as:List Addr}{K:Params->Frag}{n m:Nat}{r:RowW}{d:DefRec}{kwd:List (Str×Expr)}{run:Value->List Value->Sem Value}
   (e:∀ P,as=(K P).map (·.1)) (W:PySem.W.WalkO q loose XP (fun w h=>(K w.params).In h) r d kwd run):PySem.W.WalkX q loose XP (PySem.W.X.obsZ as) (PySem.W.X.valZ K n m) r d kwd run :=
 fun w s₀ s₁ mg mb G y a o pm cd doc dV kV h1 h2 h3 h4 h5 h6 args vals as' L hp hl hr hw hlo=>W w s₀ s₁ mg mb G (InK.keeps w _ _ (PySem.W.X.z_facts e y).2.1 L.keeps) a o pm cd doc dV kV h1 h2 h3 h4 h5 h6 args vals as' hp hl hr hw hlo
theorem len_0 {p:List Value->Prop} (h:p []):∀ us:List Value,us.length=0->p us:=fun us hl=>by
 cases us with
 | nil=>exact h
 | cons a t=>cases hl
theorem len_1 {p:List Value->Prop} (h:∀ a,p [a]):∀ us:List Value,us.length=1->p us:=fun us hl=>by
 cases us with
 | nil=>cases hl
 | cons a t=>exact len_0 (p:=fun t=>p (a::t)) (h a) t (Nat.succ.inj hl)
theorem len_2 {p:List Value->Prop} (h:∀ a b,p [a,b]):∀ us:List Value,us.length=2->p us:=fun us hl=>by
 cases us with
 | nil=>cases hl
 | cons a t=>exact len_1 (p:=fun t=>p (a::t)) (h a) t (Nat.succ.inj hl)
theorem len_3 {p:List Value->Prop} (h:∀ a b c,p [a,b,c]):∀ us:List Value,us.length=3->p us:=fun us hl=>by
 cases us with
 | nil=>cases hl
 | cons a t=>exact len_2 (p:=fun t=>p (a::t)) (h a) t (Nat.succ.inj hl)
theorem len_4 {p:List Value->Prop} (h:∀ a b c d,p [a,b,c,d]):∀ us:List Value,us.length=4->p us:=fun us hl=>by
 cases us with
 | nil=>cases hl
 | cons a t=>exact len_3 (p:=fun t=>p (a::t)) (h a) t (Nat.succ.inj hl)
theorem mkDf {K:Frag}{h:Heap}{mg:Str->Option Value} (X:K.In h) (G:h.Ns mainGlobals mg) {x:Str}{st:Stmt}{ps:List Str}{f:Addr}{oc:Value}{od an:Option Addr}{osl:Array (Option Value)}{kV doc pm cdv ct:Value} (a:nsIn K mainGlobals x=some (some (.ref f))) (l:K.lookup f=some ⟨oc,od,.func (fnOf x x (Qb st) (zK st) (qh st) .none kV doc pm an cdv ct),osl⟩) (c:codeIn K cdv x=true) (k:keepIn K (.ref f)=true) (hb:∀ (kV doc pm:Value) (an:Option Addr) (cdv ct:Value) (us:List Value),us.length=ps.length->bindArgs (fnOf x x (Qb st) (zK st) (qh st) .none kV doc pm an cdv ct) ⟨us,[]⟩=pure (ps.zip us)):Df K mg x st ps f (fnOf x x (Qb st) (zK st) (qh st) .none kV doc pm an cdv ct):=⟨qdq l c k,(qdq l c k).binds hb,PySem.W.mg_of X G a,k⟩
theorem mkDm {K:Frag}{C:Addr}{x q:Str}{st:Stmt}{ps:List Str}{f:Addr}{oc:Value}{od an:Option Addr}{osl:Array (Option Value)}{kV doc pm cdv ct:Value} (m:qic K C x f) (l:K.lookup f=some ⟨oc,od,.func (fnOf x q (Qb st) (zK st) (qh st) .none kV doc pm an cdv ct),osl⟩) (c:codeIn K cdv q=true) (k:keepIn K (.ref f)=true) (hb:∀ (kV doc pm:Value) (an:Option Addr) (cdv ct:Value) (us:List Value),us.length=ps.length->bindArgs (fnOf x q (Qb st) (zK st) (qh st) .none kV doc pm an cdv ct) ⟨us,[]⟩=pure (ps.zip us)):DfM K C x q st ps f (fnOf x q (Qb st) (zK st) (qh st) .none kV doc pm an cdv ct):=⟨qdq l c k,(qdq l c k).binds hb,m⟩
theorem all2 {l:PySem.W.OpenLaw}{w:World}{K:Frag}{h:Heap}{mg:Str->Option Value}{fa:Addr} (X:K.In h) (G:h.Ns mainGlobals mg) (hfa:mg "law"=some (.ref fa)) {a:Ad} (T:Txt K mg a)
   : ∃ fd:FuncData,(∀ (s:Shared) (v:Value),BindsTo s fd ⟨[v],[]⟩ [("_law_script",v)])∧∀ base:Heap,K.In base->base.Ns mainGlobals mg->qx l.prog w K mg base CX0 12 fa fd ["_law_script"] (qcP K):=by
 have e:=hfa.symm.trans T.d_aa.m;obtain⟨oc,od,kV,doc,pm,an,cdv,ct,osl,e2,lk,hcd⟩:=T.d_aa.F.ex;cases e;exact⟨a.fd_aa,fun s v=>by rw[e2];exact .of_eq rfl,fun base _ _=>qi7 T⟩
theorem walk {l:PySem.W.OpenLaw}{q:Program}{loose:List Str}{XP:(Str->Option Value)->Heap->Prop}{YP:World->Heap->Prop}{d:DefRec}{K:Params->Frag} (hn:l.most=some 63) (hdf:d.params.defaults=[])
   (hY:∀ (w:World) (h:Heap),YP w h->(K w.params).In h)
   (F:∀ (w:World) (mg:Str->Option Value) (fa:Addr) (h:Heap),(K w.params).In h->h.Ns mainGlobals mg->mg d.name=some (.ref fa) ->
     ∃ fd:FuncData,(∀ (s:Shared) (u:Value),BindsTo s fd ⟨[u],[]⟩ [("_law_script",u)])∧∀ base:Heap,(K w.params).In base->base.Ns mainGlobals mg->qx l.prog w (K w.params) mg base CX0 12 fa fd ["_law_script"] (qcP (K w.params))) :
   PySem.W.WalkO q loose XP YP l.row.toRowW d [] (fun f vs=>PySem.call f vs) :=
 L2.walk_of (n:=63) (k:=12) (x:="_law_script") (CX:=fun _=>CX0) (sp:=fun w=>qcP (K w.params)) hn (by decide) hdf ⟨rfl,by decide,by decide,rfl⟩ hY F (fun _ _ a ns hl _ hS=>⟨a,ns,rfl,hS,hl,fun _=>rfl⟩) fun _ _ _ _ _ z=>z
end K79
open PySem PySem.W PyProof.Rows
namespace PySem.W.Fast
def tw13113459269995779042:=0
def tw6728926709100386581:=0
def tw6702290278174998613:=0
def tw17597586603486794897:=0
def tw6288012028601494907:=0
def tw17606013307156082312:=0
def tw14927241850777080297:=0
def tw2368770043374992731:=0
def tw2525465152339487447:=0
def tw10069286322752760741:=0
def tw13195182222599971001:=0
def tw11819764772049899811:=0
def tw13456175235156626139:=0
def tw5068409515626211677:=0
def tw704111489571246958:=0
def tw3887272730414092909:=0
def tw7061374901812526908:=0
def tw2906710817921878703:=0
def tw15630989760158758009:=0
def tw3355053408639164650:=0
def tw14994537873304350313:=0
def tw11263411841663916935:=0
def tw9236818093161277244:=0
def tw3623301988868645199:=0
def tw10867513182033682989:=0
def tw13497762991453175595:=0
def tw8622169960016911052:=0
def tw13672193823651065083:=0
def tw9232823397489054615:=0
def tw9129492779164635483:=0
def tw3622508972057722279:=0
def tw276113364170168943:=0
def tw16330468165726118945:=0
def tw8520114613209984596:=0
def tw8851311765376107274:=0
def tw16083192390287729998:=0
def tw1191217981552761512:=0
def tw5781577879330669102:=0
def tw940576363581653367:=0
def tw16866300632691908444:=0
def tw7641304821855086670:=0
def tw13094879072832977366:=0
def tw16458021489076141475:=0
def tw15850269412916757747:=0
def tw4029567739581890589:=0
def tw11850631863332755458:=0
def tw12879790143316473641:=0
def tw461646996031714393:=0
def tw6518065488963842338:=0
def tw16383442094005075464:=0
def tw3007678680261605525:=0
def tw17398836773096568631:=0
def tw15280340195914112285:=0
def tw16829544243348963076:=0
def tw8369241126423409431:=0
def tw6339759537442968326:=0
def tw13772590466348438259:=0
def tw18012752865974297228:=0
def tw2263536736073970263:=0
def tw14002802348022129087:=0
def tw4401902867439054918:=0
def tw10109131948201083991:=0
def tw14298622672506088937:=0
def tw5045162419589142118:=0
def tw16798434740697514212:=0
def tw6080489892442461124:=0
def tw2425165256996269387:=0
def tw11449747040473497248:=0
def tw3813076786778296466:=0
def tw4656639696575330139:=0
def tw13567393843827058337:=0
def tw12449532953896348251:=0
def tw7410795139174756851:=0
def tw12164748801605911944:=0
def tw3711156054361831627:=0
def tw11477195283471066936:=0
def tw5247222376875744417:=0
def tw7104840556625242902:=0
def tw8656491509233033655:=0
def tw6671138217013889956:=0
def tw3844076412667663423:=0
def tw15550158865652489840:=0
def tw10396312876447600300:=0
def tw18178066365453197948:=0
def tw14182971258861471893:=0
def tw3675547686801686601:=0
def tw4281384411374960023:=0
def tw900515647087804540:=0
def tw4870013523693353725:=0
def tw11034064981037159144:=0
def tw5265168340138408639:=0
def tw16824419643600436309:=0
def tw10728458411553969187:=0
def tw9293906615337691208:=0
def tw18237359691384767541:=0
def tw1054898098847158042:=0
def tw16866842626800550744:=0
def tw3561815066082446640:=0
def tw11537941484426493798:=0
def tw16827595291208531131:=0
def tw6816663683163772352:=0
def tw14878377153167579019:=0
def tw9976088051634498421:=0
def tw34754003270587571:=0
def tw13614148878974332502:=0
def tw2824205360421845213:=0
def tw13698924067427399136:=0
def tw11054389660736535652:=0
def tw9429224723117015171:=0
def tw14521387622944267026:=0
def tw10318089683091417942:=0
def tw8934034166569012109:=0
def tw2638670946940573731:=0
def tw7965333088523643131:=0
def tw5200532097067742464:=0
def tw9992874571435365162:=0
def tw13790869855908266793:=0
def tw11272847398811956091:=0
def tw3917163955915838186:=0
def tw11665954576438606333:=0
def tw7324779037097403010:=0
def tw1283260146931105736:=0
def tw17625063231328465871:=0
def tw12361469319466007634:=0
def tw1409762180510541906:=0
def tw18127369309154326700:=0
def tw10381415843767716895:=0
def tw8883046632678254323:=0
def tw11410116078890096091:=0
def tw8220777058135183587:=0
def tw4676381309986919063:=0
def tw11375141948028320089:=0
def tw775158084828711824:=0
def tw12476850711832797328:=0
def tw11120975698588682992:=0
def tw7405210972504685904:=0
def tw4418301528381507765:=0
def tw6816699521804248079:=0
def tw7480527190055265913:=0
def tw4949086553536902653:=0
def tw4730152852097652077:=0
def tw1320822235120030985:=0
def tw10427027159890149558:=0
def tw7827534770927780905:=0
def tw4644944314311379439:=0
def tw858887135092391322:=0
def tw2688132194806358862:=0
def tw5626382526714222407:=0
def tw9502215896678415063:=0
def tw3695300367048838367:=0
def tw14516586632637828113:=0
def tw11708455728121538152:=0
def tw9786072399288611998:=0
def tw9107049951550277857:=0
def tw16680226871900518416:=0
def tw6014054599668457082:=0
def tw5435655018878414242:=0
def tw13746584411995770609:=0
def tw9968958641232112065:=0
def tw8517644845709452644:=0
def tw13007038868413853729:=0
def tw16216406676833593211:=0
def tw7240550226298314428:=0
def tw367404574291399441:=0
def tw9449626589413098770:=0
def tw3565640996134323605:=0
def tw10931904455307780044:=0
def tw5345860497968684315:=0
def tw13965776877292581694:=0
def tw8093836688733480689:=0
def tw7950892328330226825:=0
def tw17895831326427520624:=0
def tw4575180116231897295:=0
def tw11407751327395119640:=0
def tw13352030961799936771:=0
def tw16511745536879730827:=0
def tw11050980302552731302:=0
def tw13053600653169292449:=0
def tw16453977547685841867:=0
def tw9597236960264687032:=0
def tw16931340107222946304:=0
def tw17007120637396485696:=0
def tw16728684496201025529:=0
def tw12990724315390537104:=0
def tw12121702459144023618:=0
def tw17038843546519257801:=0
def tw1468218541013403124:=0
def tw16680209710562984193:=0
def tw13678022713039627590:=0
def tw9027379695320709802:=0
def tw5994229746582528075:=0
def tw6954437527475000529:=0
def tw12744427644614837422:=0
def tw12345490795006892890:=0
def tw15216197620798420293:=0
def tw7610001934846034631:=0
def tw7190657162577289943:=0
def tw17877953711740489684:=0
def tw6911338959908700775:=0
def tw187356357205873619:=0
def tw16099706439623839668:=0
def tw9028772841661266517:=0
def tw5700708491165388453:=0
def tw16017883688569802491:=0
def tw3352726150425384632:=0
def tw12450807368485226033:=0
def tw14521906971109100166:=0
def tw12620922216975443078:=0
def tw13859001696590096663:=0
def tw988926418157791663:=0
def tw2194824758823589315:=0
def tw610511105229136026:=0
def tw174519964624936165:=0
def tw468964559444322244:=0
def tw15633420459500549836:=0
def tw4552887921523128494:=0
def tw11344960724525888577:=0
def tw5964119072932039669:=0
def tw13326243788245461560:=0
def tw5316697232705199069:=0
def tw6046659710351515329:=0
def tw5990907089051101808:=0
def tw16866548287470023848:=0
def tw12815500369708797755:=0
def tw7287080520210441863:=0
def tw8614968210749432560:=0
def tw10028230171588508067:=0
def tw13876582860869103808:=0
def tw1588931709841575049:=0
def tw9762775579953695627:=0
def tw14058343100729335513:=0
def tw6772546294870401861:=0
def tw14986660934840384881:=0
def tw14236910028276615382:=0
def tw12495778725846163764:=0
def tw11543490941593310555:=0
def tw2365798540363303727:=0
def tw18006867336783289877:=0
def tw3605639393349871400:=0
def tw11234036446108589202:=0
def tw8521904101270951420:=0
def tw12821314462046536702:=0
def tw6415647450357575972:=0
def tw7005749334594410132:=0
def tw17479146927089834999:=0
def tw4330982382867542241:=0
def tw11737785368604571627:=0
def tw2175196760025636919:=0
def tw12801503285748210014:=0
def tw12353641219997066126:=0
end PySem.W.Fast
set_option maxHeartbeats 0 in
theorem PySem.Challenge.cw_foldlog_k79_not_put_together_holds : PySem.Challenge.rw_foldlog_k79_not_put_together.Holds := by
 w_on;o_law;z_head;(case hw=>w_witness2)
 k_fill
 refine K79.walkX (fun _=>by kernel_rfl) (K79.walk (l:=PySem.Challenge.rw_foldlog_k79_not_put_together) rfl rfl (fun w h Y=>Y) ?F)
 case F =>
   intro w mg fa h KX G hmg;refine' K79.all2 KX G hmg (a:=⟨_,_,_,_,_,_,_,_,_,_,_,_,_,_,_,_,_,_,_,_,_,_,_,_,_,_,_,_,_,_,_,_,_,_,_,_,_,_,_,_,_,_,_,_,_,_,_,_,_,_,_,_,_,_,_,_,_,_,_,_,_,_,_,_,_,_,_,_,_,_,_,_,_,_,_,_,_,_,_,_,_,_,_,_,_,_,_,_,_,_,_,_,_,_,_,_,_,_,_,_,_,_,_,_,_,_,_,_,_,_,_,_,_,_,_,_,_,_,_,_,_,_,_,_,_,_,_,_,_,_,_,_,_,_,_,_,_,_,_,_,_,_⟩) ?T
   case T =>
     constructor
     all_goals try dsimp only
     all_goals try refine' PySem.W.mg_of KX G ?_
     all_goals try refine' PySem.W.mg_none_of KX G ?_
     all_goals try refine' ⟨_,PySem.W.mg_of KX G ?_⟩
     all_goals try k_is
     all_goals try refine' K79.mkDf KX G ?_ ?_ ?_ ?_ (fun _ _ _ _ _ _=>by first|exact K79.len_0 rfl|exact K79.len_1 fun _=>rfl|exact K79.len_2 fun _ _=>rfl|exact K79.len_3 fun _ _ _=>rfl|exact K79.len_4 fun _ _ _ _=>rfl)
     all_goals try refine' K79.mkDm ⟨?_,?_,?_⟩ ?_ ?_ ?_ (fun _ _ _ _ _ _=>by first|exact K79.len_0 rfl|exact K79.len_1 fun _=>rfl|exact K79.len_2 fun _ _=>rfl|exact K79.len_3 fun _ _ _=>rfl|exact K79.len_4 fun _ _ _ _=>rfl)
     all_goals try refine' L2.xIsa_of ?_ ?_ ?_
     all_goals try refine' L2.XMro.of ?_ ?_
     all_goals try refine' L2.xIn_of ?_ ?_
     all_goals try refine' ⟨⟨L2.xIn_of ?_ ?_,?_,?_,?_,?_,?_,?_⟩,?_,?_,?_⟩
     all_goals try refine' ⟨⟨?_,?_,?_,?_⟩,?_,?_,?_,?_⟩
     all_goals try refine' ⟨?_,?_,?_,?_⟩
     all_goals try refine' ⟨?_,?_,?_⟩
     all_goals try refine' ⟨?_,?_⟩
     all_goals try (first|k_is|rfl)
     all_goals try (first|k_is|rfl)
     all_goals try (first|k_is|rfl)
     all_goals decide
