import PyProof.Rows.All
import OpenK.KLine
import Wide.FinOn
import KE.KSortTup
import KE.KDictOf
import KE.KIntText
import KE.KRevSl
import KE.KFromBytes
import KE.KItemsList
import KE.KIsAll
import KE.KEqDict
import KE.KRevIter
import PySem.Challenge.RW_foldlog_k54_lesser_and_greater
set_option maxHeartbeats 4000000
set_option Elab.async false
set_option linter.all false
set_option maxRecDepth 100000
namespace L2
open PySem PySem.Spec PyProof.Rows
open PySem.W (instObj methodObj Frag lookIn plainGet findIn isFn keepIn kia_one kitx_list kitx_dict fnOf)
abbrev Key:=Sum Int Str
def jf:Key->Value->Bool
 | .inl k,v=>Value.isInt k v
 | .inr x,v=>Value.isStrOf x v
def qeg (w:World):Key->Int
 | .inl k=>hashInt k
 | .inr x=>hashStr w x
theorem qF:∀ {k:Key}{v:Value},jf k v=true->(∃ i t,k=Sum.inl i∧v=Value.int i t)∨(∃ x t,k=Sum.inr x∧v=Value.str x t)
 | .inl i,v,h=>by
   obtain⟨t,e⟩:=Value.isInt_shape (k:=i) (v:=v) h;exact .inl ⟨i,t,rfl,e⟩
 | .inr x,v,h=>by
   obtain⟨t,e⟩:=Value.isStrOf_shape (x:=x) (v:=v) h;exact .inr ⟨x,t,rfl,e⟩
theorem JX (i:Int) (t:Tok):jf (.inl i) (.int i t)=true:=by simp[jf,Value.isInt]
theorem JW (x:Str) (t:Tok):jf (.inr x) (.str x t)=true:=by simp[jf,Value.isStrOf]
theorem qcT (a b:Int):decide ((Sum.inl a:Key)=Sum.inl b)=(a == b):=by
 by_cases e:a=b
 · subst e;simp
 · have h:¬ (Sum.inl a:Key)=Sum.inl b:=fun q=>e (Sum.inl.inj q);rw[decide_eq_false h];exact(beq_eq_false_iff_ne.mpr e).symm
theorem qcQ (a b:Str):decide ((Sum.inr a:Key)=Sum.inr b)=decide (a=b):=by
 by_cases e:a=b
 · subst e;simp
 · have h:¬ (Sum.inr a:Key)=Sum.inr b:=fun q=>e (Sum.inr.inj q);rw[decide_eq_false h,decide_eq_false e]
theorem qcS (a:Int) (b:Str):decide ((Sum.inl a:Key)=Sum.inr b)=false:=decide_eq_false (fun q=>nomatch q)
theorem qcR (a:Str) (b:Int):decide ((Sum.inr a:Key)=Sum.inl b)=false:=decide_eq_false (fun q=>nomatch q)
def qq (prog:Program) (w:World):PySem.KeyKind prog w Key where
 is:=jf
 hash:=qeg w
 inj:=fun v a b ha hb=>by
   rcases qF ha with ⟨i,t,rfl,rfl⟩|⟨x,t,rfl,rfl⟩
   · rcases qF hb with ⟨j,u,rfl,e⟩|⟨y,u,rfl,e⟩
     · injection e with e1 _;rw[e1]
     · exact nomatch e
   · rcases qF hb with ⟨j,u,rfl,e⟩|⟨y,u,rfl,e⟩
     · exact nomatch e
     · injection e with e1 _;rw[e1]
 byValue:=fun k v h=>by
   rcases qF h with ⟨i,t,rfl,rfl⟩|⟨x,t,rfl,rfl⟩<;>rfl
 pyHash:=fun hv h=>by
   rcases qF hv with ⟨i,t,rfl,rfl⟩|⟨x,t,rfl,rfl⟩
   · exact wpAny_pyHash_int h
   · exact wpAny_pyHash_str h
 eqBool:=fun hu hv h=>by
   rcases qF hu with ⟨i,t,rfl,rfl⟩|⟨x,t,rfl,rfl⟩
   · rcases qF hv with ⟨j,u,rfl,rfl⟩|⟨y,u,rfl,rfl⟩
     · rw[qcT]at h;exact wpAny_eqBool_int h
     · rw[qcS]at h;exact SeqAt.EqAt.int_str i t y u _ _ _ _ h
   · rcases qF hv with ⟨j,u,rfl,rfl⟩|⟨y,u,rfl,rfl⟩
     · rw[qcR]at h;exact SeqAt.EqAt.str_int x t j u _ _ _ _ h
     · rw[qcQ]at h;exact wpAny_eqBool_str h
 «strs»:=fun k x t v h=>by
   rcases qF h with ⟨i,u,rfl,e⟩|⟨y,u,rfl,e⟩
   · exact nomatch e
   · injection e with e1 _;subst e1;cases v<;>rfl
theorem je (prog:Program) (w:World) (i:Int) (t:Tok):(qq prog w).is (.inl i) (.int i t)=true:=JX i t
theorem jd (prog:Program) (w:World) (x:Str) (t:Tok):(qq prog w).is (.inr x) (.str x t)=true:=JW x t
inductive V where
 | non|bl (b:Bool)|int (i:Int)|str (x:Str)|byt (b:Array UInt8)|flt (b:UInt64)|ref (a:Addr)|ty (n:String)
 deriving DecidableEq
def RelV:V->Value->Prop
 | .non,u=>u=Value.none
 | .bl b,u=>u=Value.bool b
 | .int i,u=>∃ t,u=Value.int i t
 | .str x,u=>∃ t,u=Value.str x t
 | .byt b,u=>∃ t,u=Value.bytes b t
 | .flt b,u=>∃ t,u=Value.float b t
 | .ref a,u=>u=Value.ref a
 | .ty n,u=>u=Value.type n
abbrev Vals:List V->List Value->Prop:=Paired RelV
theorem Vals.length {xs:List V}{us:List Value} (r:Vals xs us):xs.length=us.length:=Paired.length r
theorem Vals.get:∀ {xs:List V}{us:List Value}{i:Nat}{x:V},Vals xs us->xs[i]?=some x->∃ u,us[i]?=some u∧RelV x u
 | _,_,_,_,.nil,e=>by simp at e
 | _,_,0,_,.cons r _,e=>by simp at e;subst e;exact⟨_,rfl,r⟩
 | _,_,i+1,x,.cons _ t,e=>by
   obtain⟨u,h1,h2⟩:=Vals.get (i:=i) (x:=x) t (by simpa using e);exact⟨u,by simpa using h1,h2⟩
theorem Vals.set {x:V}{u:Value} (r:RelV x u):∀ {xs:List V}{us:List Value} (i:Nat),Vals xs us->Vals (xs.set i x) (us.set i u)
 | _,_,_,.nil=>.nil
 | _,_,0,.cons _ t=>.cons r t
 | _,_,i+1,.cons q t=>.cons q (Vals.set r i t)
theorem Vals.append:∀ {xs ys:List V}{us ws:List Value},Vals xs us->Vals ys ws->Vals (xs++ys) (us++ws)
 | _,_,_,_,.nil,s=>s
 | _,_,_,_,.cons r t,s=>.cons r (Vals.append t s)
def RelO:Option V->Option Value->Prop
 | some v,some u=>RelV v u
 | none,none=>True
 | _,_=>False
def KV {κ:Type}:List (κ×V)->List (κ×Value)->Prop:=Paired fun (p:κ×V) (q:κ×Value)=>p.1=q.1∧RelV p.2 q.2
def kV:Key->V
 | .inl i=>.int i
 | .inr x=>.str x
inductive HO where
   | lst (xs:List V)
   | tup (xs:List V)
   | dK (kvs:List (Key×V))|dT (kvs:List (List Key×V))
   | set (S:Int->Bool) (n:Nat)
   | ins (C dx:Addr) (fs:List (Str×V))
   | own (x:Addr)
   | xd (fs:List (Str×V))
   | met (f x:Addr)
   | rng (lo hi:Int)
   | frz (o:Obj) (u:HO)
   | tbl (ps:Array Value)
   | ext (φ:Heap->Prop)
abbrev Hp:=Addr->Option HO
def upd (H:Hp) (a:Addr) (o:HO):Hp:=fun b=>if b=a then some o else H b
theorem qd {H:Hp}{a:Addr}{o:HO}:upd H a o a=some o:=by unfold upd;rw[if_pos rfl]
theorem qb {H:Hp}{a b:Addr}{o:HO} (h:b≠a):upd H a o b=H b:=by unfold upd;rw[if_neg h]
theorem qbG {H:Hp}{a:Addr}{o u:HO}:upd (upd H a o) a u=upd H a u:=by
 funext b;unfold upd;split<;>rfl
theorem ZI {H:Hp}{a b:Addr}{o u:HO} (h:H a=some o) (h':H b=some u) (d:o≠u):a≠b:=by
 intro e;subst e;rw[h]at h';exact d (Option.some.inj h')
theorem qe {H:Hp}{a b:Addr}{o:HO} (h:H a=some o) (h':H b=none):a≠b:=by
 intro e;subst e;rw[h]at h';cases h'
section
variable (P:Program) (w:World)
def ObjOk (H:Hp) (h:Heap) (a:Addr):HO->Prop
 | .lst xs=>xs.length≤sizeLine∧∃ (its:List Value) (n:Nat),Vals xs its∧h.get? a=some { cls:=.type "list",data:=.seq its.toArray n }
 | .tup xs=>xs.length≤sizeLine∧∃ its:List Value,Vals xs its∧IsTup h a its.toArray
 | .dK kvs=>kvs.length≤sizeLine∧(a == sysModules)=false∧∃ vs,KV kvs vs∧h.DictOf (qq P w) a vs
 | .dT kvs=>kvs.length≤sizeLine∧(a == sysModules)=false∧∃ xs:List (List Key×Addr×Value),
     Paired (fun (p:List Key×V) (q:List Key×Addr×Value)=>p.1=q.1∧H q.2.1=some (.tup (p.1.map kV))∧RelV p.2 q.2.2) kvs xs ∧
     ∃ o es ep,h.get? a=some o∧o.ExactDict∧o.data=.dict es ep∧es.toList=xs.map (entryOfKey (tupleKind (qq P w)))∧(xs.map (·.1)).Nodup
 | .set S n=>h.SetOf (intKind P w) a S n
 | .ins C dx fs=>H dx=some (.own a)∧fs.length≤1000∧dx≠a∧h.get? a=some (instObj C dx) ∧
     ∃ mA,h.Ns1 dx mA∧(∀ f,RelO (fs.lookup f) (mA f))∧PySem.Within mA (fs.map (·.1))
 | .own _=>∃ o,h.get? a=some o
 | .xd fs=>∃ mA,h.Ns1 a mA∧∀ f,RelO (fs.lookup f) (mA f)
 | .rng lo hi=>∃ t u v,h.get? a=some { cls:=.type "range",data:=.fields #[.int lo t,.int hi u,.int 1 v] }
 | .frz o u=>h.get? a=some o∧ObjOk H h a u
 | .tbl ps=>h.get? a=some { cls:=.none,data:=.fields ps }
 | .met f x=>h.get? a=some (methodObj (.ref f) (.ref x))
 | .ext φ=>φ h∧(∃ o,h.get? a=some o)∧∀ h1 h2:Heap,φ h1->(∀ o,h1.get? a=some o->h2.get? a=some o)->φ h2
def HOk (H:Hp) (h:Heap):Prop:=∀ a o,H a=some o->ObjOk P w H h a o
end
section
variable {P:Program}{w:World}{H H':Hp}{h h':Heap}{a:Addr}{o:HO}
theorem ObjOk.lt (x:ObjOk P w H h a o):a < h.objs.size:=by
 cases o with
 | lst xs=>obtain⟨_,_,_,_,e⟩:=x;exact Heap.lt_size e
 | tup xs=>obtain⟨_,_,_,p⟩:=x;exact p.lt
 | dK kvs=>obtain⟨_,_,_,_,o,_,_,e,_⟩:=x;exact Heap.lt_size e
 | dT kvs=>obtain⟨_,_,_,_,o,_,_,e,_⟩:=x;exact Heap.lt_size e
 | set S n=>obtain⟨o,_,_,_,e,_⟩:=x;exact Heap.lt_size e
 | ins C dx fs=>obtain⟨_,_,_,e,_⟩:=x;exact Heap.lt_size e
 | own y=>obtain⟨_,e⟩:=x;exact Heap.lt_size e
 | xd fs=>obtain⟨_,⟨_,_,_,e,_⟩,_⟩:=x;exact Heap.lt_size e
 | rng lo hi=>obtain⟨_,_,_,e⟩:=x;exact Heap.lt_size e
 | frz ob u=>obtain⟨e,_⟩:=x;exact Heap.lt_size e
 | tbl ps=>exact Heap.lt_size (show h.get? a=some _ from x)
 | met f y=>exact Heap.lt_size (show h.get? a=some _ from x)
 | ext φ=>obtain⟨_,⟨_,e⟩,_⟩:=x;exact Heap.lt_size e
theorem Paired.mapP {α β:Type}{F G:α->β->Prop}:∀ {l₁:List α}{l₂:List β},Paired F l₁ l₂->(∀ a b,F a b->G a b)->Paired G l₁ l₂
 | _,_,.nil,_=>.nil
 | _,_,.cons r t,f=>.cons (f _ _ r) (Paired.mapP t f)
theorem ObjOk.stay (x:ObjOk P w H h a o) (k:∀ b u,(b=a∨H b=some (.own a))->h.get? b=some u->h'.get? b=some u)
   (ho:∀ b,H b=some (.own a)->H' b=some (.own a)) (ht:∀ b xs,H b=some (.tup xs)->H' b=some (.tup xs)):ObjOk P w H' h' a o:=by
 induction o with
 | lst xs=>obtain⟨z,its,n,r,e⟩:=x;exact⟨z,its,n,r,k _ _ (.inl rfl) e⟩
 | tup xs=>obtain⟨z,its,r,ob,e,c⟩:=x;exact⟨z,its,r,ob,k _ _ (.inl rfl) e,c⟩
 | dK kvs=>obtain⟨z,y,vs,r,ob,es,ep,e,c⟩:=x;exact⟨z,y,vs,r,ob,es,ep,k _ _ (.inl rfl) e,c⟩
 | dT kvs =>
   obtain⟨z,y,xs,r,ob,es,ep,e,c⟩:=x;exact⟨z,y,xs,Paired.mapP r fun p q z=>⟨z.1,ht _ _ z.2.1,z.2.2⟩,ob,es,ep,k _ _ (.inl rfl) e,c⟩
 | set S n=>obtain⟨ob,es,ep,t,e,c⟩:=x;exact⟨ob,es,ep,t,k _ _ (.inl rfl) e,c⟩
 | ins C dx fs =>
   obtain⟨d,z,ne,e,mA,⟨od,es,ep,e2,c⟩,r⟩:=x;exact⟨ho _ d,z,ne,k _ _ (.inl rfl) e,mA,⟨od,es,ep,k _ _ (.inr d) e2,c⟩,r⟩
 | own y=>obtain⟨ob,e⟩:=x;exact⟨ob,k _ _ (.inl rfl) e⟩
 | xd fs=>obtain⟨mA,⟨od,es,ep,e,c⟩,r⟩:=x;exact⟨mA,⟨od,es,ep,k _ _ (.inl rfl) e,c⟩,r⟩
 | rng lo hi=>obtain⟨t,u,v,e⟩:=x;exact⟨t,u,v,k _ _ (.inl rfl) e⟩
 | frz ob u ih=>obtain⟨e,q⟩:=x;exact⟨k _ _ (.inl rfl) e,ih q⟩
 | tbl ps =>
   have e:h.get? a=some { cls:=.none,data:=.fields ps }:=x;show h'.get? a=some { cls:=.none,data:=.fields ps };exact k a _ (.inl rfl) e
 | met f y =>
   have e:h.get? a=some (methodObj (.ref f) (.ref y)):=x;show h'.get? a=some (methodObj (.ref f) (.ref y));exact k a _ (.inl rfl) e
 | ext φ=>obtain⟨p,⟨o,e⟩,st⟩:=x;exact⟨st _ _ p fun o q=>k _ _ (.inl rfl) q,⟨o,k _ _ (.inl rfl) e⟩,st⟩
theorem HOk.lt (x:HOk P w H h) (e:H a=some o):a < h.objs.size:=(x a o e).lt
theorem HOk.fresh (x:HOk P w H h) (e:h.objs.size≤a):H a=none:=by
 cases q:H a with
 | none=>rfl
 | some u=>exact absurd (Nat.lt_of_lt_of_le (x.lt q) e) (Nat.lt_irrefl _)
theorem HOk.kept (x:HOk P w H h) (k:∀ b u,h.get? b=some u->h'.get? b=some u):HOk P w H h':=fun a o e =>
 (x a o e).stay (fun b u _ q=>k b u q) (fun _ q=>q) fun _ _ q=>q
theorem HOk.laid (x:HOk P w H h) (k:∀ b u,h.get? b=some u->h'.get? b=some u) (hp:h.objs.size≤a) (new:ObjOk P w (upd H a o) h' a o):HOk P w (upd H a o) h':=fun b u e=>by
 have hn:=x.fresh hp;by_cases hb:b=a
 · subst hb;rw[qd]at e;cases e;exact new
 · rw[qb hb]at e;exact(x b u e).stay (fun c v _ q=>k c v q) (fun c q=>by rw[qb (qe q hn)];exact q) fun c xs q=>by rw[qb (qe q hn)];exact q
end
def Rd (H:Hp) (a:Addr) (u:HO):Prop:=H a=some u∨∃ o,H a=some (.frz o u)
theorem Rd.ok {P:Program}{w:World}{H:Hp}{h:Heap}{a:Addr}{u:HO} (r:Rd H a u) (x:HOk P w H h):ObjOk P w H h a u:=by
 rcases r with r|⟨o,r⟩
 · exact x a u r
 · obtain⟨_,q⟩:=x a _ r;exact q
def Mut:Option HO->Prop
 | some (.lst _)=>True
 | some (.dK _)=>True
 | some (.dT _)=>True
 | some (.set _ _)=>True
 | some (.ins _ _ _)=>True
 | some (.ext _)=>True
 | _=>False
section
variable {P:Program}{w:World}{H:Hp}{h h':Heap}{x e:Addr}{o':HO}
theorem HOk.write (ok:HOk P w H h) (mu:Mut (H x)) (he:e=x∨H e=some (.own x)) (k:∀ b u,b≠e->h.get? b=some u->h'.get? b=some u) (heo:∃ u,h'.get? e=some u)
   (new:ObjOk P w (upd H x o') h' x o'):HOk P w (upd H x o') h':=fun b u q=>by
 have nown:∀ c y,H c=some (.own y)->c≠x:=fun c y r z=>by subst z;rw[r]at mu;exact mu
 have ntup:∀ c xs,H c=some (.tup xs)->c≠x:=fun c xs r z=>by subst z;rw[r]at mu;exact mu
 by_cases hb:b=x
 · subst hb;rw[qd]at q;cases q;exact new
 · rw[qb hb]at q;by_cases hbe:b=e
   · have q':H b=some (.own x):=by
       rcases he with z|z
       · exact absurd (hbe.trans z) hb
       · rw[hbe];exact z
     rw[q]at q';cases q';obtain⟨v,hv⟩:=heo;exact⟨v,by rw[hbe];exact hv⟩
   · refine(ok b u q).stay (fun c v hc r=>k c v ?_ r) (fun c r=>by rw[qb (nown c b r)];exact r) fun c xs r=>by rw[qb (ntup c xs r)];exact r
     rcases hc with rfl|hc
     · exact hbe
     · rintro rfl;rcases he with z|z
       · exact nown c b hc z
       · rw[hc]at z;cases z;exact hb rfl
end
structure Un (fs ex:List Addr) (H H':Hp) (h h':Heap):Prop where
 keep:∀ b o,h.get? b=some o->H b=none->b∉fs->b∉ex->h'.get? b=some o
 slot:∀ b o,h.get? b=some o->H b=none->b∈fs->b∉ex->∃ sl,h'.get? b=some { o with slots:=sl }
 free:∀ b o,h.get? b=some o->H b=none->b∉ex->H' b=none
 there:∀ b o,h.get? b=some o->b∉ex->∃ o',h'.get? b=some o'
 tups:∀ b xs,H b=some (.tup xs)->H' b=some (.tup xs)
 frzs:∀ b o u,H b=some (.frz o u)->H' b=some (.frz o u)
 tbls:∀ b ps,H b=some (.tbl ps)->∃ more,H' b=some (.tbl (ps++more))
section
variable {fs fs' ex ex':List Addr}{H H1 H2:Hp}{h h1 h2 h':Heap}{a x e:Addr}{o:HO}
theorem Un.any (u:Un fs ex H H1 h h1) {b:Addr}{ob:Obj} (q:h.get? b=some ob) (n:H b=none) (hx:b∉ex):∃ sl,h1.get? b=some { ob with slots:=sl }:=by
 by_cases hb:b∈fs
 · exact u.slot b ob q n hb hx
 · exact⟨ob.slots,u.keep b ob q n hb hx⟩
theorem Un.kept (k:∀ b u,h.get? b=some u->h'.get? b=some u):Un fs ex H H h h' :=
 ⟨fun b ob q _ _ _=>k b ob q,fun b ob q _ _ _=>⟨ob.slots,k b ob q⟩,fun _ _ _ n _=>n,fun b ob q _=>⟨ob,k b ob q⟩,fun _ _ q=>q,fun _ _ _ q=>q,fun _ ps q=>⟨#[],by rw[q];simp⟩⟩
theorem Un.refl:Un fs ex H H h h:=Un.kept fun _ _ q=>q
theorem Un.laid (k:∀ b u,h.get? b=some u->h'.get? b=some u) (hp:h.objs.size≤a) (hn:H a=none):Un fs ex H (upd H a o) h h' where
 keep:=fun b u q _ _ _=>k b u q
 slot:=fun b u q _ _ _=>⟨u.slots,k b u q⟩
 free:=fun b u q n _=>by rw[qb (Nat.ne_of_lt (Nat.lt_of_lt_of_le (Heap.lt_size q) hp))];exact n
 there:=fun b u q _=>⟨u,k b u q⟩
 tups:=fun b xs q=>by rw[qb (qe q hn)];exact q
 frzs:=fun b u xs q=>by rw[qb (qe q hn)];exact q
 tbls:=fun b ps q=>⟨#[],by rw[qb (qe q hn),q];simp⟩
theorem Un.write (mu:Mut (H x)) (he:e=x∨H e=some (.own x)) (k:∀ b u,b≠e->h.get? b=some u->h'.get? b=some u) (heo:∃ u,h'.get? e=some u):Un fs ex H (upd H x o) h h':=by
 have hx:∀ b,H b=none->b≠x:=fun b n z=>by subst z;rw[n]at mu;exact mu
 have hb:∀ b,H b=none->b≠e:=fun b n z=>by
   subst z;rcases he with r|r
   · exact hx b n r
   · rw[n]at r;cases r
 have hm:∀ b u,H b=some u->¬ Mut (some u)->b≠x:=fun b u q nm z=>by subst z;rw[q]at mu;exact nm mu
 refine⟨fun b u q n _ _=>k b u (hb b n) q,fun b u q n _ _=>⟨u.slots,k b u (hb b n) q⟩,fun b u q n _=>by rw[qb (hx b n)];exact n,fun b u q _=>?_,
   fun b xs q=>by rw[qb (hm b _ q fun z=>z)];exact q,fun b u xs q=>by rw[qb (hm b _ q fun z=>z)];exact q,fun b ps q=>⟨#[],by rw[qb (hm b _ q fun z=>z),q];simp⟩⟩
 by_cases hbe:b=e
 · subst hbe;exact heo
 · exact⟨u,k b u hbe q⟩
end
def trk (h:Heap) (H:Hp):List Addr:=(List.range h.objs.size).filter fun a=>(H a).isSome
def qa3 (h:Heap) (H:Hp):Heap:=PySem.W.hideAll h (trk h H)
theorem J9 (h:Heap) (H:Hp):(qa3 h H).objs.size=h.objs.size:=PySem.W.hideAll_size _ _
theorem qa2 {h:Heap}{H:Hp}{b:Addr}{o:Obj} (e:h.get? b=some o) (n:H b=none):(qa3 h H).get? b=some o :=
 PySem.W.hideAll_get _ e fun hm=>by
   have q:(H b).isSome=true:=(List.mem_filter.mp hm).2;rw[n]at q;simp at q
theorem qb0 {h:Heap}{H:Hp}{b:Addr}{o:Obj} (e:(qa3 h H).get? b=some o):h.get? b=some o∧H b=none:=by
 have e':h.get? b=some o:=PySem.W.of_hideAll (trk h H) e;refine⟨e',?_⟩
 cases q:H b with
 | none=>rfl
 | some x =>
   have hm:b∈trk h H:=List.mem_filter.mpr ⟨List.mem_range.mpr (Heap.lt_size e'),by simp[q]⟩;have z:(qa3 h H).get? b=none:=PySem.W.hideAll_none (trk h H) hm;rw[z]at e;cases e
structure Mod (K:Frag) (mg:Str->Option Value) (base:Heap):Prop where
 kin:K.In base
 glob:base.Ns mainGlobals mg
 blt:∃ mb,base.Ns builtinsNs mb∧∀ x:Str,x≠"__name__"->mb x=bootBuiltins x
 nolimit:base.NoLimit
structure Cx where
 prog:Program
 w:World
 K:Frag
 mg:Str->Option Value
 base:Heap
 A:Around
 N:List Str
 s₀:Shared
 H₀:Hp
 env:Env
 outer:List Env
 stack:List Env
 ex:List Addr
 fn:Str->Bool
 calm:Bool
 pn:List (Addr×Obj)
 xe:Value->Shared->Prop
def frs (l:List Env):List Addr:=l.filterMap (·.frame)
abbrev Cx.fs (X:Cx):List Addr:=frs X.outer
def Vis (sc:Scope) (x:Str):Prop:=sc.names.lookup x=some .local∨sc.names.lookup x=some .cell∨sc.names.lookup x=some .free
def Loc (sc:Scope) (x:Str):Prop:=sc.names.lookup x=some .local∨sc.names.lookup x=some .cell
def qem (env:Env) (h:Heap) (m:Str->Option Value) (x:Str) (u:Value):Prop :=
 (env.kindOf x=some .local∧m x=some u)∨((env.kindOf x=some .cell∨env.kindOf x=some .free)∧∃ c,env.cells.lookup x=some c∧h.IsCell c (some u))
structure Cx.Ok (X:Cx):Prop where
 mod:Mod X.K X.mg X.base
 kind:X.env.scope.kind=.function
 glob:X.env.globals=mainGlobals
 blt:X.env.builtins=builtinsNs
 above:X.s₀.heap.objs.size≤X.env.locals
 inj:∀ x y c,X.env.cells.lookup x=some c->X.env.cells.lookup y=some c->x=y
 has:∀ x,(X.env.kindOf x=some .cell∨X.env.kindOf x=some .free)->∃ c,X.env.cells.lookup x=some c
 cab:∀ x c,X.fn x=true->X.env.cells.lookup x=some c->X.s₀.heap.objs.size≤c
 hd:X.calm=true->X.A.handled=none
 frames:X.A.frames=some X.stack
 stk:X.stack=X.outer∨(X.stack=X.env::X.outer∧X.env.frame=some X.env.locals)
 exf:∀ b∈X.ex,b≠X.env.locals∧∀ x c,X.env.cells.lookup x=some c->c≠b
 bs:∀ b o,X.base.get? b=some o->X.s₀.heap.get? b=some o∧X.H₀ b=none
 bsz:X.base.objs.size≤X.s₀.heap.objs.size
 noex:∀ b o,X.base.get? b=some o->b∉X.ex
 exfs:∀ b∈X.ex,b∉X.fs
 funs:X.s₀.heap.FunFrames X.base X.outer
 frf:∀ b∈X.fs,X.H₀ b=none
structure Inv (X:Cx) (pins:List (Addr×Obj)) (σ:List (Option V)) (H:Hp) (s:Shared):Prop where
 ok:X.Ok
 os:s.os=X.s₀.os
 bare:AllBare s.gens
 base:Un X.fs X.ex X.H₀ H X.s₀.heap s.heap
 loc:∃ m,s.heap.Ns X.env.locals m∧∀ (i:Nat) (x:Str) (v:V),X.N[i]?=some x->σ[i]?=some (some v)->Vis X.env.scope x->∃ u,RelV v u∧qem X.env s.heap m x u
 cell:∀ x c,X.env.cells.lookup x=some c->∃ v,s.heap.IsCell c v
 free:H X.env.locals=none
 freeC:∀ x c,X.env.cells.lookup x=some c->H c=none
 pin:∀ p∈X.pn++pins,s.heap.get? p.1=some p.2∧H p.1=none∧p.1≠X.env.locals∧p.1∉X.fs∧∀ v,p.2.data≠.cell v
 hok:HOk X.prog X.w H s.heap
 len:σ.length=X.N.length
section
variable {X:Cx}{pins:List (Addr×Obj)}{σ:List (Option V)}{H H':Hp}{s:Shared}{h':Heap}
theorem Cx.Ok.nofr (ok:X.Ok) {b:Addr}{o:Obj} (e:X.base.get? b=some o):b∉X.fs:=fun hb=>by
 have:=(ok.funs.mem hb).1
 rw[e]at this;cases this
theorem Inv.bs (I:Inv X pins σ H s):∀ b o,X.base.get? b=some o->s.heap.get? b=some o∧H b=none:=fun b o e =>
 ⟨I.base.keep b o (I.ok.bs b o e).1 (I.ok.bs b o e).2 (I.ok.nofr e) (I.ok.noex b o e),I.base.free b o (I.ok.bs b o e).1 (I.ok.bs b o e).2 (I.ok.noex b o e)⟩
theorem Inv.bk (I:Inv X pins σ H s):∀ b o,X.base.get? b=some o->s.heap.get? b=some o:=fun b o e=>(I.bs b o e).1
theorem Inv.mod (I:Inv X pins σ H s):Mod X.K X.mg X.base:=I.ok.mod
theorem Inv.kIn (I:Inv X pins σ H s):X.K.In s.heap:=I.ok.mod.kin.keeps I.bk
theorem Inv.fr (I:Inv X pins σ H s):∃ m,Fr X.base X.env.locals s.heap m :=
 let ⟨m,hn,_⟩:=I.loc
 ⟨m,hn,I.bk,Nat.le_trans I.ok.bsz I.ok.above⟩
theorem Inv.lt (I:Inv X pins σ H s):X.env.locals < s.heap.objs.size:=let ⟨_,hn,_⟩:=I.loc;hn.lt
theorem Inv.sz (I:Inv X pins σ H s):X.s₀.heap.objs.size≤s.heap.objs.size:=Nat.le_trans I.ok.above (Nat.le_of_lt I.lt)
theorem Inv.nofs (I:Inv X pins σ H s) {a:Addr} (h:s.heap.objs.size≤a):a∉X.fs:=fun hb=>by
 obtain⟨_,o,ho,_⟩:=I.ok.funs.mem hb;exact absurd (Nat.lt_of_lt_of_le (Heap.lt_size ho) (Nat.le_trans I.sz h)) (Nat.lt_irrefl _)
theorem Inv.cne (I:Inv X pins σ H s):∀ x c,X.env.cells.lookup x=some c->c≠X.env.locals:=fun x c e z=>by
 obtain⟨v,o,ho,hd⟩:=I.cell x c e;obtain⟨m,⟨o',es,ep,ho',hd',_⟩,_⟩:=I.loc;rw[z,ho']at ho;cases ho;rw[hd']at hd;cases hd
theorem Inv.funs (I:Inv X pins σ H s):s.heap.FunFrames X.base X.outer:=by
 have all:∀ (l:List Env),(∀ b∈frs l,b∈X.fs)->X.s₀.heap.FunFrames X.base l->s.heap.FunFrames X.base l:=by
   intro l
   induction l with
   | nil=>intro _ _;trivial
   | cons env r ih =>
     intro hs hl;obtain⟨hk,⟨L,o,hf,hn,ho,hd⟩,hr⟩:=hl;have hL:L∈X.fs:=hs L (by unfold frs;rw[List.filterMap_cons,hf];exact List.mem_cons_self);obtain⟨sl,e⟩:=I.base.slot L o ho (I.ok.frf L hL) hL fun z=>I.ok.exfs L z hL;exact⟨hk,⟨L,_,hf,hn,e,hd⟩,ih (fun b hb=>hs b (by unfold frs;rw[List.filterMap_cons,hf];exact List.mem_cons_of_mem _ hb)) hr⟩
 exact all X.outer (fun _ hb=>hb) I.ok.funs
theorem Inv.stack (I:Inv X pins σ H s):s.heap.FunFrames X.base X.stack:=by
 rcases I.ok.stk with e|⟨e,hf⟩
 · rw[e];exact I.funs
 · rw[e];obtain⟨m,hn,_⟩:=I.loc;refine .cons (by rw[I.ok.kind];decide) hf hn ?_ I.funs;exact Heap.get?_none_of_le (Nat.le_trans I.ok.bsz I.ok.above)
theorem Inv.stkSub (I:Inv X pins σ H s):∀ b∈frs X.stack,b∈X.env.locals::X.fs:=fun b hb=>by
 rcases I.ok.stk with e|⟨e,hf⟩
 · rw[e]at hb;exact List.mem_cons_of_mem _ hb
 · rw[e]at hb;unfold frs at hb;rw[List.filterMap_cons,hf]at hb;exact hb
theorem Inv.stkFree (I:Inv X pins σ H s):∀ b∈frs X.stack,H b=none:=fun b hb=>by
 rcases List.mem_cons.mp (I.stkSub b hb) with e|hb
 · rw[e];exact I.free
 · obtain⟨_,o,ho,_⟩:=I.ok.funs.mem hb;exact I.base.free b o ho (I.ok.frf b hb) fun z=>I.ok.exfs b z hb
theorem Inv.step {g':Array GenState}{t':Nat}{d':Drawn}{ch:List Addr} (I:Inv X pins σ H s)
   (hch:∀ b∈ch,(b∈X.ex∨X.s₀.heap.objs.size≤b)∧b≠X.env.locals∧(∀ x c,X.env.cells.lookup x=some c->c≠b)∧∀ p∈X.pn++pins,p.1≠b)
   (keep:∀ b o,b≠X.env.locals->b∉X.fs->b∉ch->s.heap.get? b=some o->H b=none->h'.get? b=some o)
   (slot:∀ b o,b≠X.env.locals->b∈X.fs->b∉ch->s.heap.get? b=some o->H b=none->∃ sl,h'.get? b=some { o with slots:=sl }) (free:∀ b o,b∉ch->s.heap.get? b=some o->H b=none->H' b=none)
   (there:∀ b o,b∉ch->s.heap.get? b=some o->∃ o',h'.get? b=some o')
   (tups:∀ b xs,H b=some (.tup xs)->H' b=some (.tup xs)) (frzs:∀ b o u,H b=some (.frz o u)->H' b=some (.frz o u)) (tbls:∀ b ps,H b=some (.tbl ps)->∃ more,H' b=some (.tbl (ps++more)))
   (ns:∀ m,s.heap.Ns X.env.locals m->h'.Ns X.env.locals m) (hok:HOk X.prog X.w H' h') (hg:AllBare g') :
   Inv X pins σ H' { s with heap:=h',gens:=g',drawn:=d',toks:=t' }:=by
 have neL:∀ b o,X.s₀.heap.get? b=some o->b≠X.env.locals:=fun b o e=>Nat.ne_of_lt (Nat.lt_of_lt_of_le (Heap.lt_size e) I.ok.above)
 have neC:∀ b o,X.s₀.heap.get? b=some o->b∉X.ex->b∉ch:=fun b o e hx hb=>by
   rcases (hch b hb).1 with z|z
   · exact hx z
   · exact absurd (Nat.lt_of_lt_of_le (Heap.lt_size e) z) (Nat.lt_irrefl _)
 have cellK:∀ x c,X.env.cells.lookup x=some c->∀ v,s.heap.IsCell c v->h'.IsCell c v:=fun x c e v ⟨o,ho,hd⟩=>by
   have nch:c∉ch:=fun z=>(hch c z).2.2.1 x c e rfl;by_cases hc:c∈X.fs
   · obtain⟨sl,q⟩:=slot c o (I.cne x c e) hc nch ho (I.freeC x c e);exact⟨_,q,hd⟩
   · exact⟨o,keep c o (I.cne x c e) hc nch ho (I.freeC x c e),hd⟩
 refine⟨I.ok,I.os,hg,⟨fun b o e n hb hx=>?_,fun b o e n hb hx=>?_,fun b o e n hx=>?_,fun b o e hx=>?_,fun b xs e=>tups b xs (I.base.tups b xs e),fun b o xs e=>frzs b o xs (I.base.frzs b o xs e),fun b ps e=>?_⟩,?_,fun x c e=>?_,?_,fun x c e=>?_,fun p hp=>?_,hok,I.len⟩
 · exact keep b o (neL b o e) hb (neC b o e hx) (I.base.keep b o e n hb hx) (I.base.free b o e n hx)
 · obtain⟨sl,e1⟩:=I.base.slot b o e n hb hx;obtain⟨sl',e2⟩:=slot b _ (neL b o e) hb (neC b o e hx) e1 (I.base.free b o e n hx);exact⟨sl',e2⟩
 · obtain⟨o',e1⟩:=I.base.there b o e hx;exact free b o' (neC b o e hx) e1 (I.base.free b o e n hx)
 · obtain⟨o',e1⟩:=I.base.there b o e hx;exact there b o' (neC b o e hx) e1
 · obtain⟨m1,e1⟩:=I.base.tbls b ps e;obtain⟨m2,e2⟩:=tbls b _ e1;exact⟨m1++m2,by rw[e2,Array.append_assoc]⟩
 · obtain⟨m,hn,hl⟩:=I.loc;refine⟨m,ns m hn,fun i x v e1 e2 e3=>?_⟩;obtain⟨u,r,l⟩:=hl i x v e1 e2 e3;refine⟨u,r,?_⟩;rcases l with l|⟨k,c,e,z⟩
   · exact .inl l
   · exact .inr ⟨k,c,e,cellK x c e _ z⟩
 · obtain⟨v,z⟩:=I.cell x c e;exact⟨v,cellK x c e v z⟩
 · obtain⟨m,⟨o,_,_,ho,_⟩,_⟩:=I.loc;exact free _ o (fun z=>(hch _ z).2.1 rfl) ho I.free
 · obtain⟨v,o,ho,hd⟩:=I.cell x c e;exact free c o (fun z=>(hch c z).2.2.1 x c e rfl) ho (I.freeC x c e)
 · obtain⟨e,n,ne,nf,d⟩:=I.pin p hp;have nch:p.1∉ch:=fun z=>(hch p.1 z).2.2.2 p hp rfl;exact⟨keep p.1 p.2 ne nf nch e n,free p.1 p.2 nch e n,ne,nf,d⟩
theorem Inv.un {t':Nat} (I:Inv X pins σ H s) (u:Un X.fs [] H H' s.heap h') (hok:HOk X.prog X.w H' h'):Inv X pins σ H' { s with heap:=h',toks:=t' }:=by
 obtain⟨m,⟨o,es,ep,ho,r⟩,_⟩:=id I.loc;obtain⟨sl,hL⟩:=u.any ho I.free (by simp)
 exact I.step (g':=s.gens) (d':=s.drawn) (ch:=[]) (fun _ z=>nomatch z) (fun b o _ hb _ e n=>u.keep b o e n hb (by simp)) (fun b o _ hb _ e n=>u.slot b o e n hb (by simp)) (fun b o _ e n=>u.free b o e n (by simp)) (fun b o _ e=>u.there b o e (by simp)) u.tups u.frzs u.tbls (fun m' hm=>by
   obtain⟨o',es',ep',ho',r'⟩:=hm;rw[ho]at ho';cases ho'
   exact⟨_,es',ep',hL,r'⟩) hok I.bare
theorem Inv.call {g':Array GenState}{t':Nat}{d':Drawn}{ch:List Addr} (I:Inv X pins σ H s) (u:Un (frs X.stack) ch H H' s.heap h') (hok:HOk X.prog X.w H' h') (hg:AllBare g')
   (hch:∀ b∈ch,(b∈X.ex∨X.s₀.heap.objs.size≤b)∧b≠X.env.locals∧(∀ x c,X.env.cells.lookup x=some c->c≠b)∧∀ p∈X.pn++pins,p.1≠b) :
   Inv X pins σ H' { s with heap:=h',gens:=g',drawn:=d',toks:=t' }:=by
 obtain⟨m,⟨o,es,ep,ho,r⟩,_⟩:=id I.loc;obtain⟨sl,hL⟩:=u.any ho I.free fun z=>(hch _ z).2.1 rfl
 exact I.step (ch:=ch) hch (fun b o hL hb hc e n=>u.keep b o e n (fun z=>(List.mem_cons.mp (I.stkSub b z)).elim hL hb) hc) (fun b o _ _ hc e n=>u.any e n hc) (fun b o hc e n=>u.free b o e n hc) (fun b o hc e=>u.there b o e hc) u.tups u.frzs u.tbls (fun m' hm=>by
   obtain⟨o',es',ep',ho',r'⟩:=hm;rw[ho]at ho';cases ho'
   exact⟨_,es',ep',hL,r'⟩) hok hg
theorem Inv.turned {t':Nat}{it:Addr} (I:Inv X pins σ H s) (k:∀ b o,b≠it->s.heap.get? b=some o->h'.get? b=some o) (hn:H it=none) (hL:it≠X.env.locals)
   (h1:it∈X.ex∨X.s₀.heap.objs.size≤it) (h2:∀ x c,X.env.cells.lookup x=some c->c≠it) (h3:∀ p∈X.pn++pins,p.1≠it):Inv X pins σ H { s with heap:=h',toks:=t' }:=by
 have nit:∀ b u,H b=some u->b≠it:=fun b u e z=>by rw[z,hn]at e;cases e
 refine I.step (g':=s.gens) (d':=s.drawn) (ch:=[it]) (fun b hb=>?_) (fun b o _ _ hc e _=>k b o (fun z=>hc (by simp[z])) e) (fun b o _ _ hc e _=>⟨o.slots,k b o (fun z=>hc (by simp[z])) e⟩) (fun _ _ _ _ n=>n)
   (fun b o hc e=>⟨o,k b o (fun z=>hc (by simp[z])) e⟩) (fun _ _ e=>e) (fun _ _ _ e=>e) (fun b ps e=>⟨#[],by rw[e];simp⟩) (fun m hm=>?_) (fun b u e=>?_) I.bare
 · have e:b=it:=by simpa using hb
   subst e;exact⟨h1,hL,h2,h3⟩
 · obtain⟨o,es,ep,ho,r⟩:=hm;exact⟨o,es,ep,k _ o (Ne.symm hL) ho,r⟩
 · refine(I.hok b u e).stay (fun c v hc q=>k c v ?_ q) (fun _ q=>q) fun _ _ q=>q;rcases hc with z|z
   · rw[z];exact nit b u e
   · exact nit c _ z
theorem Inv.tok (I:Inv X pins σ H s) (t:Nat):Inv X pins σ H { s with toks:=t }:=I.un (h':=s.heap) (t':=t) Un.refl I.hok
theorem Inv.kept {t':Nat} (I:Inv X pins σ H s) (k:∀ b u,s.heap.get? b=some u->h'.get? b=some u):Inv X pins σ H { s with heap:=h',toks:=t' }:=I.un (Un.kept k) (I.hok.kept k)
theorem Inv.laid {a:Addr}{o:HO}{t':Nat} (I:Inv X pins σ H s) (k:∀ b u,s.heap.get? b=some u->h'.get? b=some u) (hp:s.heap.objs.size≤a) (new:ObjOk X.prog X.w (upd H a o) h' a o) :
   Inv X pins σ (upd H a o) { s with heap:=h',toks:=t' }:=I.un (Un.laid k hp (I.hok.fresh hp)) (I.hok.laid k hp new)
theorem Inv.write {x e:Addr}{o:HO}{t':Nat} (I:Inv X pins σ H s) (mu:Mut (H x)) (he:e=x∨H e=some (.own x)) (k:∀ b u,b≠e->s.heap.get? b=some u->h'.get? b=some u) (heo:∃ u,h'.get? e=some u)
   (new:ObjOk X.prog X.w (upd H x o) h' x o):Inv X pins σ (upd H x o) { s with heap:=h',toks:=t' }:=I.un (Un.write mu he k heo) (I.hok.write mu he k heo new)
theorem Inv.pins_of {pins':List (Addr×Obj)} (I:Inv X pins σ H s) (h:∀ p∈pins',s.heap.get? p.1=some p.2∧H p.1=none∧p.1≠X.env.locals∧p.1∉X.fs∧∀ v,p.2.data≠.cell v):Inv X pins' σ H s :=
 ⟨I.ok,I.os,I.bare,I.base,I.loc,I.cell,I.free,I.freeC,fun p hp=>(List.mem_append.mp hp).elim (fun z=>I.pin p (List.mem_append_left _ z)) (h p),I.hok,I.len⟩
theorem jH {N:List Str} (hN:N.Nodup) {i j:Nat}{x:Str} (a:N[i]?=some x) (b:N[j]?=some x):i=j:=by
 obtain⟨h1,e1⟩:=List.getElem?_eq_some_iff.mp a;obtain⟨h2,e2⟩:=List.getElem?_eq_some_iff.mp b;exact(List.getElem_inj hN).mp (e1.trans e2.symm)
theorem Jp {M:Model}{A:Around}{E:Value->Shared->Prop}{i:Nat}{x:Str}{v:V}{u:Value}{Q:Unit->Shared->Prop} (I:Inv X pins σ H s) (hN:X.N.Nodup) (hi:X.N[i]?=some x) (hx:Loc X.env.scope x) (r:RelV v u)
   (h:∀ s',Inv X pins (σ.set i (some v)) H s'->(∃ a,Heap.SameBut a s.heap s'.heap∧(a=X.env.locals∨X.env.cells.lookup x=some a))->Q () s') (hf:X.fn x=true∨X.env.scope.names.lookup x=some .local:=by first|exact .inl rfl|exact .inr rfl|assumption):wpAny M A (storeName X.env x u) Q E s:=by
 obtain⟨m,hn,hl⟩:=id I.loc;have hcls:(X.env.scope.kind == .class || (X.env.scope.kind == .module && X.env.locals != X.env.globals))=false:=by rw[I.ok.kind];rfl
 have hiσ:i < σ.length:=by rw[I.len];exact(List.getElem?_eq_some_iff.mp hi).1
 have cne:=I.cne
 have tracked:∀ {a:Addr}{h':Heap},(∃ o,s.heap.get? a=some o∧H a=none)->Heap.SameBut a s.heap h'->HOk X.prog X.w H h':=fun {a h'} ha hs b ob e=>by
   obtain⟨_,_,hfree⟩:=ha;refine(I.hok b ob e).stay (fun c w' hc q=>(hs.2 c ?_).trans q) (fun _ q=>q) fun _ _ q=>q;rintro rfl;rcases hc with rfl|hc
   · rw[hfree]at e;cases e
   · rw[hfree]at hc;cases hc
 rcases hx with hk|hk
 · refine wpAny_storeName_local hk hn (fun h' hn' hs=>?_) hcls;obtain⟨oL,_,_,hoL,_⟩:=id hn;refine h _ ⟨I.ok,I.os,I.bare,⟨fun b o e n hb hx=>?_,fun b o e n hb hx=>?_,I.base.free,fun b o e hx=>?_,I.base.tups,I.base.frzs,I.base.tbls⟩,⟨_,hn',fun j y v' e1 e2 e3=>?_⟩,fun y c e=>?_,I.free,I.freeC,fun p hp=>?_,tracked ⟨oL,hoL,I.free⟩ hs,by simpa using I.len⟩ ⟨_,hs,.inl rfl⟩
   · exact(hs.2 b (Nat.ne_of_lt (Nat.lt_of_lt_of_le (Heap.lt_size e) I.ok.above))).trans (I.base.keep b o e n hb hx)
   · obtain⟨sl,e1⟩:=I.base.slot b o e n hb hx;exact⟨sl,(hs.2 b (Nat.ne_of_lt (Nat.lt_of_lt_of_le (Heap.lt_size e) I.ok.above))).trans e1⟩
   · obtain⟨o',e1⟩:=I.base.there b o e hx;exact⟨o',(hs.2 b (Nat.ne_of_lt (Nat.lt_of_lt_of_le (Heap.lt_size e) I.ok.above))).trans e1⟩
   · by_cases hj:j=i
     · subst hj;rw[hi]at e1;cases e1;rw[List.getElem?_set_self hiσ]at e2;cases e2;exact⟨u,r,.inl ⟨hk,by simp⟩⟩
     · rw[List.getElem?_set_ne (Ne.symm hj)]at e2;obtain⟨u',r',q⟩:=hl j y v' e1 e2 e3;refine⟨u',r',?_⟩;rcases q with ⟨k,e⟩|⟨k,c,e,z⟩
       · refine .inl ⟨k,?_⟩
         have:y≠x:=fun e=>hj (jH hN e1 (e▸hi))
         simp[this,e]
       · exact .inr ⟨k,c,e,z.sameBut hs (cne y c e)⟩
   · obtain⟨w',z⟩:=I.cell y c e;exact⟨w',z.sameBut hs (cne y c e)⟩
   · obtain⟨e,n,ne,nf,d⟩:=I.pin p hp;exact⟨(hs.2 p.1 ne).trans e,n,ne,nf,d⟩
 · have hfn:X.fn x=true:=by
     rcases hf with z|z
     · exact z
     · rw[z]at hk;cases hk
   obtain⟨c,hc⟩:=I.ok.has x (.inl hk);obtain⟨w',z⟩:=I.cell x c hc;refine wpAny_storeName_cell I.ok.kind hk hc z (fun h' hc' hs=>?_);obtain⟨oc,hoc,hocd⟩:=id z;refine h { s with heap:=h' } ⟨I.ok,I.os,I.bare,⟨fun b o e n hb hx=>?_,fun b o e n hb hx=>?_,I.base.free,fun b o e hx=>?_,I.base.tups,I.base.frzs,I.base.tbls⟩,⟨m,hn.sameBut hs (Ne.symm (cne x c hc)),fun j y v' e1 e2 e3=>?_⟩,fun y c' e=>?_,I.free,I.freeC,fun p hp=>?_,tracked ⟨oc,hoc,I.freeC x c hc⟩ hs,by simpa using I.len⟩ ⟨c,hs,.inr hc⟩
   · exact(hs.2 b (Nat.ne_of_lt (Nat.lt_of_lt_of_le (Heap.lt_size e) (I.ok.cab x c hfn hc)))).trans (I.base.keep b o e n hb hx)
   · obtain⟨sl,e1⟩:=I.base.slot b o e n hb hx;exact⟨sl,(hs.2 b (Nat.ne_of_lt (Nat.lt_of_lt_of_le (Heap.lt_size e) (I.ok.cab x c hfn hc)))).trans e1⟩
   · obtain⟨o',e1⟩:=I.base.there b o e hx;exact⟨o',(hs.2 b (Nat.ne_of_lt (Nat.lt_of_lt_of_le (Heap.lt_size e) (I.ok.cab x c hfn hc)))).trans e1⟩
   · by_cases hj:j=i
     · subst hj;rw[hi]at e1;cases e1;rw[List.getElem?_set_self hiσ]at e2;cases e2;exact⟨u,r,.inr ⟨.inl hk,c,hc,hc'⟩⟩
     · rw[List.getElem?_set_ne (Ne.symm hj)]at e2;obtain⟨u',r',q⟩:=hl j y v' e1 e2 e3;refine⟨u',r',?_⟩;rcases q with q|⟨k,c',e,z'⟩
       · exact .inl q
       · refine .inr ⟨k,c',e,z'.sameBut hs ?_⟩;rintro rfl;exact hj (jH hN e1 (I.ok.inj _ _ _ e hc▸hi))
   · by_cases hcc:c'=c
     · subst hcc;exact⟨_,hc'⟩
     · obtain⟨w2,z2⟩:=I.cell y c' e;exact⟨w2,z2.sameBut hs hcc⟩
   · obtain⟨e,n,ne,nf,d⟩:=I.pin p hp;refine⟨(hs.2 p.1 ?_).trans e,n,ne,nf,d⟩;intro q;rw[q,hoc]at e;have q':oc=p.2:=Option.some.inj e;exact d w' (by rw[← q'];exact hocd)
theorem Qv {M:Model}{A:Around}{E:Value->Shared->Prop}{i:Nat}{x:Str}{v:V}{u:Value}{Q:Unit->Shared->Prop} (I:Inv X pins σ H s) (hN:X.N.Nodup) (hi:X.N[i]?=some x) (hx:Loc X.env.scope x) (r:RelV v u)
   (h:∀ s',Inv X pins (σ.set i (some v)) H s'->Q () s') (hf:X.fn x=true∨X.env.scope.names.lookup x=some .local:=by first|exact .inl rfl|exact .inr rfl|assumption):wpAny M A (storeName X.env x u) Q E s :=
 Jp I hN hi hx r (fun s' I' _=>h s' I') hf
theorem Inv.call' {s':Shared}{ch:List Addr} (I:Inv X pins σ H s) (ho:s'.os=s.os) (u:Un (frs X.stack) ch H H' s.heap s'.heap) (hok:HOk X.prog X.w H' s'.heap) (hg:AllBare s'.gens)
   (hch:∀ b∈ch,(b∈X.ex∨X.s₀.heap.objs.size≤b)∧b≠X.env.locals∧(∀ x c,X.env.cells.lookup x=some c->c≠b)∧∀ p∈X.pn++pins,p.1≠b):Inv X pins σ H' s':=by
 obtain⟨h',g',d',t',o'⟩:=s';have e:o'=s.os:=ho;subst e;exact I.call (g':=g') (t':=t') (d':=d') u hok hg hch
end
abbrev XK:=Value->Option Addr->Hp->Prop
abbrev St:=List (Option V)
abbrev VK:=V->Hp->Prop
abbrev TE:=St->Hp->VK->Prop
abbrev TT:=St->Hp->(Bool->Hp->Prop)->Prop
abbrev TA:=St->Hp->(List V->Hp->Prop)->Prop
structure jU where
 nx:St->Hp->Prop
 rt:VK
 bk:St->Hp->Prop:=fun _ _=>False
 ct:St->Hp->Prop:=fun _ _=>False
abbrev TS:=jU->St->Hp->Prop
inductive qdZ (X:Cx) (pins:List (Addr×Obj)) (σ:St) (Q:VK) (u:Value) (s':Shared):Prop
 | mk (v H':_) (h1:Inv X pins σ H' s') (h2:RelV v u) (h3:Q v H'):qdZ X pins σ Q u s'
def EP (X:Cx) (pins:List (Addr×Obj)) (σ:St) (Q:VK) (u:Value) (s':Shared):Prop:=qdZ X pins σ Q u s'
def TP (X:Cx) (pins:List (Addr×Obj)) (σ:St) (Q:Bool->Hp->Prop) (b:Bool) (s':Shared):Prop:=∃ H',Inv X pins σ H' s'∧Q b H'
inductive qd0 (X:Cx) (pins:List (Addr×Obj)) (σ:St) (Q:List V->Hp->Prop) (us:List Value) (s':Shared):Prop
 | mk (vs H':_) (h1:Inv X pins σ H' s') (h2:Vals vs us) (h3:Q vs H'):qd0 X pins σ Q us s'
def AP (X:Cx) (pins:List (Addr×Obj)) (σ:St) (Q:List V->Hp->Prop) (us:List Value) (s':Shared):Prop:=qd0 X pins σ Q us s'
def SP (X:Cx) (pins:List (Addr×Obj)) (D:jU) (f:Flow) (s':Shared):Prop :=
 match f with
 | .next=>∃ σ' H',Inv X pins σ' H' s'∧D.nx σ' H'
 | .brk=>∃ σ' H',Inv X pins σ' H' s'∧D.bk σ' H'
 | .cont=>∃ σ' H',Inv X pins σ' H' s'∧D.ct σ' H'
 | .ret u=>∃ v σ' H',Inv X pins σ' H' s'∧RelV v u∧D.rt v H'
def PE (X:Cx) (e:Expr) (t:TE):Prop :=
 ∀ (pins:List (Addr×Obj)) (s:Shared) (σ:St) (H:Hp) (Q:VK),Inv X pins σ H s->t σ H Q->wpAny (model X.prog X.w) X.A (eval e X.env) (EP X pins σ Q) X.xe s
def PT (X:Cx) (e:Expr) (t:TT):Prop :=
 ∀ (pins:List (Addr×Obj)) (s:Shared) (σ:St) (H:Hp) (Q:Bool->Hp->Prop),Inv X pins σ H s->t σ H Q->wpAny (model X.prog X.w) X.A (isTrue e X.env (eval e X.env)) (TP X pins σ Q) X.xe s
def PW (X:Cx) (e:Expr) (t:TT):Prop :=
 ∀ (whole:Sem Value) (pins:List (Addr×Obj)) (s:Shared) (σ:St) (H:Hp) (Q:Bool->Hp->Prop),Inv X pins σ H s->t σ H Q->wpAny (model X.prog X.w) X.A (isTrue e X.env whole) (TP X pins σ Q) X.xe s
theorem PW.pt {X:Cx}{e:Expr}{t:TT} (h:PW X e t):PT X e t:=h _
def PA (X:Cx) (es:List Expr) (t:TA):Prop :=
 ∀ (pos:Pos) (pins:List (Addr×Obj)) (s:Shared) (σ:St) (H:Hp) (Q:List V->Hp->Prop),Inv X pins σ H s->t σ H Q->wpAny (model X.prog X.w) X.A (spliced (backTo pos (starEach es X.env))) (AP X pins σ Q) X.xe s
def PS (X:Cx) (st:Stmt) (t:TS):Prop :=
 ∀ (pins:List (Addr×Obj)) (s:Shared) (σ:St) (H:Hp) (D:jU),Inv X pins σ H s->t D σ H->wpAny (model X.prog X.w) X.A (exec st X.env) (SP X pins D) X.xe s
def PSs (X:Cx) (st:List Stmt) (t:TS):Prop :=
 ∀ (pins:List (Addr×Obj)) (s:Shared) (σ:St) (H:Hp) (D:jU),Inv X pins σ H s->t D σ H->wpAny (model X.prog X.w) X.A (execs st X.env) (SP X pins D) X.xe s
theorem thn {α:Type}{t:Sem α}{Q Q':α->Shared->Prop}{M:Model}{A:Around}{E:Value->Shared->Prop}{s:Shared} (h:wpAny M A t Q E s) (hQ:∀ a s,Q a s->Q' a s):wpAny M A t Q' E s:=wpAny_mono h hQ fun _ _ x=>x
section
variable {X:Cx}
inductive qbg (i:Nat) (σ:St) (H:Hp) (Q:VK):Prop
 | mk (v:_) (h1:σ[i]?=some (some v)) (h2:Q v H):qbg i σ H Q
def qdI (i:Nat):TE:=fun σ H Q=>qbg i σ H Q
def tC (v:V):TE:=fun _ H Q=>Q v H
theorem qcJ {i:Nat}{x:Str}{pos:Pos} (hN:X.N[i]?=some x) (hv:Vis X.env.scope x) (hd:(x == ("__debug__":Str))=false:=by decide) (hcd:(x == ("__classdict__":Str))=false:=by decide):PE X (.Name x pos) (qdI i):=by
 intro pins s σ H Q I h;obtain⟨v,e,h⟩:=h;obtain⟨m,hn,hl⟩:=I.loc;obtain⟨u,r,l⟩:=hl i x v hN e hv;have fin:EP X pins σ Q u s:=⟨v,H,I,r,h⟩
 rcases l with ⟨hk,hm⟩|⟨hk,c,hc,hcell⟩
 · exact wpAny_Name (wpAny_loadName_local I.ok.kind hk hn hm fin) hd
 · rcases hk with hk|hk
   · exact wpAny_Name (wpAny_loadName_cell I.ok.kind hk hc hcell fin) hd
   · exact wpAny_Name (wpAny_loadName_free I.ok.kind hk hc hcell fin hcd) hd
theorem qc {i j pos}:PE X (.Constant (.int i) j pos) (tC (.int i)):=fun _ _ _ H _ I h=>wpAny_Constant_int ⟨.int i,H,I.tok _,⟨_,rfl⟩,h⟩
theorem zQ {b j pos}:PE X (.Constant (.bool b) j pos) (tC (.bl b)):=fun _ _ _ H _ I h=>Constant_bool ⟨.bl b,H,I,rfl,h⟩
theorem JJ {j pos}:PE X (.Constant .none j pos) (tC .non):=fun _ _ _ H _ I h=>Constant_none ⟨.non,H,I,rfl,h⟩
theorem za {x j pos}:PE X (.Constant (.str x) j pos) (tC (.str x)):=fun _ _ _ H _ I h=>Calls.Constant_str ⟨.str x,H,I.tok _,⟨_,rfl⟩,h⟩
def Gl (X:Cx) (x:Str):Prop:=X.env.kindOf x=some .globalImplicit
theorem zH {E:Value->Shared->Prop}{pins:List (Addr×Obj)}{s:Shared}{σ:St}{H:Hp}{x:Str}{u:Value}{pos:Pos}{Q:Value->Shared->Prop} (I:Inv X pins σ H s) (hg:Gl X x) (hm:X.mg x=some u) (h:Q u s)
   (hd:(x == ("__debug__":Str))=false:=by decide):wpAny (model X.prog X.w) X.A (eval (.Name x pos) X.env) Q E s :=
 Calls.Name_function_global I.ok.kind hg (Calls.loadGlobal_global (by rw[I.ok.glob];exact I.mod.glob.keeps I.bk) hm h) hd
theorem ZM {E:Value->Shared->Prop}{pins:List (Addr×Obj)}{s:Shared}{σ:St}{H:Hp}{x:Str}{u:Value}{pos:Pos}{Q:Value->Shared->Prop} (I:Inv X pins σ H s) (hg:Gl X x) (hm:X.mg x=none) (hv:bootBuiltins x=some u) (h:Q u s)
   (hn:x≠"__name__":=by decide) (hd:(x == ("__debug__":Str))=false:=by decide):wpAny (model X.prog X.w) X.A (eval (.Name x pos) X.env) Q E s:=by
 obtain⟨mb,h1,h2⟩:=I.mod.blt;exact Calls.Name_function_global I.ok.kind hg (Calls.loadGlobal_builtin (by rw[I.ok.glob];exact I.mod.glob.keeps I.bk) hm (by rw[I.ok.blt];exact h1.keeps I.bk) ((h2 x hn).trans hv) h) hd
theorem Zn {x:Str}{v:V}{u:Value}{pos:Pos} (hg:Gl X x) (hm:X.mg x=some u) (r:RelV v u) (hd:(x == ("__debug__":Str))=false:=by decide):PE X (.Name x pos) (tC v) :=
 fun _ _ _ H _ I h=>zH I hg hm ⟨v,H,I,r,h⟩ hd
theorem zG {x:Str}{v:V}{u:Value}{pos:Pos} (hg:Gl X x) (hm:X.mg x=none) (hv:bootBuiltins x=some u) (r:RelV v u) (hn:x≠"__name__":=by decide) (hd:(x == ("__debug__":Str))=false:=by decide):PE X (.Name x pos) (tC v) :=
 fun _ _ _ H _ I h=>ZM I hg hm hv ⟨v,H,I,r,h⟩ hn hd
variable {a b:Expr}{ta tb:TE}{pos:Pos}
inductive qdJ (Q:(Bool->Hp->Prop)) (x:V) (H1:Hp):Prop
 | mk (c:_) (h1:x=.bl c) (h2:Q c H1):qdJ Q x H1
def tB (t:TE):TT:=fun σ H Q=>t σ H fun x H1=>qdJ Q x H1
theorem qY {e:Expr}{t:TE} (h:PE X e t) (he:∀ whole,isTrue e X.env whole=(do let v ← whole;standAt e.pos;holding [v] (truthy v)):=by intro _;rfl):PT X e (tB t):=by
 intro pins s σ H Q I hw;refine isTrue_plain (thn (h pins s σ H _ I hw) fun v s1 zz_=>?_) (he _);obtain⟨x,H1,I1,r1,q1⟩:=zz_;obtain⟨d,rfl,q⟩:=q1;cases r1;exact wpAny_truthy_bool ⟨H1,I1,q⟩
variable {tA tB':TT}{rest:List Expr}
def qd8 (t u:TT):TT:=fun σ H Q=>t σ H fun c H1=>if c=true then u σ H1 Q else Q false H1
def tOr (t u:TT):TT:=fun σ H Q=>t σ H fun c H1=>if c=true then Q true H1 else u σ H1 Q
def qd4 (t:TT):TT:=fun σ H Q=>t σ H fun c H1=>Q (!c) H1
theorem Z8 (ha:PT X a tA):PW X (.BoolOp .And [a] pos) tA:=by
 intro wh pins s σ H Q I h;refine isTrue_and (thn (ha pins s σ H Q I h) fun c s1 e=>?_)
 cases c with
 | true=>exact isTrue_and_nil e
 | false=>exact e
theorem Qc (ha:PT X a tA):PW X (.BoolOp .Or [a] pos) tA:=by
 intro wh pins s σ H Q I h;refine isTrue_or (thn (ha pins s σ H Q I h) fun c s1 e=>?_)
 cases c with
 | false=>exact isTrue_or_nil e
 | true=>exact e
theorem JD (ha:PT X a tA) (hb:PW X (.BoolOp .And (b::rest) pos) tB'):PW X (.BoolOp .And (a::b::rest) pos) (qd8 tA tB'):=by
 intro wh pins s σ H Q I h;refine isTrue_and (thn (ha pins s σ H _ I h) fun c s1 zz_=>?_);obtain⟨H1,I1,q1⟩:=zz_
 cases c with
 | true=>exact hb wh pins s1 σ H1 Q I1 q1
 | false=>exact⟨H1,I1,q1⟩
theorem Qq (ha:PT X a tA) (hb:PW X (.BoolOp .Or (b::rest) pos) tB'):PW X (.BoolOp .Or (a::b::rest) pos) (tOr tA tB'):=by
 intro wh pins s σ H Q I h;refine isTrue_or (thn (ha pins s σ H _ I h) fun c s1 zz_=>?_);obtain⟨H1,I1,q1⟩:=zz_
 cases c with
 | true=>exact⟨H1,I1,q1⟩
 | false=>exact hb wh pins s1 σ H1 Q I1 q1
theorem zd (ha:PT X a tA):PT X (.UnaryOp .Not a pos) (qd4 tA):=by
 intro pins s σ H Q I h;exact isTrue_not (ha pins s σ H (fun c H1=>Q (!c) H1) I h)
def qdj (ta tb:TE):TE:=fun σ H Q=>ta σ H fun x H1=>∃ c,x=.bl c∧if c=true then tb σ H1 Q else Q (.bl false) H1
inductive Jn (Q:VK) (x:V) (H1:Hp):Prop
 | mk (c:_) (h1:x=.bl c) (h2:Q (.bl (!c)) H1):Jn Q x H1
def qdd (ta:TE):TE:=fun σ H Q=>ta σ H fun x H1=>Jn Q x H1
theorem jE {op}{t:TE} (h:PE X a t):PE X (.BoolOp op [a] pos) t:=fun pins s σ H Q I hw=>BoolOp_one (h pins s σ H Q I hw)
theorem jG (ha:PE X a ta) (hb:PE X (.BoolOp .And (b::rest) pos) tb):PE X (.BoolOp .And (a::b::rest) pos) (qdj ta tb):=by
 intro pins s σ H Q I h;refine BoolOp_and (thn (ha pins s σ H _ I h) fun v s1 zz_=>?_);obtain⟨x,H1,I1,r1,q1⟩:=zz_;obtain⟨c,rfl,q1⟩:=q1;cases r1;refine wpAny_truthy_bool ?_
 cases c with
 | true=>exact hb pins s1 σ H1 Q I1 q1
 | false=>exact⟨.bl false,H1,I1,rfl,q1⟩
theorem qbs (ha:PE X a ta):PE X (.UnaryOp .Not a pos) (qdd ta):=by
 intro pins s σ H Q I h;refine UnaryOp_ (thn (ha pins s σ H _ I h) fun v s1 zz_=>?_);obtain⟨x,H1,I1,r1,q1⟩:=zz_;obtain⟨c,rfl,q1⟩:=q1;cases r1;exact not_of (wpAny_truthy_bool ⟨.bl (!c),H1,I1,rfl,q1⟩)
end
def SqL (K:Frag) (H:Hp) (a:Addr) (xs:List V):Prop :=
 Rd H a (.lst xs) ∨
   ∃ (o:Obj) (its:Array Value) (n:Nat),K.lookup a=some o∧o.cls=.type "list"∧o.dict=none∧o.data=.seq its n∧its.size≤sizeLine∧Vals xs its.toList
def SqT (K:Frag) (H:Hp) (a:Addr) (xs:List V):Prop :=
 Rd H a (.tup xs) ∨
   ∃ (o:Obj) (its:Array Value) (n:Nat),K.lookup a=some o∧o.cls=.type "tuple"∧o.data=.seq its n∧its.size≤sizeLine∧Vals xs its.toList
def qel:Value->Option V
 | .none=>some .non
 | .bool b=>some (.bl b)
 | .int i _=>some (.int i)
 | .str x _=>some (.str x)
 | .bytes b _=>some (.byt b)
 | .float b _=>some (.flt b)
 | .ref a=>some (.ref a)
 | .type n=>some (.ty n)
 | _=>none
theorem RelV.abs {x:V}{u:Value} (r:RelV x u):qel u=some x:=by
 cases x with
 | non=>cases r;rfl
 | bl _=>cases r;rfl
 | int _=>obtain⟨t,rfl⟩:=r;rfl
 | str _=>obtain⟨t,rfl⟩:=r;rfl
 | byt _=>obtain⟨t,rfl⟩:=r;rfl
 | flt _=>obtain⟨t,rfl⟩:=r;rfl
 | ref _=>cases r;rfl
 | ty _=>cases r;rfl
theorem RelV.inj {x y:V}{u:Value} (r:RelV x u) (q:RelV y u):x=y:=Option.some.inj (r.abs.symm.trans q.abs)
theorem Vals.inj:∀ {xs ys:List V}{us:List Value},Vals xs us->Vals ys us->xs=ys
 | _,_,_,.nil,.nil=>rfl
 | _,_,_,.cons r t,.cons r' t'=>by rw[r.inj r',Vals.inj t t']
section
variable {X:Cx}{pins:List (Addr×Obj)}{σ:St}{H:Hp}{s:Shared}{a:Addr}{xs ys:List V}
theorem SqL.of {K:Frag} (h:H a=some (.lst xs)):SqL K H a xs:=.inl (.inl h)
theorem SqT.of {K:Frag} (h:H a=some (.tup xs)):SqT K H a xs:=.inl (.inl h)
theorem Inv.list (I:Inv X pins σ H s) (h:SqL X.K H a xs):∃ its:List Value,Vals xs its∧PlainL s.heap a its.toArray∧xs.length≤sizeLine:=by
 rcases h with h|⟨o,its,n,hk,hc,hd,hs,hz,r⟩
 · obtain⟨z,its,n,r,e⟩:=h.ok I.hok;exact⟨its,r,⟨_,n,e,rfl,rfl,rfl⟩,z⟩
 · refine⟨its.toList,r,⟨o,n,I.kIn a o hk,hc,hd,by simpa using hs⟩,?_⟩;have e:=r.length;simp only[Array.length_toList]at e;omega
theorem Inv.tuple (I:Inv X pins σ H s) (h:SqT X.K H a xs):∃ its:List Value,Vals xs its∧IsTup s.heap a its.toArray∧xs.length≤sizeLine:=by
 rcases h with h|⟨o,its,n,hk,hc,hs,hz,r⟩
 · obtain⟨z,its,r,p⟩:=h.ok I.hok;exact⟨its,r,p,z⟩
 · refine⟨its.toList,r,⟨o,I.kIn a o hk,hc,n,by simpa using hs⟩,?_⟩;have e:=r.length;simp only[Array.length_toList]at e;omega
theorem Inv.list_inj (I:Inv X pins σ H s) (h:SqL X.K H a xs) (h':SqL X.K H a ys):xs=ys:=by
 obtain⟨its,r,⟨o,n,e,_,_,d⟩,_⟩:=I.list h;obtain⟨its',r',⟨o',n',e',_,_,d'⟩,_⟩:=I.list h';rw[e]at e';cases e';rw[d]at d';injection d' with d1 _
 have:its=its':=by simpa using congrArg Array.toList d1
 subst this;exact r.inj r'
end
abbrev Cx.wish (X:Cx) (E:Value->Shared->Prop):Cx:={ X with xe:=E }
abbrev Cx.nox (X:Cx):Cx:=X.wish fun _ _=>False
theorem Cx.Ok.wish {X:Cx} (ok:X.Ok) (E:Value->Shared->Prop):(X.wish E).Ok :=
 ⟨ok.mod,ok.kind,ok.glob,ok.blt,ok.above,ok.inj,ok.has,ok.cab,ok.hd,ok.frames,ok.stk,ok.exf,ok.bs,ok.bsz,ok.noex,ok.exfs,ok.funs,ok.frf⟩
theorem Cx.Ok.unwish {X:Cx}{E:Value->Shared->Prop} (ok:(X.wish E).Ok):X.Ok :=
 ⟨ok.mod,ok.kind,ok.glob,ok.blt,ok.above,ok.inj,ok.has,ok.cab,ok.hd,ok.frames,ok.stk,ok.exf,ok.bs,ok.bsz,ok.noex,ok.exfs,ok.funs,ok.frf⟩
section
variable {X:Cx}{pins:List (Addr×Obj)}{σ:St}{H:Hp}{s:Shared}{E:Value->Shared->Prop}
theorem Inv.wish (I:Inv X pins σ H s) (E:Value->Shared->Prop):Inv (X.wish E) pins σ H s:=⟨I.ok.wish E,I.os,I.bare,I.base,I.loc,I.cell,I.free,I.freeC,I.pin,I.hok,I.len⟩
theorem Inv.unwish (I:Inv (X.wish E) pins σ H s):Inv X pins σ H s:=⟨I.ok.unwish,I.os,I.bare,I.base,I.loc,I.cell,I.free,I.freeC,I.pin,I.hok,I.len⟩
theorem SP.unwish {D:jU}{f:Flow}{s':Shared} (h:SP (X.wish E) pins D f s'):SP X pins D f s':=by
 cases f with
 | next=>obtain⟨σ',H',I,q⟩:=h;exact⟨σ',H',I.unwish,q⟩
 | brk=>obtain⟨σ',H',I,q⟩:=h;exact⟨σ',H',I.unwish,q⟩
 | cont=>obtain⟨σ',H',I,q⟩:=h;exact⟨σ',H',I.unwish,q⟩
 | ret u=>obtain⟨v,σ',H',I,r,q⟩:=h;exact⟨v,σ',H',I.unwish,r,q⟩
theorem PSs.nox {st:List Stmt}{t:TS} (h:PSs X.nox st t):PSs X st t:=fun pins s σ H D I hw =>
 wpAny_mono (h pins s σ H D (I.wish _) hw) (fun _ _ q=>q.unwish) fun _ _ z=>False.elim z
end
section
variable {X:Cx}{st:Stmt}{rest:List Stmt}{t u:TS}{e:Expr}{te:TE}{pos:Pos}
def qP:TS:=fun D σ H=>D.nx σ H
def qdc (t u:TS):TS:=fun D σ H=>t { D with nx:=u D } σ H
theorem qt:PSs X [] qP:=fun _ _ σ H _ I h=>wpAny_execs_nil ⟨σ,H,I,h⟩
theorem qi (h1:PS X st t) (h2:PSs X rest u):PSs X (st::rest) (qdc t u):=by
 intro pins s σ H D I h;refine wpAny_execs_cons (thn (h1 pins s σ H { D with nx:=u D } I h) fun f s1 q=>?_)
 cases f with
 | next =>
   obtain⟨σ',H',I',q⟩:=q;exact h2 pins s1 σ' H' D I' q
 | ret v=>exact q
 | brk=>exact q
 | cont=>exact q
theorem qj (h1:PS X st t):PSs X [st] t:=by
 intro pins s σ H D I h;refine wpAny_execs_cons (thn (h1 pins s σ H D I h) fun f s1 q=>?_)
 cases f with
 | next=>exact wpAny_execs_nil q
 | ret v=>exact q
 | brk=>exact q
 | cont=>exact q
theorem Inv.quiet {pins:List (Addr×Obj)}{σ:St}{H:Hp}{s:Shared} (I:Inv X pins σ H s):interactive X.env=false:=by simp[interactive,I.ok.kind]
def qde (te:TE):TS:=fun D σ H=>te σ H fun _ H1=>D.nx σ H1
theorem zv (he:PE X e te) (hs:swapsWith e none pos.line X.env=pure false:=by rfl):PS X (.Expr e pos) (qde te):=by
 intro pins s σ H D I h;exact wpAny_Expr_any (thn (he pins s σ H _ I h) fun v s1 ⟨x,H1,I1,r1,q1⟩=>⟨σ,H1,I1,q1⟩) I.quiet hs
def qd3 (te:TE):TS:=fun D σ H=>te σ H D.rt
theorem qw (he:PE X e te):PS X (.Return (some e) pos) (qd3 te):=by
 intro pins s σ H D I h;exact wpAny_Return_some (thn (he pins s σ H _ I h) fun v s1 ⟨x,H1,I1,r1,q1⟩=>⟨x,σ,H1,I1,r1,q1⟩)
def qcu (c:TT) (t u:TS):TS:=fun D σ H=>c σ H fun b H1=>if b=true then t D σ H1 else u D σ H1
theorem zc {c:Expr}{a b:List Stmt}{tc:TT} (hc:PT X c tc) (ha:PSs X a t) (hb:PSs X b u):PS X (.If c a b pos) (qcu tc t u):=by
 intro pins s σ H D I h;refine wpAny_If (thn (hc pins s σ H _ I h) fun d s1 zz_=>?_);obtain⟨H1,I1,q1⟩:=zz_
 cases d with
 | true=>exact ha pins s1 σ H1 D I1 q1
 | false=>exact hb pins s1 σ H1 D I1 q1
end
abbrev TG:=V->St->Hp->(St->Hp->Prop)->Prop
abbrev TGs:=List V->St->Hp->(St->Hp->Prop)->Prop
def PG (X:Cx) (target:Expr) (t:TG):Prop :=
 ∀ (pins:List (Addr×Obj)) (s:Shared) (σ:St) (H:Hp) (v:V) (u:Value) (Q:St->Hp->Prop),Inv X pins σ H s->RelV v u->t v σ H Q ->
   wpAny (model X.prog X.w) X.A (assign target X.env u) (fun _ s'=>∃ σ' H',Inv X pins σ' H' s'∧Q σ' H') X.xe s
def PGs (X:Cx) (ts:List Expr) (t:TGs):Prop :=
 ∀ (pins:List (Addr×Obj)) (s:Shared) (σ:St) (H:Hp) (vs:List V) (us:List Value) (Q:St->Hp->Prop),Inv X pins σ H s->Vals vs us->t vs σ H Q ->
   wpAny (model X.prog X.w) X.A (assignInOrder ((assignEach ts X.env).map (·.2)) us) (fun _ s'=>∃ σ' H',Inv X pins σ' H' s'∧Q σ' H') X.xe s
abbrev qc1:=V->V->V->Hp->(Hp->Prop)->Prop
def qdG (X:Cx) (t:qc1):Prop :=
 ∀ (pins:List (Addr×Obj)) (s:Shared) (σ:St) (H:Hp) (o i v:V) (ov iv u:Value) (Q:Hp->Prop),Inv X pins σ H s->RelV o ov->RelV i iv->RelV v u->t o i v H Q ->
   wpAny (model X.prog X.w) X.A (setItem ov iv u) (fun _ s'=>∃ H',Inv X pins σ H' s'∧Q H') X.xe s
abbrev TIp:=V->V->Hp->VK->Prop
def PIp (X:Cx) (op:Operator) (t:TIp):Prop :=
 ∀ (pins:List (Addr×Obj)) (s:Shared) (σ:St) (H:Hp) (x y:V) (v u:Value) (Q:VK),Inv X pins σ H s->RelV x v->RelV y u->t x y H Q ->
   wpAny (model X.prog X.w) X.A (inplaceOp op v u) (EP X pins σ Q) X.xe s
section
variable {X:Cx}{pos:Pos}
def qca (i:Nat):TG:=fun v σ H Q=>Q (σ.set i (some v)) H
theorem qK {i:Nat}{x:Str} (hN:X.N.Nodup) (hi:X.N[i]?=some x) (hx:Loc X.env.scope x) (hf:X.fn x=true∨X.env.scope.names.lookup x=some .local:=by first|exact .inl rfl|exact .inr rfl|assumption):PG X (.Name x pos) (qca i):=by
 intro pins s σ H v u Q I r h;exact wpAny_assign_Name (Qv I hN hi hx r (fun s' I'=>⟨_,H,I',h⟩) hf)
def qek:TGs:=fun vs σ H Q=>vs=[]∧Q σ H
inductive qab (t:TG) (u:TGs) (vs:List V) (σ:St) (H:Hp) (Q:(St->Hp->Prop)):Prop
 | mk (v r:_) (h1:vs=v::r) (h2:t v σ H fun σ' H'=>u r σ' H' Q):qab t u vs σ H Q
def qdB (t:TG) (u:TGs):TGs:=fun vs σ H Q=>qab t u vs σ H Q
theorem qbX:PGs X [] qek:=by
 intro pins s σ H vs us Q I r h;obtain⟨e,h⟩:=h;subst e;cases r;exact assignInOrder_nil ⟨σ,H,I,h⟩
theorem jB {e:Expr}{es:List Expr}{t:TG}{u:TGs} (h1:PG X e t) (h2:PGs X es u)
   (hs:(assignEach (e::es) X.env).map (·.2)=assign e X.env::(assignEach es X.env).map (·.2):=by rfl):PGs X (e::es) (qdB t u):=by
 intro pins s σ H vs us Q I r h;obtain⟨v,vr,e1,h⟩:=h;subst e1
 cases r with
 | cons r rr =>
   rw[hs];refine assignInOrder_cons (thn (h1 pins s σ H _ _ _ I r h) fun _ s1 zz_=>?_);obtain⟨σ1,H1,I1,q1⟩:=zz_;exact h2 pins s1 σ1 H1 _ _ Q I1 rr q1
inductive qbx (K:Frag) (n:Nat) (t:TGs) (v:V) (σ:St) (H:Hp) (Q:(St->Hp->Prop)):Prop
 | mk (a xs:_) (h1:v=.ref a) (h2:SqT K H a xs) (h3:xs.length=n) (h4:t xs σ H Q):qbx K n t v σ H Q
def qei (K:Frag) (n:Nat) (t:TGs):TG:=fun v σ H Q=>qbx K n t v σ H Q
theorem qcI {es:List Expr}{k:Nat}{t:TGs}{n:Nat} (hc:X.calm=true) (h:PGs X es t)
   (hn:(assignEach es X.env).length=n:=by rfl) (hst:(assignEach es X.env).findIdx? (·.1)=none:=by rfl):PG X (.Tuple es k pos) (qei X.K n t):=by
 intro pins s σ H v u Q I r hw;obtain⟨a,xs,e1,hq,hl,hw⟩:=hw;subst e1;cases r;obtain⟨its,rv,ht,hz⟩:=I.tuple hq;refine assign_Tuple_tuple (I.ok.hd hc) ht (by simp[hn,← hl,rv.length]) hst fun h' hx=>?_;have I1:Inv X pins σ H { s with heap:=h' }:=I.kept (t':=s.toks) fun b o e=>hx b o (Nat.ne_of_lt (Heap.lt_size e)) e;exact h pins _ σ H xs _ Q I1 (by simpa using rv) hw
def qej (to ti:TE) (t:qc1):TG:=fun v σ H Q=>to σ H fun o H1=>ti σ H1 fun i H2=>t o i v H2 fun H3=>Q σ H3
theorem jC {o i:Expr}{to ti:TE}{t:qc1} (ho:PE X o to) (hi:PE X i ti) (hs:qdG X t)
   (ha:∀ v,assign (.Subscript o i pos) X.env v=(do
     let ov ← holding [v] (eval o X.env);let iv ← holding [v,ov] (eval i X.env)
     standAt pos
     holding [v,ov,iv] (setItem ov iv v)
     release [v,ov,iv] []):=by intro _;rfl):PG X (.Subscript o i pos) (qej to ti t):=by
 intro pins s σ H v u Q I r h;rw[ha];refine wpAny_bind (wpAny_holding (thn (ho pins s σ H _ I h) fun ov s1 zz_=>?_));obtain⟨x,H1,I1,r1,q1⟩:=zz_;refine wpAny_bind (wpAny_holding (thn (hi pins s1 σ H1 _ I1 q1) fun iv s2 zz_=>?_));obtain⟨y,H2,I2,r2,q2⟩:=zz_;refine wpAny_bind (wpAny_standAt (wpAny_bind (wpAny_holding (thn (hs pins s2 σ H2 x y v ov iv u _ I2 r1 r2 r q2) fun _ s3 zz_=>?_))));obtain⟨H3,I3,q3⟩:=zz_;exact wpAny_release ⟨σ,H3,I3,q3⟩
def qdi (te:TE) (g:TG):TS:=fun D σ H=>te σ H fun x H1=>g x σ H1 D.nx
theorem jA {tg e:Expr}{te:TE}{g:TG} (he:PE X e te) (hg:PG X tg g) (hs:swapsWithSole [tg] e pos.line X.env=pure false:=by rfl) (hw:swappedStores [tg] e X.env=pure none:=by rfl)
   (h1:(assignEach [tg] X.env).map (·.2)=[assign tg X.env]:=by rfl):PS X (.Assign [tg] e pos) (qdi te g):=by
 intro pins s σ H D I h;refine wpAny_Assign_stores (thn (he pins s σ H _ I h) fun v s1 zz_=>?_) hs hw;obtain⟨x,H1,I1,r1,q1⟩:=zz_;rw[h1];exact thn (hg pins s1 σ H1 x v _ I1 r1 q1) fun _ s2 q=>q
theorem qO {i:Nat}{x:Str}{e:Expr}{te:TE}{pos':Pos} (hN:X.N.Nodup) (hi:X.N[i]?=some x) (hx:Loc X.env.scope x) (he:PE X e te) (hs:swapsWith e (some (.Name x pos')) pos.line X.env=pure false:=by rfl) (hf:X.fn x=true∨X.env.scope.names.lookup x=some .local:=by first|exact .inl rfl|exact .inr rfl|assumption) :
   PS X (.Assign [.Name x pos'] e pos) (qdi te (qca i)):=by
 intro pins s σ H D I h;refine wpAny_Assign_Name (thn (he pins s σ H _ I h) fun v s1 zz_=>?_) hs;obtain⟨y,H1,I1,r1,q1⟩:=zz_;exact Qv I1 hN hi hx r1 (fun s2 I2=>⟨_,H1,I2,q1⟩) hf
def qdh (to ti te:TE) (tget:V->V->Hp->VK->Prop) (tip:TIp) (tset:qc1):TS:=fun D σ H=>to σ H fun o H1=>ti σ H1 fun i H2=>tget o i H2 fun x H3=>te σ H3 fun y H4=>tip x y H4 fun z H5=>tset o i z H5 fun H6=>D.nx σ H6
def qdW (X:Cx) (t:V->V->Hp->VK->Prop):Prop :=
 ∀ (pins:List (Addr×Obj)) (s:Shared) (σ:St) (H:Hp) (o i:V) (ov iv:Value) (Q:VK),Inv X pins σ H s->RelV o ov->RelV i iv->t o i H Q ->
   wpAny (model X.prog X.w) X.A (getItem ov iv) (EP X pins σ Q) X.xe s
theorem qbW {o i e:Expr}{to ti te:TE}{tget:V->V->Hp->VK->Prop}{tip:TIp}{tset:qc1}{op:Operator}{tpos:Pos} (ho:PE X o to) (hi:PE X i ti) (hg:qdW X tget) (he:PE X e te) (hp:PIp X op tip) (hs:qdG X tset)
   (ha:∀ ov iv new,augStore i ov iv new=(do holding [new,ov,iv] (setItem ov iv new);release [new,ov,iv] [];pure .next):=by intros;rfl):PS X (.AugAssign (.Subscript o i tpos) op e pos) (qdh to ti te tget tip tset):=by
 intro pins s σ H D I h;refine wpAny_AugAssign_SubscriptAny (thn (ho pins s σ H _ I h) fun ov s1 zz_=>?_) ha;obtain⟨x1,H1,I1,r1,q1⟩:=zz_;refine thn (hi pins s1 σ H1 _ I1 q1) fun iv s2 zz_=>?_;obtain⟨x2,H2,I2,r2,q2⟩:=zz_;refine thn (hg pins s2 σ H2 x1 x2 ov iv _ I2 r1 r2 q2) fun old s3 zz_=>?_;obtain⟨x3,H3,I3,r3,q3⟩:=zz_;refine thn (he pins s3 σ H3 _ I3 q3) fun v s4 zz_=>?_;obtain⟨x4,H4,I4,r4,q4⟩:=zz_;refine thn (hp pins s4 σ H4 x3 x4 old v _ I4 r3 r4 q4) fun new s5 zz_=>?_;obtain⟨x5,H5,I5,r5,q5⟩:=zz_;exact thn (hs pins s5 σ H5 x1 x2 x5 ov iv new _ I5 r1 r2 r5 q5) fun _ s6 ⟨H6,I6,q6⟩=>⟨σ,H6,I6,q6⟩
def ipI (f:Int->Int->Int):TIp:=fun x y H Q=>∃ i j,x=.int i∧y=.int j∧Q (.int (f i j)) H
theorem qcW:PIp X .Add (ipI fun i j=>i+j):=by
 intro pins s σ H x y v u Q I r1 r2 h;obtain⟨i,j,e1,e2,q⟩:=h;subst e1;subst e2;obtain⟨t,rfl⟩:=r1;obtain⟨t',rfl⟩:=r2;exact iadd_int ⟨.int _,H,I.tok _,⟨_,rfl⟩,q⟩
end
structure It where
 go:Nat->Hp->Prop
 yld:Nat->Hp->V->Hp->Prop
 stop:Nat->Hp->Prop
def Je (X:Cx) (pins:List (Addr×Obj)) (H:Hp) (b:Addr):Prop :=
 H b=none∧b≠X.env.locals∧b∉X.fs∧(b∈X.ex∨X.s₀.heap.objs.size≤b)∧(∀ x c,X.env.cells.lookup x=some c->c≠b)∧∀ p∈X.pn++pins,p.1≠b
theorem Inv.fpOk {X:Cx}{pins:List (Addr×Obj)}{σ:St}{H H':Hp}{s:Shared}{b:Addr} (I:Inv X pins σ H s) (hb:s.heap.objs.size≤b) (hn:H' b=none):Je X pins H' b:=by
 refine⟨hn,Nat.ne_of_gt (Nat.lt_of_lt_of_le I.lt hb),I.nofs hb,.inr (Nat.le_trans I.sz hb),fun x c e z=>?_,fun p hp z=>?_⟩
 · obtain⟨v,q⟩:=I.cell x c e;exact absurd (Nat.lt_of_lt_of_le q.lt (by rw[z];exact hb)) (Nat.lt_irrefl _)
 · exact absurd (Nat.lt_of_lt_of_le (Heap.lt_size (I.pin p hp).1) (by rw[z];exact hb)) (Nat.lt_irrefl _)
structure qc0 (P:Program) (w:World) (K:Frag) (tg:Expr) (J:It) (fp:List Addr) (it:Addr) (tn:Nat->Heap->Prop):Prop where
 mem:it∈fp
 obj:∀ i h,tn i h->∀ b∈fp,∃ o,h.get? b=some o∧∀ v,o.data≠.cell v
 keep:∀ i h h',tn i h->(∀ b∈fp,∀ o,h.get? b=some o->h'.get? b=some o)->tn i h'
 item:∀ (X:Cx),X.prog=P->X.w=w->X.K=K->X.calm=true->∀ (i:Nat) (pins:List (Addr×Obj)) (s:Shared) (σ:St) (H:Hp) (E:Value->Shared->Prop),Inv X pins σ H s->(∀ b∈fp,Je X pins H b)->tn i s.heap->J.go i H ->
   wpAny (model P w) X.A (pyNext (.ref it)) (fun r s1=>∃ u,r=some u ∧
     wpAny (model P w) X.A (letOwnedTupleGo tg (.ref it) u) (fun _ s2=>∃ x H',Inv X pins σ H' s2∧RelV x u∧J.yld i H x H'∧tn (i+1) s2.heap∧∀ b∈fp,H' b=none) E s1) E s
 done:∀ (X:Cx),X.prog=P->X.w=w->X.K=K->X.calm=true->∀ (i:Nat) (pins:List (Addr×Obj)) (s:Shared) (σ:St) (H:Hp) (E:Value->Shared->Prop),Inv X pins σ H s->(∀ b∈fp,Je X pins H b)->tn i s.heap->J.stop i H ->
   wpAny (model P w) X.A (pyNext (.ref it)) (fun r s1=>r=none∧Inv X pins σ H s1) E s
 self:∀ (A:Around) (i:Nat) (s:Shared) (Q:Value->Shared->Prop) (E:Value->Shared->Prop),tn i s.heap->Q (.ref it) s->wpAny (model P w) A (pyIter (.ref it)) Q E s
abbrev TI:=St->Hp->(It->Hp->Prop)->Prop
def PIE (X:Cx) (pins:List (Addr×Obj)) (σ:St) (tg:Expr) (R:It->Hp->Prop) (itv:Value) (s2:Shared):Prop :=
 ∃ (it:Addr) (fp:List Addr) (tn:Nat->Heap->Prop) (J:It) (H':Hp),itv=.ref it∧Inv X pins σ H' s2∧qc0 X.prog X.w X.K tg J fp it tn∧tn 0 s2.heap∧(∀ b∈fp,Je X pins H' b)∧R J H'
def PI (X:Cx) (tg iter:Expr) (wi:TI):Prop :=
 ∀ (pins:List (Addr×Obj)) (s:Shared) (σ:St) (H:Hp) (R:It->Hp->Prop),Inv X pins σ H s->wi σ H R ->
   wpAny (model X.prog X.w) X.A (eval iter X.env) (fun v s1=>wpAny (model X.prog X.w) X.A (pyIter v) (PIE X pins σ tg R) X.xe s1) X.xe s
theorem qa4 {M:Model}{A:Around}{E:Value->Shared->Prop}{s:Shared}{tg:Expr}{it:Addr}{u:Value}{o:Obj}{n:String}{vs:Array Value}{Q:Unit->Shared->Prop} (ho:s.heap.get? it=some o) (hc:o.cls=.type n) (hd:o.data=.fields vs)
   (hn:["enumerate","zip","dict_itemiterator","dict_reverseitemiterator","odict_iterator","itertools.zip_longest","itertools.pairwise"].contains n=false) (hQ:Q () s):wpAny M A (letOwnedTupleGo tg (.ref it) u) Q E s:=by
 unfold letOwnedTupleGo;cases tg<;>first
   | exact wpAny_pure hQ
   | (cases u<;>first
       | exact wpAny_pure hQ
       | (refine wpAny_bind (wpAny_load ho ?_)
          rw[hc,hd];show wpAny M A (if (["enumerate","zip","dict_itemiterator","dict_reverseitemiterator","odict_iterator","itertools.zip_longest","itertools.pairwise"].contains n && vs[0]? == some (rawInt _))=true then _ else _) Q E s;rw[if_neg (by intro h;rw[hn,Bool.false_and]at h;cases h)]
          exact wpAny_pure hQ))
def Itl (K:Frag) (a:Addr):It :=
 ⟨fun i H=>∃ xs x,SqL K H a xs∧xs[i]?=some x,fun i H x H'=>H'=H∧∀ xs,SqL K H a xs->xs[i]?=some x,fun i H=>∃ xs,SqL K H a xs∧xs.length≤i⟩
def Itr (lo:Int) (n:Nat):It:=⟨fun i _=>i < n,fun i H x H'=>H'=H∧x=.int (lo+i),fun i _=>n≤i⟩
theorem Jk {P:Program}{w:World}{K:Frag}{tg:Expr} (a it:Addr):qc0 P w K tg (Itl K a) [it] it (fun i h=>h.IsListIter it a i) where
 mem:=by simp
 obj:=fun i h st b hb=>by
   have e:b=it:=by simpa using hb
   subst e;obtain⟨o,e,c,d⟩:=st;exact⟨o,e,fun v z=>by rw[d]at z;cases z⟩
 keep:=fun i h h' st k=>st.at fun o e=>k it (by simp) o e
 item:=by
   intro X hP hw hK hc i pins s σ H E I hf st hg;subst hP hw hK;obtain⟨xs,x,hq,hx⟩:=hg;obtain⟨its,rv,p,hz⟩:=I.list hq;obtain⟨u,hu,ru⟩:=rv.get hx;obtain⟨f0,f1,f2,f3,f4,f5⟩:=hf it (by simp);refine wpAny_pyNext_list_item st p.isList (x:=u) (by simpa using hu) fun h' st' sb=>?_;have I1:Inv X pins σ H { s with heap:=h' }:=I.turned (t':=s.toks) (fun b o hb e=>(sb.2 b hb).trans e) f0 f1 f3 f4 f5;obtain⟨o,e,c,d⟩:=id st';exact⟨u,rfl,qa4 (s:={ s with heap:=h' }) e c d (by decide) ⟨x,H,I1,ru,⟨rfl,fun ys hy=>by rw[I.list_inj hy hq];exact hx⟩,st',fun b hb=>(hf b hb).1⟩⟩
 done:=by
   intro X hP hw hK hc i pins s σ H E I hf st hg;subst hP hw hK;obtain⟨xs,hq,hx⟩:=hg;obtain⟨its,rv,p,hz⟩:=I.list hq;obtain⟨f0,f1,f2,f3,f4,f5⟩:=hf it (by simp);have hl:=rv.length;exact wpAny_pyNext_list_end (I.ok.hd hc) st p.isList (by simp;omega) fun h' eb=>⟨rfl,I.turned (t':=s.toks) (fun b o hb e=>eb b o hb e) f0 f1 f3 f4 f5⟩
 self:=fun _ _ _ _ _ st h=>wpAny_pyIter_listiter st h
theorem jW {P:Program}{w:World}{K:Frag}{tg:Expr} (it:Addr) (lo:Int) (n:Nat):qc0 P w K tg (Itr lo n) [it] it (fun i h=>IsRangeIter h it (lo+(i:Nat) * 1) ((n:Int) - (i:Nat)) 1) where
 mem:=by simp
 obj:=fun i h st b hb=>by
   have e:b=it:=by simpa using hb
   subst e
   exact⟨_,st,fun v z=>by
     have z':Data.fields _=Data.cell v:=z
     cases z'⟩
 keep:=fun i h h' st k=>k it (by simp) _ st
 item:=by
   intro X hP hw hK hc i pins s σ H E I hf st hg;subst hP hw hK;obtain⟨f0,f1,f2,f3,f4,f5⟩:=hf it (by simp);have W:=Walks.range (prog:=X.prog) (w:=X.w) (I.ok.hd hc) it lo 1 n;refine W.item i s _ _ hg st fun v h' tk hv st' kk=>?_;obtain⟨t,rfl⟩:=hv;have I1:Inv X pins σ H { s with heap:=h',toks:=tk }:=I.turned (fun b o hb e=>kk b o (by simpa using hb) e) f0 f1 f3 f4 f5;refine⟨_,rfl,qa4 (s:={ s with heap:=h',toks:=tk }) (n:="range_iterator") st' rfl rfl (by decide) ⟨.int (lo+i),H,I1,⟨t,?_⟩,⟨rfl,rfl⟩,st',fun b hb=>(hf b hb).1⟩⟩;rw[Int.mul_one]
 done:=by
   intro X hP hw hK hc i pins s σ H E I hf st hg;subst hP hw hK;obtain⟨f0,f1,f2,f3,f4,f5⟩:=hf it (by simp);exact wpAny_pyNext_range_end (I.ok.hd hc) st (by have:n≤i:=hg;omega) fun h' eb=>⟨rfl,I.turned (t':=s.toks) (fun b o hb e=>eb b o hb e) f0 f1 f3 f4 f5⟩
 self:=fun _ _ _ _ _ st h=>wpAny_pyIter_rangeiter st h
section
variable {X:Cx}{tg:Expr}
inductive J7 (K:Frag) (R:(It->Hp->Prop)) (x:V) (H1:Hp):Prop
 | mk (a:_) (h1:x=.ref a) (h2:(∃ xs,SqL K H1 a xs)) (h3:R (Itl K a) H1):J7 K R x H1
def qdA (K:Frag) (tl:TE):TI:=fun σ H R=>tl σ H fun x H1=>J7 K R x H1
theorem Zm {l:Expr}{tl:TE} (hl:PE X l tl):PI X tg l (qdA X.K tl):=by
 intro pins s σ H R I h;refine thn (hl pins s σ H _ I h) fun v s1 zz_=>?_;obtain⟨x,H1,I1,r1,q1⟩:=zz_;obtain⟨a,e,⟨xs,hq⟩,q⟩:=q1;subst e;cases r1;obtain⟨its,rv,p,hz⟩:=I1.list hq;refine wpAny_pyIter_list p.isList ?_;refine⟨s1.heap.objs.size,[s1.heap.objs.size],_,_,H1,rfl,I1.kept (t':=s1.toks) fun b o e=>Heap.get?_push_of_some _ e,Jk a _,⟨_,Heap.get?_push_size _ rfl,rfl,rfl⟩,fun b hb=>?_,q⟩;have e:b=s1.heap.objs.size:=by simpa using hb
 subst e;exact I1.fpOk (Nat.le_refl _) (I1.hok.fresh (Nat.le_refl _))
theorem qaE {pins:List (Addr×Obj)}{σ:St}{H:Hp}{s:Shared}{R:It->Hp->Prop}{E:Value->Shared->Prop}{lo hi:Int}{t u v:Tok}{tk:Nat} (I:Inv X pins σ H s) (h1:-(2 ^ 62)≤lo) (h2:lo < 2 ^ 62) (h3:-(2 ^ 62)≤hi) (h4:hi < 2 ^ 62)
   (q:R (Itr lo (hi - lo).toNat) H):wpAny (model X.prog X.w) X.A (pyIter (.ref s.heap.objs.size)) (PIE X pins σ tg R) E { s with heap:=s.heap.push { cls:=.type "range",data:=.fields #[.int lo t,.int hi u,.int 1 v] },toks:=tk }:=by
 refine wpAny_pyIter_range (IsRange.new ..) (small_one h1 h2 h3 h4) ?_;have I1:Inv X pins σ H { s with heap:=s.heap.push { cls:=.type "range",data:=.fields #[.int lo t,.int hi u,.int 1 v] },toks:=tk }:=I.kept fun b o e=>Heap.get?_push_of_some _ e
 refine⟨(s.heap.push { cls:=.type "range",data:=.fields #[.int lo t,.int hi u,.int 1 v] }).objs.size,[(s.heap.push { cls:=.type "range",data:=.fields #[.int lo t,.int hi u,.int 1 v] }).objs.size],_,_,H,rfl,
   I1.kept (t':=tk) fun b o e=>Heap.get?_push_of_some _ e,jW _ lo (hi - lo).toNat,?_,fun b hb=>?_,q⟩
 · have e1:lo+((0:Nat):Int) * 1=lo:=by simp
   have e2:(((hi - lo).toNat:Nat):Int) - ((0:Nat):Int)=Builtin.Range.rangeSize lo hi 1:=by rw[rangeSize_one];split<;>omega
   show IsRangeIter _ _ (lo+((0:Nat):Int) * 1) ((((hi - lo).toNat:Nat):Int) - ((0:Nat):Int)) 1;rw[e1,e2];exact Heap.get?_push_size _ rfl
 · have e:b=(s.heap.push { cls:=.type "range",data:=.fields #[.int lo t,.int hi u,.int 1 v] }).objs.size:=by simpa using hb
   subst e;exact I1.fpOk (Nat.le_refl _) (I1.hok.fresh (Nat.le_refl _))
inductive J6 (R:(It->Hp->Prop)) (vs:List V) (H1:Hp):Prop
 | mk (j:Int) (h1:vs=[.int j]) (h2:-(2 ^ 62)≤j) (h3:j < 2 ^ 62) (h4:R (Itr 0 j.toNat) H1):J6 R vs H1
def qdz (ta:TA):TI:=fun σ H R=>ta σ H fun vs H1=>J6 R vs H1
theorem zF {a:Expr}{ta:TA}{p pos:Pos} (hg:Gl X "range") (hm:X.mg "range"=none) (ha:PA X [a] ta) (hs:starEach [a] X.env=[(false,eval a X.env)]:=by rfl):PI X tg (.Call (.Name "range" p) [a] [] pos) (qdz ta):=by
 intro pins s σ H R I h;refine Call_ (ZM I hg hm boot_range (PyProof.Rows.callWith_type1 (thn (ha pos pins s σ H _ I h) fun us s1 zz_=>?_) hs rfl));obtain⟨vs,H1,I1,r1,q1⟩:=zz_;obtain⟨j,e,q1,q2,q⟩:=q1;subst e
 cases r1 with
 | cons r rr =>
   cases rr;obtain⟨t,rfl⟩:=r;exact call_range_1 (qaE I1 (by omega) (by omega) q1 q2 (by simpa using q))
def qbh (wi:TI) (g:TG) (tb:TS):TS:=fun D σ H=>wi σ H fun J H1=>∃ W:Nat->Nat->St->Hp->Prop,(∃ m,W 0 m σ H1)∧∀ i m σ H,W i m σ H ->
 (J.stop i H∧D.nx σ H)∨(J.go i H∧∃ N:St->Hp->Prop,(∀ σ' H',N σ' H'->∃ m',m' < m∧W (i+1) m' σ' H')∧∀ x H',J.yld i H x H'->g x σ H' fun σ2 H2=>tb { D with nx:=N,ct:=N,bk:=D.nx } σ2 H2)
def QI (fp:List Addr) (h:Heap):List (Addr×Obj):=fp.filterMap fun b=>(h.get? b).map fun o=>(b,o)
theorem qW {fp:List Addr}{h:Heap}{b:Addr}{o:Obj} (hb:b∈fp) (e:h.get? b=some o):(b,o)∈QI fp h:=List.mem_filterMap.mpr ⟨b,hb,by rw[e];rfl⟩
theorem JN {fp:List Addr}{h:Heap}{p:Addr×Obj} (hp:p∈QI fp h):p.1∈fp∧h.get? p.1=some p.2:=by
 obtain⟨b,hb,e⟩:=List.mem_filterMap.mp hp
 cases q:h.get? b with
 | none=>rw[q]at e;cases e
 | some o =>
   rw[q]at e;have e':(b,o)=p:=Option.some.inj e;subst e';exact⟨hb,q⟩
theorem Inv.pinned {pins:List (Addr×Obj)}{σ:St}{H:Hp}{s:Shared}{fp:List Addr} (I:Inv X pins σ H s) (hf:∀ b∈fp,Je X pins H b) (ho:∀ b∈fp,∃ o,s.heap.get? b=some o∧∀ v,o.data≠.cell v):Inv X (pins++QI fp s.heap) σ H s :=
 I.pins_of fun p hp=>(List.mem_append.mp hp).elim (fun z=>I.pin p (List.mem_append_right _ z)) fun z=>by
   obtain⟨hb,e⟩:=JN z;obtain⟨f0,f1,f2,_⟩:=hf p.1 hb;obtain⟨o,e',d⟩:=ho p.1 hb;rw[e]at e';cases e';exact⟨e,f0,f1,f2,d⟩
theorem Inv.unpinned {pins pl:List (Addr×Obj)}{σ:St}{H:Hp}{s:Shared} (I:Inv X (pins++pl) σ H s):Inv X pins σ H s:=I.pins_of fun p hp=>I.pin p (List.mem_append_right _ (List.mem_append_left _ hp))
theorem zr {iter:Expr}{body:List Stmt}{wi:TI}{g:TG}{tb:TS}{pos:Pos} (hp:PassesOwn (model X.prog X.w) X.A X.env X.xe) (hc:X.calm=true) (hi:PI X tg iter wi) (hg:PG X tg g) (hb:PSs X body tb)
   (hs:∀ x,foldedSetIterable iter X.env x=pure x:=by intro _;rfl):PS X (.For tg iter body [] pos) (qbh wi g tb):=by
 intro pins s σ H D I h;refine wpAny_For (thn (hi pins s σ H _ I h) fun v s1 h1=>thn h1 fun itv s2 h2=>?_) hs;obtain⟨it,fp,tn,J,H2,e,I2,T,st2,f2,W,⟨m0,w0⟩,turn⟩:=h2;subst e
 -- what stays true of the iterator's objects through the loop
 have stat:∀ {H':Hp},(∀ b∈fp,H' b=none)->∀ b∈fp,Je X pins H' b:=fun hn b hb=>⟨hn b hb,(f2 b hb).2⟩
 refine codeAny_forLoop_any (fun n s'=>∃ i σ' H',Inv X pins σ' H' s'∧tn i s'.heap∧(∀ b∈fp,H' b=none)∧W i n σ' H') ?_ m0 ⟨0,σ,H2,I2,st2,fun b hb=>(f2 b hb).1,w0⟩;rintro n s3 ⟨i,σ3,H3,I3,st3,fr3,w3⟩;rcases turn i n σ3 H3 w3 with ⟨stop,qn⟩|⟨go,N,hN,step⟩
 · refine wpAny_passesOwn hp (thn (T.done X rfl rfl rfl hc i pins s3 σ3 H3 X.xe I3 (stat fr3) st3 stop) fun r s4 ⟨hr,I4⟩=>?_);subst hr;exact wpAny_execs_nil ⟨σ3,H3,I4,qn⟩
 · refine wpAny_passesOwn hp (thn (T.item X rfl rfl rfl hc i pins s3 σ3 H3 X.xe I3 (stat fr3) st3 go) fun r s4 ⟨u,hr,h4⟩=>?_);subst hr;refine wpAny_passesOwn hp (thn h4 fun _ s5 zz_=>?_);obtain⟨x,H5,I5,r5,y5,st5,fr5⟩:=zz_;have I5':=I5.pinned (stat fr5) (T.obj _ _ st5);refine wpAny_passesOwn hp (thn (hg _ s5 σ3 H5 x u _ I5' r5 (step x H5 y5)) fun _ s6 zz_=>?_);obtain⟨σ6,H6,I6,q6⟩:=zz_;refine wpAny_passesOwn hp (thn (hb _ s6 σ6 H6 _ I6 q6) fun f s7 q7=>?_)
   have again:∀ {σ7:St}{H7:Hp},Inv X (pins++QI fp s5.heap) σ7 H7 s7->N σ7 H7->∃ m,m < n∧∃ i σ' H',Inv X pins σ' H' s7∧tn i s7.heap∧(∀ b∈fp,H' b=none)∧W i m σ' H':=fun {σ7 H7} I7 n7=>by
     obtain⟨m',hm,w7⟩:=hN σ7 H7 n7;refine⟨m',hm,i+1,σ7,H7,I7.unpinned,T.keep _ _ _ st5 fun b hb o e=>(I7.pin (b,o) (List.mem_append_right _ (List.mem_append_right _ (qW hb e)))).1,fun b hb=>?_,w7⟩;obtain⟨o,e,d⟩:=T.obj _ _ st5 b hb;exact(I7.pin (b,o) (List.mem_append_right _ (List.mem_append_right _ (qW hb e)))).2.1
   cases f with
   | next=>obtain⟨σ7,H7,I7,n7⟩:=q7;exact again I7 n7
   | cont=>obtain⟨σ7,H7,I7,n7⟩:=q7;exact again I7 n7
   | brk=>obtain⟨σ7,H7,I7,q7⟩:=q7;exact⟨σ7,H7,I7.unpinned,q7⟩
   | ret v=>obtain⟨x7,σ7,H7,I7,r7,q7⟩:=q7;exact⟨x7,σ7,H7,I7.unpinned,r7,q7⟩
end
theorem Qe {K:Frag}{a:Addr}{xs:List V}{g:TG}{tb:TS}{D:jU}{σ:St}{H:Hp} (Pv:Nat->St->Hp->Prop) (h0:Pv 0 σ H) (hl:∀ i σ H,i≤xs.length->Pv i σ H->SqL K H a xs)
   (hs:∀ i x σ H,xs[i]?=some x->Pv i σ H->g x σ H fun σ2 H2=>tb { D with nx:=Pv (i+1),ct:=Pv (i+1),bk:=D.nx } σ2 H2) (hd:∀ σ H,Pv xs.length σ H->D.nx σ H) :
   ∃ W:Nat->Nat->St->Hp->Prop,(∃ m,W 0 m σ H)∧∀ i m σ H,W i m σ H ->
     ((Itl K a).stop i H∧D.nx σ H)∨((Itl K a).go i H∧∃ N:St->Hp->Prop,(∀ σ' H',N σ' H'->∃ m',m' < m∧W (i+1) m' σ' H')∧∀ x H',(Itl K a).yld i H x H'->g x σ H' fun σ2 H2=>tb { D with nx:=N,ct:=N,bk:=D.nx } σ2 H2):=by
 refine⟨fun i m σ H=>m=xs.length - i∧i≤xs.length∧Pv i σ H,⟨xs.length,by simp,Nat.zero_le _,h0⟩,?_⟩;rintro i m σ H ⟨rfl,hi,p⟩;have q:=hl i σ H hi p;by_cases hlt:i < xs.length
 · refine .inr ⟨⟨xs,xs[i],q,by simp[hlt]⟩,Pv (i+1),fun σ' H' p'=>⟨xs.length - (i+1),by omega,rfl,hlt,p'⟩,fun x H' y=>?_⟩;obtain⟨e,y⟩:=y;subst e;exact hs i x σ _ (y xs q) p
 · have e:i=xs.length:=by omega
   subst e;exact .inl ⟨⟨xs,q,Nat.le_refl _⟩,hd σ H p⟩
theorem zK {lo:Int}{n:Nat}{g:TG}{tb:TS}{D:jU}{σ:St}{H:Hp} (Pv:Nat->St->Hp->Prop) (h0:Pv 0 σ H)
   (hs:∀ i σ H,i < n->Pv i σ H->g (.int (lo+i)) σ H fun σ2 H2=>tb { D with nx:=Pv (i+1),ct:=Pv (i+1),bk:=D.nx } σ2 H2) (hd:∀ σ H,Pv n σ H->D.nx σ H) :
   ∃ W:Nat->Nat->St->Hp->Prop,(∃ m,W 0 m σ H)∧∀ i m σ H,W i m σ H ->
     ((Itr lo n).stop i H∧D.nx σ H)∨((Itr lo n).go i H∧∃ N:St->Hp->Prop,(∀ σ' H',N σ' H'->∃ m',m' < m∧W (i+1) m' σ' H')∧∀ x H',(Itr lo n).yld i H x H'->g x σ H' fun σ2 H2=>tb { D with nx:=N,ct:=N,bk:=D.nx } σ2 H2):=by
 refine⟨fun i m σ H=>m=n - i∧i≤n∧Pv i σ H,⟨n,by simp,Nat.zero_le _,h0⟩,?_⟩;rintro i m σ H ⟨rfl,hi,p⟩;by_cases hlt:i < n
 · refine .inr ⟨hlt,Pv (i+1),fun σ' H' p'=>⟨n - (i+1),by omega,rfl,hlt,p'⟩,fun x H' y=>?_⟩;obtain⟨e,y⟩:=y;subst e y;exact hs i σ _ hlt p
 · have e:i=n:=by omega
   subst e;exact .inl ⟨Nat.le_refl _,hd σ H p⟩
abbrev R2:=V->V->Hp->VK->Prop
def OpR (X:Cx) (f:Value->Value->Sem Value) (r:R2):Prop :=
 ∀ (pins:List (Addr×Obj)) (s:Shared) (σ:St) (H:Hp) (x y:V) (v u:Value) (Q:VK),Inv X pins σ H s->RelV x v->RelV y u->r x y H Q ->
   wpAny (model X.prog X.w) X.A (f v u) (EP X pins σ Q) X.xe s
def UnR (X:Cx) (f:Value->Sem Value) (r:V->Hp->VK->Prop):Prop :=
 ∀ (pins:List (Addr×Obj)) (s:Shared) (σ:St) (H:Hp) (x:V) (v:Value) (Q:VK),Inv X pins σ H s->RelV x v->r x H Q ->
   wpAny (model X.prog X.w) X.A (f v) (EP X pins σ Q) X.xe s
def z3 (X:Cx) (f:Value) (r:List V->Hp->VK->Prop):Prop :=
 ∀ (pins:List (Addr×Obj)) (s:Shared) (σ:St) (H:Hp) (xs:List V) (us:List Value) (Q:VK),Inv X pins σ H s->Vals xs us->r xs H Q ->
   wpAny (model X.prog X.w) X.A (call f us) (EP X pins σ Q) X.xe s
def tOp (r:R2) (ta tb:TE):TE:=fun σ H Q=>ta σ H fun x H1=>tb σ H1 fun y H2=>r x y H2 Q
def tUn (r:V->Hp->VK->Prop) (ta:TE):TE:=fun σ H Q=>ta σ H fun x H1=>r x H1 Q
inductive qdQ (C:Int->Int->Prop) (g:Int->Int->V) (x:V) (y:V) (H:Hp) (Q:VK):Prop
 | mk (i j:_) (h1:x=.int i) (h2:y=.int j) (h3:C i j) (h4:Q (g i j) H):qdQ C g x y H Q
def rI (C:Int->Int->Prop) (g:Int->Int->V):R2:=fun x y H Q=>qdQ C g x y H Q
inductive qcF (g:Int->Int->V) (x:V) (y:V) (H:Hp) (Q:VK):Prop
 | mk (i j:_) (h1:x=.int i) (h2:y=.int j) (h3:Q (g i j) H):qcF g x y H Q
def rI0 (g:Int->Int->V):R2:=fun x y H Q=>qcF g x y H Q
inductive qdL (g:Int->V) (x:V) (H:Hp) (Q:VK):Prop
 | mk (i:_) (h1:x=.int i) (h2:Q (g i) H):qdL g x H Q
def rU (g:Int->V):V->Hp->VK->Prop:=fun x H Q=>qdL g x H Q
section
variable {X:Cx}{a b c:Expr}{ta tb tc:TE}{pos:Pos}
theorem qdV (ha:PE X a ta) (hb:PE X b tb) {pins:List (Addr×Obj)}{s:Shared}{σ:St}{H:Hp}{R:V->V->Hp->Prop} (I:Inv X pins σ H s)
   (h:ta σ H fun x H1=>tb σ H1 fun y H2=>R x y H2) {Q:Value->Shared->Prop}{f:Value->Value->Sem Value}
   (hf:∀ v u s2 x y H2,Inv X pins σ H2 s2->RelV x v->RelV y u->R x y H2->wpAny (model X.prog X.w) X.A (f v u) Q X.xe s2) :
   wpAny (model X.prog X.w) X.A (eval a X.env) (fun v s₁=>wpAny (model X.prog X.w) X.A (eval b X.env) (fun u s₂=>wpAny (model X.prog X.w) X.A (f v u) Q X.xe s₂) X.xe s₁) X.xe s:=by
 refine thn (ha pins s σ H _ I h) fun v s1 zz_=>?_;obtain⟨x,H1,I1,r1,q1⟩:=zz_;refine thn (hb pins s1 σ H1 _ I1 q1) fun u s2 zz_=>?_;obtain⟨y,H2,I2,r2,q2⟩:=zz_;exact hf v u s2 x y H2 I2 r1 r2 q2
theorem qN {op:Operator}{r:R2} (ho:OpR X (binaryOp op) r) (ha:PE X a ta) (hb:PE X b tb):PE X (.BinOp a op b pos) (tOp r ta tb):=by
 intro pins s σ H Q I h;exact wpAny_BinOp (qdV ha hb I h fun v u s2 x y H2 I2 rx ry q=>ho pins s2 σ H2 x y v u Q I2 rx ry q)
theorem qdu {op:UnaryOp}{r:V->Hp->VK->Prop} (ho:UnR X (unaryOp op) r) (ha:PE X a ta):PE X (.UnaryOp op a pos) (tUn r ta):=by
 intro pins s σ H Q I h;exact UnaryOp_ (thn (ha pins s σ H _ I h) fun v s1 ⟨x,H1,I1,r1,q1⟩=>ho pins s1 σ H1 x v Q I1 r1 q1)
theorem opI {f:Value->Value->Sem Value}{C:Int->Int->Prop}{g:Int->Int->Int}
   (rule:∀ (i j:Int) (t u:Tok) (s:Shared) (Q:Value->Shared->Prop) (E:Value->Shared->Prop),C i j->Q (.int (g i j) s.toks) { s with toks:=s.toks+1 }->wpAny (model X.prog X.w) X.A (f (.int i t) (.int j u)) Q E s) :
   OpR X f (rI C fun i j=>.int (g i j)):=by
 intro pins s σ H x y v u Q I rx ry h;obtain⟨i,j,rfl,rfl,hc,q⟩:=h;obtain⟨t,rfl⟩:=rx;obtain⟨t',rfl⟩:=ry;exact rule i j t t' s _ _ hc ⟨.int (g i j),H,I.tok _,⟨_,rfl⟩,q⟩
theorem qdT {f:Value->Value->Sem Value}{g:Int->Int->Int}
   (rule:∀ (i j:Int) (t u:Tok) (s:Shared) (Q:Value->Shared->Prop) (E:Value->Shared->Prop),Q (.int (g i j) s.toks) { s with toks:=s.toks+1 }->wpAny (model X.prog X.w) X.A (f (.int i t) (.int j u)) Q E s) :
   OpR X f (rI0 fun i j=>.int (g i j)):=by
 intro pins s σ H x y v u Q I rx ry h;obtain⟨i,j,rfl,rfl,q⟩:=h;obtain⟨t,rfl⟩:=rx;obtain⟨t',rfl⟩:=ry;exact rule i j t t' s _ _ ⟨.int (g i j),H,I.tok _,⟨_,rfl⟩,q⟩
theorem qdw {f:Value->Value->Sem Value}{g:Int->Int->Bool}
   (rule:∀ (i j:Int) (t u:Tok) (s:Shared) (Q:Value->Shared->Prop) (E:Value->Shared->Prop),Q (.bool (g i j)) s->wpAny (model X.prog X.w) X.A (f (.int i t) (.int j u)) Q E s) :
   OpR X f (rI0 fun i j=>.bl (g i j)):=by
 intro pins s σ H x y v u Q I rx ry h;obtain⟨i,j,rfl,rfl,q⟩:=h;obtain⟨t,rfl⟩:=rx;obtain⟨t',rfl⟩:=ry;exact rule i j t t' s _ _ ⟨.bl (g i j),H,I,rfl,q⟩
def qep (i j:Int):Prop:=0 < j∧j < 1073741824
def qeo (i j:Int):Prop:=0≤j∧j≤1000000∧i.natAbs < 2 ^ 64
def CMul (i j:Int):Prop:=(-(2 ^ 64) < i∧i < 2 ^ 64)∨(-(2 ^ 64) < j∧j < 2 ^ 64)
theorem CMul.ok {i j:Int} (h:CMul i j):IntMulOk i j:=by
 rcases h with ⟨h1,h2⟩|⟨h1,h2⟩
 · exact .of_left (intBits_le_64 h1 h2)
 · exact .of_right (intBits_le_64 h1 h2)
theorem op_add:OpR X (binaryOp .Add) (rI0 fun i j=>.int (i+j)):=qdT fun _ _ _ _ _ _ _ q=>add_int q
theorem ZF:OpR X (binaryOp .Sub) (rI0 fun i j=>.int (i - j)):=qdT fun _ _ _ _ _ _ _ q=>sub_int q
theorem Q7:OpR X (binaryOp .Mult) (rI CMul fun i j=>.int (i * j)):=opI fun _ _ _ _ _ _ _ hc q=>mul_int q hc.ok
theorem ja:OpR X (binaryOp .FloorDiv) (rI qep fun i j=>.int (i / j)):=opI fun i j _ _ _ _ _ hc q=>by
 have h1:(0:Int) < j:=hc.1;have h2:j < 1073741824:=hc.2;exact floordiv_int (by omega) (by rw[Int.fdiv_eq_ediv_of_nonneg i (by omega)];exact q) (.inl (PyProof.noPylong_small (by omega)))
theorem Qd:OpR X (binaryOp .Mod) (rI (fun _ j=>0 < j) fun i j=>.int (i % j)):=opI fun i j _ _ _ _ _ hc q=>by
 have h1:(0:Int) < j:=hc;exact mod_int' (by omega) (by rw[Int.fmod_eq_emod_of_nonneg i (by omega)];exact q)
theorem ZG:OpR X (binaryOp .Pow) (rI qeo fun i j=>.int (i ^ j.toNat)):=opI fun _ _ _ _ _ _ _ hc q=>pow_int_small hc.1 hc.2.1 hc.2.2 q
theorem unI {f:Value->Sem Value}{g:Int->Int}
   (rule:∀ (i:Int) (t:Tok) (s:Shared) (Q:Value->Shared->Prop) (E:Value->Shared->Prop),Q (.int (g i) s.toks) { s with toks:=s.toks+1 }->wpAny (model X.prog X.w) X.A (f (.int i t)) Q E s) :
   UnR X f (rU fun i=>.int (g i)):=by
 intro pins s σ H x v Q I rx h;obtain⟨i,rfl,q⟩:=h;obtain⟨t,rfl⟩:=rx;exact rule i t s _ _ ⟨.int (g i),H,I.tok _,⟨_,rfl⟩,q⟩
theorem qco:UnR X (unaryOp .USub) (rU fun i=>.int (-i)):=unI fun _ _ _ _ _ q=>neg_int q
end
def qdK:V->V->Bool
 | .non,.non=>true|.non,.int _=>true|.int _,.non=>true|.non,.bl _=>true|.bl _,.non=>true|.non,.str _=>true|.str _,.non=>true
 | .int _,.int _=>true|.bl _,.bl _=>true|.str _,.str _=>true|.byt _,.byt _=>true
 | .int _,.str _=>true|.str _,.int _=>true|.bl _,.str _=>true|.str _,.bl _=>true
 | _,_=>false
def rEq:R2:=fun x y H Q=>qdK x y=true∧Q (.bl (decide (x=y))) H
def rNe:R2:=fun x y H Q=>qdK x y=true∧Q (.bl (!decide (x=y))) H
theorem qag {i j:Int}:decide (V.int i=V.int j)=(i == j):=by
 rw[Bool.eq_iff_iff];simp
theorem qby {i j:Bool}:decide (V.bl i=V.bl j)=(i == j):=by
 rw[Bool.eq_iff_iff];simp
theorem qaf {i j:Str}:decide (V.str i=V.str j)=(i == j):=by
 rw[Bool.eq_iff_iff];simp
theorem qah {i j:Array UInt8}:decide (V.byt i=V.byt j)=(i.toList == j.toList):=by
 rw[Bool.eq_iff_iff];cases i;cases j;simp
section
variable {X:Cx}{a b c:Expr}{ta tb tc:TE}{pos:Pos}
theorem qz {pins:List (Addr×Obj)}{σ:St}{H:Hp}{s:Shared}{Q:VK}{k k':Bool} (I:Inv X pins σ H s) (q:Q (.bl k) H) (e:k=k'):EP X pins σ Q (.bool k') s:=by
 subst e;exact⟨.bl k,H,I,rfl,q⟩
theorem op_eq:OpR X (compareOp .Eq) rEq:=by
 intro pins s σ H x y v u Q I rx ry h;obtain⟨hs,q⟩:=h
 cases x with
 | non =>
   cases rx
   cases y with
   | non=>cases ry;exact PySem.EqNone.eq_none_none (qz I q (by simp))
   | bl j=>cases ry;exact PySem.EqNone.eq_none_bool (qz I q (by simp))
   | int j=>obtain⟨t',rfl⟩:=ry;exact PySem.EqNone.eq_none_int (qz I q (by simp))
   | str j=>obtain⟨t',rfl⟩:=ry;exact PySem.EqNone.eq_none_str (qz I q (by simp))
   | _=>exact absurd (show false=true from hs) Bool.false_ne_true
 | bl i =>
   cases rx
   cases y with
   | non=>cases ry;exact PySem.EqNone.eq_bool_none (qz I q (by simp))
   | bl j=>cases ry;exact eq_bool (qz I q qby)
   | str j=>obtain⟨t',rfl⟩:=ry;exact PySem.EqMixed.eq_bool_str (qz I q (by simp))
   | _=>exact absurd (show false=true from hs) Bool.false_ne_true
 | int i =>
   obtain⟨t,rfl⟩:=rx
   cases y with
   | non=>cases ry;exact PySem.EqNone.eq_int_none (qz I q (by simp))
   | int j=>obtain⟨t',rfl⟩:=ry;exact eq_int (qz I q qag)
   | str j=>obtain⟨t',rfl⟩:=ry;exact PySem.EqMixed.eq_int_str (qz I q (by simp))
   | _=>exact absurd (show false=true from hs) Bool.false_ne_true
 | str i =>
   obtain⟨t,rfl⟩:=rx
   cases y with
   | non=>cases ry;exact PySem.EqNone.eq_str_none (qz I q (by simp))
   | bl j=>cases ry;exact PySem.EqMixed.eq_str_bool (qz I q (by simp))
   | int j=>obtain⟨t',rfl⟩:=ry;exact PySem.EqMixed.eq_str_int (qz I q (by simp))
   | str j=>obtain⟨t',rfl⟩:=ry;exact eq_str (qz I q qaf)
   | _=>exact absurd (show false=true from hs) Bool.false_ne_true
 | byt i =>
   obtain⟨t,rfl⟩:=rx
   cases y with
   | byt j=>obtain⟨t',rfl⟩:=ry;exact PySem.W.eq_bytes (qz I q qah)
   | _=>exact absurd (show false=true from hs) Bool.false_ne_true
 | _=>cases y<;>exact absurd (show false=true from hs) Bool.false_ne_true
theorem op_ne:OpR X (compareOp .NotEq) rNe:=by
 intro pins s σ H x y v u Q I rx ry h;obtain⟨hs,q⟩:=h
 cases x with
 | non =>
   cases rx
   cases y with
   | non=>cases ry;exact PySem.EqNone.ne_none_none (qz I q (by simp))
   | bl j=>cases ry;exact PySem.EqNone.ne_none_bool (qz I q (by simp))
   | int j=>obtain⟨t',rfl⟩:=ry;exact PySem.EqNone.ne_none_int (qz I q (by simp))
   | str j=>obtain⟨t',rfl⟩:=ry;exact PySem.EqNone.ne_none_str (qz I q (by simp))
   | _=>exact absurd (show false=true from hs) Bool.false_ne_true
 | bl i =>
   cases rx
   cases y with
   | non=>cases ry;exact PySem.EqNone.ne_bool_none (qz I q (by simp))
   | bl j=>cases ry;exact ne_bool (qz I q (congrArg not qby))
   | str j=>obtain⟨t',rfl⟩:=ry;exact PySem.EqMixed.ne_bool_str (qz I q (by simp))
   | _=>exact absurd (show false=true from hs) Bool.false_ne_true
 | int i =>
   obtain⟨t,rfl⟩:=rx
   cases y with
   | non=>cases ry;exact PySem.EqNone.ne_int_none (qz I q (by simp))
   | int j=>obtain⟨t',rfl⟩:=ry;exact ne_int (qz I q (congrArg not qag))
   | str j=>obtain⟨t',rfl⟩:=ry;exact PySem.EqMixed.ne_int_str (qz I q (by simp))
   | _=>exact absurd (show false=true from hs) Bool.false_ne_true
 | str i =>
   obtain⟨t,rfl⟩:=rx
   cases y with
   | non=>cases ry;exact PySem.EqNone.ne_str_none (qz I q (by simp))
   | bl j=>cases ry;exact PySem.EqMixed.ne_str_bool (qz I q (by simp))
   | int j=>obtain⟨t',rfl⟩:=ry;exact PySem.EqMixed.ne_str_int (qz I q (by simp))
   | str j=>obtain⟨t',rfl⟩:=ry;exact ne_str (qz I q (congrArg not qaf))
   | _=>exact absurd (show false=true from hs) Bool.false_ne_true
 | byt i =>
   obtain⟨t,rfl⟩:=rx
   cases y with
   | byt j=>obtain⟨t',rfl⟩:=ry;exact PySem.W.ne_bytes (qz I q (congrArg not qah))
   | _=>exact absurd (show false=true from hs) Bool.false_ne_true
 | _=>cases y<;>exact absurd (show false=true from hs) Bool.false_ne_true
theorem qbZ:OpR X (compareOp .Lt) (rI0 fun i j=>.bl (decide (i < j))):=qdw fun _ _ _ _ _ _ _ q=>lt_int q
theorem qcN:OpR X (compareOp .Gt) (rI0 fun i j=>.bl (decide (j < i))):=qdw fun _ _ _ _ _ _ _ q=>gt_int q
theorem qdv:OpR X (compareOp .GtE) (rI0 fun i j=>.bl (decide (j≤i))):=qdw fun _ _ _ _ _ _ _ q=>ge_int q
theorem qcM:OpR X (compareOp .Is) (fun x y H Q=>y=.non∧Q (.bl (decide (x=.non))) H):=by
 intro pins s σ H x y v u Q I rx ry h;obtain⟨rfl,q⟩:=h;cases ry;refine is_none_gen (qz I q ?_);cases x<;>first
   | (cases rx;rfl)
   | (obtain⟨t,rfl⟩:=rx;rfl)
theorem qbY:OpR X (compareOp .IsNot) (fun x y H Q=>y=.non∧Q (.bl (!decide (x=.non))) H):=by
 intro pins s σ H x y v u Q I rx ry h;obtain⟨rfl,q⟩:=h;cases ry;refine isnot_none_gen (qz I q ?_);cases x<;>first
   | (cases rx;rfl)
   | (obtain⟨t,rfl⟩:=rx;rfl)
theorem OpR.or {f:Value->Value->Sem Value}{r r':R2} (h:OpR X f r) (h':OpR X f r'):OpR X f (fun x y H Q=>r x y H Q∨r' x y H Q):=by
 intro pins s σ H x y v u Q I rx ry q;rcases q with q|q
 · exact h pins s σ H x y v u Q I rx ry q
 · exact h' pins s σ H x y v u Q I rx ry q
theorem qZ (b:Expr) {op:CmpOp} (h:op≠.In:=by decide) (h2:op≠.NotIn:=by decide):behindInMarks op b=false:=by
 have e1:(op == CmpOp.In)=false:=by cases op<;>first|rfl|exact absurd rfl h
 have e2:(op == CmpOp.NotIn)=false:=by cases op<;>first|rfl|exact absurd rfl h2
 cases b<;>simp[behindInMarks,e1,e2]
inductive Jm (Q:(Bool->Hp->Prop)) (x:V) (H':Hp):Prop
 | mk (k:_) (h1:x=.bl k) (h2:Q k H'):Jm Q x H'
def qdb (t:TE):TT:=fun σ H Q=>t σ H fun x H'=>Jm Q x H'
theorem qC {op:CmpOp}{r:R2} (ho:OpR X (compareOp op) r) (ha:PE X a ta) (hb:PE X b tb) (hm:behindInMarks op b=false):PT X (.Compare a [op] [b] pos) (qdb (tOp r ta tb)):=by
 intro pins s σ H Q I h
 refine wpAny_isTrue_Compare1 (thn (ha pins s σ H _ I h) fun v s1 ⟨x,H1,I1,r1,q1⟩=>thn (hb pins s1 σ H1 _ I1 q1) fun u s2 ⟨y,H2,I2,r2,q2⟩ =>
   thn (ho pins s2 σ H2 x y v u _ I2 r1 r2 q2) fun c s3 ⟨z,H3,I3,r3,k,e,q3⟩=>?_) hm
 subst e;cases r3;exact wpAny_truthy_bool ⟨H3,I3,q3⟩
theorem Q9:(sizeLine:Nat) < 2 ^ 63:=by rw[sizeLine_eq];decide
theorem j0:OpR X (binaryOp .Add) (fun x y H Q=>∃ i j,x=.str i∧y=.str j∧i.length+j.length≤sizeLine∧Q (.str (i++j)) H):=by
 intro pins s σ H x y v u Q I rx ry h;obtain⟨i,j,rfl,rfl,hz,q⟩:=h;obtain⟨t,rfl⟩:=rx;obtain⟨t',rfl⟩:=ry;exact add_str (fun t' tk=>⟨.str (i++j),H,I.tok _,⟨_,rfl⟩,q⟩) hz
theorem Zv {x:V}{us:List Value} (r:Vals [x] us):∃ u,us=[u]∧RelV x u:=by
 cases r with
 | cons r1 r2=>cases r2;exact⟨_,rfl,r1⟩
theorem jV {x y:V}{us:List Value} (r:Vals [x,y] us):∃ u w',us=[u,w']∧RelV x u∧RelV y w':=by
 cases r with
 | cons r1 r2 =>
   cases r2 with
   | cons r3 r4=>cases r4;exact⟨_,_,rfl,r1,r3⟩
theorem qal (hc:X.calm=true):z3 X (.builtin "max") (fun xs H Q=>∃ i j,xs=[.int i,.int j]∧Q (.int (if j > i then j else i)) H):=by
 intro pins s σ H xs us Q I r h;obtain⟨i,j,rfl,q⟩:=h;obtain⟨u,w',rfl,⟨t,rfl⟩,⟨t',rfl⟩⟩:=jV r;refine max_two_ints (I.ok.hd hc) fun h' tk k=>⟨_,H,I.kept k,?_,q⟩
 by_cases hj:j > i
 · rw[if_pos hj,if_pos hj];exact⟨_,rfl⟩
 · rw[if_neg hj,if_neg hj];exact⟨_,rfl⟩
theorem QT (hc:X.calm=true):z3 X (.builtin "min") (fun xs H Q=>∃ i j,xs=[.int i,.int j]∧Q (.int (if j < i then j else i)) H):=by
 intro pins s σ H xs us Q I r h;obtain⟨i,j,rfl,q⟩:=h;obtain⟨u,w',rfl,⟨t,rfl⟩,⟨t',rfl⟩⟩:=jV r;refine min_two_ints (I.ok.hd hc) fun h' tk k=>⟨_,H,I.kept k,?_,q⟩
 by_cases hj:j < i
 · rw[if_pos hj,if_pos hj];exact⟨_,rfl⟩
 · rw[if_neg hj,if_neg hj];exact⟨_,rfl⟩
def qen (K:Frag) (x:V) (H:Hp) (n:Nat):Prop :=
 match x with
 | .str y=>y.length≤sizeLine∧n=y.length
 | .byt y=>y.size≤sizeLine∧n=y.size
 | .ref p=>(∃ xs,SqL K H p xs∧n=xs.length)∨∃ xs,SqT K H p xs∧n=xs.length
 | _=>False
theorem jS:z3 X (.builtin "len") (fun xs H Q=>∃ x n,xs=[x]∧qen X.K x H n∧Q (.int n) H):=by
 intro pins s σ H xs us Q I r h;obtain⟨x,n,rfl,e,q⟩:=h;obtain⟨u,rfl,rx⟩:=Zv r;have hl:=Q9;have hs:sizeLine=16777216:=sizeLine_eq
 cases x with
 | str y =>
   obtain⟨t,rfl⟩:=rx;obtain⟨hy,e'⟩:y.length≤sizeLine∧n=y.length:=e;subst e';exact len_str (by omega) ⟨.int _,H,I.tok _,⟨_,rfl⟩,q⟩
 | byt y =>
   obtain⟨t,rfl⟩:=rx;obtain⟨hy,e'⟩:y.size≤sizeLine∧n=y.size:=e;subst e';exact PySem.W.len_bytes (by omega) ⟨.int _,H,I.tok _,⟨_,rfl⟩,q⟩
 | ref p =>
   cases rx;have e':(∃ xs,SqL X.K H p xs∧n=xs.length)∨∃ xs,SqT X.K H p xs∧n=xs.length:=e;rcases e' with ⟨xs,hx,e'⟩|⟨xs,hx,e'⟩
   · subst e';obtain⟨its,r',pl,hz⟩:=I.list hx;have hlen:=r'.length;exact Calls.call_len_list pl.isList (by simp only[List.size_toArray];omega) ⟨.int xs.length,H,I.tok _,⟨_,by simp only[List.size_toArray];rw[hlen]⟩,q⟩
   · subst e';obtain⟨its,r',pl,hz⟩:=I.tuple hx;have hlen:=r'.length;exact len_tuple pl (by simp only[List.size_toArray];omega) ⟨.int xs.length,H,I.tok _,⟨_,by simp only[List.size_toArray];rw[hlen]⟩,q⟩
 | _=>exact(show False from e).elim
end
structure ObjM (h:Heap) (x dx C:Addr) (mA:Str->Option Value):Prop where
 obj:h.get? x=some (instObj C dx)
 ns:h.Ns1 dx mA
 ne:dx≠x
theorem ZJ {h:Heap}{dx:Addr}{mA:Str->Option Value} (n:h.Ns1 dx mA):∃ od,h.get? dx=some od∧∀ name,lookIn name od=some (mA name):=by
 obtain⟨o,es,ep,ho,hd,hk,_,hm⟩:=n;refine⟨o,ho,fun name=>?_⟩;have e:=hm name;unfold nsFind findBy at e;rw[← Array.find?_toList]at e;unfold lookIn;rw[hd];dsimp only;split
 · rename_i y q
   rw[q]at e;exact congrArg some e
 · rename_i q
   rw[q]at e
   have a:es.toList.any (·.refKey)=false:=by
     rw[List.any_eq_false];intro y hy;obtain⟨z,t,hkey⟩:=hk y (Array.mem_toList_iff.mp hy);simp[DictEntry.refKey,hkey]
   have a':¬ es.toList.any (·.refKey)=true:=by rw[a];exact Bool.false_ne_true
   rw[if_neg a'];exact congrArg some e
theorem ObjM.look {h:Heap}{x dx C:Addr}{mA:Str->Option Value} (I:ObjM h x dx C mA):∃ od,PySem.W.InstAt h x (instObj C dx) C (some od)∧∀ name,lookIn name od=some (mA name) :=
 let ⟨od,ho,hl⟩:=ZJ I.ns
 ⟨od,⟨I.obj,rfl,rfl,ho⟩,hl⟩
theorem RelO.some_of {v:V}{o:Option Value} (r:RelO (some v) o):∃ u,o=some u∧RelV v u:=by
 cases o with
 | none=>exact(show False from r).elim
 | some u=>exact⟨u,rfl,r⟩
theorem RelO.none_of {o:Option Value} (r:RelO none o):o=none:=by
 cases o with
 | none=>rfl
 | some u=>exact(show False from r).elim
theorem qaa {v:V}{u:Value} (r:RelV v u):PySem.W.handedIn u=true:=by
 cases v with
 | non=>cases (show u=Value.none from r);rfl
 | bl b=>cases (show u=Value.bool b from r);rfl
 | int i=>obtain⟨t,e⟩:=(show ∃ t,u=Value.int i t from r);cases e;rfl
 | str x=>obtain⟨t,e⟩:=(show ∃ t,u=Value.str x t from r);cases e;rfl
 | byt b=>obtain⟨t,e⟩:=(show ∃ t,u=Value.bytes b t from r);cases e;rfl
 | flt b=>obtain⟨t,e⟩:=(show ∃ t,u=Value.float b t from r);cases e;rfl
 | ref a=>cases (show u=Value.ref a from r);rfl
 | ty n=>cases (show u=Value.type n from r);rfl
section
variable {P:Program}{w:World}{H H':Hp}{h h':Heap}{a C dx:Addr}{fs fs':List (Str×V)}
theorem qb9 (hok:HOk P w H h) (e:H a=some (.ins C dx fs)):∃ mA,ObjM h a dx C mA∧(∀ f,RelO (fs.lookup f) (mA f))∧PySem.Within mA (fs.map (·.1))∧fs.length≤1000∧H dx=some (.own a):=by
 obtain⟨d,z,ne,ob,mA,n,r,q⟩:=(show ObjOk P w H h a (.ins C dx fs) from hok a _ e)
 exact⟨mA,⟨ob,n,ne⟩,r,q,z,d⟩
end
structure Cls (K:Frag) (C:Addr):Prop where
 pg:plainGet K C Str.empty=true
 hd:PySem.W.hasDictIn K C=true
 po:PySem.W.plainOver K C=true
 sa:findIn K (.ref C) "__setattr__"=some (some (.builtin "object.__setattr__"))
theorem Cls.get {K:Frag}{C:Addr} (c:Cls K C) (f:Str):plainGet K C f=true:=c.pg
def qas (K:Frag) (C:Addr) (f:Str):Prop:=findIn K (.ref C) f=some none
structure qdY (K:Frag) (C:Addr) (m:Str) (f:Addr):Prop where
 at_:findIn K (.ref C) m=some (some (.ref f))
 fn:isFn K (.ref f)=true
 kp:keepIn K (.ref f)=true
section
variable {X:Cx}{pins:List (Addr×Obj)}{σ:St}{H:Hp}{s:Shared}{a C dx:Addr}{fs:List (Str×V)}{f:Str}{v:V}{A:Around}{E:Value->Shared->Prop}
theorem qci {prog:Program}{w:World}{env:Env}{e:Expr}{f:Str}{pos:Pos}{s:Shared}{Q:Value->Shared->Prop} (hb:attributeBase e f env (eval e env)=eval e env)
   (h:wpAny (model prog w) A (eval e env) (fun o s₁=>wpAny (model prog w) A (getAttr o f true) Q E s₁) E s):wpAny (model prog w) A (eval (.Attribute e f pos) env) Q E s :=
 Attribute_any_ h (by rw[arm_eval_Attribute,hb])
end
section
variable {X:Cx}{pins:List (Addr×Obj)}{σ:St}{H:Hp}{s:Shared}{A:Around}{E:Value->Shared->Prop}{Q:Value->Shared->Prop}{c:Value}{b:Bool}
inductive Jd (K:Frag) (H:Hp):V->Value->Prop where
 | non:Jd K H .non (.type "NoneType")
 | bl (x:Bool):Jd K H (.bl x) (.type "bool")
 | int (i:Int):Jd K H (.int i) (.type "int")
 | str (x:Str):Jd K H (.str x) (.type "str")
 | flt (x:UInt64):Jd K H (.flt x) (.type "float")
 | lst {a:Addr}{xs:List V} (e:H a=some (.lst xs)):Jd K H (.ref a) (.type "list")
 | frz {a:Addr}{o:Obj}{xs:List V} (e:H a=some (.frz o (.lst xs))):Jd K H (.ref a) (.type "list")
 | tup {a:Addr}{xs:List V} (e:H a=some (.tup xs)):Jd K H (.ref a) (.type "tuple")
 | dK {a:Addr}{kvs:List (Key×V)} (e:H a=some (.dK kvs)):Jd K H (.ref a) (.type "dict")
 | dT {a:Addr}{kvs:List (List Key×V)} (e:H a=some (.dT kvs)):Jd K H (.ref a) (.type "dict")
 | ins {a C dx:Addr}{fs:List (Str×V)} (e:H a=some (.ins C dx fs)) (cl:Cls K C) (ha:findIn K (.ref C) "__class__"=some (some (.builtin "object.__class__")))
     (hn:PySem.W.specialIn K (.builtin "object.__class__") "__get__"=some (some (.builtin "getset_descriptor.__get__"))) (htk:PySem.W.takesIn K (.builtin "object.__class__")=some true)
     (hm:PySem.W.mroIn K C (.type "object")=some true):Jd K H (.ref a) (.ref C)
theorem J0 {x:V}{u t:Value} (I:Inv X pins σ H s) (rx:RelV x u) (ty:Jd X.K H x t) (e:PySem.W.kitOne X.K t c=some b) (h:∀ tk,Q (.bool b) { s with toks:=tk }) :
   wpAny (model X.prog X.w) A (call (.builtin "isinstance") [u,c]) Q E s:=by
 cases ty with
 | non=>cases (show u=Value.none from rx);exact kia_one PySem.W.kitx_none I.kIn True.intro e (fun z=>nomatch z) h
 | bl y=>cases (show u=Value.bool y from rx);exact kia_one PySem.W.kitx_bool I.kIn True.intro e (fun z=>nomatch z) h
 | int i=>obtain⟨t,q⟩:=(show ∃ t,u=Value.int i t from rx);cases q;exact kia_one PySem.W.kitx_int I.kIn True.intro e (fun z=>nomatch z) h
 | str y=>obtain⟨t,q⟩:=(show ∃ t,u=Value.str y t from rx);cases q;exact kia_one PySem.W.kitx_str I.kIn True.intro e (fun z=>nomatch z) h
 | flt y=>obtain⟨t,q⟩:=(show ∃ t,u=Value.float y t from rx);cases q;exact kia_one PySem.W.kitx_float I.kIn True.intro e (fun z=>nomatch z) h
 | @lst a xs ea =>
   cases (show u=Value.ref a from rx);obtain⟨_,_,n,_,h1⟩:=(show ObjOk X.prog X.w H s.heap a (.lst xs) from I.hok a _ ea)
   exact kia_one kitx_list I.kIn ⟨_,h1,rfl⟩ e (fun z=>nomatch z) h
 | @frz a ob xs ea =>
   cases (show u=Value.ref a from rx);obtain⟨_,_,_,n,_,h1⟩:=(show ObjOk X.prog X.w H s.heap a (.frz ob (.lst xs)) from I.hok a _ ea)
   exact kia_one kitx_list I.kIn ⟨_,h1,rfl⟩ e (fun z=>nomatch z) h
 | @tup a xs ea =>
   cases (show u=Value.ref a from rx);obtain⟨_,_,_,p⟩:=(show ObjOk X.prog X.w H s.heap a (.tup xs) from I.hok a _ ea)
   obtain⟨o,h1,h2,_⟩:=p;exact kia_one PySem.W.kitx_tuple I.kIn ⟨o,h1,h2⟩ e (fun z=>nomatch z) h
 | @dK a kvs ea =>
   cases (show u=Value.ref a from rx);obtain⟨_,_,vs,_,p⟩:=(show ObjOk X.prog X.w H s.heap a (.dK kvs) from I.hok a _ ea)
   obtain⟨o,es,ep,h1,h2,_⟩:=p;exact kia_one kitx_dict I.kIn ⟨o,h1,h2.1⟩ e (fun z=>nomatch z) h
 | @dT a kvs ea =>
   cases (show u=Value.ref a from rx);obtain⟨_,_,xs,_,o,es,ep,h1,h2,_⟩:=(show ObjOk X.prog X.w H s.heap a (.dT kvs) from I.hok a _ ea)
   exact kia_one kitx_dict I.kIn ⟨o,h1,h2.1⟩ e (fun z=>nomatch z) h
 | @ins a C dx fs ea cl ha hn htk hm =>
   cases (show u=Value.ref a from rx);obtain⟨mA,O,_⟩:=qb9 I.hok ea;obtain⟨od,J,_⟩:=O.look;exact kia_one (PySem.W.kitx_own (cl.get _) cl.hd ha hn htk hm) I.kIn J e (fun z=>nomatch z) h
end
structure Room (k:Nat) (A:Around):Prop where
 hd:A.handled=none
 dp:A.depth+3 * k+5 < recursionLimit
 un:A.units+16 * k+200 < cLine
 gd:A.guards=some []
theorem Room.mono {j k:Nat}{A:Around} (r:Room k A) (h:j≤k):Room j A:=⟨r.hd,by have:=r.dp;omega,by have:=r.un;omega,r.gd⟩
theorem Room.deeper {k:Nat}{A:Around} (r:Room (k+1) A) (env:Env):Room k (A.deeper env) :=
 ⟨r.hd,by have:=r.dp;show A.depth+1+3 * k+5 < _;omega,by have:=r.un;show A.units+3+16 * k+200 < _;omega,r.gd⟩
theorem j7 {A:Around}{C:Addr}{us:List Value}{kw:List (Str×Value)}:(A.under (.builtin "type.__call__" ⟨.ref C::us,kw⟩)).depth=A.depth+1:=by
 first|rfl|simp[Around.under,Code.weight,Code.isCreation,Code.isGuard,Code.isCaller,Code.frames,Code.isFrame,guardIds]
theorem j6 {A:Around}{C:Addr}{us:List Value}{kw:List (Str×Value)}:(A.under (.builtin "type.__call__" ⟨.ref C::us,kw⟩)).units=A.units+1:=by
 first|rfl|simp[Around.under,Code.cUnits,Code.frames,Code.isFrame]
theorem Room.make {k:Nat}{A:Around} (r:Room (k+1) A) (C:Addr) (us:List Value) (kw:List (Str×Value)):Room k (A.under (.builtin "type.__call__" ⟨.ref C::us,kw⟩)) :=
 ⟨r.hd,by have:=r.dp;rw[j7];omega,by have:=r.un;rw[j6];omega,r.gd⟩
theorem Room.depth {k:Nat}{A:Around} (r:Room k A):A.depth < recursionLimit:=by have:=r.dp;omega
theorem Room.units {k:Nat}{A:Around} (r:Room k A):A.units+64 < cLine:=by have:=r.un;omega
def qd5:TA:=fun _ H Q=>Q [] H
def qdg (ta:TE) (tr:TA):TA:=fun σ H Q=>ta σ H fun x H1=>tr σ H1 fun xs H2=>Q (x::xs) H2
section
variable {X:Cx}{e:Expr}{es:List Expr}{te:TE}{t:TA}{pos:Pos}
theorem qh:PA X [] qd5:=fun _ _ _ _ H Q I h=>Calls.spliced_nil ⟨[],H,I,.nil,h⟩
theorem qa (ha:PE X e te) (hr:PA X es t) (hs:starEach (e::es) X.env=(false,eval e X.env)::starEach es X.env:=by rfl):PA X (e::es) (qdg te t):=by
 intro pos pins s σ H Q I h;rw[hs];show wpAny _ _ (spliced ((false,eval e X.env)::backTo pos (starEach es X.env))) _ _ s;refine Calls.spliced_cons (thn (ha pins s σ H _ I h) fun u s1 zz_=>?_);obtain⟨x,H1,I1,r1,q1⟩:=zz_;exact thn (hr pos pins s1 σ H1 _ I1 q1) fun us s2 ⟨xs,H2,I2,r2,q2⟩=>⟨x::xs,H2,I2,.cons r1 r2,q2⟩
def qd2 (t:TA):TE:=fun σ H Q=>t σ H fun xs H1=>xs.length≤sizeLine∧∀ p,H1 p=none->Q (.ref p) (upd H1 p (.tup xs))
def qd6 (t:TA):TE:=fun σ H Q=>t σ H fun xs H1=>xs.length≤sizeLine∧∀ p,H1 p=none->Q (.ref p) (upd H1 p (.lst xs))
theorem ZE {x1} (h:PA X es t):PE X (.Tuple es x1 pos) (qd2 t):=by
 intro pins s σ H Q I hq;refine wpAny_Tuple_spliced (thn (h pos pins s σ H _ I hq) fun us s1 ⟨xs,H1,I1,r,z,q⟩=>⟨by rw[← r.length];exact z,?_⟩);have hf:H1 s1.heap.objs.size=none:=I1.hok.fresh (Nat.le_refl _);refine⟨.ref s1.heap.objs.size,upd H1 s1.heap.objs.size (.tup xs),I1.laid (t':=s1.toks) (fun b u e=>Heap.get?_push_of_some _ e) (Nat.le_refl _) ?_,rfl,q _ hf⟩;exact⟨z,us,r,⟨_,Heap.get?_push_size _ rfl,rfl,_,rfl⟩⟩
theorem zS (h:PA X es t):PE X (.List es pos) (qd6 t):=by
 intro pins s σ H Q I hq;refine wpAny_List_spliced (thn (h pos pins s σ H _ I hq) fun us s1 ⟨xs,H1,I1,r,z,q⟩=>⟨by rw[← r.length];exact z,?_⟩);have hf:H1 s1.heap.objs.size=none:=I1.hok.fresh (Nat.le_refl _);refine⟨.ref s1.heap.objs.size,upd H1 s1.heap.objs.size (.lst xs),I1.laid (t':=s1.toks) (fun b u e=>Heap.get?_push_of_some _ e) (Nat.le_refl _) ?_,rfl,q _ hf⟩;exact⟨z,us,0,r,Heap.get?_push_size _ rfl⟩
end
abbrev Sp:=List V->Hp->VK->XK->Prop
abbrev CXT:=List Env->Hp->Shared->XK->Value->Shared->Prop
structure Env0 (P:Program) (w:World) (K:Frag) (mg:Str->Option Value) (base:Heap) (A:Around) (outer:List Env) (s:Shared) (H:Hp):Prop where
 frames:A.frames=some outer
 mod:Mod K mg base
 bs:∀ b o,base.get? b=some o->s.heap.get? b=some o∧H b=none
 bsz:base.objs.size≤s.heap.objs.size
 funs:s.heap.FunFrames base outer
 frf:∀ b∈frs outer,H b=none
 hok:HOk P w H s.heap
 bare:AllBare s.gens
def CE (outer:List Env) (P:Program) (w:World) (H:Hp) (s:Shared) (Q:VK) (u:Value) (s':Shared):Prop :=
 ∃ v H',s'.os=s.os∧AllBare s'.gens∧Un (frs outer) [] H H' s.heap s'.heap∧HOk P w H' s'.heap∧RelV v u∧Q v H'
def CR (CX:CXT) (outer:List Env) (P:Program) (w:World) (H:Hp) (s:Shared) (Q:VK) (E:XK) (r:Result) (s':Shared):Prop :=
 match r with
 | .ok (.ret u)=>CE outer P w H s Q u s'
 | .ok _=>False
 | .error e=>CX outer H s E e s'
structure zb (P:Program) (w:World) (K:Frag) (mg:Str->Option Value) (base:Heap) (CX:CXT) (k:Nat) (f:Addr) (fd:FuncData) (ps:List Str) (sp:Sp):Prop where
 len:∀ vs H Q E,sp vs H Q E->vs.length=ps.length
 run:∀ (A:Around) (outer:List Env) (s:Shared) (H:Hp) (args:Args) (us:List Value) (vs:List V) (Q:VK) (E:XK),Room k A->Env0 P w K mg base A outer s H->BindsTo s fd args (ps.zip us)->Vals vs us->sp vs H Q E ->
   codeAny (model P w) A (.call (.ref f) args) (CR CX outer P w H s Q E) s
theorem Env0.make {P:Program}{w:World}{K:Frag}{mg:Str->Option Value}{base:Heap}{A:Around}{outer:List Env}{s:Shared}{H:Hp} (e:Env0 P w K mg base A outer s H) (C:Addr) (us:List Value) (kw:List (Str×Value)) :
   Env0 P w K mg base (A.under (.builtin "type.__call__" ⟨.ref C::us,kw⟩)) outer s H:=⟨by first|exact e.frames|(simpa[Around.under,Code.envs,Code.isFrame,pushEnvs] using e.frames),e.mod,e.bs,e.bsz,e.funs,e.frf,e.hok,e.bare⟩
section
variable {X:Cx}{pins:List (Addr×Obj)}{σ:St}{H:Hp}{s s':Shared}
theorem Inv.env0 (I:Inv X pins σ H s):Env0 X.prog X.w X.K X.mg X.base X.A X.stack s H :=
 ⟨I.ok.frames,I.ok.mod,I.bs,Nat.le_trans I.ok.bsz I.sz,I.stack,I.stkFree,I.hok,I.bare⟩
theorem Inv.after {Q:VK}{u:Value} (I:Inv X pins σ H s) (h:CE X.stack X.prog X.w H s Q u s'):EP X pins σ Q u s':=by
 obtain⟨v,H',os,bare,un,hok,r,q⟩:=h;obtain⟨hh,g,d,t,os'⟩:=s';obtain rfl:os'=s.os:=os;exact⟨v,H',I.call (h':=hh) (g':=g) (d':=d) (t':=t) (ch:=[]) un hok bare (fun b z=>absurd z (by simp)),r,q⟩
end
def qcz (sp:Sp) (dvs:List V) (E:XK) (t:TA):TE:=fun σ H Q=>t σ H fun vs H1=>sp (vs++dvs) H1 Q E
def Binds (K:Frag) (fd:FuncData) (ps:List Str) (ds:List Value):Prop :=
 ∀ (s:Shared) (us:List Value),K.In s.heap->(us++ds).length=ps.length->BindsTo s fd ⟨us,[]⟩ (ps.zip (us++ds))
theorem Binds.all {K:Frag}{fd:FuncData}{ps:List Str} (h:∀ us:List Value,us.length=ps.length->bindArgs fd ⟨us,[]⟩=pure (ps.zip us)):Binds K fd ps []:=fun s us _ hl=>by
 rw[List.append_nil]at hl ⊢;exact .of_eq (h us hl)
def Z1 (CX:CXT) (X:Cx) (E:XK):Prop:=∀ (pins:List (Addr×Obj)) (σ:St) (H:Hp) (s:Shared) (e:Value) (s':Shared),Inv X pins σ H s->CX X.stack H s E e s'->X.xe e s'
section
variable {X:Cx}{CX:CXT}{k:Nat}{f C:Addr}{fd:FuncData}{ps:List Str}{sp:Sp}{dvs:List V}{ds:List Value}{E:XK}{x m:Str}{p pos apos:Pos}{e o:Expr}{es:List Expr}{ta:TE}{t:TA}
theorem qbi {pins:List (Addr×Obj)}{σ:St}{H:Hp}{s:Shared}{Q:VK}{us:List Value}{vs:List V} (F:zb X.prog X.w X.K X.mg X.base CX k f fd ps sp) (hr:Room k X.A) (hb:Binds X.K fd ps ds) (hd:Vals dvs ds) (hx:Z1 CX X E)
   (I:Inv X pins σ H s) (r:Vals vs us) (h:sp (vs++dvs) H Q E):wpAny (model X.prog X.w) X.A (call (.ref f) us) (EP X pins σ Q) X.xe s:=by
 have r2:Vals (vs++dvs) (us++ds):=r.append hd;have hl:(us++ds).length=ps.length:=by rw[← r2.length];exact F.len _ _ _ _ h
 refine wpAny_call (codeAny_mono (F.run X.A X.stack s H ⟨us,[]⟩ (us++ds) (vs++dvs) Q E hr I.env0 (hb s us I.kIn hl) r2 h) fun r s' hq=>?_)
 cases r with
 | error e=>exact hx pins σ H s e s' I hq
 | ok fl =>
   cases fl with
   | ret u=>exact I.after hq
   | next=>exact False.elim hq
   | brk=>exact False.elim hq
   | cont=>exact False.elim hq
theorem ql (F:zb X.prog X.w X.K X.mg X.base CX k f fd ps sp) (hr:Room k X.A) (hg:Gl X x) (hm:X.mg x=some (.ref f)) (hk:keepIn X.K (.ref f)=true) (hb:Binds X.K fd ps ds) (hd:Vals dvs ds) (hx:Z1 CX X E)
   (ha:PA X (e::es) t) (hdb:(x == ("__debug__":Str))=false:=by decide) (he:starEach (e::es) X.env=(false,eval e X.env)::starEach es X.env:=by rfl) (hpl:(backTo pos (starEach es X.env)).any (·.1)=false:=by rfl) :
   PE X (.Call (.Name x p) (e::es) [] pos) (qcz sp dvs E t):=by
 intro pins s σ H Q I h;refine wpAny_Call_Name_kw (zH I hg hm ?_ hdb);refine PySem.W.callWith_K (h₀:=X.base) I.ok.mod.kin hk (thn (ha pos pins s σ H _ I h) fun us s1 ⟨vs,H1,I1,r,q⟩=>⟨I1.kIn,?_⟩) he hpl;exact qbi F hr hb hd hx I1 r q
end
section
variable {X:Cx}{CX:CXT}{k:Nat}{f C:Addr}{fd:FuncData}{ps ks:List Str}{sp:Sp}{E:XK}{x m:Str}{p pos apos kpos:Pos}{e o:Expr}{es:List Expr}{kws:List Keyword}{te ta:TE}{t tk:TA}{nm:Option Str}
variable {g:List Value->List Value->List Value}{gV:List V->List V->List V}
end
structure qD (N P:List Str) (sc:Scope):Prop where
 kind:sc.kind=.function
 co:sc.isCoroutine=false
 gen:sc.isGenerator=false
 nd:N.Nodup
 pre:N.take P.length=P
 par:∀ x∈P,sc.names.lookup x=some .local∨sc.names.lookup x=some .cell
 nofree:∀ y∈sc.names,y.2≠.free
theorem ZX {kindOf:Str->Option NameKind}{x:Str}:∀ {binds:List (Str×Value)}{m:Str->Option Value},(∀ v,(x,v)∉binds)->bindL kindOf binds m x=m x
 | [],_,_=>rfl
 | (n,v)::r,m,h=>by
   unfold bindL;rw[ZX fun w hw=>h w (List.mem_cons_of_mem _ hw)];split
   · have:x≠n:=by rintro rfl;exact h v List.mem_cons_self
     simp[this]
   · rfl
theorem ZZ {kindOf:Str->Option NameKind}{x:Str}:∀ {binds:List (Str×Value)}{m:Str->Option Value},(∀ v,(x,v)∉binds)->bindC kindOf binds m x=m x
 | [],_,_=>rfl
 | (n,v)::r,m,h=>by
   unfold bindC;rw[ZZ fun w hw=>h w (List.mem_cons_of_mem _ hw)];split
   · rfl
   · have:x≠n:=by rintro rfl;exact h v List.mem_cons_self
     simp[this]
theorem ZY {kindOf:Str->Option NameKind}{x:Str}{v:Value}:∀ {P:List Str}{vs:List Value}{i:Nat}{m:Str->Option Value},P.Nodup->P[i]?=some x->vs[i]?=some v->kindOf x=some .local ->
   bindL kindOf (P.zip vs) m x=some v
 | [],_,_,_,_,h,_,_=>by simp at h
 | _::_,[],_,_,_,_,h,_=>by simp at h
 | p::P,w::vs,0,m,nd,h1,h2,hk=>by
   simp at h1 h2;subst h1;subst h2;show bindL kindOf ((p,w)::P.zip vs) m p=_;unfold bindL;rw[ZX fun v hv=>(List.nodup_cons.mp nd).1 (List.of_mem_zip hv).1,if_pos hk];simp
 | p::P,w::vs,i+1,m,nd,h1,h2,hk=>by
   show bindL kindOf ((p,w)::P.zip vs) m x=_;unfold bindL;exact ZY (i:=i) (List.nodup_cons.mp nd).2 (by simpa using h1) (by simpa using h2) hk
theorem Z0 {kindOf:Str->Option NameKind}{x:Str}{v:Value}:∀ {P:List Str}{vs:List Value}{i:Nat}{m:Str->Option Value},P.Nodup->P[i]?=some x->vs[i]?=some v->kindOf x≠some .local ->
   bindC kindOf (P.zip vs) m x=some v
 | [],_,_,_,_,h,_,_=>by simp at h
 | _::_,[],_,_,_,_,h,_=>by simp at h
 | p::P,w::vs,0,m,nd,h1,h2,hk=>by
   simp at h1 h2;subst h1;subst h2;show bindC kindOf ((p,w)::P.zip vs) m p=_;unfold bindC;rw[ZZ fun v hv=>(List.nodup_cons.mp nd).1 (List.of_mem_zip hv).1,if_neg hk];simp
 | p::P,w::vs,i+1,m,nd,h1,h2,hk=>by
   show bindC kindOf ((p,w)::P.zip vs) m x=_;unfold bindC;exact Z0 (i:=i) (List.nodup_cons.mp nd).2 (by simpa using h1) (by simpa using h2) hk
def Qo (N:List Str) (vs:List V):St:=vs.map some++List.replicate (N.length - vs.length) none
def zU (CX:CXT) (P:Program) (w:World) (K:Frag) (mg:Str->Option Value) (base:Heap) (N:List Str) (qual:Str) (scope:Scope) (f:Addr) (cd:Value) (A:Around) (outer:List Env) (s:Shared) (H:Hp) (E:XK):Cx where
 prog:=P
 w:=w
 K:=K
 mg:=mg
 base:=base
 A:=A.deeper (envOfC qual scope s.heap.objs.size f cd)
 N:=N
 s₀:=s
 H₀:=H
 env:=envOfC qual scope s.heap.objs.size f cd
 outer:=outer
 stack:=envOfC qual scope s.heap.objs.size f cd::outer
 ex:=[]
 calm:=true
 fn:=fun _=>true
 pn:=[]
 xe:=fun e s'=>wpAny (model P w) (A.deeper (envOfC qual scope s.heap.objs.size f cd)) (leaving (envOfC qual scope s.heap.objs.size f cd) e) (fun _ s''=>CX outer H s E e s'') (fun e' s''=>CX outer H s E e' s'') s'
theorem jR {sc:Scope}{n:Nat}{x:Str} (h:sc.names.lookup x=some .cell):∃ c,(cellsFrom n sc.names []).lookup x=some c:=by
 have q:=PySem.W.cellsFrom_some sc.names n [] (.inl h);exact Option.isSome_iff_exists.mp q
theorem ZQ {CX:CXT}{P:Program}{w:World}{K:Frag}{mg:Str->Option Value}{base:Heap}{N ps:List Str}{qual:Str}{scope:Scope}{f:Addr}{cd:Value}{A:Around}{outer:List Env}{s s1:Shared}{H:Hp}{E:XK}{us:List Value}{vs:List V}
   (S:qD N ps scope) (hd:A.handled=none) (e0:Env0 P w K mg base A outer s H) (hl:vs.length=ps.length) (r:Vals vs us)
   (x:InCallC s s.heap.objs.size (bindL (envOfC qual scope s.heap.objs.size f cd).kindOf (ps.zip us) fun _=>none) (cellsFrom (s.heap.objs.size+1) scope.names []) (bindC (envOfC qual scope s.heap.objs.size f cd).kindOf (ps.zip us) fun _=>none) s1) :
   Inv (zU CX P w K mg base N qual scope f cd A outer s H E) [] (Qo N vs) H s1:=by
 have hpl:ps.length≤N.length:=by have:=congrArg List.length S.pre;rw[List.length_take]at this;omega
 obtain⟨h1,tk,rfl,hk⟩:=x.done;have noA:∀ b:Addr,b∉(zU CX P w K mg base N qual scope f cd A outer s H E).ex:=fun b z=>absurd (show b∈([]:List Addr) from z) (by simp)
 refine⟨⟨e0.mod,S.kind,rfl,rfl,Nat.le_refl _,fun y z c h1 h2=>?_,fun y hy=>?_,fun y c _ h=>?_,fun _=>hd,Around.frames_deeper e0.frames,.inr ⟨rfl,rfl⟩,fun b z=>absurd z (noA b),e0.bs,e0.bsz,fun b _ _=>noA b,fun b z=>absurd z (noA b),e0.funs,e0.frf⟩,
   rfl,e0.bare,Un.kept hk,⟨_,x.toInCall.ns,fun i y v h1 h2 h3=>?_⟩,fun y c h=>⟨_,x.cell y c h⟩,e0.hok.fresh (Nat.le_refl _),fun y c h=>?_,fun p hp=>absurd (show p∈([]:List (Addr×Obj)) from hp) (by simp),e0.hok.kept hk,?_⟩
 · exact name_of_addr x.apart (PySem.mem_of_lookup h1) (PySem.mem_of_lookup h2)
 · have hy:scope.names.lookup y=some .cell∨scope.names.lookup y=some .free:=hy;rcases hy with hy|hy
   · exact jR hy
   · exact absurd rfl (S.nofree _ (PySem.mem_of_lookup hy))
 · exact Nat.le_of_lt (x.above y c (PySem.mem_of_lookup h))
 · have hi:i < vs.length:=by
     unfold Qo at h2;by_cases hi:i < vs.length
     · exact hi
     · rw[List.getElem?_append_right (by simpa using hi)]at h2;rw[List.getElem?_replicate]at h2;split at h2<;>cases h2
   have ha:vs[i]?=some v:=by
     unfold Qo at h2;rw[List.getElem?_append_left (by simpa using hi),List.getElem?_map]at h2
     cases e:vs[i]? with
     | none=>rw[e]at h2;cases h2
     | some a=>rw[e]at h2;cases h2;rfl
   obtain⟨u,hu,rv⟩:=r.get ha
   have hp:ps[i]?=some y:=by
     rw[← S.pre,List.getElem?_take_of_lt (by omega)];exact h1
   have ndP:ps.Nodup:=by rw[← S.pre];exact S.nd.sublist (List.take_sublist _ _)
   refine⟨u,rv,?_⟩;rcases S.par y (List.mem_of_getElem? hp) with k|k
   · exact .inl ⟨k,ZY ndP hp hu k⟩
   · obtain⟨c,e⟩:=jR (n:=s.heap.objs.size+1) k;refine .inr ⟨.inl k,c,e,?_⟩;have q:=x.cell y c e;rw[Z0 ndP hp hu (by show scope.names.lookup y≠_;rw[k];decide)]at q;exact q
 · exact e0.hok.fresh (Nat.le_of_lt (x.above y c (PySem.mem_of_lookup h)))
 · unfold Qo;show _=N.length;rw[List.length_append,List.length_map,List.length_replicate];omega
theorem qcY {CX:CXT}{P:Program}{w:World}{K:Frag}{mg:Str->Option Value}{base:Heap}{k:Nat}{f:Addr}{name qual:Str}{params:Arguments}{body:List Stmt}{scope:Scope}{dV kV doc pm cdv ct oc:Value}{an od:Option Addr}
   {osl:Array (Option Value)}{N ps:List Str}{sp:Sp} (lk:K.lookup f=some ⟨oc,od,.func (fnOf name qual params body scope dV kV doc pm an cdv ct),osl⟩) (hcd:PySem.W.codeIn K cdv qual=true) (S:qD N ps scope)
   (len:∀ vs H Q E,sp vs H Q E->vs.length=ps.length)
   (hbody:∀ (A:Around) (outer:List Env) (s:Shared) (H:Hp) (vs:List V) (Q:VK) (E:XK),Room k (A.deeper (envOfC qual scope s.heap.objs.size f cdv))->sp vs H Q E ->
     ∃ t,PSs (zU CX P w K mg base N qual scope f cdv A outer s H E) body t∧t { nx:=fun _ H'=>Q .non H',rt:=Q } (Qo N vs) H) :
   zb P w K mg base CX (k+1) f (fnOf name qual params body scope dV kV doc pm an cdv ct) ps sp:=by
 refine⟨len,fun A outer s H args us vs Q E hr e0 hb r hsp=>?_⟩;have hl:=len _ _ _ _ hsp;have KX:K.In s.heap:=e0.mod.kin.keeps fun b o e=>(e0.bs b o e).1;have lim:s.heap.NoLimit:=e0.mod.nolimit.keeps fun b o e=>(e0.bs b o e).1
 have hkind:∀ y∈ps.zip us,scope.names.lookup y.1=some .local∨(scope.names.lookup y.1=some .cell∧((cellsFrom (s.heap.objs.size+1) scope.names []).lookup y.1).isSome=true):=fun⟨n,v⟩ hy=>by
   rcases S.par n (List.of_mem_zip hy).1 with q|q
   · exact .inl q
   · exact .inr ⟨q,PySem.W.cellsFrom_some _ _ _ (.inl q)⟩
 refine codeAny_call_function hr.depth (KX _ _ lk) rfl S.co S.gen rfl (PySem.W.codeRec_of KX hcd) (hb _ _ _ _ ?_);refine wpAny_newFunctionEnv_cells S.kind hkind fun env he s1 x=>?_;subst he;refine⟨lim.keeps x.toInCall.keep,codeAny_func ?_⟩;obtain⟨t,ht,hq⟩:=hbody A outer s H vs Q E (hr.deeper _) hsp;have I:Inv (zU CX P w K mg base N qual scope f cdv A outer s H E) [] (Qo N vs) H s1:=ZQ S hr.hd e0 hl r x;refine wpAny_mono (ht [] s1 (Qo N vs) H _ I hq) (fun fl s' hs=>?_) fun e s' hs=>hs
 have fin:∀ {σ':St}{H':Hp}{v:V}{u:Value},Inv (zU CX P w K mg base N qual scope f cdv A outer s H E) [] σ' H' s'->RelV v u->Q v H'->CE outer P w H s Q u s' :=
   fun {σ' H' v u} J rv q=>⟨v,H',J.os,J.bare,J.base,J.hok,rv,q⟩
 cases fl with
 | ret u =>
   obtain⟨v,σ',H',J,rv,q⟩:=hs;exact fin J rv q
 | next =>
   obtain⟨σ',H',J,q⟩:=hs;exact fin (v:=V.non) (u:=Value.none) J rfl q
 | brk =>
   obtain⟨_,_,_,q⟩:=hs;exact False.elim q
 | cont =>
   obtain⟨_,_,_,q⟩:=hs;exact False.elim q
section
variable {X:Cx}{x:Str}{p pos:Pos}{e:Expr}{es:List Expr}{t:TA}{id T:String}{r:List V->Hp->VK->Prop}
def tCB (r:List V->Hp->VK->Prop) (t:TA):TE:=fun σ H Q=>t σ H fun vs H1=>r vs H1 Q
theorem qB (hc:z3 X (.builtin id) r) (hg:Gl X x) (hm:X.mg x=none) (hv:bootBuiltins x=some (.builtin id)) (ha:PA X (e::es) t) (hn:x≠"__name__":=by decide) (hdb:(x == ("__debug__":Str))=false:=by decide)
   (he:starEach (e::es) X.env=(false,eval e X.env)::starEach es X.env:=by rfl) (hpl:(backTo pos (starEach es X.env)).any (·.1)=false:=by rfl):PE X (.Call (.Name x p) (e::es) [] pos) (tCB r t):=by
 intro pins s σ H Q I h;refine wpAny_Call_Name_kw (ZM I hg hm hv ?_ hn hdb);exact PyProof.Rows.callWith_builtin1 (thn (ha pos pins s σ H _ I h) fun us s1 ⟨vs,H1,I1,r1,q1⟩=>hc pins s1 σ H1 vs us Q I1 r1 q1) he hpl
theorem qA (hc:z3 X (.type T) r) (hg:Gl X x) (hm:X.mg x=none) (hv:bootBuiltins x=some (.type T)) (ha:PA X (e::es) t) (hn:x≠"__name__":=by decide) (hdb:(x == ("__debug__":Str))=false:=by decide)
   (he:starEach (e::es) X.env=(false,eval e X.env)::starEach es X.env:=by rfl) (hpl:(backTo pos (starEach es X.env)).any (·.1)=false:=by rfl):PE X (.Call (.Name x p) (e::es) [] pos) (tCB r t):=by
 intro pins s σ H Q I h;refine wpAny_Call_Name_kw (ZM I hg hm hv ?_ hn hdb);exact PyProof.Rows.callWith_type1 (thn (ha pos pins s σ H _ I h) fun us s1 ⟨vs,H1,I1,r1,q1⟩=>hc pins s1 σ H1 vs us Q I1 r1 q1) he hpl
end
end L2
namespace HT
open PySem PyProof.Rows
section
open PySem.SeqAt
open PySem.AutoSeq1 (wpAny_loadPart')
open PySem.MeetsSeq PySem.MeetsSeq2 PySem.MeetsSeq3
end
end HT
namespace L2
open PySem PySem.Spec PyProof.Rows
open PySem.W (Frag)
def ixN (n:Nat) (i:Int):Option Nat:=if 0≤i then (if i < n then some i.toNat else none) else if -(n:Int)≤i then some (i+n).toNat else none
def atI {α:Type} (xs:List α) (i:Int):Option α:=(ixN xs.length i).bind fun j=>xs[j]?
theorem JY {n:Nat}{i:Int}{j:Nat} (h:ixN n i=some j):seqIndex? i n=some j∧j < n∧-(n:Int)≤i∧i < n:=by
 unfold ixN at h;by_cases h0:0≤i
 · rw[if_pos h0]at h;by_cases h1:i < n
   · rw[if_pos h1]at h;have e:i.toNat=j:=Option.some.inj h;exact⟨by rw[seqIndex_of h0 h1,e],by omega,by omega,h1⟩
   · rw[if_neg h1]at h;cases h
 · rw[if_neg h0]at h;by_cases h1:-(n:Int)≤i
   · rw[if_pos h1]at h;have e:(i+n).toNat=j:=Option.some.inj h;exact⟨by rw[seqIndex_neg (by omega) h1,e],by omega,h1,by omega⟩
   · rw[if_neg h1]at h;cases h
theorem Zs {α:Type}{xs:List α}{i:Int}{v:α} (h:atI xs i=some v):∃ j,seqIndex? i xs.length=some j∧xs[j]?=some v∧j < xs.length∧-(xs.length:Int)≤i∧i < xs.length:=by
 unfold atI at h
 cases e:ixN xs.length i with
 | none=>rw[e]at h;cases h
 | some j =>
   rw[e]at h;obtain⟨h1,h2,h3,h4⟩:=JY e;exact⟨j,h1,h,h2,h3,h4⟩
theorem qcj {α:Type}{xs:List α}{j:Nat}{v:α} (h:xs[j]?=some v):atI xs (j:Int)=some v:=by
 have hj:j < xs.length:=(List.getElem?_eq_some_iff.mp h).1
 have e:ixN xs.length (j:Int)=some j:=by
   unfold ixN;rw[if_pos (by omega),if_pos (by omega)];simp
 unfold atI;rw[e];exact h
def qck (b:Expr):Prop:=∀ o i,subscripted b false o i=operate [o,i] (getItem o i)
def IxR (X:Cx) (r:R2):Prop :=
 ∀ (value slice:Expr) (pins:List (Addr×Obj)) (s:Shared) (σ:St) (H:Hp) (x y:V) (v u:Value) (Q:VK),Inv X pins σ H s->RelV x v->RelV y u->r x y H Q ->
   subscripted slice false v u=operate [v,u] (getItem v u)->wpAny (model X.prog X.w) X.A (subscriptTail value slice v u) (EP X pins σ Q) X.xe s
def MtR (X:Cx) (id:String) (r:V->List V->Hp->VK->Prop):Prop :=
 ∀ (pins:List (Addr×Obj)) (s:Shared) (σ:St) (H:Hp) (x:V) (xs:List V) (v:Value) (us:List Value) (Q:VK),Inv X pins σ H s->RelV x v->Vals xs us->r x xs H Q ->
   wpAny (model X.prog X.w) X.A (call (.builtin id) (v::us)) (EP X pins σ Q) X.xe s
section
variable {X:Cx}{a b:Expr}{ta tb:TE}{pos:Pos}
theorem IxR.or {r r':R2} (h:IxR X r) (h':IxR X r'):IxR X (fun x y H Q=>r x y H Q∨r' x y H Q):=by
 intro value slice pins s σ H x y v u Q I rx ry q hs;rcases q with q|q
 · exact h value slice pins s σ H x y v u Q I rx ry q hs
 · exact h' value slice pins s σ H x y v u Q I rx ry q hs
theorem qr {r:R2} (hr:IxR X r) (ha:PE X a ta) (hb:PE X b tb) (hs:qck b):PE X (.Subscript a b pos) (tOp r ta tb):=by
 intro pins s σ H Q I h;exact Subscript_ (qdV ha hb I h fun v u s2 x y H2 I2 rx ry q=>hr a b pins s2 σ H2 x y v u Q I2 rx ry q (hs _ _))
inductive qbl (K:Frag) (x:V) (y:V) (H:Hp) (Q:VK):Prop
 | mk (p xs i v:_) (h1:x=.ref p) (h2:y=.int i) (h3:SqL K H p xs) (h4:atI xs i=some v) (h5:Q v H):qbl K x y H Q
def qdP (K:Frag):R2:=fun x y H Q=>qbl K x y H Q
inductive qbk (K:Frag) (x:V) (y:V) (H:Hp) (Q:VK):Prop
 | mk (p xs i v:_) (h1:x=.ref p) (h2:y=.int i) (h3:SqT K H p xs) (h4:atI xs i=some v) (h5:Q v H):qbk K x y H Q
def qdN (K:Frag):R2:=fun x y H Q=>qbk K x y H Q
def qdO:R2:=fun x y H Q=>∃ z i c,x=.str z∧y=.int i∧z.length≤sizeLine∧atI z.cps.toList i=some c∧Q (.str ⟨#[c]⟩) H
theorem ix_list:IxR X (qdP X.K):=by
 intro value slice pins s σ H x y v u Q I rx ry h hs;obtain⟨p,xs,i,z,rfl,rfl,hq,he,q⟩:=h;cases rx;obtain⟨t,rfl⟩:=ry;obtain⟨its,r,pl,hz⟩:=I.list hq;obtain⟨j,h1,h2,h3,h4,h5⟩:=Zs he;obtain⟨w,ew,rw'⟩:=r.get h2;have hl:=r.length;have hn:=Q9;have fin:EP X pins σ Q w s:=⟨z,H,I,rw',q⟩
 by_cases h0:0≤i
 · have hj:i.toNat=j:=by
     rw[seqIndex_of h0 h5]at h1;exact Option.some.inj h1
   exact item_listR pl.isList h0 (by omega) (by rw[hj];simpa using ew) fin hs
 · have hj:(i+(its.toArray.size:Int)).toNat=j:=by
     rw[seqIndex_neg (by omega) h4]at h1;rw[List.size_toArray,← hl];exact Option.some.inj h1
   exact subscriptTail_builtinR (x:=w) pl.isList.typeIs slot_list_getitem.lookup
     (wpAny_getItem_list_neg (Q:=fun r s'=>r=w∧EP X pins σ Q r s') pl.isList (by omega) (by rw[List.size_toArray]<;>omega) (by omega) (by rw[hj];simpa using ew) ⟨rfl,fin⟩) hs
theorem ix_tup:IxR X (qdN X.K):=by
 intro value slice pins s σ H x y v u Q I rx ry h hs;obtain⟨p,xs,i,z,rfl,rfl,hq,he,q⟩:=h;cases rx;obtain⟨t,rfl⟩:=ry;obtain⟨its,r,pl,hz⟩:=I.tuple hq;obtain⟨j,h1,h2,h3,h4,h5⟩:=Zs he;obtain⟨w,ew,rw'⟩:=r.get h2;have hl:=r.length;have hn:=Q9;have fin:EP X pins σ Q w s:=⟨z,H,I,rw',q⟩
 exact subscriptTail_builtinR (x:=w) pl.typeIs slot_tuple_getitem.lookup
   (getItem_tuple (j:=j) (Q:=fun r s'=>r=w∧EP X pins σ Q r s') pl (by omega) (by omega) (by rw[List.size_toArray,← hl];exact h1) (by simpa using ew) ⟨rfl,fin⟩) hs
theorem qcU:IxR X qdO:=by
 intro value slice pins s σ H x y v u Q I rx ry h hs;obtain⟨z,i,c,rfl,rfl,hz,he,q⟩:=h;obtain⟨t,rfl⟩:=rx;obtain⟨t',rfl⟩:=ry;obtain⟨j,h1,h2,h3,h4,h5⟩:=Zs he;have hl:z.cps.toList.length=z.length:=by simp[Str.length]
 rw[hl]at h1 h4 h5;have hn:=Q9
 exact tail_any (typeIs_str s z t) slot_str_getitem.lookup (getItem_str (c:=c) (by
   have e1:decide (i < -(2 ^ 63:Int))=false:=decide_eq_false (by omega);have e2:decide (i ≥ 2 ^ 63)=false:=decide_eq_false (by omega)
   rw[e1,e2,Bool.or_false]) (by rw[h1];simpa using h2) ⟨.str ⟨#[c]⟩,H,I.tok _,⟨_,rfl⟩,q⟩) hs
def rIx (K:Frag):R2:=fun x y H Q=>qdP K x y H Q∨qdN K x y H Q∨qdO x y H Q
theorem qp:IxR X (rIx X.K):=ix_list.or (ix_tup.or qcU)
theorem j5 (its:List Value) (n j:Nat) (u:Value):Obj.mapSeq (·.setIfInBounds j u) { cls:=.type "list",data:=.seq its.toArray n }={ cls:=.type "list",data:=.seq (its.set j u).toArray n }:=by
 simp[Obj.mapSeq]
theorem Inv.lst {pins:List (Addr×Obj)}{σ:St}{H:Hp}{s:Shared}{p:Addr}{xs:List V} (I:Inv X pins σ H s) (h:H p=some (.lst xs)) :
   ∃ (its:List Value) (n:Nat),Vals xs its∧s.heap.get? p=some { cls:=.type "list",data:=.seq its.toArray n }∧xs.length≤sizeLine:=by
 obtain⟨z,its,n,r,e⟩:=I.hok p _ h;exact⟨its,n,r,e,z⟩
theorem Inv.lstUpd {pins:List (Addr×Obj)}{σ:St}{H:Hp}{s:Shared}{p:Addr}{xs ys:List V}{its its':List Value}{n n':Nat}{f:Obj->Obj} (I:Inv X pins σ H s) (h:H p=some (.lst xs))
   (ho:s.heap.get? p=some { cls:=.type "list",data:=.seq its.toArray n }) (hf:f { cls:=.type "list",data:=.seq its.toArray n }={ cls:=.type "list",data:=.seq its'.toArray n' }) (r:Vals ys its') (hz:ys.length≤sizeLine) (t:Nat) :
   Inv X pins σ (upd H p (.lst ys)) { s with heap:=s.heap.update p f,toks:=t }:=by
 have e:(s.heap.update p f).get? p=some { cls:=.type "list",data:=.seq its'.toArray n' }:=by
   rw[Heap.get?_update_self f ho (by rw[hf]<;>rfl),hf]
 refine I.write (x:=p) (e:=p) (by rw[h];trivial) (.inl rfl) (fun b u hb q=>(Heap.get?_update_other _ _ (Ne.symm hb)).trans q) ⟨_,e⟩ ?_;exact⟨hz,its',n',r,e⟩
inductive Jy (o:V) (i:V) (v:V) (H:Hp) (Q:(Hp->Prop)):Prop
 | mk (p xs k j:_) (h1:o=.ref p) (h2:i=.int k) (h3:H p=some (.lst xs)) (h4:ixN xs.length k=some j) (h5:Q (upd H p (.lst (xs.set j v)))):Jy o i v H Q
def qdn:V->V->V->Hp->(Hp->Prop)->Prop:=fun o i v H Q=>Jy o i v H Q
theorem Qa:qdG X qdn:=by
 intro pins s σ H o i v ov iv u Q I ro ri rv h;obtain⟨p,xs,k,j,rfl,rfl,hp,hj,q⟩:=h;cases ro;obtain⟨t,rfl⟩:=ri;obtain⟨its,n,r,ho,hz⟩:=I.lst hp;obtain⟨h1,h2,h3,h4⟩:=JY hj;have hl:=r.length;have hn:=Q9
 have I':Inv X pins σ (upd H p (.lst (xs.set j v))) { s with heap:=s.heap.update p (Obj.mapSeq (·.setIfInBounds j u)) } :=
   I.lstUpd hp ho (j5 its n j u) (r.set rv j) (by rw[List.length_set];exact hz) s.toks
 by_cases h0:0≤k
 · have hk:k.toNat=j:=by
     rw[seqIndex_of h0 h4]at h1;exact Option.some.inj h1
   exact PySem.W.ki_setAt ho h0 (by omega) (by rw[List.size_toArray,← hl];exact h4) (by rw[hk];exact⟨_,I',q⟩)
 · have hk:(k+(its.toArray.size:Int)).toNat=j:=by
     rw[seqIndex_neg (by omega) h3]at h1;rw[List.size_toArray,← hl];exact Option.some.inj h1
   exact PySem.W.ki_setBack ho (by omega) (by rw[List.size_toArray,← hl];exact h3) (by omega) (by rw[hk];exact⟨_,I',q⟩)
theorem ZU:z3 X (.type "list") (fun xs H Q=>∃ p ys,xs=[.ref p]∧(SqL X.K H p ys∨SqT X.K H p ys)∧∀ l,H l=none->Q (.ref l) (upd H l (.lst ys))):=by
 intro pins s σ H xs us Q I r h;obtain⟨p,ys,rfl,hq,q⟩:=h;obtain⟨u,rfl,rx⟩:=Zv r;cases rx;have fin:∀ (its:List Value),Vals ys its->ys.length≤sizeLine->∀ (h':Heap) (c':Nat),(∀ b o',s.heap.get? b=some o'->h'.get? b=some o') ->
     h'.get? s.heap.objs.size=some { cls:=.type "list",dict:=none,data:=.seq its.toArray c',slots:=#[] }->EP X pins σ Q (.ref s.heap.objs.size) { s with heap:=h' }:=fun its r' hz h' c' kp e =>
   ⟨.ref s.heap.objs.size,_,I.laid (t':=s.toks) kp (Nat.le_refl _) (show ObjOk X.prog X.w _ h' _ (.lst ys) from ⟨hz,its,c',r',e⟩),rfl,q _ (I.hok.fresh (Nat.le_refl _))⟩
 rcases hq with hq|hq
 · obtain⟨its,r',pl,hz⟩:=I.list hq;have hlen:=r'.length;obtain⟨o,ho,hc,n,hd⟩:=pl.isList;exact call_list_seq p (.inl rfl) ho hc hd (fun h' c' kp e=>fin its r' hz h' c' kp e) (by simp only[List.size_toArray]<;>omega)
 · obtain⟨its,r',pl,hz⟩:=I.tuple hq;have hlen:=r'.length;obtain⟨o,ho,hc,n,hd⟩:=pl;exact call_list_seq p (.inr rfl) ho hc hd (fun h' c' kp e=>fin its r' hz h' c' kp e) (by simp only[List.size_toArray]<;>omega)
def tyV (K:Frag) (T:String) (x:V) (H:Hp):Prop:=match x with
 | .str _=>T="str"
 | .int _=>T="int"
 | .ref p=>(T="list"∧∃ xs,SqL K H p xs)∨(T="tuple"∧∃ o,K.lookup p=some o∧o.cls=.type "tuple"∧o.dict=none) ∨
     (T="dict"∧((∃ kvs,H p=some (.dK kvs))∨∃ kvs,H p=some (.dT kvs)))∨(T="set"∧∃ S n,H p=some (.set S n))
 | _=>False
theorem qbe {pins:List (Addr×Obj)}{σ:St}{H:Hp}{s:Shared}{T:String}{x:V}{v:Value} (I:Inv X pins σ H s) (r:RelV x v) (ty:tyV X.K T x H) :
   s.TypeIs v T∧∀ a,v=.ref a->∃ ob,s.heap.get? a=some ob∧ob.dict=none:=by
 cases x with
 | str z =>
   obtain⟨t,rfl⟩:=r;cases (show T="str" from ty);exact⟨typeIs_str s z t,fun _ e=>nomatch e⟩
 | int i =>
   obtain⟨t,rfl⟩:=r;cases (show T="int" from ty);exact⟨typeIs_int s i t,fun _ e=>nomatch e⟩
 | ref p =>
   cases r;rcases ty with ⟨rfl,xs,hq⟩|⟨rfl,o,hk,hc,hd⟩|⟨rfl,hk⟩|⟨rfl,S,n,hk⟩
   · obtain⟨its,_,pl,_⟩:=I.list hq;refine⟨pl.isList.typeIs,fun a e=>?_⟩;cases e;obtain⟨o,n,e,c,hd,_⟩:=pl;exact⟨o,e,hd⟩
   · refine⟨⟨o,I.kIn p o hk,hc⟩,fun a e=>?_⟩;cases e;exact⟨o,I.kIn _ o hk,hd⟩
   · have z:∃ o,s.heap.get? p=some o∧o.ExactDict:=by
       rcases hk with ⟨kvs,hk⟩|⟨kvs,hk⟩
       · obtain⟨_,_,_,_,o,_,_,e,ex,_⟩:=I.hok p _ hk;exact⟨o,e,ex⟩
       · obtain⟨_,_,_,_,o,_,_,e,ex,_⟩:=I.hok p _ hk;exact⟨o,e,ex⟩
     obtain⟨o,e,ex⟩:=z;refine⟨⟨o,e,ex.1⟩,fun a e2=>?_⟩;cases e2;exact⟨o,e,ex.2.1⟩
   · obtain⟨o,_,_,_,e,ex,_⟩:=I.hok p _ hk;refine⟨⟨o,e,ex.1⟩,fun a e2=>?_⟩;cases e2;exact⟨o,e,ex.2.1⟩
 | _=>exact False.elim ty
def qd7 (K:Frag) (T:String) (r:V->List V->Hp->VK->Prop) (to:TE):TE:=fun σ H Q=>to σ H fun x H1=>tyV K T x H1∧r x [] H1 Q
def tBM (K:Frag) (T:String) (r:V->List V->Hp->VK->Prop) (to:TE) (t:TA):TE:=fun σ H Q=>to σ H fun x H1=>tyV K T x H1∧t σ H1 fun xs H2=>r x xs H2 Q
variable {o e:Expr}{es:List Expr}{to:TE}{t:TA}{name:Str}{apos cpos:Pos}{T id:String}{r:V->List V->Hp->VK->Prop}
theorem qcK (pa:PlainAttrs T) (slot:Slot T name id) (hty:typeOf (.builtin id)=pure (.type "method_descriptor")) (hm:MtR X id r) (ho:PE X o to)
   (hbase:attributeBase o name X.env (eval o X.env)=eval o X.env:=by rfl) (hline:(apos.endLine == cpos.line)=true:=by rfl):PE X (.Call (.Attribute o name apos) [] [] cpos) (qd7 X.K T r to):=by
 intro pins s σ H Q I h;refine wpAny_Call_method0_late hbase hline (thn (ho pins s σ H _ I h) fun v s1 zz_=>?_);obtain⟨x,H1,I1,r1,ty,q1⟩:=zz_;obtain⟨h1,h2⟩:=qbe I1 r1 ty;exact⟨T,id,pa,slot,hty,h1,h2,Calls.callWith_builtin rfl (PySem.evalArgs_none (hm pins s1 σ H1 x [] v [] Q I1 r1 .nil q1))⟩
theorem qaO (pa:PlainAttrs T) (slot:Slot T name id) (hty:typeOf (.builtin id)=pure (.type "method_descriptor")) (hm:MtR X id r) (ho:PE X o to) (ha:PA X (e::es) t)
   (hbase:attributeBase o name X.env (eval o X.env)=eval o X.env:=by rfl)
   (hfew:((backTo cpos (starEach (e::es) X.env)).all (fun x=>!x.1) && (backToKw cpos (keywordEach [] X.env)).all (fun x=>x.1.isSome)
     && decide ((e::es).length+([]:List Keyword).length+(if ([]:List Keyword).isEmpty then 0 else 1) < 30))=true:=by rfl)
   (hline:(apos.endLine == cpos.line)=true:=by rfl) (hs:starEach (e::es) X.env=(false,eval e X.env)::starEach es X.env:=by rfl) (hplain:(backTo cpos (starEach es X.env)).any (·.1)=false:=by rfl) :
   PE X (.Call (.Attribute o name apos) (e::es) [] cpos) (tBM X.K T r to t):=by
 intro pins s σ H Q I h;refine wpAny_Call_method_late hbase hfew hline rfl (thn (ho pins s σ H _ I h) fun v s1 zz_=>?_);obtain⟨x,H1,I1,r1,ty,q1⟩:=zz_;obtain⟨h1,h2⟩:=qbe I1 r1 ty;refine⟨T,id,pa,slot,hty,h1,h2,?_⟩;have hA:=ha cpos pins s1 σ H1 _ I1 q1;rw[hs]at hA ⊢;refine Calls.callWith_builtin (by show (false || (backTo cpos (starEach es X.env)).any (·.1))=false;rw[hplain]<;>rfl) (Calls.evalArgs_plain ?_);exact thn hA fun us s2 ⟨vs,H2,I2,r2,q2⟩=>hm pins s2 σ H2 x vs v us Q I2 r1 r2 q2
end
def MtM (X:Cx) (id:String) (r:V->List V->Hp->VK->Prop):Prop :=
 ∀ (pins:List (Addr×Obj)) (s:Shared) (σ:St) (H:Hp) (x:V) (xs:List V) (v:Value) (us:List Value) (Q:VK),Inv X pins σ H s->RelV x v->Vals xs us->r x xs H Q ->
   wpAny (model X.prog X.w) X.A (call (.builtin id) (v::us)) (EP X pins σ Q) X.xe s
theorem Vals.one {x:V}{us:List Value} (h:Vals [x] us):∃ u,us=[u]∧RelV x u:=by
 cases h with
 | cons r t=>cases t;exact⟨_,rfl,r⟩
theorem Vals.zero:∀ {us:List Value},Vals [] us->us=[]
 | _,.nil=>rfl
theorem Vals.eraseIdx:∀ {xs:List V}{us:List Value} (i:Nat),Vals xs us->Vals (xs.eraseIdx i) (us.eraseIdx i)
 | _,_,_,.nil=>.nil
 | _,_,0,.cons _ t=>t
 | _,_,i+1,.cons r t=>.cons r (Vals.eraseIdx i t)
theorem ZL {α:Type}:∀ (l:List α) (i:Nat),(l.eraseIdx i).length≤l.length
 | [],_=>Nat.le_refl _
 | _::_,0=>Nat.le_succ _
 | _::r,i+1=>Nat.succ_le_succ (ZL r i)
section
variable {X:Cx}{pins:List (Addr×Obj)}{σ:St}{H:Hp}{s:Shared}{l b:Addr}{xs ys zs:List V}
theorem Inv.lset {its its':List Value}{n:Nat}{f:Array Value->Array Value}{t':Nat} (I:Inv X pins σ H s) (hH:H l=some (.lst xs))
   (e:s.heap.get? l=some { cls:=.type "list",data:=.seq its.toArray n }) (hf:f its.toArray=its'.toArray) (hv:Vals ys its') (hz:ys.length≤sizeLine) :
   Inv X pins σ (upd H l (.lst ys)) { s with heap:=s.heap.update l (Obj.mapSeq f),toks:=t' }:=by
 have q:=PySem.IsL.update e f;rw[hf]at q;refine I.write (x:=l) (e:=l) (by rw[hH];exact trivial) (.inl rfl) (fun b' u hb hu=>(Heap.get?_update_other s.heap (Obj.mapSeq f) (Ne.symm hb)).trans hu) ⟨_,q⟩ ?_;exact⟨hz,its',_,hv,q⟩
theorem Inv.lnew {its:List Value}{t':Nat} (I:Inv X pins σ H s) (hv:Vals ys its) (hz:ys.length≤sizeLine) :
   Inv X pins σ (upd H s.heap.objs.size (.lst ys)) { s with heap:=s.heap.push { cls:=.type "list",data:=.seq its.toArray },toks:=t' } :=
 I.laid (fun _ _ q=>Heap.get?_push_of_some _ q) (Nat.le_refl _) ⟨hz,its,0,hv,Heap.get?_push_size _ rfl⟩
theorem Inv.fresh (I:Inv X pins σ H s):H s.heap.objs.size=none:=I.hok.fresh (Nat.le_refl _)
theorem Inv.lstM (I:Inv X pins σ H s) (hH:H l=some (.lst xs)):xs.length≤sizeLine∧∃ (its:List Value) (n:Nat),Vals xs its∧xs.length=its.length∧s.heap.get? l=some { cls:=.type "list",data:=.seq its.toArray n }:=by
 obtain⟨z,its,n,r,e⟩:=I.hok l _ hH;exact⟨z,its,n,r,r.length,e⟩
end
section
variable {X:Cx}
inductive ZD (x:V) (vs:List V) (H:Hp) (Q:VK):Prop
 | mk (l xs y:_) (h1:x=.ref l) (h2:vs=[y]) (h3:H l=some (.lst xs)) (h4:xs.length < sizeLine) (h5:Q .non (upd H l (.lst (xs++[y])))):ZD x vs H Q
def qbR:V->List V->Hp->VK->Prop:=fun x vs H Q=>ZD x vs H Q
theorem QL:MtM X "list.append" qbR:=by
 intro pins s σ H x vs v us Q I rx rv h;obtain⟨l,xs,y,rfl,rfl,hH,hz,q⟩:=h;cases rx;obtain⟨u,rfl,ru⟩:=rv.one;obtain⟨z,its,n,r,hl,e⟩:=I.lstM hH;refine call_meets F.slot_list_append ⟨_,e,rfl⟩ F.entry_list_append (F.args_list_append_2 _ _) (PySem.list_append l its.toArray n u (by rw[List.size_toArray];omega)) ⟨e,?_⟩;refine⟨.non,_,I.lset (its':=its++[u]) hH e (by simp) (r.append (.cons ru .nil)) ?_,rfl,q⟩;rw[List.length_append,List.length_singleton];omega
def qcE:V->List V->Hp->VK->Prop:=fun x vs H Q=>∃ l xs i k y,x=.ref l∧vs=[.int i]∧H l=some (.lst xs)∧-(2 ^ 63)≤i∧i < 2 ^ 63∧seqIndex? i xs.length=some k∧xs[k]?=some y∧Q y (upd H l (.lst (xs.eraseIdx k)))
theorem qaS:MtM X "list.pop" qcE:=by
 intro pins s σ H x vs v us Q I rx rv h;obtain⟨l,xs,i,k,y,rfl,rfl,hH,h1,h2,hk,hy,q⟩:=h;cases rx;obtain⟨u,rfl,ru⟩:=rv.one;obtain⟨t,rfl⟩:=ru;obtain⟨z,its,n,r,hl,e⟩:=I.lstM hH;obtain⟨w,hw,rw'⟩:=r.get hy;refine call_meets F.slot_list_pop ⟨_,e,rfl⟩ F.entry_list_pop (F.args_list_pop_2 _ _)
   (MeetsSeq.list_pop_at l its.toArray n i t k w (fitsIndex_both h1 h2) (by rw[List.size_toArray,← hl];exact hk) (by rw[← Array.getElem?_toList];exact hw) (by rw[List.size_toArray];omega)) ⟨e,?_⟩
 refine⟨y,_,I.lset (its':=its.eraseIdx k) hH e ?_ (r.eraseIdx k) ?_,rw',q⟩
 · show its.toArray.eraseIdxIfInBounds k=(its.eraseIdx k).toArray;rw[List.eraseIdxIfInBounds_toArray]
 · have:=ZL xs k
   omega
inductive qbq (x:V) (y:V) (H:Hp) (Q:VK):Prop
 | mk (l b xs zs:_) (h1:x=.ref l) (h2:y=.ref b) (h3:H l=some (.lst xs)) (h4:H b=some (.lst zs)) (h5:xs.length+zs.length≤sizeLine) (h6:∀ p,H p=none->Q (.ref p) (upd H p (.lst (xs++zs)))):qbq x y H Q
def qdS:R2:=fun x y H Q=>qbq x y H Q
theorem op_cat:OpR X (binaryOp .Add) qdS:=by
 intro pins s σ H x y v u Q I rx ry h;obtain⟨l,b,xs,zs,rfl,rfl,hH,hB,hz,q⟩:=h;cases rx;cases ry;obtain⟨z,its,n,r,hl,e⟩:=I.lstM hH;obtain⟨z2,its2,n2,r2,hl2,e2⟩:=I.lstM hB;refine PySem.P.add_list e e2 ?_ (by rw[List.size_toArray,List.size_toArray];omega);have ea:its.toArray++its2.toArray=(its++its2).toArray:=by simp
 rw[ea];exact⟨.ref _,_,I.lnew (t':=s.toks) (r.append r2) (by rw[List.length_append];omega),rfl,q _ I.fresh⟩
end
section
variable {κ:Type} [DecidableEq κ]
def zf (kvs:List (κ×V)) (k:κ):Option V:=(kvs.find? fun kv=>decide (kv.1=k)).map (·.2)
def z4 (kvs:List (κ×V)) (k:κ) (v:V):List (κ×V) :=
 if (kvs.any fun kv=>decide (kv.1=k))=true then kvs.map (fun kv=>if kv.1=k then (kv.1,v) else kv) else kvs++[(k,v)]
def ZS (kvs:List (κ×V)) (k:κ):List (κ×V):=kvs.filter fun kv=>decide (kv.1≠k)
theorem qS {p:κ×V}{r:List (κ×V)}{k:κ} (e:p.1=k):zf (p::r) k=some p.2:=by simp[zf,List.find?_cons,e]
theorem qT {p:κ×V}{r:List (κ×V)}{k:κ} (e:¬ p.1=k):zf (p::r) k=zf r k:=by simp[zf,List.find?_cons,e]
theorem zu (k:κ):∀ kvs:List (κ×V),(kvs.any fun kv=>decide (kv.1=k))=(zf kvs k).isSome
 | []=>rfl
 | p::r=>by
   rw[List.any_cons];by_cases e:p.1=k
   · simp only[qS e,decide_eq_true e,Bool.true_or,Option.isSome_some]
   · rw[qT e,decide_eq_false e,Bool.false_or];exact zu k r
theorem jj (k j:κ) (y:V):∀ kvs:List (κ×V),zf (kvs.map fun kv=>if kv.1=k then (kv.1,y) else kv) j=(zf kvs j).map fun x=>if j=k then y else x
 | []=>rfl
 | p::r=>by
   have ih:=jj k j y r;rw[List.map_cons];by_cases h:p.1=k
   · rw[if_pos h];by_cases e:p.1=j
     · rw[qS (p:=(p.1,y)) e,qS e,Option.map_some,if_pos (e.symm.trans h)]
     · rw[qT (p:=(p.1,y)) e,qT e,ih]
   · rw[if_neg h];by_cases e:p.1=j
     · rw[qS (p:=p) e,qS e,Option.map_some,if_neg (fun z=>h (e.trans z))]
     · rw[qT (p:=p) e,qT e,ih]
theorem Zw (k j:κ) (y:V):∀ kvs:List (κ×V),zf kvs k=none->zf (kvs++[(k,y)]) j=if j=k then some y else zf kvs j
 | [],_=>by
   by_cases e:k=j
   · rw[if_pos e.symm];exact qS (p:=(k,y)) e
   · rw[if_neg (fun z=>e z.symm)];exact qT (p:=(k,y)) e
 | p::r,hn=>by
   rw[List.cons_append];have hk:¬ p.1=k:=fun z=>by rw[qS z]at hn;cases hn
   rw[qT hk]at hn;have ih:=Zw k j y r hn;by_cases e:p.1=j
   · rw[qS e,qS e,if_neg (fun z=>hk (e.trans z))]
   · rw[qT e,qT e,ih]
theorem ji (kvs:List (κ×V)) (k j:κ) (y:V):zf (z4 kvs k y) j=if j=k then some y else zf kvs j:=by
 unfold z4;by_cases a:(kvs.any fun kv=>decide (kv.1=k))=true
 · rw[if_pos a,jj];rw[zu]at a;by_cases e:j=k
   · obtain⟨x,hx⟩:=Option.isSome_iff_exists.mp a;rw[if_pos e,e,hx,Option.map_some,if_pos rfl]
   · rw[if_neg e]
     cases zf kvs j with
     | none=>rfl
     | some x=>rw[Option.map_some,if_neg e]
 · rw[if_neg a];refine Zw k j y kvs ?_;rw[zu]at a
   cases q:zf kvs k with
   | none=>rfl
   | some x=>rw[q]at a;exact(a rfl).elim
theorem QN (kvs:List (κ×V)) (k:κ) (v:V):(z4 kvs k v).length≤kvs.length+1:=by
 unfold z4;split
 · rw[List.length_map];omega
 · rw[List.length_append,List.length_cons,List.length_nil];omega
theorem qaF {kvs:List (κ×V)}{k:κ} (v:V) (h:zf kvs k=none):z4 kvs k v=kvs++[(k,v)]:=by
 unfold z4;rw[zu,h];exact if_neg (by decide)
theorem RelO.isSome_eq {o:Option V}{u:Option Value} (r:RelO o u):o.isSome=u.isSome:=by
 cases o with
 | none=>cases u with
   | none=>rfl
   | some _=>exact(show False from r).elim
 | some _=>cases u with
   | none=>exact(show False from r).elim
   | some _=>rfl
theorem KV.val {kvs:List (κ×V)}{vs:List (κ×Value)} (r:KV kvs vs) (k:κ):RelO (zf kvs k) (valueAt vs k):=by
 unfold KV at r
 induction r with
 | nil=>exact True.intro
 | @cons p q ps qs h t ih =>
   obtain⟨h1,h2⟩:=h;by_cases e:p.1=k
   · have e':q.1=k:=h1.symm.trans e;have b:valueAt (q::qs) k=some q.2:=by simp[valueAt,List.find?_cons,e']
     rw[qS e,b];exact h2
   · have e':¬ q.1=k:=fun z=>e (h1.trans z);have b:valueAt (q::qs) k=valueAt qs k:=by simp[valueAt,List.find?_cons,e']
     rw[qT e,b];exact ih
theorem KV.any {kvs:List (κ×V)}{vs:List (κ×Value)} (r:KV kvs vs) (k:κ):(kvs.any fun kv=>decide (kv.1=k))=vs.any fun kv=>decide (kv.1=k):=by
 unfold KV at r
 induction r with
 | nil=>rfl
 | cons h t ih=>rw[List.any_cons,List.any_cons,ih,h.1]
theorem KV.repl {kvs:List (κ×V)}{vs:List (κ×Value)} (r:KV kvs vs) (k:κ) {y:V}{u:Value} (ry:RelV y u) :
   KV (kvs.map fun kv=>if kv.1=k then (kv.1,y) else kv) (vs.map fun kv=>if kv.1=k then (kv.1,u) else kv):=by
 unfold KV at r ⊢
 induction r with
 | nil=>exact .nil
 | @cons p q ps qs h t ih =>
   rw[List.map_cons,List.map_cons];refine .cons ?_ ih;obtain⟨h1,h2⟩:=h;by_cases e:p.1=k
   · rw[if_pos e,if_pos (h1.symm.trans e)];exact⟨h1,ry⟩
   · rw[if_neg e,if_neg (fun z=>e (h1.trans z))];exact⟨h1,h2⟩
theorem KV.put {kvs:List (κ×V)}{vs:List (κ×Value)} (r:KV kvs vs) (k:κ) {y:V}{u:Value} (ry:RelV y u):KV (z4 kvs k y) (stored vs k u):=by
 unfold z4 stored;rw[r.any k];by_cases e:(vs.any fun kv=>decide (kv.1=k))=true
 · rw[if_pos e,if_pos e];exact r.repl k ry
 · rw[if_neg e,if_neg e];exact Paired.snoc r ⟨rfl,ry⟩
theorem KV.drop {kvs:List (κ×V)}{vs:List (κ×Value)} (r:KV kvs vs) (k:κ):KV (ZS kvs k) (without vs k):=by
 unfold KV at r ⊢;unfold ZS without
 induction r with
 | nil=>exact .nil
 | @cons p q ps qs h t ih =>
   obtain⟨h1,h2⟩:=h;rw[List.filter_cons,List.filter_cons];by_cases e:p.1=k
   · have a:¬ decide (p.1≠k)=true:=by simp[e]
     have b:¬ decide (q.1≠k)=true:=by simp[h1.symm.trans e]
     rw[if_neg a,if_neg b];exact ih
   · have e':¬ q.1=k:=fun z=>e (h1.trans z);have a:decide (p.1≠k)=true:=by simp[e]
     have b:decide (q.1≠k)=true:=by simp[e']
     rw[if_pos a,if_pos b];exact .cons ⟨h1,h2⟩ ih
theorem KV.length {kvs:List (κ×V)}{vs:List (κ×Value)} (r:KV kvs vs):kvs.length=vs.length:=Paired.length r
theorem jO (kvs:List (κ×V)) (k:κ):(ZS kvs k).length≤kvs.length:=List.length_filter_le _ _
end
theorem jg {P:Program}{w:World}{k:Key}{u:Value} (r:RelV (kV k) u):(qq P w).is k u=true:=by
 cases k with
 | inl i=>obtain⟨t,e⟩:=(show ∃ t,u=Value.int i t from r);subst e;exact je P w i t
 | inr x=>obtain⟨t,e⟩:=(show ∃ t,u=Value.str x t from r);subst e;exact jd P w x t
theorem ZP {P:Program}{w:World}:∀ {ks:List Key}{us:List Value},Vals (ks.map kV) us->ItemsAre (qq P w) ks us
 | [],_,r=>by rw[List.map_nil]at r;cases r;exact .nil
 | k::ks,_,r=>by
   rw[List.map_cons]at r
   cases r with
   | cons h t=>exact .cons (jg h) (ZP t)
abbrev KT (H:Hp):List (List Key×V)->List (List Key×Addr×Value)->Prop:=Paired fun p q=>p.1=q.1∧H q.2.1=some (.tup (p.1.map kV))∧RelV p.2 q.2.2
theorem KT.val {H:Hp}{kvs:List (List Key×V)}{xs:List (List Key×Addr×Value)} (r:KT H kvs xs) (k:List Key):RelO (zf kvs k) ((atKey xs k).map (·.2)):=by
 induction r with
 | nil=>exact True.intro
 | @cons p q ps qs h t ih =>
   obtain⟨h1,_,h2⟩:=h;by_cases e:p.1=k
   · have e':q.1=k:=h1.symm.trans e;have b:atKey (q::qs) k=some q.2:=by simp[atKey,List.find?_cons,e']
     rw[qS e,b];exact h2
   · have e':¬ q.1=k:=fun z=>e (h1.trans z);have b:atKey (q::qs) k=atKey qs k:=by simp[atKey,List.find?_cons,e']
     rw[qT e,b];exact ih
theorem KT.repl {H:Hp}{kvs:List (List Key×V)}{xs:List (List Key×Addr×Value)} (r:KT H kvs xs) (k:List Key) {y:V}{u:Value} (ry:RelV y u) :
   KT H (kvs.map fun kv=>if kv.1=k then (kv.1,y) else kv) (xs.map (putAt k u)):=by
 induction r with
 | nil=>exact .nil
 | @cons p q ps qs h t ih =>
   rw[List.map_cons,List.map_cons];refine .cons ?_ ih;obtain⟨h1,h2,h3⟩:=h;unfold putAt;by_cases e:p.1=k
   · rw[if_pos e,if_pos (h1.symm.trans e)];exact⟨h1,h2,ry⟩
   · rw[if_neg e,if_neg (fun z=>e (h1.trans z))];exact⟨h1,h2,h3⟩
theorem KT.put {H:Hp}{kvs:List (List Key×V)}{xs:List (List Key×Addr×Value)} (r:KT H kvs xs) (k:List Key) {b:Addr}{y:V}{u:Value} (hb:H b=some (.tup (k.map kV))) (ry:RelV y u) :
   KT H (z4 kvs k y) (storedH xs k b u):=by
 have e:(kvs.any fun kv=>decide (kv.1=k))=(atKey xs k).isSome:=by
   rw[zu,(r.val k).isSome_eq,Option.isSome_map]
 unfold z4 storedH;rw[e];by_cases q:(atKey xs k).isSome=true
 · rw[if_pos q,if_pos q];exact r.repl k ry
 · rw[if_neg q,if_neg q];exact Paired.snoc r ⟨rfl,hb,ry⟩
theorem KT.keeps {H H':Hp}{kvs:List (List Key×V)}{xs:List (List Key×Addr×Value)} (r:KT H kvs xs) (ht:∀ b ys,H b=some (.tup ys)->H' b=some (.tup ys)):KT H' kvs xs :=
 Paired.mapP r fun _ _ z=>⟨z.1,ht _ _ z.2.1,z.2.2⟩
section
variable {P:Program}{w:World}{H:Hp}{h:Heap}{a:Addr}
theorem qcD {u:HO} (ok:HOk P w H h) (e:Rd H a u):ObjOk P w H h a u:=e.ok ok
theorem QX {kvs:List (Key×V)} (ok:HOk P w H h) (e:Rd H a (.dK kvs)):kvs.length≤sizeLine∧(a == sysModules)=false∧∃ vs,KV kvs vs∧h.DictOf (qq P w) a vs :=
 show ObjOk P w H h a (.dK kvs) from qcD ok e
theorem qa6 {kvs:List (Key×V)} (ok:HOk P w H h) (e:H a=some (.dK kvs)):kvs.length≤sizeLine∧(a == sysModules)=false∧∃ vs,KV kvs vs∧h.DictOf (qq P w) a vs:=QX ok (.inl e)
theorem jJ {ks:List Key} (ok:HOk P w H h) (e:H a=some (.tup (ks.map kV))):(tupleKind (qq P w)).is h ks a:=by
 obtain⟨_,its,r,o,h1,h2,n,h3⟩:=(show ObjOk P w H h a (.tup (ks.map kV)) from ok a _ e)
 exact⟨o,its.toArray,n,h1,h2,h3,by simpa using ZP r⟩
theorem qac {kvs:List (List Key×V)} (ok:HOk P w H h) (e:Rd H a (.dT kvs)):kvs.length≤sizeLine∧(a == sysModules)=false ∧
   ∃ xs,KT H kvs xs∧h.DictOfH (tupleKind (qq P w)) a xs:=by
 obtain⟨z,y,xs,r,o,es,ep,h1,h2,h3,h4,h5⟩:=(show ObjOk P w H h a (.dT kvs) from qcD ok e)
 refine⟨z,y,xs,r,o,es,ep,h1,h2,h3,h4,fun x hx=>?_,h5⟩
 have all:∀ {l:List (List Key×V)}{m:List (List Key×Addr×Value)},KT H l m->∀ x∈m,(tupleKind (qq P w)).is h x.1 x.2.1:=by
   intro l m q
   induction q with
   | nil=>intro x hx;exact nomatch hx
   | @cons p q ps qs hq t ih =>
     intro x hx;rcases List.mem_cons.mp hx with e|hx
     · subst e;exact jJ ok (by rw[← hq.1];exact hq.2.1)
     · exact ih x hx
 exact all r x hx
theorem qdC {kvs:List (List Key×V)} (ok:HOk P w H h) (e:H a=some (.dT kvs)):kvs.length≤sizeLine∧(a == sysModules)=false ∧
   ∃ xs,KT H kvs xs∧h.DictOfH (tupleKind (qq P w)) a xs:=qac ok (.inl e)
end
def qau (H:Hp) (a:Addr) (y:V) (r:Option V):Prop :=
 (∃ kvs k,Rd H a (.dK kvs)∧y=kV k∧r=zf kvs k)∨∃ kvs k b,Rd H a (.dT kvs)∧y=.ref b∧H b=some (.tup (k.map kV))∧r=zf kvs k
def DPut (H:Hp) (a:Addr) (y v:V) (H':Hp):Prop :=
 (∃ kvs k,H a=some (.dK kvs)∧y=kV k∧kvs.length < sizeLine∧H'=upd H a (.dK (z4 kvs k v))) ∨
 ∃ kvs k b,H a=some (.dT kvs)∧y=.ref b∧H b=some (.tup (k.map kV))∧kvs.length < sizeLine∧H'=upd H a (.dT (z4 kvs k v))
theorem DPut.k {H:Hp}{a:Addr}{kvs:List (Key×V)}{k:Key}{v:V} (e:H a=some (.dK kvs)) (hl:kvs.length < sizeLine):DPut H a (kV k) v (upd H a (.dK (z4 kvs k v))):=.inl ⟨kvs,k,e,rfl,hl,rfl⟩
section
variable {X:Cx}{pins:List (Addr×Obj)}{σ:St}{H:Hp}{s:Shared}{a:Addr}{y v:V}{u r:Value}{o:Option V}{A:Around}{E:Value->Shared->Prop}
theorem Inv.big (I:Inv X pins σ H s):sysModules < s.heap.objs.size:=by
 have h:mainGlobals < s.heap.objs.size:=(I.mod.glob.keeps I.bk).lt;exact Nat.lt_trans (by decide) h
theorem qaj {Q:Value->Shared->Prop} (hu:A.units+1 < cLine) (I:Inv X pins σ H s) (g:qau H a y (some v)) (ry:RelV y u) (h:∀ w' s',Inv X pins σ H s'->RelV v w'->Q w' s') :
   wpAny (model X.prog X.w) A (getItem (.ref a) u) Q E s:=by
 rcases g with ⟨kvs,k,e,ey,l⟩|⟨kvs,k,b,e,ey,eb,l⟩
 · subst ey;obtain⟨z,hd,vs,rel,dd⟩:=QX I.hok e;obtain⟨w',hw,rw'⟩:=RelO.some_of (v:=v) (o:=valueAt vs k) (by rw[l];exact rel.val k);exact wpAny_getItem_of (jg ry) dd.mapOf hw (h w' _ (I.tok _) rw')
 · subst ey;cases (show u=Value.ref b from ry);obtain⟨z,hd,xs,rel,dd⟩:=qac I.hok e;obtain⟨w',hw,rw'⟩:=RelO.some_of (v:=v) (o:=(atKey xs k).map (·.2)) (by rw[l];exact rel.val k);obtain⟨p,hp,hp2⟩:=Option.map_eq_some_iff.mp hw;refine wpAny_getItem_heap (tupleKind_room_in1 hu) (jJ I.hok eb) dd hp ?_;rw[hp2];exact h w' _ (I.tok _) rw'
theorem qce {Q:Value->Shared->Prop} (hu:A.units+1 < cLine) (I:Inv X pins σ H s) (g:qau H a y o) (ry:RelV y u) (h:∀ s',Inv X pins σ H s'->Q (.bool (!o.isSome)) s') :
   wpAny (model X.prog X.w) A (compareOp .NotIn u (.ref a)) Q E s:=by
 rcases g with ⟨kvs,k,e,ey,l⟩|⟨kvs,k,b,e,ey,eb,l⟩
 · subst ey;obtain⟨z,hd,vs,rel,dd⟩:=QX I.hok e;refine wpAny_notIn_of (jg ry) hd dd.mapOf ?_;rw[← (rel.val k).isSome_eq,← l];exact h _ (I.tok _)
 · subst ey;cases (show u=Value.ref b from ry);obtain⟨z,hd,xs,rel,dd⟩:=qac I.hok e;refine wpAny_notIn_heap (tupleKind_room_in1 hu) (jJ I.hok eb) hd dd ?_;have q:=(rel.val k).isSome_eq;rw[Option.isSome_map]at q;rw[← q,← l];exact h _ (I.tok _)
theorem Zr {h':Heap}{t':Nat}{ob:HO} (I:Inv X pins σ H s) (mu:Mut (H a)) (hs:Heap.SameBut a s.heap h') (he:∃ q,h'.get? a=some q) (new:ObjOk X.prog X.w (upd H a ob) h' a ob) :
   Inv X pins σ (upd H a ob) { s with heap:=h',toks:=t' } :=
 I.write (x:=a) (e:=a) mu (.inl rfl) (fun b q hb z=>(hs.2 b hb).trans z) he new
theorem qae {P:Program}{w:World}{H':Hp}{h':Heap}{kvs:List (Key×V)}{vs:List (Key×Value)} (z:kvs.length≤sizeLine) (hd:(a == sysModules)=false) (rel:KV kvs vs) (dd:h'.DictOf (qq P w) a vs) :
   ObjOk P w H' h' a (.dK kvs):=⟨z,hd,vs,rel,dd⟩
theorem qai {H':Hp}{Q:Unit->Shared->Prop} (hu:A.units+1 < cLine) (I:Inv X pins σ H s) (g:DPut H a y v H') (ry:RelV y u) (rv:RelV v r) (h:∀ s',Inv X pins σ H' s'->Q () s') :
   wpAny (model X.prog X.w) A (setItem (.ref a) u r) Q E s:=by
 rcases g with ⟨kvs,k,e,ey,l,eH⟩|⟨kvs,k,b,e,ey,eb,l,eH⟩
 · subst ey eH;obtain⟨z,hd,vs,rel,dd⟩:=qa6 I.hok e;have hz:vs.length≤sizeLine:=by rw[← rel.length];exact z
   have hl:(z4 kvs k v).length≤sizeLine:=by have:=QN kvs k v;omega
   refine wpAny_setItem_pairs (hsz:=hz) (jg ry) dd fun h' dd' hs=>h _ ?_;have he:∃ q,h'.get? a=some q:=let ⟨q,_,_,hq,_⟩:=dd';⟨q,hq⟩;exact Zr I (by rw[e];exact True.intro) hs he (qae hl hd (rel.put k rv) dd')
 · subst ey eH;cases (show u=Value.ref b from ry);obtain⟨z,hd,xs,rel,dd⟩:=qdC I.hok e;have hz:xs.length≤sizeLine:=by rw[← Paired.length rel];exact z
   have hl:(z4 kvs k v).length≤sizeLine:=by have:=QN kvs k v;omega
   refine wpAny_setItem_heap (hsz:=hz) (tupleKind_room_in1 hu) (jJ I.hok eb) dd fun h' dd' hs=>h _ ?_;obtain⟨q,es,ep,hq,h2,h3,h4,_,h5⟩:=dd';refine Zr I (by rw[e];exact True.intro) hs ⟨q,hq⟩ ⟨hl,hd,_,(rel.put k eb rv).keeps fun c ys ec=>?_,q,es,ep,hq,h2,h3,h4,h5⟩;rw[qb (ZI ec e (fun z=>nomatch z))];exact ec
end
section
variable {X:Cx}{pins:List (Addr×Obj)}{σ:St}{H:Hp}{s:Shared}{a:Addr}{kvs:List (Key×V)}{k:Key}{u:Value}{A:Around}{E:Value->Shared->Prop}
theorem qdD {v:V}{more:List Value}{Q:Value->Shared->Prop} (I:Inv X pins σ H s) (e:H a=some (.dK kvs)) (ry:RelV (kV k) u) (l:zf kvs k=some v) (hm:more=[]∨∃ x,more=[x])
   (h:∀ w' s',Inv X pins σ (upd H a (.dK (ZS kvs k))) s'->RelV v w'->Q w' s'):wpAny (model X.prog X.w) A (call (.builtin "dict.pop") (.ref a::u::more)) Q E s:=by
 obtain⟨z,hd,vs,rel,dd⟩:=qa6 I.hok e;obtain⟨w',hw,rw'⟩:=RelO.some_of (v:=v) (o:=valueAt vs k) (by rw[← l];exact rel.val k)
 have hp:(keyPart u).isSome=true:=by
   cases k with
   | inl i=>obtain⟨t,q⟩:=(show ∃ t,u=Value.int i t from ry);subst q;rfl
   | inr x=>obtain⟨t,q⟩:=(show ∃ t,u=Value.str x t from ry);subst q;rfl
 have ha:argsOk "dict.pop" ⟨.ref a::u::more,[]⟩:=by
   rcases hm with q|⟨x,q⟩
   · subst q;exact PySem.F.args_dict_pop_2 _ _
   · subst q;exact PySem.F.args_dict_pop_3 _ _ _
 refine call_meetsIn PySem.F.slot_dict_pop dd.typeIs PySem.F.entry_dict_pop ha (meets_dict_pop_there (qq X.prog X.w) a (jg ry) more hm hp)
   ⟨vs,w',dd,by rw[← rel.length];exact z,hw,fun h' dd' hs=>h w' _ ?_ rw'⟩
 have he:∃ q,h'.get? a=some q:=let ⟨q,_,_,hq,_⟩:=dd';⟨q,hq⟩;exact Zr I (by rw[e];exact True.intro) hs he (qae (Nat.le_trans (jO kvs k) z) hd (rel.drop k) dd')
theorem qcZ {r:Value}{Q:Value->Shared->Prop} (I:Inv X pins σ H s) (e:H a=some (.dK kvs)) (ry:RelV (kV k) u) (l:zf kvs k=none) (h:∀ s',Inv X pins σ H s'->Q r s') :
   wpAny (model X.prog X.w) A (call (.builtin "dict.pop") [.ref a,u,r]) Q E s:=by
 obtain⟨z,hd,vs,rel,dd⟩:=qa6 I.hok e;have hn:valueAt vs k=none:=RelO.none_of (by rw[← l];exact rel.val k)
 have hp:(keyPart u).isSome=true:=by
   cases k with
   | inl i=>obtain⟨t,q⟩:=(show ∃ t,u=Value.int i t from ry);subst q;rfl
   | inr x=>obtain⟨t,q⟩:=(show ∃ t,u=Value.str x t from ry);subst q;rfl
 exact call_meetsIn PySem.F.slot_dict_pop dd.typeIs PySem.F.entry_dict_pop (PySem.F.args_dict_pop_3 _ _ _) (meets_dict_pop_default (qq X.prog X.w) a (jg ry) hd hp r) ⟨vs,dd,hn,h _ (I.tok _)⟩
theorem qcf {Q:Value->Shared->Prop} (I:Inv X pins σ H s) (e:H a=some (.dK kvs)) (h:∀ s',Inv X pins σ (upd H a (.dK [])) s'->Q .none s'):wpAny (model X.prog X.w) A (call (.builtin "dict.clear") [.ref a]) Q E s:=by
 obtain⟨z,hd,vs,rel,dd⟩:=qa6 I.hok e;refine call_meetsIn PySem.F.slot_dict_clear dd.typeIs PySem.F.entry_dict_clear (PySem.F.args_dict_clear_1 _) (meets_dict_clear (qq X.prog X.w) a) ⟨vs,dd,by rw[← rel.length];exact z,fun h' dd' hs=>h _ ?_⟩;have he:∃ q,h'.get? a=some q:=let ⟨q,_,_,hq,_⟩:=dd';⟨q,hq⟩;exact Zr (t':=s.toks) I (by rw[e];exact True.intro) hs he (qae (Nat.zero_le _) hd .nil dd')
end
def qdX (i:Expr):Prop:=∀ ov iv,subscripted i false ov iv=operate [ov,iv] (getItem ov iv)
theorem qbK {prog:Program}{w:World}{A:Around}{E:Value->Shared->Prop}{s:Shared}{env:Env}{value slice:Expr}{pos:Pos}{T id:String}{Q:Value->Shared->Prop}
   (hl:typeLookup (.type T) "__getitem__"=pure (some (.builtin id))) (hs:qdX slice)
   (h:wpAny (model prog w) A (eval value env) (fun o s₁=>wpAny (model prog w) A (eval slice env) (fun i s₂=>s₂.TypeIs o T∧wpAny (model prog w) A (getItem o i) Q E s₂) E s₁) E s) :
   wpAny (model prog w) A (eval (.Subscript value slice pos) env) Q E s:=by
 refine Subscript_ (wpAny_mono h (fun o s₁ h₁=>wpAny_mono h₁ (fun i s₂ h₂=>?_) fun _ _ x=>x) fun _ _ x=>x);obtain⟨hT,h₂⟩:=h₂;unfold subscriptTail;refine wpAny_bind ?_;rw[getitemInPython_of_ne hT.not_modules];refine wpAny_bind (wpAny_specialOf hT hl ?_)
 have fin:wpAny (model prog w) A (subscripted slice false o i) (fun r s₃=>wpAny (model prog w) A (letTemporaryGo value o r >>= fun _=>pure r) Q E s₃) E s₂:=by
   rw[hs o i];exact wpAny_operating (wpAny_mono h₂ (fun r s₃ h₃=>wpAny_bind (wpAny_letTemporaryGo (wpAny_pure h₃))) fun _ _ x=>x)
 first
   | exact wpAny_pure (wpAny_bind fin)
   | exact wpAny_bind (wpAny_pure (wpAny_bind fin))
   | exact wpAny_bind fin
theorem jh {X:Cx}{pins:List (Addr×Obj)}{σ:St}{H:Hp}{s:Shared}{a:Addr}{y:V}{o:Option V} (I:Inv X pins σ H s) (g:qau H a y o):s.TypeIs (.ref a) "dict":=by
 rcases g with ⟨kvs,k,e,_,_⟩|⟨kvs,k,b,e,_,_,_⟩
 · obtain⟨_,_,vs,_,dd⟩:=QX I.hok e;exact dd.typeIs
 · obtain⟨_,_,xs,_,dd⟩:=qac I.hok e;exact dd.typeIs
def qdf (td ty:TE):TE:=fun σ H Q=>td σ H fun x H1=>ty σ H1 fun y H2=>∃ a v,x=.ref a∧qau H2 a y (some v)∧Q v H2
def qdm (td ty tv:TE):TS:=fun D σ H=>tv σ H fun v H1=>td σ H1 fun x H2=>ty σ H2 fun y H3=>∃ a H4,x=.ref a∧DPut H3 a y v H4∧D.nx σ H4
section
variable {X:Cx}{o i e value:Expr}{pos pos' tpos:Pos}{td ty tv:TE}
theorem qL (hu:X.A.units+1 < cLine) (ho:PE X o td) (hi:PE X i ty) (hs:qdX i):PE X (.Subscript o i pos) (qdf td ty):=by
 intro pins s σ H Q I h;refine qbK PySem.F.slot_dict_getitem.lookup hs (thn (ho pins s σ H _ I h) fun u s1 ⟨x,H1,I1,rx,q1⟩=>thn (hi pins s1 σ H1 _ I1 q1) fun iv s2 zz_=>?_);obtain⟨y,H2,I2,ry,a,v,ex,g,q2⟩:=zz_;subst ex;obtain rfl:u=Value.ref a:=rx;exact⟨jh I2 g,qaj hu I2 g ry fun w' s3 I3 rw'=>⟨v,H2,I3,rw',q2⟩⟩
theorem zX (hu:X.A.units+1 < cLine) (ho:PE X o td) (hi:PE X i ty) (hv:PE X value tv) (hs:swapsWith value (some (.Subscript o i pos')) pos.line X.env=pure false) :
   PS X (.Assign [.Subscript o i pos'] value pos) (qdm td ty tv):=by
 intro pins s σ H D I h;refine wpAny_Assign_Subscript (thn (hv pins s σ H _ I h) fun r s1 ⟨v,H1,I1,rv,q1⟩=>thn (ho pins s1 σ H1 _ I1 q1) fun u s2 ⟨x,H2,I2,rx,q2⟩=>thn (hi pins s2 σ H2 _ I2 q2) fun iv s3 zz_=>?_) hs;obtain⟨y,H3,I3,ry,a,H4,ex,g,q3⟩:=zz_;subst ex;obtain rfl:u=Value.ref a:=rx;exact qai hu I3 g ry rv fun s4 I4=>⟨σ,H4,I4,q3⟩
end
theorem qa7 {P:Program}{w:World}{H:Hp} (h:Heap) (hb:sysModules < h.objs.size):ObjOk P w H (h.push { cls:=.type "dict",data:=.dict #[] }) h.objs.size (.dK []) :=
 ⟨Nat.zero_le _,beq_eq_false_iff_ne.mpr (Ne.symm (Nat.ne_of_lt hb)),[],.nil,Heap.DictOf.new h⟩
def qcw:TE:=fun _ H Q=>∀ p,H p=none->Q (.ref p) (upd H p (.dK []))
section
variable {X:Cx}{pos:Pos}
theorem Qx:PE X (.Dict [] [] pos) qcw:=fun pins s σ H Q I h =>
 wpAny_Dict_empty ⟨.ref s.heap.objs.size,_,I.laid (a:=s.heap.objs.size) (o:=.dK []) (t':=s.toks) (fun _ _ q=>Heap.get?_push_of_some _ q) (Nat.le_refl _) (qa7 s.heap I.big),rfl,h _ (I.hok.fresh (Nat.le_refl _))⟩
end
structure M2 (X:Cx) (o:Expr) (m:Str) (apos:Pos) (e f:Expr) (cpos:Pos):Prop where
 base:attributeBase o m X.env (eval o X.env)=eval o X.env
 few:((backTo cpos (starEach [e,f] X.env)).all (fun x=>!x.1) && (backToKw cpos (keywordEach [] X.env)).all (fun x=>x.1.isSome)
   && decide (([e,f]:List Expr).length+([]:List Keyword).length+(if ([]:List Keyword).isEmpty then 0 else 1) < 30))=true
 line:(apos.endLine == cpos.line)=true
 trees:backTo cpos (starEach [e,f] X.env)=[(false,eval e X.env),(false,eval f X.env)]
def IsD (H:Hp) (a:Addr):Prop:=(∃ kvs,Rd H a (.dK kvs))∨∃ kvs,Rd H a (.dT kvs)
theorem qcV {X:Cx}{pins:List (Addr×Obj)}{σ:St}{H:Hp}{s:Shared}{a:Addr} (I:Inv X pins σ H s) (d:IsD H a) :
   s.TypeIs (.ref a) "dict"∧(∀ b,Value.ref a=.ref b->∃ ob,s.heap.get? b=some ob∧ob.dict=none)∧(a == sysModules)=false:=by
 rcases d with ⟨kvs,e⟩|⟨kvs,e⟩
 · obtain⟨_,hd,vs,_,dd⟩:=QX I.hok e;refine⟨dd.typeIs,fun b q=>?_,hd⟩;cases q;obtain⟨ob,_,_,h1,h2,_⟩:=dd;exact⟨ob,h1,h2.2.1⟩
 · obtain⟨_,hd,xs,_,dd⟩:=qac I.hok e;refine⟨dd.typeIs,fun b q=>?_,hd⟩;cases q;obtain⟨ob,_,_,h1,h2,_⟩:=dd;exact⟨ob,h1,h2.2.1⟩
def qcv (td ty tx:TE):TE:=fun σ H Q=>td σ H fun x H1=>∃ a,x=.ref a∧IsD H1 a∧ty σ H1 fun y H2=>tx σ H2 fun z H3=>∃ kvs k,H3 a=some (.dK kvs)∧y=kV k ∧
 (∀ v,zf kvs k=some v->Q v (upd H3 a (.dK (ZS kvs k))))∧(zf kvs k=none->Q z H3)
section
variable {X:Cx}{o e f:Expr}{apos cpos:Pos}{td ty tx:TE}
theorem qaL (ho:PE X o td) (he:PE X e ty) (hf:PE X f tx) (m:M2 X o "pop" apos e f cpos):PE X (.Call (.Attribute o "pop" apos) [e,f] [] cpos) (qcv td ty tx):=by
 intro pins s σ H Q I h;refine wpAny_Call_method m.base m.few m.line PySem.F.plainAttrs_dict PySem.F.slot_dict_pop PySem.F.type_dict_pop (thn (ho pins s σ H _ I h) fun u s1 zz_=>?_);obtain⟨x,H1,I1,rx,a,ex,d,q1⟩:=zz_;subst ex;obtain rfl:u=Value.ref a:=rx;obtain⟨t1,t2,_⟩:=qcV I1 d;refine⟨t1,t2,?_⟩;rw[m.trees]
 refine Calls.callWith_builtin rfl (Calls.evalArgs_plain (Calls.spliced_cons (thn (he pins s1 σ H1 _ I1 q1) fun iv s2 ⟨y,H2,I2,ry,q2⟩ =>
   Calls.spliced_cons (thn (hf pins s2 σ H2 _ I2 q2) fun fv s3 ⟨z,H3,I3,rz,kvs,k,ea,ey,q3,q4⟩=>Calls.spliced_nil ?_))))
 subst ey
 cases l:zf kvs k with
 | some v=>exact qdD I3 ea ry l (.inr ⟨fv,rfl⟩) fun w' s4 I4 rw'=>⟨v,_,I4,rw',q3 v l⟩
 | none=>exact qcZ I3 ea ry l fun s4 I4=>⟨z,H3,I4,rz,q4 l⟩
end
end L2
namespace Att
open PySem PySem.W PySem.Calls PyProof.Rows
theorem QQ {P:Params}{h:Heap}:∀ (ns:List Int) (vs:List Value),WellAll P h vs (ns.map WData.int)->IntsAre vs ns:=by
 intro ns
 induction ns with
 | nil =>
   intro vs w;rw[List.map_nil]at w;cases w;exact .nil
 | cons n ns ih =>
   intro vs w;rw[List.map_cons]at w
   cases w with
   | cons a b =>
     cases a;exact .cons _ _ (ih _ b)
theorem Jq {l:OpenLaw}{n:Nat} (hn:l.most=some n) {P:Params}{h:Heap}{args:List WData}{vals:List Value}
   (hpre:l.row.toRowW.claim.pre args=true) (hwl:WellAll P h vals args) :
   ∃ a vs ns,vals=[Value.ref a]∧args=[WData.list (ns.map WData.int)]∧h.get? a=some { cls:=.type "list",data:=.seq vs.toArray }∧IntsAre vs ns∧ns.length≤n:=by
 have hsh:WShape.hasAll [] args [.list .int]=true:=(pre_splitW hpre).1;have hc:l.pre.holds [] { args:=args }=true:=(pre_splitW hpre).2;obtain⟨d,r,rfl,h1,h2⟩:=hasAllW_cons hsh;obtain rfl:=hasAllW_nil h2;obtain⟨xs,rfl,h3⟩:=hasW_list h1;obtain⟨ns,rfl⟩:=items_int h3
 have hlen:ns.length≤n:=by
   unfold OpenLaw.pre at hc
   have h4:(WTm.not (.lt (.lit (.int (n:Int))) (.len (.arg 0)))).holds [] { args:=[.list (ns.map .int)] }=true:=by
     have h4:=(holds_andW hc).1;rw[hn]at h4;exact h4
   have h5:=condW_of h4 (w_not (w_lt w_lit (w_len_list (w_arg rfl))));rw[List.length_map]at h5;refine Nat.le_of_not_lt fun q=>?_;have q':(n:Int) < ((ns.length:Nat):Int):=by omega
   first
     | (rw[decide_eq_true q']at h5;exact absurd h5 (by decide))
     | (simp at h5;omega)
 cases hwl with
 | cons w1 w2 =>
   cases w2
   cases w1 with
   | list ho hall=>exact⟨_,_,ns,rfl,rfl,ho,QQ ns _ hall,hlen⟩
theorem JG (l:OpenLaw) (args:List WData):l.row.toRowW.claim.post args (.bool true) args=true :=
 postW_of (r:=l.row.toRowW) (X:=(true == true))
   (show WShape.has [] (.bool true) .bool=true by first|rfl|decide|simp[WShape.has,WShape.arms,WShape.armsAll])
   (show (WTm.eq .res (.lit (.bool true))).value [] { args:=args,res:=some (.bool true),after:=args }=some (.bool (true == true)) from w_eq_bool (w_res rfl) w_lit) rfl
theorem attach_call {l:OpenLaw}{n:Nat}{q:Program}{loose:List Str}{XP:(Str->Option Value)->Heap->Prop}{YP:World->Heap->Prop}{d:DefRec}
   (hn:l.most=some n) (hdf:d.params.defaults=[])
   (call:∀ (w:World) (s₀ s₁:Shared) (mg mb:Str->Option Value) (fa:Addr) (o:Obj) (pm cd doc:Value) (a:Addr) (vs:List Value) (ns:List Int),
     Ground q loose [] XP w s₀ mg mb s₁.heap->YP w s₁.heap ->
     s₁.heap.get? fa=some o->o.data=.func (docDef d.name d.params d.body d.scope pm cd doc)->s₁.heap.CodeRec cd d.name->mg d.name=some (.ref fa) ->
     s₁.heap.get? a=some { cls:=.type "list",data:=.seq vs.toArray }->IntsAre vs ns->ns.length≤n->s₁.gens=#[] ->
     codeAny (model l.prog w) callerA (.call (.ref fa) ⟨[.ref a],[]⟩) (fun r s'=>r=.ok (.ret (.bool true))∧OldK s₁.heap s'.heap∧s'.os=s₁.os∧AllBare s'.gens) s₁) :
   WalkO q loose XP YP l.row.toRowW d [] (fun f vs=>PySem.call f vs):=by
 intro w s₀ s₁ mg mb G Y fa o pm cd doc dV kV ho hd hcd hD hmg hg args vals as hpre hlay hrd hwl hlo;obtain rfl:dV=.none:=Dflts.none hD hdf;obtain rfl:kV=.none:=Dflts.noKw hD;obtain⟨a,vs,ns,rfl,rfl,hobj,hints,hlen⟩:=Jq hn hpre hwl;refine enter_call (codeAny_mono (call w s₀ s₁ mg mb fa o pm cd doc a vs ns G Y ho (fd_plain hd) hcd hmg hobj hints hlen hg) fun r s' hq=>?_);obtain⟨rfl,h2,h3,h4⟩:=hq;exact⟨.inl ⟨.bool true,.bool true,[],rfl,fun _=>rfl,.bool true,JG l _,fun _=>⟨List.Pairwise.nil,fun _ hm=>(nomatch hm)⟩⟩,h2,h3,h4⟩
end Att
namespace L2
open PySem PySem.Spec PyProof.Rows
open PySem.W (Frag keepIn kitOne fnOf codeIn)
theorem Zu:∀ {vs:List Value}{ns:List Int},IntsAre vs ns->Vals (ns.map V.int) vs
 | _,_,.nil=>.nil
 | _,_,.cons n t h=>.cons ⟨t,rfl⟩ (Zu h)
def qdH (H:Hp):Prop:=∀ b,H b=none∨∃ o xs,H b=some (.frz o (.lst xs))
theorem law_call {P:Program}{w:World}{K:Frag}{mg mb:Str->Option Value}{CX:CXT}{k:Nat}{fa a:Addr}{fd:FuncData}{x:Str}{sp:Sp}{s₁:Shared}{vs:List Value}{ns:List Int}
   (KX:K.In s₁.heap) (hns:s₁.heap.Ns mainGlobals mg) (hb:s₁.heap.Ns builtinsNs mb) (hbb:∀ x:Str,x≠"__name__"->mb x=bootBuiltins x) (hlim:s₁.heap.NoLimit) (hg:s₁.gens=#[])
   (ha:s₁.heap.get? a=some { cls:=.type "list",data:=.seq vs.toArray }) (hi:IntsAre vs ns) (hl:ns.length≤sizeLine) (hr:Room k callerA)
   (F:∀ base:Heap,K.In base->base.Ns mainGlobals mg->zb P w K mg base CX k fa fd [x] sp) (hbind:∀ (s:Shared) (u:Value),BindsTo s fd ⟨[u],[]⟩ [(x,u)])
   (hsp:∀ H:Hp,qdH H->SqL K H a (ns.map V.int)->sp [.ref a] H (fun v _=>v=.bl true) fun _ _ _=>False)
   (hCX:∀ H e s',CX [] H s₁ (fun _ _ _=>False) e s'->False) :
   codeAny (model P w) callerA (.call (.ref fa) ⟨[.ref a],[]⟩) (fun r s'=>r=.ok (.ret (.bool true))∧OldK s₁.heap s'.heap∧s'.os=s₁.os∧AllBare s'.gens) s₁:=by
 have rv:=Zu hi;have lenV:=hi.length
 -- from an abstract heap in which nothing but the script may be tracked
 have core:∀ H:Hp,qdH H->SqL K H a (ns.map V.int)->HOk P w H s₁.heap->(∀ b,H b≠none->b=a)->(H a≠none->K.lookup a=none) ->
     codeAny (model P w) callerA (.call (.ref fa) ⟨[.ref a],[]⟩) (fun r s'=>r=.ok (.ret (.bool true))∧OldK s₁.heap s'.heap∧s'.os=s₁.os∧AllBare s'.gens) s₁:=by
   intro H hO hS hok hA hK;have base_of:∀ {b:Addr}{o:Obj},s₁.heap.get? b=some o->H b=none->(qa3 s₁.heap H).get? b=some o:=fun e n=>qa2 e n
   have noA:∀ {b:Addr}{o:Obj}{es:Array DictEntry}{ep:Nat},s₁.heap.get? b=some o->o.data=.dict es ep->H b=none:=fun {b o es ep} e d=>by
     cases q:H b with
     | none=>rfl
     | some u =>
       have e':b=a:=hA b (by rw[q];simp);subst e';rw[ha]at e;cases e;have d':Data.seq vs.toArray _=Data.dict es ep:=d;cases d'
   have nsK:∀ {b:Addr}{m:Str->Option Value},s₁.heap.Ns b m->(qa3 s₁.heap H).Ns b m:=fun {b m} ⟨o,es,ep,e,d,r⟩=>⟨o,es,ep,base_of e (noA e d),d,r⟩
   have hKb:K.In (qa3 s₁.heap H):=fun b o e=>base_of (KX b o e) (by
     cases q:H b with
     | none=>rfl
     | some u =>
       have e':b=a:=hA b (by rw[q];simp);subst e'
       rw[hK (by rw[q];simp)]at e;cases e)
   have hM:Mod K mg (qa3 s₁.heap H):=⟨hKb,nsK hns,⟨mb,nsK hb,hbb⟩,let ⟨mc,h1,h2⟩:=hlim;⟨mc,nsK h1,h2⟩⟩
   have e0:Env0 P w K mg (qa3 s₁.heap H) callerA [] s₁ H:=⟨rfl,hM,fun b o e=>qb0 e,Nat.le_of_eq (J9 _ _),trivial,fun b hb=>absurd (show b∈([]:List Addr) from hb) (by simp),hok,.of_eq hg⟩
   refine codeAny_mono ((F _ hKb (nsK hns)).run callerA [] s₁ H ⟨[.ref a],[]⟩ [.ref a] [.ref a] _ _ hr e0 (hbind s₁ (.ref a)) (.cons rfl .nil) (hsp H hO hS)) fun r s' h=>?_
   cases r with
   | error e=>exact(hCX H e s' h).elim
   | ok fl =>
     cases fl with
     | next=>exact False.elim h
     | brk=>exact False.elim h
     | cont=>exact False.elim h
     | ret u =>
       obtain⟨v,H',os,bare,un,hok',r',q⟩:=h;have q':v=.bl true:=q;subst q';obtain rfl:u=Value.bool true:=r';refine⟨rfl,OldK.of_keep fun b o e=>?_,os,bare⟩
       cases q:H b with
       | none=>exact un.keep b o e q (by intro z;exact absurd (show b∈([]:List Addr) from z) (by simp)) (by simp)
       | some u =>
         rcases hO b with z|⟨ob,xs,z⟩
         · rw[q]at z;cases z
         · have z2:=un.frzs b ob _ z;obtain⟨e1,_⟩:=hok b _ z;obtain⟨e2,_⟩:=hok' b _ z2;rw[e]at e1;cases e1;exact e2
 cases hk:K.lookup a with
 | some o =>
   -- the script is one of the module's own objects
   have e:=KX a o hk;rw[ha]at e;cases e;refine core (fun _=>none) (fun _=>.inl rfl) (.inr ⟨_,vs.toArray,_,hk,rfl,rfl,rfl,by rw[List.size_toArray,lenV];exact hl,by simpa using rv⟩) (fun b u z=>by have z':(none:Option HO)=some u:=z;cases z') (fun b z=>absurd rfl z) fun z=>absurd rfl z
 | none =>
   refine core (fun b=>if b=a then some (.frz { cls:=.type "list",data:=.seq vs.toArray } (.lst (ns.map V.int))) else none) (fun b=>?_) (.inl (.inr ⟨{ cls:=.type "list",data:=.seq vs.toArray },if_pos rfl⟩)) (fun b u z=>?_) (fun b z=>?_) fun _=>hk
   · by_cases hb:b=a
     · exact .inr ⟨_,_,if_pos hb⟩
     · exact .inl (if_neg hb)
   · by_cases hb:b=a
     · have z':=(if_pos hb).symm.trans z;cases z';subst hb;exact⟨ha,by rw[List.length_map];exact hl,vs,_,rv,ha⟩
     · have z':=(if_neg hb).symm.trans z;cases z'
   · by_cases hb:b=a
     · exact hb
     · exact absurd (if_neg hb) z
theorem walk_of {l:PySem.W.OpenLaw}{n k:Nat}{q:Program}{loose:List Str}{XP:(Str->Option Value)->Heap->Prop}{YP:World->Heap->Prop}{d:DefRec}{K:Params->Frag}{CX:World->CXT}{sp:World->Sp}{x:Str}
   (hn:l.most=some n) (hn2:n≤sizeLine) (hdf:d.params.defaults=[]) (hr:Room k callerA)
   (hY:∀ (w:World) (h:Heap),YP w h->(K w.params).In h)
   (F:∀ (w:World) (mg:Str->Option Value) (fa:Addr) (h:Heap),(K w.params).In h->h.Ns mainGlobals mg->mg d.name=some (.ref fa) ->
     ∃ fd:FuncData,(∀ (s:Shared) (u:Value),BindsTo s fd ⟨[u],[]⟩ [(x,u)]) ∧
       ∀ base:Heap,(K w.params).In base->base.Ns mainGlobals mg->zb l.prog w (K w.params) mg base (CX w) k fa fd [x] (sp w))
   (hsp:∀ (w:World) (H:Hp) (a:Addr) (ns:List Int),ns.length≤n->qdH H->SqL (K w.params) H a (ns.map V.int)->sp w [.ref a] H (fun v _=>v=.bl true) fun _ _ _=>False)
   (hCX:∀ (w:World) (H:Hp) (s:Shared) (e:Value) (s':Shared),CX w [] H s (fun _ _ _=>False) e s'->False) :
   PySem.W.WalkO q loose XP YP l.row.toRowW d [] (fun f vs=>PySem.call f vs):=by
 refine Att.attach_call hn hdf fun w s₀ s₁ mg mb fa o pm cd doc a vs ns G Y ho hd hcd hmg hobj hints hlen hg=>?_;have KX:=hY w _ Y;obtain⟨fd,hb,hF⟩:=F w mg fa _ KX G.T.g hmg;exact law_call KX G.T.g G.T.b G.T.builtins G.T.nolimit hg hobj hints (Nat.le_trans hlen hn2) hr hF hb (fun H hO hS=>hsp w H a ns hlen hO hS) fun H e s'=>hCX w H s₁ e s'
def J1 (s:Stmt) (j:Nat):Stmt:=match s with
 | .ClassDef _ _ _ body _ _ _ _ _ _ _=>body.getD j (.Pass ⟨0,0,0,0⟩)
 | _=>.Pass ⟨0,0,0,0⟩
def zn (s:Stmt):Arguments:=match s with
 | .FunctionDef _ a _ _ _ _ _ _ _ _=>a
 | _=>{ posonlyargs:=[],args:=[],vararg:=none,kwonlyargs:=[],kw_defaults:=[],kwarg:=none,defaults:=[] }
def q8 (s:Stmt):List Stmt:=match s with
 | .FunctionDef _ _ b _ _ _ _ _ _ _=>b
 | _=>[]
def qk (s:Stmt):Scope:=match s with
 | .FunctionDef _ _ _ _ _ _ sc _ _ _=>sc
 | _=>{ kind:=.function,names:=[],isGenerator:=false,isCoroutine:=false }
abbrev CX0:CXT:=fun _ _ _ _ _ _=>False
abbrev E0:XK:=fun _ _ _=>False
theorem qQ {X:Cx}:Z1 CX0 X E0:=fun _ _ _ _ _ _ _ h=>h.elim
structure Fun (K:Frag) (x qual:Str) (st:Stmt) (f:Addr) (fd:FuncData):Prop where
 ex:∃ (oc:Value) (od:Option Addr) (kV doc pm:Value) (an:Option Addr) (cdv ct:Value) (osl:Array (Option Value)),
   fd=fnOf x qual (zn st) (q8 st) (qk st) .none kV doc pm an cdv ct∧K.lookup f=some ⟨oc,od,.func fd,osl⟩∧codeIn K cdv qual=true
 kp:keepIn K (.ref f)=true
section
variable {P:Program}{w:World}{K:Frag}{mg:Str->Option Value}{base:Heap}
theorem Fun.ok {x qual:Str}{st:Stmt}{f:Addr}{fd:FuncData}{N ps:List Str}{k:Nat}{sp:Sp} (F:Fun K x qual st f fd) (S:qD N ps (qk st)) (len:∀ vs H Q E,sp vs H Q E->vs.length=ps.length)
   (hbody:∀ (cdv:Value) (A:Around) (outer:List Env) (s:Shared) (H:Hp) (vs:List V) (Q:VK) (E:XK),Room k (A.deeper (envOfC qual (qk st) s.heap.objs.size f cdv))->sp vs H Q E ->
     ∃ t,PSs (zU CX0 P w K mg base N qual (qk st) f cdv A outer s H E).nox (q8 st) t∧t { nx:=fun _ H'=>Q .non H',rt:=Q } (Qo N vs) H):zb P w K mg base CX0 (k+1) f fd ps sp:=by
 obtain⟨oc,od,kV,doc,pm,an,cdv,ct,osl,rfl,lk,hcd⟩:=F.ex;refine qcY lk hcd S len fun A outer s H vs Q E hr hsp=>?_;obtain⟨t,h,q⟩:=hbody cdv A outer s H vs Q E hr hsp;exact⟨t,h.nox,q⟩
theorem Fun.binds {x qual:Str}{st:Stmt}{f:Addr}{fd:FuncData}{ps:List Str} (F:Fun K x qual st f fd)
   (h:∀ (kV doc pm:Value) (an:Option Addr) (cdv ct:Value) (us:List Value),us.length=ps.length->bindArgs (fnOf x qual (zn st) (q8 st) (qk st) .none kV doc pm an cdv ct) ⟨us,[]⟩=pure (ps.zip us)):Binds K fd ps []:=by
 obtain⟨oc,od,kV,doc,pm,an,cdv,ct,osl,rfl,lk,hcd⟩:=F.ex;exact .all (h kV doc pm an cdv ct)
theorem jK {x qual:Str}{st:Stmt}{f:Addr}{oc:Value}{od an:Option Addr}{osl:Array (Option Value)}{kV doc pm cdv ct:Value} (l:K.lookup f=some ⟨oc,od,.func (fnOf x qual (zn st) (q8 st) (qk st) .none kV doc pm an cdv ct),osl⟩)
   (c:codeIn K cdv qual=true) (k:keepIn K (.ref f)=true):Fun K x qual st f (fnOf x qual (zn st) (q8 st) (qk st) .none kV doc pm an cdv ct):=⟨⟨oc,od,kV,doc,pm,an,cdv,ct,osl,rfl,l,c⟩,k⟩
end
theorem zJ {A:Around}{k:Nat} (hr:Room k A):A.units+1 < cLine:=Nat.lt_of_le_of_lt (Nat.add_le_add_left (by decide:1≤64) _) hr.units
theorem qH {n:Nat} (h:n≤1000):n < sizeLine:=Nat.lt_of_le_of_lt h (by decide)
section
variable {X:Cx}
theorem pv (i:Nat) {x:Str}{pos:Pos} (hN:X.N[i]?=some x:=by rfl) (hv:Vis X.env.scope x:=by first|exact Or.inl rfl|exact Or.inr (Or.inl rfl)|exact Or.inr (Or.inr rfl)) (hd:(x == ("__debug__":Str))=false:=by decide)
   (hcd:(x == ("__classdict__":Str))=false:=by decide):PE X (.Name x pos) (qdI i):=qcJ hN hv hd hcd
end
theorem qdU {A B:Prop} (h:B):if false=true then A else B:=by
 rw[if_neg Bool.false_ne_true];exact h
theorem qb6 {A B:Prop} (h:A):if true=true then A else B:=by
 rw[if_pos rfl];exact h
def Same (H H':Hp):Prop:=∀ b o,H b=some o->H' b=some o
theorem Same.refl (H:Hp):Same H H:=fun _ _ h=>h
theorem Same.trans {H H1 H2:Hp} (a:Same H H1) (b:Same H1 H2):Same H H2:=fun c o h=>b c o (a c o h)
section
variable {κ:Type} [DecidableEq κ]
theorem qbF {kvs:List (κ×V)}{k:κ}{v:V} (h:zf kvs k=some v):k∈kvs.map (·.1):=by
 have q:(kvs.any fun kv=>decide (kv.1=k))=true:=by
   rw[zu,h]
   all_goals rfl
 obtain⟨p,hp,e⟩:=List.any_eq_true.mp q;exact List.mem_map.mpr ⟨p,hp,of_decide_eq_true e⟩
theorem qad {kvs:List (κ×V)}{k:κ}{p:κ×V} (h:p∈ZS kvs k):p∈kvs:=(List.mem_filter.mp h).1
end
section
variable {X:Cx}{pins:List (Addr×Obj)}{σ:St}{H:Hp}{s:Shared}{h':Heap}
theorem Inv.turnL {ch:List Addr}{t':Nat} (I:Inv X pins σ H s) (k:∀ b u,b∉ch->s.heap.get? b=some u->h'.get? b=some u) (hf:∀ b∈ch,Je X pins H b) :
   Inv X pins σ H { s with heap:=h',toks:=t' }:=by
 refine I.step (g':=s.gens) (d':=s.drawn) (ch:=ch) (fun b hb=>?_) (fun b u _ _ hc e _=>k b u hc e) (fun b u _ _ hc e _=>⟨u.slots,k b u hc e⟩)
   (fun b u _ e n=>n) (fun b u hc e=>⟨u,k b u hc e⟩) (fun b xs e=>e) (fun b u v e=>e) (fun b ps e=>⟨#[],by rw[e];simp⟩) (fun m hm=>?_) (fun b u e=>?_) I.bare
 · obtain⟨_,f1,_,f3,f4,f5⟩:=hf b hb;exact⟨f3,f1,f4,f5⟩
 · obtain⟨ob,es,ep,ho,r⟩:=hm;exact⟨ob,es,ep,k _ ob (fun z=>(hf _ z).2.1 rfl) ho,r⟩
 · refine(I.hok b u e).stay (fun c v hc q=>k c v ?_ q) (fun c q=>q) fun c xs q=>q;intro z;have zz:=(hf c z).1;rcases hc with rfl|hc
   · rw[e]at zz;cases zz
   · rw[hc]at zz;cases zz
end
def tyN (H:Hp):V->Option String
 | .non=>some "NoneType"
 | .bl _=>some "bool"
 | .int _=>some "int"
 | .str _=>some "str"
 | .ref a=>match H a with
   | some (.lst _)=>some "list"
   | some (.tup _)=>some "tuple"
   | some (.dK _)=>some "dict"
   | _=>none
 | _=>none
def qdy (c t:String):Bool:=t == c || (t == "bool" && c == "int")
theorem qaA {K:Frag}{H:Hp}{v:V}{t:String} (h:tyN H v=some t):Jd K H v (.type t):=by
 cases v with
 | non=>cases h;exact .non
 | bl b=>cases h;exact .bl b
 | int b=>cases h;exact .int b
 | str b=>cases h;exact .str b
 | byt b=>cases h
 | flt b=>cases h
 | ty b=>cases h
 | ref a =>
   simp only[tyN]at h;split at h
   · rename_i e;cases h;exact .lst e
   · rename_i e;cases h;exact .tup e
   · rename_i e;cases h;exact .dK e
   · cases h
def Z6:List String:=["NoneType","bool","int","str","list","tuple","dict"]
theorem qbI {H:Hp}{v:V}{t:String} (h:tyN H v=some t):t∈Z6:=by
 cases v with
 | non=>cases h;decide
 | bl b=>cases h;decide
 | int b=>cases h;decide
 | str b=>cases h;decide
 | byt b=>cases h
 | flt b=>cases h
 | ty b=>cases h
 | ref a =>
   simp only[tyN]at h;split at h<;>first|(cases h;decide)|cases h
def Qy:List String:=["bool","int","str","list","tuple","dict"]
theorem qbv (K:Frag) {t c:String} (ht:t∈Z6) (hc:c∈Qy):kitOne K (.type t) (.type c)=some (qdy c t):=by
 simp only[Z6,Qy,List.mem_cons,List.not_mem_nil,or_false]at ht hc;rcases ht with rfl|rfl|rfl|rfl|rfl|rfl|rfl<;>rcases hc with rfl|rfl|rfl|rfl|rfl|rfl<;>(unfold kitOne PySem.W.kitCls;rfl)
inductive qbm (xs:List V) (H:Hp) (Q:VK):Prop
 | mk (x c t:_) (h1:xs=[x,.ty c]) (h2:c∈Qy) (h3:tyN H x=some t) (h4:Q (.bl (qdy c t)) H):qbm xs H Q
def qec:List V->Hp->VK->Prop:=fun xs H Q=>qbm xs H Q
section
variable {X:Cx}
theorem Qf:z3 X (.builtin "isinstance") qec:=by
 intro pins s σ H xs us Q I r h;obtain⟨x,c,t,rfl,hc,ht,q⟩:=h;obtain⟨u,w',rfl,ru,rw'⟩:=jV r;cases (show w'=Value.type c from rw');exact J0 I ru (qaA ht) (qbv X.K (qbI ht) hc) fun tk=>⟨.bl _,H,I.tok tk,rfl,q⟩
end
mutual
inductive DV (H:Hp):V->PyData->Prop
 | non:DV H .non .none
 | bl (b):DV H (.bl b) (.bool b)
 | int (i):DV H (.int i) (.int i)
 | str (x):DV H (.str x) (.str x)
 | lst {a xs ds}:Rd H a (.lst xs)->DVs H xs ds->DV H (.ref a) (.list ds)
 | tup {a xs ds}:Rd H a (.tup xs)->DVs H xs ds->DV H (.ref a) (.tuple ds)
inductive DVs (H:Hp):List V->List PyData->Prop
 | nil:DVs H [] []
 | cons {x xs d ds}:DV H x d->DVs H xs ds->DVs H (x::xs) (d::ds)
end
section
variable {P:Program}{w:World}{H:Hp}{h:Heap}
mutual
theorem DV.reads (ok:HOk P w H h):∀ {v:V}{d:PyData}{u:Value},DV H v d->RelV v u->∃ as,Reads h u d as
 | _,_,u,.non,r=>by cases (show u=Value.none from r);exact⟨_,.none⟩
 | _,_,u,.bl b,r=>by cases (show u=Value.bool b from r);exact⟨_,.bool b⟩
 | _,_,u,.int i,r=>by obtain⟨t,q⟩:=(show ∃ t,u=Value.int i t from r);cases q;exact⟨_,.int i t⟩
 | _,_,u,.str x,r=>by obtain⟨t,q⟩:=(show ∃ t,u=Value.str x t from r);cases q;exact⟨_,.str x t⟩
 | _,_,u,.lst (a:=a) rd q,r=>by
   cases (show u=Value.ref a from r);obtain⟨_,its,n,rv,e⟩:=rd.ok ok;obtain⟨as,z⟩:=DVs.reads ok q rv;exact⟨_,.list e rfl rfl z⟩
 | _,_,u,.tup (a:=a) rd q,r=>by
   cases (show u=Value.ref a from r);obtain⟨_,its,rv,ob,e,c,n,d⟩:=rd.ok ok;obtain⟨as,z⟩:=DVs.reads ok q rv;exact⟨_,.tuple e c d z⟩
theorem DVs.reads (ok:HOk P w H h):∀ {vs:List V}{ds:List PyData}{us:List Value},DVs H vs ds->Vals vs us->∃ as,ReadsAll h us ds as
 | _,_,_,.nil,.nil=>⟨_,.nil⟩
 | _,_,_,.cons a b,.cons r t=>by
   obtain⟨as,z⟩:=DV.reads ok a r;obtain⟨bs,y⟩:=DVs.reads ok b t;exact⟨_,.cons z y⟩
end
end
section
variable {X:Cx}
inductive qbp (x:V) (y:V) (H:Hp) (Q:VK):Prop
 | mk (d e:_) (h1:DV H x d) (h2:DV H y e) (h3:SeqAt.shaped d=true) (h4:SeqAt.shaped e=true) (h5:Q (.bl (PyData.eqv d e)) H):qbp x y H Q
def qdR:R2:=fun x y H Q=>qbp x y H Q
inductive qbj (x:V) (y:V) (H:Hp) (Q:VK):Prop
 | mk (d e:_) (h1:DV H x d) (h2:DV H y e) (h3:SeqAt.shaped d=true) (h4:SeqAt.shaped e=true) (h5:Q (.bl (!PyData.eqv d e)) H):qbj x y H Q
def qdM:R2:=fun x y H Q=>qbj x y H Q
theorem qcO (hu:X.A.units+64 < cLine):OpR X (compareOp .Eq) qdR:=by
 intro pins s σ H x y v u Q I rx ry h;obtain⟨d,e,hd,he,sd,se,q⟩:=h;obtain⟨as,ra⟩:=hd.reads I.hok rx;obtain⟨bs,rb⟩:=he.reads I.hok ry;exact eq_dataH ra rb sd se hu ⟨.bl _,H,I,rfl,q⟩
theorem qcL (hu:X.A.units+64 < cLine):OpR X (compareOp .NotEq) qdM:=by
 intro pins s σ H x y v u Q I rx ry h;obtain⟨d,e,hd,he,sd,se,q⟩:=h;obtain⟨as,ra⟩:=hd.reads I.hok rx;obtain⟨bs,rb⟩:=he.reads I.hok ry;exact ne_dataH ra rb sd se hu ⟨.bl _,H,I,rfl,q⟩
def qds:R2:=fun x y H Q=>rI0 (fun i j=>.int (i+j)) x y H Q∨qdS x y H Q∨∃ i j,x=.str i∧y=.str j∧i.length+j.length≤sizeLine∧Q (.str (i++j)) H
theorem qbd:OpR X (binaryOp .Add) qds:=op_add.or (op_cat.or j0)
def qee:R2:=fun x y H Q=>rEq x y H Q∨qdR x y H Q
def qd9:R2:=fun x y H Q=>rNe x y H Q∨qdM x y H Q
theorem uEq (hU:X.A.units+64 < cLine):OpR X (compareOp .Eq) qee:=op_eq.or (qcO hU)
theorem uNe (hU:X.A.units+64 < cLine):OpR X (compareOp .NotEq) qd9:=op_ne.or (qcL hU)
end
theorem zt:bootBuiltins "list"=some (.type "list"):=by decide +kernel
theorem ZW:bootBuiltins "int"=some (.type "int"):=by decide +kernel
theorem Zh:bootBuiltins "bool"=some (.type "bool"):=by decide +kernel
theorem qan:bootBuiltins "str"=some (.type "str"):=by decide +kernel
theorem qE:bootBuiltins "dict"=some (.type "dict"):=by decide +kernel
theorem ZV:bootBuiltins "len"=some (.builtin "len"):=by decide +kernel
theorem qao:bootBuiltins "max"=some (.builtin "max"):=by decide +kernel
theorem QV:bootBuiltins "min"=some (.builtin "min"):=by decide +kernel
theorem qm:bootBuiltins "isinstance"=some (.builtin "isinstance"):=by decide +kernel
structure Df (K:Frag) (mg:Str->Option Value) (x:Str) (st:Stmt) (ps:List Str) (f:Addr) (fd:FuncData):Prop where
 F:Fun K x x st f fd
 b:Binds K fd ps []
 m:mg x=some (.ref f)
 k:keepIn K (.ref f)=true
theorem Same.new {H:Hp}{p:Addr} (o:HO) (h:H p=none):Same H (upd H p o):=fun b u e=>by rw[qb (qe e h)];exact e
def But (p:Addr) (H H':Hp):Prop:=∀ b o,H b=some o->b≠p->H' b=some o
theorem But.refl (p:Addr) (H:Hp):But p H H:=fun _ _ h _=>h
theorem But.trans {p:Addr}{H H1 H2:Hp} (a:But p H H1) (b:But p H1 H2):But p H H2:=fun c o h n=>b c o (a c o h n) n
theorem But.put {p:Addr}{H H1:Hp} (s:But p H H1) (o:HO):But p H (upd H1 p o):=fun b u e n=>by rw[qb n];exact s b u e n
theorem But.same {p:Addr}{H H1 H2:Hp} (a:But p H H1) (b:Same H1 H2):But p H H2:=fun c o h n=>b c o (a c o h n)
theorem qG {n:Nat} (h:n≤1000):n≤sizeLine:=Nat.le_of_lt (qH h)
theorem qM {b:Bool}{A B:Prop} (e:b=false) (h:B):if b=true then A else B:=by rw[e];exact qdU h
theorem JZ {b:Bool}{A B:Prop} (e:b=true) (h:A):if b=true then A else B:=by rw[e];exact qb6 h
theorem Jf {c A B:Prop} [Decidable c] (h1:c->A) (h2:¬ c->B):if (decide c)=true then A else B:=by
 by_cases h:c
 · rw[decide_eq_true h];exact qb6 (h1 h)
 · rw[decide_eq_false h];exact qdU (h2 h)
section
variable {prog:Program}{w:World}{A:Around}{R:Result->Shared->Prop}{s:Shared}
abbrev noE:Value->Shared->Prop:=fun _ _=>False
theorem QS {elt target iter:Expr}{ifs:List Expr}{scope:Scope}{pos:Pos}{it acc:Value}{env:Env} (I:Nat->Shared->Prop)
   (turn:∀ n s,I n s->wpAny (model prog w) A (pyNext it) (fun r s₁=>match r with
     | none=>R (.ok .next) s₁
     | some v=>wpAny (model prog w) A (letOwnedTupleGo target it v) (fun _ s₀=>wpAny (model prog w) A (assign target env v) (fun _ s₂ =>
         wpAny (model prog w) A (forIn ifs true fun c r=>if r=true then do let ok ← isTrue c env (eval c env);pure (ForInStep.yield ok) else pure (ForInStep.yield r)) (fun ok s₃ =>
           if ok=true then wpAny (model prog w) A (eval elt env) (fun x s₄ =>
             wpAny (model prog w) A (call (.builtin "list.append") [acc,x]) (fun _ s₅=>∃ m,m < n∧I m s₅) noE s₄) noE s₃
           else ∃ m,m < n∧I m s₃) noE s₂) noE s₀) noE s₁) noE s)
   (n:Nat) (h:I n s) :
   codeAny (model prog w) A (.compLoop (.ListComp elt [⟨target,iter,ifs,0⟩] scope pos) 0 it acc env) R s:=by
 refine codeAny_loop rfl I (fun n s hI=>?_) n h;show wpAny _ A ((compTurn (.ListComp elt [⟨target,iter,ifs,0⟩] scope pos) 0 it acc env).onRaise (fun x=>do noteFrame x env;theTreesLotGoes x)) _ _ s;refine wpAny_noted ?_;rw[compTurn_list];refine wpAny_bind (wpAny_standAt (wpAny_bind (wpAny_mono (turn n s hI) (fun r s₁ h₁=>?_) fun _ _ h'=>h'.elim)))
 cases r with
 | none=>exact wpAny_pure h₁
 | some v =>
   refine wpAny_bind (wpAny_mono h₁ (fun _ s₀ h₀=>?_) fun _ _ h'=>h'.elim);refine wpAny_bind (wpAny_mono h₀ (fun _ s₂ h₂=>wpAny_bind (wpAny_mono h₂ (fun ok s₃ h₃=>?_) fun _ _ h'=>h'.elim)) fun _ _ h'=>h'.elim)
   cases ok with
   | false=>exact wpAny_pure ⟨rfl,h₃⟩
   | true =>
     exact wpAny_bind (wpAny_bind (wpAny_mono h₃ (fun x s₄ h₄=>wpAny_bind (wpAny_mono h₄ (fun _ s₅ h₅=>wpAny_pure (wpAny_pure ⟨rfl,h₅⟩)) fun _ _ h'=>h'.elim)) fun _ _ h'=>h'.elim))
end
def qJ (X:Cx) (scope:Scope) (N:List Str) (cl:List (Str×Addr)) (C:Addr) (s₀:Shared) (H₀:Hp) (ex:List Addr) (pn:List (Addr×Obj)):Cx where
 prog:=X.prog
 w:=X.w
 K:=X.K
 mg:=X.mg
 base:=X.base
 A:=X.A
 N:=N
 s₀:=s₀
 H₀:=H₀
 env:=compEnvC scope cl C X.env
 outer:=X.stack
 stack:=X.stack
 ex:=ex
 fn:=fun x=>!(cl.lookup x).isSome
 calm:=X.calm
 pn:=pn
 xe:=noE
def st0 (js:List (Option Nat)) (σ:St):St:=js.map fun o=>o.bind fun j=>(σ[j]?).join
def PTs (X:Cx) (ifs:List Expr) (t:TT):Prop :=
 ∀ (pins:List (Addr×Obj)) (s:Shared) (σ:St) (H:Hp) (Q:Bool->Hp->Prop),Inv X pins σ H s->t σ H Q ->
   wpAny (model X.prog X.w) X.A (forIn ifs true fun c r=>if r=true then do let ok ← isTrue c X.env (eval c X.env);pure (ForInStep.yield ok) else pure (ForInStep.yield r)) (TP X pins σ Q) X.xe s
def qd1:TT:=fun _ H Q=>Q true H
theorem Zl {X:Cx}:PTs X [] qd1:=fun _ _ _ H _ I h=>wpAny_tests_nil ⟨H,I,h⟩
def Qz (J:It) (g:TG) (tt:TT) (te:TE) (D:Addr) (Q:VK) (σ0:St) (H0:Hp):Prop :=
 ∃ W:Nat->Nat->St->Hp->Prop,(∃ m,W 0 m σ0 H0)∧∀ i m σ' H',W i m σ' H' ->
   (J.stop i H'∧Q (.ref D) H')∨(J.go i H'∧∃ N:St->Hp->Prop,(∀ σ2 H2,N σ2 H2->∃ m',m' < m∧W (i+1) m' σ2 H2) ∧
     ∀ x H2,J.yld i H' x H2->g x σ' H2 fun σ3 H3=>tt σ3 H3 fun ok H4=>if ok=true then te σ3 H4 fun y H5=>∃ ys,H5 D=some (.lst ys)∧ys.length < sizeLine∧N σ3 (upd H5 D (.lst (ys++[y]))) else N σ3 H4)
def qcx (wi:TI) (g:TG) (tt:TT) (te:TE) (js:List (Option Nat)):TE:=fun σ H Q=>wi σ H fun J H1=>∀ D,H1 D=none->Qz J g tt te D Q (st0 js σ) (upd H1 D (.lst []))
structure CompOk (X:Cx) (scope:Scope) (N:List Str) (cl:List (Str×Addr)) (js:List (Option Nat)):Prop where
 clos:closureFor scope X.env=pure cl
 sub:∀ x c,cl.lookup x=some c->X.env.cells.lookup x=some c
 all:∀ x,((relabel scope X.env).names.lookup x=some .cell∨(relabel scope X.env).names.lookup x=some .free)->∃ c,cl.lookup x=some c
 cell:∀ y∈scope.names,y.2≠.cell
 kind:scope.kind=.function
 names:∀ y∈scope.names,y.2=.local->scope.names.lookup y.1=some .local
 len:js.length=N.length
 fr:∀ (i j:Nat) (x:Str),js[i]?=some (some j)->N[i]?=some x->X.N[j]?=some x∧X.env.kindOf x=some .cell∧((relabel scope X.env).names.lookup x=some .cell∨(relabel scope X.env).names.lookup x=some .free)
section
variable {X:Cx}
theorem qbM {js:List (Option Nat)}{σ:St}{i:Nat}{v:V} (h:(st0 js σ)[i]?=some (some v)):∃ j,js[i]?=some (some j)∧σ[j]?=some (some v):=by
 unfold st0 at h;rw[List.getElem?_map]at h
 cases e:js[i]? with
 | none=>rw[e]at h;cases h
 | some o =>
   rw[e]at h
   cases o with
   | none=>cases h
   | some j =>
     refine⟨j,rfl,?_⟩;have h':(σ[j]?).join=some v:=by simpa using h
     cases e2:σ[j]? with
     | none=>rw[e2]at h';cases h'
     | some o2=>rw[e2]at h';cases o2 with
       | none=>cases h'
       | some u=>rw[show u=v by simpa using h']
theorem qcg {pins:List (Addr×Obj)}{σ:St}{H:Hp}{s:Shared}{scope:Scope}{N:List Str}{cl:List (Str×Addr)}{js:List (Option Nat)}{C:Addr}{fp:List Addr} (k:CompOk X scope N cl js) (I:Inv X pins σ H s)
   (hf:∀ b∈fp,Je X pins H b) (hfl:∀ b∈fp,b < s.heap.objs.size) (hC:s.heap.objs.size≤C):(qJ X scope N cl C s H fp (X.pn++pins)).Ok where
 mod:=I.ok.mod
 kind:=k.kind
 glob:=I.ok.glob
 blt:=I.ok.blt
 above:=hC
 inj:=fun x y c h1 h2=>I.ok.inj x y c (k.sub _ _ h1) (k.sub _ _ h2)
 has:=fun x h=>k.all x h
 cab:=fun x c h1 h2=>by
   have h1':(!(cl.lookup x).isSome)=true:=h1;have h2':cl.lookup x=some c:=h2;rw[h2']at h1';cases h1'
 hd:=I.ok.hd
 frames:=I.ok.frames
 stk:=.inl rfl
 exf:=fun b hb=>⟨Nat.ne_of_lt (Nat.lt_of_lt_of_le (hfl b hb) hC),fun x c h=>(hf b hb).2.2.2.2.1 x c (k.sub _ _ h)⟩
 bs:=I.bs
 bsz:=Nat.le_trans I.ok.bsz I.sz
 noex:=fun b o e hb=>by
   rcases (hf b hb).2.2.2.1 with z|z
   · exact I.ok.noex b o e z
   · exact absurd (Nat.lt_of_lt_of_le (Heap.lt_size e) (Nat.le_trans I.ok.bsz z)) (Nat.lt_irrefl _)
 exfs:=fun b hb z=>by
   rcases List.mem_cons.mp (I.stkSub b z) with e|e
   · exact(hf b hb).2.1 e
   · exact(hf b hb).2.2.1 e
 funs:=I.stack
 frf:=I.stkFree
theorem jQ {pins:List (Addr×Obj)}{σ:St}{H:Hp}{s:Shared}{h1:Heap}{t':Nat}{scope:Scope}{N:List Str}{cl:List (Str×Addr)}{js:List (Option Nat)}{C D:Addr}{fp:List Addr}{m:Str->Option Value} (k:CompOk X scope N cl js) (I:Inv X pins σ H s)
   (hf:∀ b∈fp,Je X pins H b) (hfl:∀ b∈fp,b < s.heap.objs.size) (hD:s.heap.objs.size≤D) (hC:s.heap.objs.size≤C) (hDC:D≠C)
   (hn:h1.Ns C m) (hl:h1.get? D=some { cls:=.type "list",data:=.seq ([]:List Value).toArray }) (hk:∀ b o,s.heap.get? b=some o->h1.get? b=some o) :
   Inv (qJ X scope N cl C s H fp (X.pn++pins)) [] (st0 js σ) (upd H D (.lst [])) { s with heap:=h1,toks:=t' }:=by
 have fD:H D=none:=I.hok.fresh hD;have fC:H C=none:=I.hok.fresh hC;have nC:∀ b,b < s.heap.objs.size->b≠C:=fun b hb=>Nat.ne_of_lt (Nat.lt_of_lt_of_le hb hC);refine⟨qcg k I hf hfl hC,rfl,I.bare,?_,?_,?_,?_,?_,?_,?_,?_⟩
 · exact(Un.laid (fs:=frs X.stack) (ex:=fp) (o:=.lst []) hk hD fD)
 · refine⟨m,hn,fun i x v e1 e2 e3=>?_⟩;obtain⟨j,f1,f2⟩:=qbM e2;obtain⟨g1,g2,g3⟩:=k.fr i j x f1 e1;obtain⟨m',hn',hl'⟩:=I.loc;obtain⟨u,ru,lk⟩:=hl' j x v g1 f2 (.inr (.inl g2));refine⟨u,ru,.inr ⟨g3,?_⟩⟩;obtain⟨c,hc⟩:=k.all x g3;rcases lk with ⟨z,_⟩|⟨_,c',hc',ic⟩
   · rw[g2]at z;cases z
   · have e:=k.sub _ _ hc;rw[hc']at e;cases e;obtain⟨o,ho,hd⟩:=ic;exact⟨c,hc,o,hk _ _ ho,hd⟩
 · intro x c h;obtain⟨v,o,ho,hd⟩:=I.cell x c (k.sub _ _ h);exact⟨v,o,hk _ _ ho,hd⟩
 · show (upd H D (.lst [])) C=none;rw[qb hDC.symm];exact fC
 · intro x c h;obtain⟨v,o,ho,hd⟩:=I.cell x c (k.sub _ _ h);rw[qb (Nat.ne_of_lt (Nat.lt_of_lt_of_le (Heap.lt_size ho) hD))];exact I.freeC x c (k.sub _ _ h)
 · intro p hp;have hp':p∈X.pn++pins:=by simpa[qJ] using hp
   obtain⟨e,n,ne,nf,d⟩:=I.pin p hp';have lt:=Heap.lt_size e;refine⟨hk _ _ e,by rw[qb (Nat.ne_of_lt (Nat.lt_of_lt_of_le lt hD))];exact n,nC _ lt,fun z=>?_,d⟩;rcases List.mem_cons.mp (I.stkSub _ z) with e|e
   · exact ne e
   · exact nf e
 · exact I.hok.laid hk hD ⟨Nat.zero_le _,[],0,.nil,hl⟩
 · show (st0 js σ).length=N.length;unfold st0;rw[List.length_map];exact k.len
theorem Z9 {elt iter tg:Expr}{ifs:List Expr}{scope:Scope}{pos:Pos}{wi:TI}{g:TG}{tt:TT}{te:TE}{N:List Str}{cl:List (Str×Addr)}{js:List (Option Nat)} (hc:X.calm=true) (k:CompOk X scope N cl js) (hi:PI X tg iter wi)
   (hg:∀ C s₀ H₀ ex pn,PG (qJ X scope N cl C s₀ H₀ ex pn) tg g) (ht:∀ C s₀ H₀ ex pn,PTs (qJ X scope N cl C s₀ H₀ ex pn) ifs tt) (he:∀ C s₀ H₀ ex pn,PE (qJ X scope N cl C s₀ H₀ ex pn) elt te)
   (hs:∀ x,foldedSetIterable iter X.env x=pure x:=by intro _;rfl) :
   PE X (.ListComp elt [⟨tg,iter,ifs,0⟩] scope pos) (qcx wi g tt te js):=by
 intro pins s σ H Q I h;rw[eval_ListComp];refine wpAny_comprehension_free (use:=none) rfl hs k.clos k.kind k.names ?_;refine thn (hi pins s σ H _ I h) fun v s1 h1=>thn h1 fun itv s2 h2=>?_;obtain⟨it,fp,tn,J,H2,e,I2,T,st2,f2,hD⟩:=h2;subst e;refine wpAny_newObj_type (wpAny_newFunctionEnv k.cell (by intro y hy;simp at hy) (fun h₁ hns₁ hsb₁=>?_) k.kind);dsimp only at hns₁ hsb₁ ⊢;generalize hH2:s2.heap.push { cls:=.type "list",dict:=none,data:=.seq ([]:List Value).toArray }=P2 at hns₁ hsb₁ ⊢;have hC:P2.objs.size=s2.heap.objs.size+1:=by rw[← hH2,Heap.size_push]
 have hDC:s2.heap.objs.size≠P2.objs.size:=by rw[hC];exact Nat.ne_of_lt (Nat.lt_succ_self _)
 have hCle:s2.heap.objs.size≤P2.objs.size:=by rw[hC];exact Nat.le_succ _
 have old:∀ b o,s2.heap.get? b=some o->h₁.get? b=some o:=fun b o e=>hsb₁.extBut b o (Nat.ne_of_lt (Nat.lt_of_lt_of_le (Heap.lt_size e) hCle)) (Heap.get?_push_of_some _ (hH2▸Heap.get?_push_of_some _ e));have hacc:h₁.get? s2.heap.objs.size=some { cls:=.type "list",data:=.seq ([]:List Value).toArray }:=hsb₁.extBut _ _ hDC (Heap.get?_push_of_some _ (hH2▸Heap.get?_push_size _ rfl))
 have hfl:∀ b∈fp,b < s2.heap.objs.size:=fun b hb=>by
   obtain⟨o,e,_⟩:=T.obj _ _ st2 b hb;exact Heap.lt_size e
 have fD:H2 s2.heap.objs.size=none:=I2.hok.fresh (Nat.le_refl _);obtain⟨W,⟨m0,w0⟩,turn⟩:=hD _ fD
 have IX:Inv (qJ X scope N cl P2.objs.size s2 H2 fp (X.pn++pins)) [] (st0 js σ) (upd H2 s2.heap.objs.size (.lst [])) { s2 with heap:=h₁,toks:=s2.toks+([]:List (Str×Value)).length } :=
   jQ k I2 f2 hfl (Nat.le_refl _) hCle hDC hns₁ hacc old
 have hg':=hg P2.objs.size s2 H2 fp (X.pn++pins);have ht':=ht P2.objs.size s2 H2 fp (X.pn++pins);have he':=he P2.objs.size s2 H2 fp (X.pn++pins)
 have stat:∀ {H':Hp},(∀ b∈fp,H' b=none)->∀ b∈fp,Je (qJ X scope N cl P2.objs.size s2 H2 fp (X.pn++pins)) [] H' b:=fun hn b hb=>by
   obtain⟨g0,g1,g2,g3,g4,g5⟩:=f2 b hb;refine⟨hn b hb,Nat.ne_of_lt (Nat.lt_of_lt_of_le (hfl b hb) hCle),fun z=>?_,.inl hb,fun x c h=>g4 x c (k.sub _ _ h),fun p hp=>g5 p (by simpa[qJ] using hp)⟩;rcases List.mem_cons.mp (I2.stkSub b z) with e|e
   · exact g1 e
   · exact g2 e
 have loop:∀ s₃:Shared,s₃={ s2 with heap:=h₁,toks:=s2.toks+([]:List (Str×Value)).length } ->
     codeAny (model X.prog X.w) X.A (.compLoop (.ListComp elt [⟨tg,iter,ifs,0⟩] scope pos) 0 (.ref it) (.ref s2.heap.objs.size) (compEnvC scope cl P2.objs.size X.env))
       (compPost (model X.prog X.w) X.A X.xe none (EP X pins σ Q) (.ref s2.heap.objs.size) P2.objs.size) s₃:=by
   rintro s₃ rfl;refine QS (fun n s'=>∃ i σ' H',Inv (qJ X scope N cl P2.objs.size s2 H2 fp (X.pn++pins)) [] σ' H' s'∧tn i s'.heap∧(∀ b∈fp,H' b=none)∧W i n σ' H') ?_ m0
     ⟨0,st0 js σ,_,IX,T.keep _ _ _ st2 (fun b hb o e=>old b o e),fun b hb=>by rw[qb (Nat.ne_of_lt (hfl b hb))];exact(f2 b hb).1,w0⟩
   rintro n s3 ⟨i,σ3,H3,I3,st3,fr3,w3⟩;rcases turn i n σ3 H3 w3 with ⟨stop,qn⟩|⟨go,N2,hN,step⟩
   · refine thn (T.done (qJ X scope N cl P2.objs.size s2 H2 fp (X.pn++pins)) rfl rfl rfl hc i [] s3 σ3 H3 noE I3 (stat fr3) st3 stop) fun r s4 ⟨hr,I4⟩=>?_;subst hr;obtain⟨m4,hn4,_⟩:=id I4.loc;refine⟨m4,hn4,fun h' hsb=>⟨.ref s2.heap.objs.size,H3,?_,rfl,qn⟩⟩;have u4:Un (frs X.stack) fp H2 H3 s2.heap s4.heap:=I4.base;have ltC:∀ b o,s2.heap.get? b=some o->b≠P2.objs.size:=fun b o e=>Nat.ne_of_lt (Nat.lt_of_lt_of_le (Heap.lt_size e) hCle)
     have u5:Un (frs X.stack) fp H2 H3 s2.heap h' :=
       { keep:=fun b o e n hb hx=>hsb.extBut b o (ltC b o e) (u4.keep b o e n hb hx)
         slot:=fun b o e n hb hx=>by
           obtain⟨sl,q⟩:=u4.slot b o e n hb hx;exact⟨sl,hsb.extBut b _ (ltC b o e) q⟩
         free:=u4.free
         there:=fun b o e hx=>by
           obtain⟨o',q⟩:=u4.there b o e hx;exact⟨o',hsb.extBut b _ (ltC b o e) q⟩
         tups:=u4.tups
         frzs:=u4.frzs
         tbls:=u4.tbls }
     have fC:H3 P2.objs.size=none:=I4.free
     have hok5:HOk X.prog X.w H3 h':=fun b u e=>(I4.hok b u e).stay (fun c v hc' q=>hsb.extBut c v (fun z=>by
       rcases hc' with y|y
       · rw[y]at z;rw[z,fC]at e;cases e
       · rw[z,fC]at y;cases y) q) (fun _ q=>q) fun _ _ q=>q
     exact I2.call' (s':={ s4 with heap:=h' }) I4.os u5 hok5 I4.bare fun b hb=>by
       obtain⟨g0,g1,g2,g3,g4,g5⟩:=f2 b hb;exact⟨g3,g1,g4,g5⟩
   · refine thn (T.item (qJ X scope N cl P2.objs.size s2 H2 fp (X.pn++pins)) rfl rfl rfl hc i [] s3 σ3 H3 noE I3 (stat fr3) st3 go) fun r s4 ⟨u,hr,h4⟩=>?_;subst hr;refine thn h4 fun _ s5 zz_=>?_;obtain⟨x,H5,I5,r5,y5,st5,fr5⟩:=zz_;have I5':=I5.pinned (stat fr5) (T.obj _ _ st5);refine thn (hg' _ s5 σ3 H5 x u _ I5' r5 (step x H5 y5)) fun _ s6 zz_=>?_;obtain⟨σ6,H6,I6,q6⟩:=zz_;refine thn (ht' _ s6 σ6 H6 _ I6 q6) fun ok s7 zz_=>?_;obtain⟨H7,I7,q7⟩:=zz_;have again:∀ {s8:Shared}{σ8:St}{H8:Hp},Inv (qJ X scope N cl P2.objs.size s2 H2 fp (X.pn++pins)) ([]++QI fp s5.heap) σ8 H8 s8->N2 σ8 H8 ->
         ∃ m,m < n∧∃ i σ' H',Inv (qJ X scope N cl P2.objs.size s2 H2 fp (X.pn++pins)) [] σ' H' s8∧tn i s8.heap∧(∀ b∈fp,H' b=none)∧W i m σ' H':=fun {s8 σ8 H8} I8 n8=>by
       obtain⟨m',hm,w8⟩:=hN σ8 H8 n8;refine⟨m',hm,i+1,σ8,H8,I8.unpinned,T.keep _ _ _ st5 fun b hb o e=>(I8.pin (b,o) (List.mem_append_right _ (List.mem_append_right _ (qW hb e)))).1,fun b hb=>?_,w8⟩;obtain⟨o,e,d⟩:=T.obj _ _ st5 b hb;exact(I8.pin (b,o) (List.mem_append_right _ (List.mem_append_right _ (qW hb e)))).2.1
     cases ok with
     | false=>exact again I7 (by simpa using q7)
     | true =>
       have q7':te σ6 H7 fun y H5=>∃ ys,H5 s2.heap.objs.size=some (.lst ys)∧ys.length < sizeLine∧N2 σ6 (upd H5 s2.heap.objs.size (.lst (ys++[y]))):=by simpa using q7
       refine thn (he' _ s7 σ6 H7 _ I7 q7') fun xv s8 zz_=>?_;obtain⟨y,H8,I8,r8,ys,hy,hlen,n8⟩:=zz_;refine thn (QL (X:=qJ X scope N cl P2.objs.size s2 H2 fp (X.pn++pins)) _ s8 σ6 H8 (.ref s2.heap.objs.size) [y] (.ref s2.heap.objs.size) [xv] (fun _ H9=>N2 σ6 H9) I8 rfl (.cons r8 .nil) ⟨_,ys,y,rfl,rfl,hy,hlen,n8⟩) fun _ s9 ⟨_,H9,I9,_,n9⟩=>again I9 n9
 exact codeAny_compStart_list (loop _ rfl) (T.self _ 0 _ _ _ (T.keep _ _ _ st2 (fun b hb o e=>old b o e)) (loop _ rfl))
end
def Its (x:Str):It:=⟨fun i _=>i < x.cps.size,fun i H v H'=>H'=H∧∃ c,x.cps[i]?=some c∧v=.str ⟨#[c]⟩,fun i _=>x.cps.size≤i⟩
theorem qbw {M:Model}{A:Around}{E:Value->Shared->Prop}{s:Shared}{tg:Expr}{it:Addr}{y:Str}{t:Tok}{Q:Unit->Shared->Prop} (hQ:Q () s):wpAny M A (letOwnedTupleGo tg (.ref it) (.str y t)) Q E s:=by
 unfold letOwnedTupleGo;cases tg<;>exact wpAny_pure hQ
theorem qaC {P:Program}{w:World}{K:Frag}{tg:Expr} (it:Addr) (x:Str) (t:Tok) (ty:String) (hty:ty="str_ascii_iterator"∨ty="str_iterator") :
   qc0 P w K tg (Its x) [it] it (fun i h=>h.IsStrIter it ty x t i) where
 mem:=by simp
 obj:=fun i h st b hb=>by
   have e:b=it:=by simpa using hb
   subst e;obtain⟨o,e,c,d⟩:=st;exact⟨o,e,fun v z=>by rw[d]at z;cases z⟩
 keep:=fun i h h' st k=>by
   obtain⟨o,e,r⟩:=st;exact⟨o,k it (by simp) o e,r⟩
 item:=by
   intro X hP hw hK hc i pins s σ H E I hf st hg;subst hP hw hK;obtain⟨f0,f1,f2,f3,f4,f5⟩:=hf it (by simp);have hi:i < x.cps.size:=hg;rcases hty with rfl|rfl
   · refine wpAny_pyNext_ascii_item st (c:=x.cps[i]) (by simp[hi]) fun h' st' sb=>?_;have I1:Inv X pins σ H { s with heap:=h',toks:=s.toks+1 }:=I.turned (fun b o hb e=>sb.extBut b o hb e) f0 f1 f3 f4 f5;exact⟨_,rfl,qbw (s:={ s with heap:=h',toks:=s.toks+1 }) ⟨.str ⟨#[x.cps[i]]⟩,H,I1,⟨_,rfl⟩,⟨rfl,x.cps[i],by simp[hi],rfl⟩,st',fun b hb=>(hf b hb).1⟩⟩
   · refine wpAny_pyNext_wide_item st (c:=x.cps[i]) (by simp[hi]) fun h' st' sb=>?_;have I1:Inv X pins σ H { s with heap:=h',toks:=s.toks+1 }:=I.turned (fun b o hb e=>sb.extBut b o hb e) f0 f1 f3 f4 f5;exact⟨_,rfl,qbw (s:={ s with heap:=h',toks:=s.toks+1 }) ⟨.str ⟨#[x.cps[i]]⟩,H,I1,⟨_,rfl⟩,⟨rfl,x.cps[i],by simp[hi],rfl⟩,st',fun b hb=>(hf b hb).1⟩⟩
 done:=by
   intro X hP hw hK hc i pins s σ H E I hf st hg;subst hP hw hK;obtain⟨f0,f1,f2,f3,f4,f5⟩:=hf it (by simp);have hi:x.cps.size≤i:=hg;rcases hty with rfl|rfl
   · exact wpAny_pyNext_ascii_end (I.ok.hd hc) st (by simp[hi]) fun h' eb=>⟨rfl,I.turned (t':=s.toks) (fun b o hb e=>eb b o hb e) f0 f1 f3 f4 f5⟩
   · exact wpAny_pyNext_wide_end (I.ok.hd hc) st (by simp[hi]) fun h' eb=>⟨rfl,I.turned (t':=s.toks) (fun b o hb e=>eb b o hb e) f0 f1 f3 f4 f5⟩
 self:=fun _ _ _ _ _ st h=>by
   rcases hty with rfl|rfl
   · exact wpAny_pyIter_striter_ascii st h
   · exact wpAny_pyIter_striter_wide st h
def qeh (te:TE):TI:=fun σ H R=>te σ H fun x H1=>∃ z,x=.str z∧R (Its z) H1
section
variable {X:Cx}{tg:Expr}
theorem qcH {e:Expr}{te:TE} (he:PE X e te):PI X tg e (qeh te):=by
 intro pins s σ H R I h;refine thn (he pins s σ H _ I h) fun v s1 zz_=>?_;obtain⟨x,H1,I1,r1,q1⟩:=zz_;obtain⟨z,e,q⟩:=q1;subst e;obtain⟨t,rfl⟩:=r1
 have fin:∀ ty,(ty="str_ascii_iterator"∨ty="str_iterator")->PIE X pins σ tg R (.ref s1.heap.objs.size) { s1 with heap:=s1.heap.push { cls:=.type ty,data:=.fields #[.str z t,.int 0 0] } }:=fun ty hty=>by
   refine⟨s1.heap.objs.size,[s1.heap.objs.size],_,_,H1,rfl,I1.kept (t':=s1.toks) fun b o e=>Heap.get?_push_of_some _ e,qaC _ z t ty hty,⟨_,Heap.get?_push_size _ rfl,rfl,rfl⟩,fun b hb=>?_,q⟩;have e:b=s1.heap.objs.size:=by simpa using hb
   subst e;exact I1.fpOk (Nat.le_refl _) (I1.hok.fresh (Nat.le_refl _))
 cases ha:z.cps.all (· < 128)
 · exact wpAny_pyIter_wide ha (fin _ (.inr rfl))
 · exact wpAny_pyIter_ascii ha (fin _ (.inl rfl))
end
theorem qba {x:Str}{g:TG}{tt:TT}{te:TE}{D:Addr}{Q:VK}{σ:St}{H:Hp} (Pv:Nat->St->Hp->Prop) (h0:Pv 0 σ H)
   (hs:∀ i c σ H,x.cps[i]?=some c->Pv i σ H->g (.str ⟨#[c]⟩) σ H fun σ3 H3=>tt σ3 H3 fun ok H4=>if ok=true then te σ3 H4 fun y H5=>∃ ys,H5 D=some (.lst ys)∧ys.length < sizeLine∧Pv (i+1) σ3 (upd H5 D (.lst (ys++[y]))) else Pv (i+1) σ3 H4)
   (hd:∀ σ H,Pv x.cps.size σ H->Q (.ref D) H) :
   Qz (Its x) g tt te D Q σ H:=by
 refine⟨fun i m σ H=>m=x.cps.size - i∧i≤x.cps.size∧Pv i σ H,⟨x.cps.size,by simp,Nat.zero_le _,h0⟩,?_⟩;rintro i m σ H ⟨rfl,hi,p⟩;by_cases hlt:i < x.cps.size
 · refine .inr ⟨hlt,Pv (i+1),fun σ' H' p'=>⟨x.cps.size - (i+1),by omega,rfl,hlt,p'⟩,fun v H' y=>?_⟩;obtain⟨rfl,c,hc,rfl⟩:=y;exact hs i c σ _ hc p
 · have e:i=x.cps.size:=by omega
   subst e;exact .inl ⟨Nat.le_refl _,hd σ H p⟩
theorem Jb {lo:Int}{n:Nat}{g:TG}{tt:TT}{te:TE}{D:Addr}{Q:VK}{σ:St}{H:Hp} (Pv:Nat->St->Hp->Prop) (h0:Pv 0 σ H)
   (hs:∀ i σ H,i < n->Pv i σ H->g (.int (lo+i)) σ H fun σ3 H3=>tt σ3 H3 fun ok H4=>if ok=true then te σ3 H4 fun y H5=>∃ ys,H5 D=some (.lst ys)∧ys.length < sizeLine∧Pv (i+1) σ3 (upd H5 D (.lst (ys++[y]))) else Pv (i+1) σ3 H4)
   (hd:∀ σ H,Pv n σ H->Q (.ref D) H) :
   Qz (Itr lo n) g tt te D Q σ H:=by
 refine⟨fun i m σ H=>m=n - i∧i≤n∧Pv i σ H,⟨n,by simp,Nat.zero_le _,h0⟩,?_⟩;rintro i m σ H ⟨rfl,hi,p⟩;by_cases hlt:i < n
 · refine .inr ⟨hlt,Pv (i+1),fun σ' H' p'=>⟨n - (i+1),by omega,rfl,hlt,p'⟩,fun v H' y=>?_⟩;obtain⟨rfl,rfl⟩:=y;exact hs i σ _ hlt p
 · have e:i=n:=by omega
   subst e;exact .inl ⟨Nat.le_refl _,hd σ H p⟩
theorem Jo:∀ {ys:List Str}{us:List Value},Vals (ys.map V.str) us->StrsAre us ys
 | [],_,r=>by cases r;exact .nil
 | y::ys,_,r=>by
   cases r with
   | cons r t =>
     obtain⟨k,rfl⟩:=r;exact .cons y k (Jo t)
section
variable {X:Cx}
def qdo (K:Frag):V->List V->Hp->VK->Prop:=fun x xs H Q=>∃ (sep:Str) (p:Addr) (ys:List Str),x=.str sep∧xs=[.ref p]∧SqL K H p (ys.map V.str)∧(ys.map (·.length)).sum+ys.length * sep.length≤16777216∧Q (.str (Txt.join sep ys)) H
theorem qb2:MtR X "str.join" (qdo X.K):=by
 intro pins s σ H x xs v us Q I rx r h;obtain⟨sep,p,ys,rfl,rfl,hq,hz,q⟩:=h;obtain⟨t,rfl⟩:=rx;obtain⟨u,rfl,ru⟩:=Zv r;cases ru;obtain⟨its,rv,pl,_⟩:=I.list hq;exact join_list pl.isList (by simpa using Jo rv) hz fun t' k=>⟨.str _,H,I.tok k,⟨_,rfl⟩,q⟩
end
def zV (cells:List (Str×Addr)):List (Str×NameKind)->List (Str×Addr)->List (Str×Addr)
 | [],acc=>acc
 | (n,k)::r,acc=>zV cells r (if k == .free then (n,(cells.lookup n).getD 0)::acc else acc)
def qbz (env:Env) (x:Str×NameKind) (cs:List (Str×Addr)):Sem (ForInStep (List (Str×Addr))):=match x with
 | (name,kind)=>if (kind == NameKind.free)=true then (do let a ← cellOf env name;pure (ForInStep.yield ((name,a)::cs))) else pure (ForInStep.yield cs)
theorem qak {env:Env}{n:Str}{k:NameKind}{acc:List (Str×Addr)} (h:k=.free->∃ c,env.cells.lookup n=some c) :
   qbz env (n,k) acc=pure (ForInStep.yield (if k == .free then (n,(env.cells.lookup n).getD 0)::acc else acc)):=by
 by_cases hk:k=.free
 · subst hk;obtain⟨c,hc⟩:=h rfl;show (do let a ← cellOf env n;pure (ForInStep.yield ((n,a)::acc)))=(pure (ForInStep.yield ((n,(env.cells.lookup n).getD 0)::acc)):Sem _);unfold cellOf;rw[hc];rfl
 · cases k<;>first|exact absurd rfl hk|rfl
theorem Ze {env:Env}:∀ (names:List (Str×NameKind)) (acc:List (Str×Addr)),(∀ y∈names,y.2=.free->∃ c,env.cells.lookup y.1=some c) ->
   (forIn names acc (qbz env))=(pure (zV env.cells names acc):Sem (List (Str×Addr)))
 | [],acc,_=>rfl
 | (n,k)::r,acc,h=>by
   rw[List.forIn_cons,qak fun e=>h (n,k) List.mem_cons_self e];exact Ze (env:=env) r _ fun y hy=>h y (List.mem_cons_of_mem _ hy)
theorem Jc {scope:Scope}{env:Env} (h:∀ y∈scope.names,y.2=.free->∃ c,env.cells.lookup y.1=some c):closureFor scope env=pure (zV env.cells scope.names []):=by
 unfold closureFor;exact(congrArg (fun (m:Sem (List (Str×Addr)))=>m >>= fun cs=>pure cs) (Ze (env:=env) scope.names [] h)).trans rfl
theorem ze {cells:List (Str×Addr)}{x:Str}:∀ (names:List (Str×NameKind)) (acc:List (Str×Addr)),(∀ y∈names,y.2=.free->∃ c,cells.lookup y.1=some c)->(∀ c,acc.lookup x=some c->cells.lookup x=some c) ->
   (∀ c,(zV cells names acc).lookup x=some c->cells.lookup x=some c)∧(((x,NameKind.free)∈names∨(acc.lookup x).isSome=true)->((zV cells names acc).lookup x).isSome=true)
 | [],acc,_,ha=>⟨ha,fun h=>h.elim (fun z=>nomatch z) id⟩
 | (n,k)::r,acc,h,ha=>by
   unfold zV;have hr:∀ y∈r,y.2=.free->∃ c,cells.lookup y.1=some c:=fun y hy=>h y (List.mem_cons_of_mem _ hy)
   cases hk:(k == NameKind.free) with
   | false =>
     obtain⟨i1,i2⟩:=ze (cells:=cells) (x:=x) r acc hr ha;refine⟨by simpa using i1,fun z=>?_⟩
     have:((zV cells r acc).lookup x).isSome=true:=i2 (by
       rcases z with z|z
       · rcases List.mem_cons.mp z with e|e
         · cases e;cases hk
         · exact .inl e
       · exact .inr z)
     simpa using this
   | true =>
     obtain⟨c,hc⟩:=h (n,k) List.mem_cons_self (by simpa using hk);have hc:cells.lookup n=some c:=hc;have ek:k=NameKind.free:=by simpa using hk
     subst ek
     have ha':∀ c',((n,(cells.lookup n).getD 0)::acc).lookup x=some c'->cells.lookup x=some c':=fun c' z=>by
       rw[List.lookup_cons]at z
       cases e:x == n with
       | true =>
         rw[e]at z;have e':x=n:=by simpa using e
         rw[e',hc]at *;simpa using z
       | false=>rw[e]at z;exact ha c' z
     obtain⟨i1,i2⟩:=ze (cells:=cells) (x:=x) r _ hr ha';refine⟨i1,fun z=>i2 ?_⟩;by_cases e:x=n
     · right;rw[List.lookup_cons,e];simp
     · rcases z with z|z
       · rcases List.mem_cons.mp z with q|q
         · cases q;exact absurd rfl e
         · exact .inl q
       · right;rw[List.lookup_cons]
         have:(x == n)=false:=by simpa using e
         rw[this];exact z
theorem zN {x:Str}{k:NameKind}:∀ {names:List (Str×NameKind)},names.lookup x=some k->(x,k)∈names
 | [],h=>by cases h
 | (n,j)::r,h=>by
   rw[List.lookup_cons]at h
   cases e:x == n with
   | true =>
     rw[e]at h;have e':x=n:=by simpa using e
     cases h;rw[e'];exact List.mem_cons_self
   | false=>rw[e]at h;exact List.mem_cons_of_mem _ (zN h)
theorem QH {scope:Scope}{env:Env}{x:Str}{k:NameKind} (h:(x,k)∈(relabel scope env).names):(x,k)∈scope.names∨(k=.cell∧(x,NameKind.free)∈scope.names):=by
 have h':(x,k)∈scope.names.map fun (n,k)=>if (k == .free && env.scope.kind == .function && env.kindOf n == some .cell) then (n,.cell) else (n,k):=h
 obtain⟨⟨n,j⟩,hm,e⟩:=List.mem_map.mp h';simp only at e;split at e
 · rename_i c
   cases e
   have:j=.free:=by
     have c1:=(Bool.and_eq_true_iff.mp (Bool.and_eq_true_iff.mp c).1).1;simpa using c1
   subst this;exact .inr ⟨rfl,hm⟩
 · cases e;exact .inl hm
theorem zi {env:Env}{x:Str} (hX:env.scope.kind=.function) (g3:env.kindOf x=some .cell):∀ {names:List (Str×NameKind)},names.lookup x=some .free ->
   (names.map fun (n,k)=>if (k == NameKind.free && env.scope.kind == .function && env.kindOf n == some .cell) then (n,NameKind.cell) else (n,k)).lookup x=some .cell
 | [],h=>by cases h
 | (n,k)::r,h=>by
   have ih:=zi hX g3 (names:=r);show List.lookup x ((if (k == NameKind.free && env.scope.kind == .function && env.kindOf n == some .cell)=true then (n,NameKind.cell) else (n,k))::_)=_;rw[List.lookup_cons]at h
   cases e:x == n with
   | true =>
     rw[e]at h;have e':x=n:=by simpa using e
     have ek:k=.free:=by simpa using h
     rw[ek,← e',if_pos (show (NameKind.free == NameKind.free && env.scope.kind == .function && env.kindOf x == some .cell)=true by rw[hX,g3];decide),List.lookup_cons];simp
   | false =>
     rw[e]at h;by_cases hc:(k == NameKind.free && env.scope.kind == .function && env.kindOf n == some .cell)=true
     · rw[if_pos hc,List.lookup_cons,e];exact ih h
     · rw[if_neg hc,List.lookup_cons,e];exact ih h
theorem CompOk.of {X:Cx}{scope:Scope}{N:List Str}{js:List (Option Nat)} (hkind:scope.kind=.function) (hcell:∀ y∈scope.names,y.2≠.cell) (hnames:∀ y∈scope.names,y.2=.local->scope.names.lookup y.1=some .local)
   (hX:X.env.scope.kind=.function) (hfree:∀ y∈scope.names,y.2=.free->X.env.kindOf y.1=some .cell∧∃ c,X.env.cells.lookup y.1=some c) (len:js.length=N.length)
   (hfr:∀ (i j:Nat) (x:Str),js[i]?=some (some j)->N[i]?=some x->X.N[j]?=some x∧scope.names.lookup x=some .free) :
   CompOk X scope N (zV X.env.cells scope.names []) js where
 clos:=Jc fun y hy z=>(hfree y hy z).2
 sub:=fun x c h=>(ze scope.names [] (fun y hy z=>(hfree y hy z).2) (fun c h=>by cases h)).1 c h
 all:=fun x h=>by
   have hm:(x,NameKind.free)∈scope.names:=by
     rcases h with h|h
     · rcases QH (zN h) with z|⟨_,z⟩
       · exact absurd rfl (hcell _ z)
       · exact z
     · rcases QH (zN h) with z|⟨e,_⟩
       · exact z
       · cases e
   have:=(ze (cells:=X.env.cells) (x:=x) scope.names [] (fun y hy z=>(hfree y hy z).2) (fun c h=>by cases h)).2 (.inl hm)
   exact Option.isSome_iff_exists.mp this
 cell:=hcell
 kind:=hkind
 names:=hnames
 len:=len
 fr:=fun i j x h1 h2=>by
   obtain⟨g1,g2⟩:=hfr i j x h1 h2;obtain⟨g3,_⟩:=hfree (x,.free) (zN g2) rfl;refine⟨g1,g3,.inl ?_⟩;exact zi hX g3 g2
def qcb (sc:Scope) (N0 N:List Str) (js:List (Option Nat)):Bool:=(js.zip N).all fun p=>match p.1 with
 | none=>true
 | some j=>N0[j]? == some p.2 && sc.names.lookup p.2 == some .free
theorem jM {sc:Scope}{N0:List Str}:∀ {js:List (Option Nat)}{N:List Str},qcb sc N0 N js=true->∀ (i j:Nat) (x:Str),js[i]?=some (some j)->N[i]?=some x->N0[j]?=some x∧sc.names.lookup x=some .free:=by
 intro js N h i j x h1 h2
 have hm:(some j,x)∈js.zip N:=by
   refine List.mem_of_getElem? (i:=i) ?_;rw[List.getElem?_zip_eq_some];exact⟨h1,h2⟩
 have:=List.all_eq_true.mp h _ hm
 simpa using this
theorem CompOk.def {CX:CXT}{P:Program}{w:World}{K:Frag}{mg:Str->Option Value}{base:Heap}{N0:List Str}{qual:Str}{sc0:Scope}{f:Addr}{cd:Value}{A:Around}{outer:List Env}{s:Shared}{H:Hp}{E:XK}{scope:Scope}
   (N:List Str) (js:List (Option Nat)) (hk0:sc0.kind=.function:=by rfl) (hk:scope.kind=.function:=by rfl) (hcell:∀ y∈scope.names,y.2≠.cell:=by decide +kernel) (hnames:∀ y∈scope.names,y.2=.local->scope.names.lookup y.1=some .local:=by decide +kernel)
   (hfr0:∀ y∈scope.names,y.2=.free->sc0.names.lookup y.1=some .cell:=by decide +kernel) (len:js.length=N.length:=by rfl) (hfr:qcb scope N0 N js=true:=by decide +kernel) :
   CompOk (zU CX P w K mg base N0 qual sc0 f cd A outer s H E).nox scope N (zV (zU CX P w K mg base N0 qual sc0 f cd A outer s H E).nox.env.cells scope.names []) js :=
 CompOk.of hk hcell hnames hk0 (fun y hy z=>⟨hfr0 y hy z,Option.isSome_iff_exists.mp (PySem.W.cellsFrom_some _ _ _ (.inl (hfr0 y hy z)))⟩) len (jM hfr)
theorem Same.put {G H:Hp}{p:Addr} (s:Same G H) (n:G p=none) (o:HO):Same G (upd H p o):=fun c u e=>by rw[qb (qe e n)];exact s c u e
def cut (H:Hp) (ts:List Addr):Hp:=fun b=>if b∈ts then none else H b
theorem jP {H:Hp}{ts:List Addr}{b:Addr} (h:b∈ts):cut H ts b=none:=by unfold cut;rw[if_pos h]
theorem zo {H:Hp}{ts:List Addr}{b:Addr} (h:b∉ts):cut H ts b=H b:=by unfold cut;rw[if_neg h]
theorem Zk {α:Type}{xs:List α}{x y:α}{i:Nat} (h:(xs++[x])[i]?=some y):xs[i]?=some y∨(i=xs.length∧y=x):=by
 rw[List.getElem?_append]at h;by_cases hi:i < xs.length
 · rw[if_pos hi]at h;exact .inl h
 · rw[if_neg hi]at h
   have e:i - xs.length=0:=by
     cases n:i - xs.length with
     | zero=>rfl
     | succ k=>rw[n]at h;simp at h
   rw[e]at h;exact .inr ⟨by omega,by simpa using h.symm⟩
def qeb (K:Frag):List V->Hp->VK->Prop:=fun xs H Q=>∃ p ys,xs=[.ref p]∧(SqL K H p ys∨SqT K H p ys)∧∀ l,H l=none->Q (.ref l) (upd H l (.lst ys))
section
variable {X:Cx}
theorem qbV {i:Nat}{x:Str}{pos' pos:Pos}{elt iter tg:Expr}{ifs:List Expr}{scope:Scope}{cpos:Pos}{wi:TI}{g:TG}{tt:TT}{te:TE}{N:List Str}{cl:List (Str×Addr)}{js:List (Option Nat)} (hN:X.N.Nodup) (hi0:X.N[i]?=some x) (hx:Loc X.env.scope x)
   (hc:X.calm=true) (k:CompOk X scope N cl js) (hi:PI X tg iter wi)
   (hg:∀ C s₀ H₀ ex pn,PG (qJ X scope N cl C s₀ H₀ ex pn) tg g) (ht:∀ C s₀ H₀ ex pn,PTs (qJ X scope N cl C s₀ H₀ ex pn) ifs tt) (he:∀ C s₀ H₀ ex pn,PE (qJ X scope N cl C s₀ H₀ ex pn) elt te)
   (hsw:swapsWith (.ListComp elt [⟨tg,iter,ifs,0⟩] scope cpos) (some (.Name x pos')) pos.line X.env=pure true:=by rfl)
   (hf:X.fn x=true∨X.env.scope.names.lookup x=some .local:=by first|exact .inl rfl|exact .inr rfl|assumption)
   (hs:∀ x,foldedSetIterable iter X.env x=pure x:=by intro _;rfl) :
   PS X (.Assign [.Name x pos'] (.ListComp elt [⟨tg,iter,ifs,0⟩] scope cpos) pos) (qdi (qcx wi g tt te js) (qca i)):=by
 intro pins s σ H D0 I h;rw[exec_Assign_Name_used _ _ _ _ hsw];refine wpAny_bind (wpAny_standAt (wpAny_bind ?_));show wpAny _ X.A (do let _ ← comprehension (.ListComp elt [⟨tg,iter,ifs,0⟩] scope cpos) scope X.env _ (newList []) false (eval iter X.env) (some (assign (.Name x pos') X.env))) _ _ s;refine wpAny_bind (wpAny_mono (wpAny_comprehension_free (use:=some (assign (.Name x pos') X.env)) (Q:=fun _ s'=>∃ σ' H',Inv X pins σ' H' s'∧D0.nx σ' H') rfl hs k.clos k.kind k.names ?_) (fun _ s' hq=>wpAny_pure (wpAny_pure hq)) fun _ _ e=>e);refine thn (hi pins s σ H _ I h) fun v s1 h1=>thn h1 fun itv s2 h2=>?_;obtain⟨it,fp,tn,J,H2,e,I2,T,st2,f2,hD⟩:=h2;subst e;refine wpAny_newObj_type (wpAny_newFunctionEnv k.cell (by intro y hy;simp at hy) (fun h₁ hns₁ hsb₁=>?_) k.kind);dsimp only at hns₁ hsb₁ ⊢;generalize hH2:s2.heap.push { cls:=.type "list",dict:=none,data:=.seq ([]:List Value).toArray }=P2 at hns₁ hsb₁ ⊢;have hC:P2.objs.size=s2.heap.objs.size+1:=by rw[← hH2,Heap.size_push]
 have hDC:s2.heap.objs.size≠P2.objs.size:=by rw[hC];exact Nat.ne_of_lt (Nat.lt_succ_self _)
 have hCle:s2.heap.objs.size≤P2.objs.size:=by rw[hC];exact Nat.le_succ _
 have old:∀ b o,s2.heap.get? b=some o->h₁.get? b=some o:=fun b o e=>hsb₁.extBut b o (Nat.ne_of_lt (Nat.lt_of_lt_of_le (Heap.lt_size e) hCle)) (Heap.get?_push_of_some _ (hH2▸Heap.get?_push_of_some _ e));have hacc:h₁.get? s2.heap.objs.size=some { cls:=.type "list",data:=.seq ([]:List Value).toArray }:=hsb₁.extBut _ _ hDC (Heap.get?_push_of_some _ (hH2▸Heap.get?_push_size _ rfl))
 have hfl:∀ b∈fp,b < s2.heap.objs.size:=fun b hb=>by
   obtain⟨o,e,_⟩:=T.obj _ _ st2 b hb;exact Heap.lt_size e
 have fD:H2 s2.heap.objs.size=none:=I2.hok.fresh (Nat.le_refl _);obtain⟨W,⟨m0,w0⟩,turn⟩:=hD _ fD
 have IX:Inv (qJ X scope N cl P2.objs.size s2 H2 fp (X.pn++pins)) [] (st0 js σ) (upd H2 s2.heap.objs.size (.lst [])) { s2 with heap:=h₁,toks:=s2.toks+([]:List (Str×Value)).length } :=
   jQ k I2 f2 hfl (Nat.le_refl _) hCle hDC hns₁ hacc old
 have hg':=hg P2.objs.size s2 H2 fp (X.pn++pins);have ht':=ht P2.objs.size s2 H2 fp (X.pn++pins);have he':=he P2.objs.size s2 H2 fp (X.pn++pins)
 have stat:∀ {H':Hp},(∀ b∈fp,H' b=none)->∀ b∈fp,Je (qJ X scope N cl P2.objs.size s2 H2 fp (X.pn++pins)) [] H' b:=fun hn b hb=>by
   obtain⟨g0,g1,g2,g3,g4,g5⟩:=f2 b hb;refine⟨hn b hb,Nat.ne_of_lt (Nat.lt_of_lt_of_le (hfl b hb) hCle),fun z=>?_,.inl hb,fun x c h=>g4 x c (k.sub _ _ h),fun p hp=>g5 p (by simpa[qJ] using hp)⟩;rcases List.mem_cons.mp (I2.stkSub b z) with e|e
   · exact g1 e
   · exact g2 e
 have loop:∀ s₃:Shared,s₃={ s2 with heap:=h₁,toks:=s2.toks+([]:List (Str×Value)).length } ->
     codeAny (model X.prog X.w) X.A (.compLoop (.ListComp elt [⟨tg,iter,ifs,0⟩] scope cpos) 0 (.ref it) (.ref s2.heap.objs.size) (compEnvC scope cl P2.objs.size X.env))
       (compPost (model X.prog X.w) X.A X.xe (some (assign (.Name x pos') X.env)) (fun _ s'=>∃ σ' H',Inv X pins σ' H' s'∧D0.nx σ' H') (.ref s2.heap.objs.size) P2.objs.size) s₃:=by
   rintro s₃ rfl;refine QS (fun n s'=>∃ i σ' H',Inv (qJ X scope N cl P2.objs.size s2 H2 fp (X.pn++pins)) [] σ' H' s'∧tn i s'.heap∧(∀ b∈fp,H' b=none)∧W i n σ' H') ?_ m0
     ⟨0,st0 js σ,_,IX,T.keep _ _ _ st2 (fun b hb o e=>old b o e),fun b hb=>by rw[qb (Nat.ne_of_lt (hfl b hb))];exact(f2 b hb).1,w0⟩
   rintro n s3 ⟨i,σ3,H3,I3,st3,fr3,w3⟩;rcases turn i n σ3 H3 w3 with ⟨stop,qn⟩|⟨go,N2,hN,step⟩
   · refine thn (T.done (qJ X scope N cl P2.objs.size s2 H2 fp (X.pn++pins)) rfl rfl rfl hc i [] s3 σ3 H3 noE I3 (stat fr3) st3 stop) fun r s4 ⟨hr,I4⟩=>?_;subst hr;obtain⟨m4,hn4,_⟩:=id I4.loc;have u4:Un (frs X.stack) fp H2 H3 s2.heap s4.heap:=I4.base;have fC:H3 P2.objs.size=none:=I4.free
     have I6:Inv X pins σ H3 s4:=I2.call' (s':=s4) I4.os u4 I4.hok I4.bare fun b hb=>by
       obtain⟨g0,g1,g2,g3,g4,g5⟩:=f2 b hb;exact⟨g3,g1,g4,g5⟩
     have fpC:Je X pins H3 P2.objs.size:=I2.fpOk hCle fC;have hn4':s4.heap.Ns P2.objs.size m4:=hn4;obtain⟨oC,esC,epC,gC,rC⟩:=id hn4';have I7:=I6.pinned (fp:=[P2.objs.size]) (fun b hb=>by rw[show b=P2.objs.size by simpa using hb];exact fpC) (fun b hb=>⟨oC,by rw[show b=P2.objs.size by simpa using hb];exact gC,fun v z=>by rw[rC.1]at z;cases z⟩);show wpAny _ X.A (assign (.Name x pos') X.env (.ref s2.heap.objs.size)) _ _ s4;refine wpAny_assign_Name (Qv I7 hN hi0 hx (v:=.ref s2.heap.objs.size) rfl (fun s5 I8=>?_) hf);have g5:=(I8.pin (P2.objs.size,oC) (List.mem_append_right _ (List.mem_append_right _ (qW (by simp) gC)))).1;refine⟨m4,hn4'.at' (fun o e=>by rw[gC]at e;cases e;exact g5),fun h' hsb=>⟨_,H3,?_,qn⟩⟩;exact I8.unpinned.turnL (t':=s5.toks) (ch:=[P2.objs.size]) (fun b o hb e=>hsb.extBut b o (fun z=>hb (by simp[z])) e) (fun b hb=>by rw[show b=P2.objs.size by simpa using hb];exact fpC)
   · refine thn (T.item (qJ X scope N cl P2.objs.size s2 H2 fp (X.pn++pins)) rfl rfl rfl hc i [] s3 σ3 H3 noE I3 (stat fr3) st3 go) fun r s4 ⟨u,hr,h4⟩=>?_;subst hr;refine thn h4 fun _ s5 zz_=>?_;obtain⟨x,H5,I5,r5,y5,st5,fr5⟩:=zz_;have I5':=I5.pinned (stat fr5) (T.obj _ _ st5);refine thn (hg' _ s5 σ3 H5 x u _ I5' r5 (step x H5 y5)) fun _ s6 zz_=>?_;obtain⟨σ6,H6,I6,q6⟩:=zz_;refine thn (ht' _ s6 σ6 H6 _ I6 q6) fun ok s7 zz_=>?_;obtain⟨H7,I7,q7⟩:=zz_;have again:∀ {s8:Shared}{σ8:St}{H8:Hp},Inv (qJ X scope N cl P2.objs.size s2 H2 fp (X.pn++pins)) ([]++QI fp s5.heap) σ8 H8 s8->N2 σ8 H8 ->
         ∃ m,m < n∧∃ i σ' H',Inv (qJ X scope N cl P2.objs.size s2 H2 fp (X.pn++pins)) [] σ' H' s8∧tn i s8.heap∧(∀ b∈fp,H' b=none)∧W i m σ' H':=fun {s8 σ8 H8} I8 n8=>by
       obtain⟨m',hm,w8⟩:=hN σ8 H8 n8;refine⟨m',hm,i+1,σ8,H8,I8.unpinned,T.keep _ _ _ st5 fun b hb o e=>(I8.pin (b,o) (List.mem_append_right _ (List.mem_append_right _ (qW hb e)))).1,fun b hb=>?_,w8⟩;obtain⟨o,e,d⟩:=T.obj _ _ st5 b hb;exact(I8.pin (b,o) (List.mem_append_right _ (List.mem_append_right _ (qW hb e)))).2.1
     cases ok with
     | false=>exact again I7 (by simpa using q7)
     | true =>
       have q7':te σ6 H7 fun y H5=>∃ ys,H5 s2.heap.objs.size=some (.lst ys)∧ys.length < sizeLine∧N2 σ6 (upd H5 s2.heap.objs.size (.lst (ys++[y]))):=by simpa using q7
       refine thn (he' _ s7 σ6 H7 _ I7 q7') fun xv s8 zz_=>?_;obtain⟨y,H8,I8,r8,ys,hy,hlen,n8⟩:=zz_;refine thn (QL (X:=qJ X scope N cl P2.objs.size s2 H2 fp (X.pn++pins)) _ s8 σ6 H8 (.ref s2.heap.objs.size) [y] (.ref s2.heap.objs.size) [xv] (fun _ H9=>N2 σ6 H9) I8 rfl (.cons r8 .nil) ⟨_,ys,y,rfl,rfl,hy,hlen,n8⟩) fun _ s9 ⟨_,H9,I9,_,n9⟩=>again I9 n9
 exact codeAny_compStart_list (loop _ rfl) (T.self _ 0 _ _ _ (T.keep _ _ _ st2 (fun b hb o e=>old b o e)) (loop _ rfl))
end
inductive JA (K:Frag) (x:V) (y:V) (H:Hp) (Q:VK):Prop
 | mk (p xs i v:_) (h1:x=.ref p) (h2:y=.int i) (h3:SqL K H p xs) (h4:0≤i) (h5:atI xs i=some v) (h6:Q v H):JA K x y H Q
def qdr (K:Frag):V->V->Hp->VK->Prop:=fun x y H Q=>JA K x y H Q
theorem qa5 {X:Cx}:qdW X (qdr X.K):=by
 intro pins s σ H o i ov iv Q I ro ri h;obtain⟨p,xs,k,z,rfl,rfl,hq,h0,he,q⟩:=h;cases ro;obtain⟨t,rfl⟩:=ri;obtain⟨its,r,pl,hz⟩:=I.list hq;obtain⟨j,h1,h2,h3,h4,h5⟩:=Zs he;obtain⟨w,ew,rw'⟩:=r.get h2;have hn:=Q9
 have hj:k.toNat=j:=by
   rw[seqIndex_of h0 h5]at h1;exact Option.some.inj h1
 exact wpAny_getItem_list pl.isList h0 (by omega) (by rw[hj];simpa using ew) ⟨z,H,I,rw',q⟩
theorem qR {t u:TS}{D:jU}{σ:St}{H:Hp} (Post:St->Hp->Prop) (h1:∀ N:St->Hp->Prop,(∀ σ' H',Post σ' H'->N σ' H')->t { D with nx:=N } σ H) (h2:∀ σ' H',Post σ' H'->u D σ' H'):qdc t u D σ H:=h1 (u D) h2
def TupL {β:Type} (f:β->List V) (H:Hp) (zs:List V) (ps:List β):Prop:=zs.length=ps.length∧∀ (i:Nat) z p,zs[i]?=some z->ps[i]?=some p->∃ t,z=.ref t∧H t=some (.tup (f p))
section
variable {β:Type}{f:β->List V}{H H':Hp}{zs:List V}{ps:List β}
theorem TupL.nil:TupL f H [] []:=⟨rfl,fun i z p e=>by simp at e⟩
theorem TupL.same (h:TupL f H zs ps) (s:Same H H'):TupL f H' zs ps:=⟨h.1,fun i z p e1 e2=>by
 obtain⟨t,e,q⟩:=h.2 i z p e1 e2
 exact⟨t,e,s _ _ q⟩⟩
theorem TupL.put {q:Addr}{xs ys:List V} (h:TupL f H zs ps) (hq:H q=some (.lst xs)):TupL f (upd H q (.lst ys)) zs ps:=⟨h.1,fun i z y e1 e2=>by
 obtain⟨t,e,r⟩:=h.2 i z y e1 e2
 exact⟨t,e,by rw[qb (ZI r hq (by intro z;cases z))];exact r⟩⟩
theorem TupL.snoc {t:Addr}{p:β} (h:TupL f H zs ps) (q:H t=some (.tup (f p))):TupL f H (zs++[.ref t]) (ps++[p]):=⟨by rw[List.length_append,List.length_append,h.1];rfl,fun i z y e1 e2=>by
 rcases Zk e1 with e|⟨ei,e⟩
 · rcases Zk e2 with e'|⟨ei',_⟩
   · exact h.2 i z y e e'
   · have:=(List.getElem?_eq_some_iff.mp e).1
     rw[ei',← h.1]at this;exact absurd this (Nat.lt_irrefl _)
 · rcases Zk e2 with e'|⟨_,e'⟩
   · have:=(List.getElem?_eq_some_iff.mp e').1
     rw[ei,h.1]at this;exact absurd this (Nat.lt_irrefl _)
   · exact⟨t,e,e'▸q⟩⟩
end
end L2
namespace L2
open PySem PySem.Spec PyProof.Rows PySem.Builtin.Str PySem.NumText
section
variable {X:Cx}
def qbo:V->List V->Hp->VK->Prop:=fun x xs H Q=>∃ z y i rest,x=.str z∧xs=[.str y]∧occurrences z y 0 z.length 1=i::rest∧Q (.int (i:Nat)) H
theorem qaT:MtR X "str.index" qbo:=by
 intro pins s σ H x xs v us Q I rx r h;obtain⟨z,y,i,rest,rfl,rfl,ho,q⟩:=h;obtain⟨t,rfl⟩:=rx;obtain⟨u,rfl,ru⟩:=Zv r;obtain⟨t',rfl⟩:=ru;exact SC.index ho ⟨.int _,H,I.tok _,⟨_,rfl⟩,q⟩
end
end L2
namespace KC
open PySem L2 PySem.NumText PyProof.Rows
theorem Zi {xs:List V}{i:Int} (h0:0≤i) (h1:i < xs.length):∃ v,atI xs i=some v∧v∈xs:=by
 obtain⟨n,rfl⟩:=Int.eq_ofNat_of_zero_le h0;have hn:n < xs.length:=by omega
 exact⟨xs[n],qcj (List.getElem?_eq_getElem hn),List.getElem_mem hn⟩
end KC
namespace L2
open PySem PySem.Spec PyProof.Rows
open PySem.W (Frag InstAt hasDictIn findIn isFn keepIn specialIn takesIn mroIn callWith_K typeIn looks_findIn clsIn notCls Looks looks_mroIn check_slot looks_clsIn findObj looks_find findCls subIn looks_typeIn looks_subIn)
def ExO (ea C:Addr) (dx:Option Addr) (tb:Value):Heap->Prop:=fun h =>
 ∃ o vs,h.get? ea=some o∧o.cls=.ref C∧o.dict=dx∧o.data=.fields vs∧vs.size=6∧vs[1]?=some tb∧vs[2]?=some Value.none
def TbO (T:Addr):Heap->Prop:=fun h=>∃ o ts,h.get? T=some o∧o.data=.fields ts∧ts[3]?=some Value.none
def XAt (H:Hp) (ea C:Addr) (dx:Option Addr):Prop :=
 ∃ tb,H ea=some (.ext (ExO ea C dx tb))∧(tb=.none∨∃ T,tb=.ref T∧H T=some (.ext (TbO T))∧T≠ea)
theorem jN {P:Program}{w:World}{H:Hp}{h:Heap}{ea C:Addr}{dx:Option Addr}{tb:Value} (x:ExO ea C dx tb h):ObjOk P w H h ea (.ext (ExO ea C dx tb)):=by
 obtain⟨o,vs,e,r⟩:=id x;exact⟨x,⟨o,e⟩,fun h1 h2 ⟨o',vs',e',r'⟩ k=>⟨o',vs',k _ e',r'⟩⟩
theorem qcq {P:Program}{w:World}{H:Hp}{h:Heap}{T:Addr} (x:TbO T h):ObjOk P w H h T (.ext (TbO T)):=by
 obtain⟨o,vs,e,r⟩:=id x;exact⟨x,⟨o,e⟩,fun h1 h2 ⟨o',vs',e',r'⟩ k=>⟨o',vs',k _ e',r'⟩⟩
section
variable {M:Model}{A:Around}{E:Value->Shared->Prop}{s:Shared}
structure qat (L:List Addr) (e:Addr) (oe:Obj) (h h':Heap) (T:Addr) (fl:Value):Prop where
 new:T=h.objs.size
 keep:∀ b o,b≠e->b∉L->h.get? b=some o->h'.get? b=some o
 slot:∀ b o,b≠e->h.get? b=some o->∃ sl,h'.get? b=some { o with slots:=sl }
 exc:h'.get? e=some (oe.mapFields (·.setIfInBounds 1 (.ref T)))
 tb:∃ oT ts,h'.get? T=some oT∧oT.data=.fields ts∧ts[3]?=some fl
theorem Zd {base:Heap}{env:Env}{outer:List Env}{L e:Addr}{oe:Obj}{vs:Array Value}{head:Value}{hadNext:Bool}{Q:Unit->Shared->Prop}
   (hfr:A.frames=some (env::outer)) (hl:s.heap.FunFrames base (env::outer)) (hf:env.frame=some L)
   (he:s.heap.get? e=some oe) (hd:oe.data=.fields vs) (hsz:1 < vs.size)
   (h:∀ h' T,qat (frs (env::outer)) e oe s.heap h' T (rawInt L)->Q () { s with heap:=h' }) :
   wpAny M A (do
     let a ← frameOf env;let pl ← entryPlaceOf L hadNext;let b ← EntryCells.newEntry head a .none (rawInt L) .none pl
     setField (.ref e) 1 b) Q E s:=by
 have hene:e∉(env::outer).filterMap (·.frame):=fun hm=>by
   obtain⟨_,o,ho,hnf⟩:=hl.mem hm;rw[he]at ho;cases ho;exact hnf vs hd
 refine wpAny_bind (wpAny_frameOf_fun hfr hl hf fun g1 hs1=>?_);refine wpAny_bind (wpAny_entryPlaceOf fun pl hpl=>?_);unfold EntryCells.newEntry newFields;refine wpAny_bind (wpAny_newObj_type ?_ (hpl.sizeOk5 _ _ _ _ _));have he1:g1.get? e=some oe:=(hs1.2.1 e hene).trans he;generalize hob:({ cls:=.type "traceback",dict:=none,data:=.fields ([head,.ref L,.none,rawInt L,.none]++(if pl.isEmpty then List.replicate 6 Value.none else pl)).toArray }:Obj)=ob;have hobd:ob.data=.fields ([head,.ref L,.none,rawInt L,.none]++(if pl.isEmpty then List.replicate 6 Value.none else pl)).toArray:=by rw[← hob]
 have hof:ob.isFreed=false:=by rw[← hob];rfl
 have he2:=Heap.get?_push_of_some (h:=g1) ob he1;refine wpAny_setField he2 hd hsz (h _ g1.objs.size ?_);have hTe:g1.objs.size≠e:=Nat.ne_of_gt (Heap.lt_size he1);have hd3:=Obj.data_mapFields hd (·.setIfInBounds 1 (Value.ref g1.objs.size))
 have keep:∀ b o,b≠e->g1.get? b=some o->((g1.push ob).update e (Obj.mapFields (·.setIfInBounds 1 (Value.ref g1.objs.size)))).get? b=some o:=fun b o hbe hb=>by
   rw[Heap.get?_update_other _ _ (Ne.symm hbe)];exact Heap.get?_push_of_some _ hb
 refine⟨hs1.1,fun b o hbe hbL hb=>keep b o hbe ((hs1.2.1 b hbL).trans hb),fun b o hbe hb=>?_,Heap.get?_update_self _ he2 (Obj.isFreed_of_fields hd3),ob,_,?_,hobd,?_⟩
 · obtain⟨sl,q⟩:=hs1.2.2 b o hb;exact⟨sl,keep b _ hbe q⟩
 · rw[Heap.get?_update_other _ _ (Ne.symm hTe)];exact Heap.get?_push_size g1 hof
 · simp
theorem JO {base:Heap}{env:Env}{outer:List Env}{L e:Addr}{oe:Obj}{vs:Array Value}{tb:Value}{Q:Unit->Shared->Prop}
   (hfr:A.frames=some (env::outer)) (hl:s.heap.FunFrames base (env::outer)) (hf:env.frame=some L)
   (he:s.heap.get? e=some oe) (hd:oe.data=.fields vs) (h1:vs[1]?=some tb) (ht:tb=.none∨∃ T,tb=.ref T∧TbO T s.heap)
   (h:∀ h' T,qat (frs (env::outer)) e oe s.heap h' T (rawInt L)->Q () { s with heap:=h' }):wpAny M A (noteFrame (.ref e) env) Q E s:=by
 unfold noteFrame;simp only[hf];refine wpAny_bind (wpAny_field he hd h1 ?_);have hsz:=(Array.getElem?_eq_some_iff.mp h1).1;rcases ht with rfl|⟨T,rfl,oT,ts,hT,hdT,h3⟩
 · rw[if_neg (by decide)];exact Zd hfr hl hf he hd hsz h
 · rw[if_pos (show (Value.ref T != Value.none)=true from by simp)];refine wpAny_bind (wpAny_field hT hdT h3 ?_);rw[if_neg (show ¬ ((Value.none == rawInt L)=true) from by simp[rawInt])];refine wpAny_bind (wpAny_setField hT hdT (Array.getElem?_eq_some_iff.mp h3).1 ?_);rw[Heap.update_setField_same s.heap T oT ts 3 Value.none hT hdT h3];exact Zd hfr hl hf he hd hsz h
theorem JS {base:Heap}{env:Env}{outer:List Env}{L e:Addr}{oe:Obj}{vs:Array Value}{tb:Value}{Q:Unit->Shared->Prop}
   (hfr:A.frames=some (env::outer)) (hl:s.heap.FunFrames base (env::outer)) (hf:env.frame=some L)
   (he:s.heap.get? e=some oe) (hd:oe.data=.fields vs) (h1:vs[1]?=some tb) (ht:tb=.none∨∃ T,tb=.ref T∧TbO T s.heap)
   (h:∀ h' T,qat (frs (env::outer)) e oe s.heap h' T .none->Q () { s with heap:=h' }) :
   wpAny M A (noteFrame (.ref e) env) (fun _ s2=>wpAny M A (setFlight (.ref e) none) Q E s2) E s:=by
 refine JO hfr hl hf he hd h1 ht fun h' T K=>?_;obtain⟨k1,k2,k3,k4,oT,ts,k5,k6,k7⟩:=K;have hsz:=(Array.getElem?_eq_some_iff.mp h1).1;have h3:3 < ts.size:=(Array.getElem?_eq_some_iff.mp k7).1;have hTe:e≠T:=by rw[k1];exact Nat.ne_of_lt (Heap.lt_size he)
 unfold setFlight;refine wpAny_bind (wpAny_field k4 (Obj.data_mapFields hd _) (x:=.ref T) (by simp[hsz]) ?_);rw[if_pos (show (Value.ref T != Value.none)=true from by simp)];refine wpAny_setField k5 k6 h3 (h _ T ⟨k1,fun b o hbe hbL hb=>?_,fun b o hbe hb=>?_,?_,_,_,Heap.get?_update_self _ k5 (Obj.isFreed_of_fields (Obj.data_mapFields k6 _)),Obj.data_mapFields k6 _,by simp[h3]⟩)
 · have:T≠b:=by rw[k1];exact Nat.ne_of_gt (Heap.lt_size hb)
   rw[Heap.get?_update_other _ _ this];exact k2 b o hbe hbL hb
 · have:T≠b:=by rw[k1];exact Nat.ne_of_gt (Heap.lt_size hb)
   rw[Heap.get?_update_other _ _ this];exact k3 b o hbe hb
 · rw[Heap.get?_update_other _ _ (Ne.symm hTe)];exact k4
end
section
variable {X:Cx}{pins:List (Addr×Obj)}{σ:St}{H:Hp}{s:Shared}{ea C:Addr}{dx:Option Addr}
def zB (H:Hp) (ea C:Addr) (dx:Option Addr) (T:Addr):Hp:=upd (upd H ea (.ext (ExO ea C dx (.ref T)))) T (.ext (TbO T))
theorem QM {T:Addr}{b:Addr}{o:HO} (hT:H T=none) (hb:b≠ea) (e:H b=some o):zB H ea C dx T b=some o:=by
 unfold zB;rw[qb (qe e hT),qb hb];exact e
theorem JT {T:Addr} (hT:H T=none) (hne:T≠ea):XAt (zB H ea C dx T) ea C dx:=by
 refine⟨.ref T,?_,.inr ⟨T,rfl,?_,hne⟩⟩
 · unfold zB;rw[qb (Ne.symm hne),qd]
 · unfold zB;rw[qd]
theorem JR {M:Model}{A:Around}{E:Value->Shared->Prop}{Q:Unit->Shared->Prop} (I:Inv X pins σ H s) (hst:X.stack=X.env::X.outer) (hf:X.env.frame=some X.env.locals) (hfr:A.frames=some X.stack) (x:XAt H ea C dx)
   (h:∀ s' T,H T=none->T≠ea->Inv X pins σ (zB H ea C dx T) s'->Q () s') :
   wpAny M A (noteFrame (.ref ea) X.env) (fun _ s2=>wpAny M A (setFlight (.ref ea) none) Q E s2) E s:=by
 obtain⟨tb,e1,e2⟩:=x;obtain⟨⟨oe,vs,he,hc,hdx,hd,hz,h1,hx2⟩,_,_⟩:=(show ObjOk X.prog X.w H s.heap ea (.ext (ExO ea C dx tb)) from I.hok ea _ e1)
 have ht:tb=.none∨∃ T,tb=.ref T∧TbO T s.heap:=by
   rcases e2 with e2|⟨T,e2,e3,_⟩
   · exact .inl e2
   · obtain⟨q,_,_⟩:=(show ObjOk X.prog X.w H s.heap T (.ext (TbO T)) from I.hok T _ e3)
     exact .inr ⟨T,e2,q⟩
 have hl:=I.stack;rw[hst]at hl hfr;have hea:ea∉frs X.stack:=fun z=>by have:=I.stkFree ea z;rw[e1]at this;cases this
 refine JS hfr hl hf he hd h1 ht fun h' T K=>?_;obtain⟨k1,k2,k3,k4,oT,ts,k5,k6,k7⟩:=K;rw[← hst]at k2;have hT:H T=none:=I.hok.fresh (by rw[k1];exact Nat.le_refl _);have hTe:T≠ea:=by rw[k1];exact Nat.ne_of_gt (Heap.lt_size he)
 have nT:∀ b ob,s.heap.get? b=some ob->b≠T:=fun b ob e=>by rw[k1];exact Nat.ne_of_lt (Heap.lt_size e)
 have trk:∀ b u,H b=some u->b∉frs X.stack:=fun b u e z=>by have:=I.stkFree b z;rw[e]at this;cases this
 have nex:∀ b u,H b=some u->(∀ φ,u≠.ext φ)->b≠ea:=fun b u e n z=>by subst z;rw[e1]at e;cases e;exact n _ rfl
 have old:∀ b u,H b=some u->(∀ φ,u≠.ext φ)->zB H ea C dx T b=some u:=fun b u e n=>QM hT (nex b u e n) e
 have un:Un (frs X.stack) [] H (zB H ea C dx T) s.heap h':=by
   refine⟨fun b o e n hb _=>k2 b o (fun z=>by subst z;rw[e1]at n;cases n) hb e,fun b o e n hb _=>k3 b o (fun z=>by subst z;rw[e1]at n;cases n) e,fun b o e n _=>?_,fun b o e _=>?_,
     fun b xs e=>old b _ e fun φ z=>(nomatch z),fun b o u e=>old b _ e fun φ z=>(nomatch z),fun b ps e=>⟨#[],by rw[old b _ e fun φ z=>(nomatch z)];simp⟩⟩
   · unfold zB;rw[qb (nT b o e),qb fun z=>by subst z;rw[e1]at n;cases n];exact n
   · by_cases z:b=ea
     · subst z;exact⟨_,k4⟩
     · obtain⟨sl,q⟩:=k3 b o z e;exact⟨_,q⟩
 have hok:HOk X.prog X.w (zB H ea C dx T) h':=fun b u e=>by
   by_cases z:b=T
   · subst z;unfold zB at e;rw[qd]at e;cases e;exact qcq ⟨oT,ts,k5,k6,k7⟩
   · by_cases z2:b=ea
     · subst z2;unfold zB at e;rw[qb z,qd]at e;cases e;refine jN ⟨_,_,k4,(Obj.cls_mapFields _ _).trans hc,?_,Obj.data_mapFields hd _,by simp[hz],by simp[hz],by rw[Array.getElem?_setIfInBounds_ne (by decide)];exact hx2⟩;rw[← hdx];obtain⟨oc,od,odt,osl⟩:=oe;have hd':odt=.fields vs:=hd;subst hd';rfl
     · have e':H b=some u:=by
         unfold zB at e;rw[qb z,qb z2]at e;exact e
       refine(I.hok b u e').stay (fun c v hc q=>?_) (fun c q=>old c _ q fun φ z=>(nomatch z)) fun c xs q=>old c _ q fun φ z=>(nomatch z)
       rcases hc with hc|hc
       · subst hc;exact k2 c v z2 (trk c u e') q
       · exact k2 c v (nex c _ hc fun φ z=>(nomatch z)) (trk c _ hc) q
 exact h _ T hT hTe (I.call' (s':={ s with heap:=h' }) rfl un hok I.bare fun b z=>absurd z (by simp))
def Sure (E:XK) (C ea:Addr) (dx:Option Addr) (H:Hp):Prop:=∀ H',(∀ b o,b≠ea->H b=some o->H' b=some o)->XAt H' ea C dx->E (.ref C) (some ea) H'
theorem Sure.look {E:XK}{T:Addr} (h:Sure E C ea dx H) (hT:H T=none):Sure E C ea dx (zB H ea C dx T):=fun H' k x=>h H' (fun b o hb e=>k b o hb (QM hT hb e)) x
inductive qc2 (P:Program) (w:World) (outer:List Env) (H:Hp) (s:Shared) (E:XK) (e:Value) (s':Shared):Prop
 | mk (ea C dx H':_) (h1:e=.ref ea) (h2:s'.os=s.os) (h3:AllBare s'.gens) (h4:Un (frs outer) [] H H' s.heap s'.heap) (h5:HOk P w H' s'.heap) (h6:XAt H' ea C dx) (h7:Sure E C ea dx H'):qc2 P w outer H s E e s'
def CX1 (P:Program) (w:World):CXT:=fun outer H s E e s'=>qc2 P w outer H s E e s'
def Throws (X:Cx) (E:XK):Prop:=∀ (pins:List (Addr×Obj)) (σ:St) (H:Hp) (s:Shared) (ea C:Addr) (dx:Option Addr),Inv X pins σ H s->XAt H ea C dx->Sure E C ea dx H->X.xe (.ref ea) s
theorem Throws.passes {E:XK} (t:Throws X E):Z1 (CX1 X.prog X.w) X E:=by
 intro pins σ H s e s' I ⟨ea,C,dx,H',e1,os,bare,un,hok,x,q⟩;subst e1;exact t pins σ H' s' ea C dx (I.call' os un hok bare fun b z=>absurd z (by simp)) x q
theorem throws_cx {P:Program}{w:World}{K:Frag}{mg:Str->Option Value}{base:Heap}{N:List Str}{qual:Str}{scope:Scope}{f:Addr}{cd:Value}{A:Around}{outer:List Env}{s₀:Shared}{H₀:Hp}{E:XK} :
   Throws (zU (CX1 P w) P w K mg base N qual scope f cd A outer s₀ H₀ E) E:=by
 intro pins σ H s ea C dx I x q;show wpAny _ _ (leaving _ _) _ _ _;unfold leaving;refine wpAny_bind (JR I rfl rfl I.ok.frames x fun s' T hT hne J=>?_);exact⟨ea,C,dx,_,rfl,J.os,J.bare,J.base,J.hok,JT hT hne,q.look hT⟩
end
def tyS:Value->String
 | .type a=>a
 | _=>""
theorem qcp {v:Value}{s:String} (h:tyS v=s) (n:s≠""):v=.type s:=by
 cases v with
 | type a=>exact congrArg _ h
 | _=>exact absurd h.symm n
theorem qbH {l:List Value}:∀ {ss:List String},l.map tyS=ss->(∀ s∈ss,s≠"")->l=ss.map Value.type:=by
 induction l with
 | nil=>intro ss h _;rw[← h];rfl
 | cons v l ih =>
   intro ss h n
   cases ss with
   | nil=>cases h
   | cons s ss =>
     have h1:tyS v=s:=(List.cons.inj h).1;have h2:l.map tyS=ss:=(List.cons.inj h).2;rw[qcp h1 (n s List.mem_cons_self),ih h2 fun x m=>n x (List.mem_cons_of_mem _ m)];rfl
def Qn:List Value->Bool
 | []=>false
 | x::r=>match x with
   | .ref _=>Qn r
   | _=>(x::r).map tyS == ["ValueError","Exception","BaseException","object"]
theorem QA {l:List Value} (e:Qn l=true):(∃ c r,l=.ref c::r∧Qn r=true)∨l=[.type "ValueError",.type "Exception",.type "BaseException",.type "object"]:=by
 cases l with
 | nil=>cases e
 | cons x r =>
   unfold Qn at e;split at e
   · exact .inl ⟨_,r,rfl,e⟩
   · exact .inr (qbH (eq_of_beq e) (by decide))
theorem zg {T:String}{v:Bool} (h4:([.type "ValueError",.type "Exception",.type "BaseException",.type "object"]:List Value).contains (.type T)=v) {l:List Value}:Qn l=true->l.contains (.type T)=v:=by
 induction l with
 | nil=>intro e;cases e
 | cons x r ih =>
   intro e;rcases QA e with ⟨c,r',h,e'⟩|h
   · cases h;rw[List.contains_cons,ih e',show (Value.type T == Value.ref c)=false from rfl,Bool.false_or]
   · rw[h];exact h4
inductive qbA (K:Frag) (C:Addr):Prop
 | mk (nm qn:Str) (N:Addr) (bs bm:List Value) (sn:List Str) (sub:List Value) (ab:Bool) (col:Option Bool) (dd:Option Addr) (k0 k1 k2 k3 k5:Option Value) (h1:K.lookup C=some (excClassObj nm qn C N bs bm true sn sub ab col dd k0 k1 k2 k3 k5 "ValueError.__new__")) (h2:Qn bm=true):qbA K C
def qdE (K:Frag) (C:Addr):Prop:=qbA K C
noncomputable def xIn (K:Frag) (C:Addr):Bool:=@decide (qdE K C) (Classical.propDecidable _)
theorem xIn_iff {K:Frag}{C:Addr}:xIn K C=true↔qdE K C:=@decide_eq_true_iff (qdE K C) (Classical.propDecidable _)
theorem qc4 {K:Frag}{h:Heap}{C:Addr} (X:K.In h) (q:xIn K C=true):∃ nm qn N bs bm sn sub ab col dd k0 k1 k2 k3 k5,
   h.get? C=some (excClassObj nm qn C N bs bm true sn sub ab col dd k0 k1 k2 k3 k5 "ValueError.__new__")∧Qn bm=true:=by
 obtain⟨nm,qn,N,bs,bm,sn,sub,ab,col,dd,k0,k1,k2,k3,k5,ho,hx⟩:=xIn_iff.mp q;exact⟨nm,qn,N,bs,bm,sn,sub,ab,col,dd,k0,k1,k2,k3,k5,X _ _ ho,hx⟩
section
variable {M:Model}{A:Around}{E:Value->Shared->Prop}{h:Heap}{g:Array GenState}{d:Drawn}{t:Nat}{os:OsState}
variable {nm q:Str}{C N:Addr}{bs bm bmB:List Value}{sn:List Str}{sub:List Value}{ab:Bool}{col:Option Bool}{dd:Option Addr}{k0 k1 k2 k3 k5:Option Value}{B newId initId:String}
theorem Z3 (F:ExcBaseFacts B newId initId bmB) {rest:List Value}{Q:Unit->Shared->Prop} (hC:h.get? C=some (excClassObj nm q C N bs bm true sn sub ab col dd k0 k1 k2 k3 k5 newId))
   (hcont:(Value.ref C::bm).contains (.type B)=true) (hq:Q () ⟨h,g,d,t,os⟩):wpAny M A (checkBuiltinCall newId ⟨.ref C::rest,[]⟩) Q E ⟨h,g,d,t,os⟩:=by
 have hstar:=F.noStar;simp only[checkBuiltinCall,F.newKind,F.newSplit,F.newRow]
 repeat (first
   | refine wpAny_loadPart_at hC ?_
   | (refine wpAny_isSubtype_exc hC ?_;rw[hcont])
   | refine wpAny_staticBase_exc hC ?_
   | refine wpAny_madeBy_exc hC ?_
   | simp only[bne_self_eq_false,Bool.false_eq_true,if_false]
   | wp_step)
 exact hq
end
section
variable {prog:Program}{w:World}{A:Around}{R:Result->Shared->Prop}{E:Value->Shared->Prop}{h:Heap}{g:Array GenState}{d:Drawn}{t:Nat}{os:OsState}
variable {nm q:Str}{C N:Addr}{bs bm bmB:List Value}{sn:List Str}{sub:List Value}{ab:Bool}{col:Option Bool}{dd:Option Addr}{k0 k1 k2 k3 k5:Option Value}{B newId initId:String}
abbrev zT (C:Addr) (t:Addr):Obj:={ cls:=.ref C,data:=.fields #[.ref t,.none,.none,.none,.bool false,.none] }
theorem qc6 (F:ExcBaseFacts B newId initId bmB) {rest:List Value} (hC:h.get? C=some (excClassObj nm q C N bs bm true sn sub ab col dd k0 k1 k2 k3 k5 newId))
   (hcB:(Value.ref C::bm).contains (.type B)=true) (hcA:(Value.ref C::bm).contains (.type "AttributeError")=false) (hcN:(Value.ref C::bm).contains (.type "NameError")=false)
   (hq:R (.ok (.ret (.ref (h.objs.size+1)))) ⟨(h.push { cls:=.type "tuple",data:=.seq rest.toArray }).push (zT C h.objs.size),g,d,t,os⟩) (hrest:rest.length≤sizeLine) :
   codeAny (model prog w) A (.builtin newId ⟨.ref C::rest,[]⟩) R ⟨h,g,d,t,os⟩:=by
 have hends:=F.ends;refine codeAny_builtinAt F.entry ?_;unfold Builtin.«BaseException.__new__»;refine PySem.wpAt_bind ?_;show PySem.wpAt _ _ _ (stack >>= _) _ _ _;refine PySem.wpAt_bind (PySem.wpAt_stack fun p below=>PySem.wpAt_of_wpAny ?_)
 wp_walk
 refine PySem.wpAt_of_wpAny ?_;rw[F.owner]
 repeat (first
   | with_reducible refine wpAny_madeHere_exc F.canon hC ?_
   | with_reducible refine wpAny_loadPart_at hC ?_
   | (with_reducible refine wpAny_isSubtype_exc hC ?_;first|rw[hcB]|rw[hcA]|rw[hcN])
   | wp_step)
 show R _ _;rw[Heap.size_push];exact hq
theorem qcm {K:Frag}{rest:List Value}{fI:Addr}{Q:Value->Shared->Prop} (X:K.In h) (xi:xIn K C=true)
   (hi:findIn K (.ref C) "__init__"=some (some (.ref fI))) (hf:typeIn K (.ref fI)=some (.type "function"))
   (hq:wpAny (model prog w) (A.under (.builtin "type.__call__" ⟨.ref C::rest,[]⟩)) (call (.ref fI) (.ref (h.objs.size+1)::rest)) (fun r s'=>r=.none∧Q (.ref (h.objs.size+1)) s') E
     ⟨(h.push { cls:=.type "tuple",data:=.seq rest.toArray }).push (zT C h.objs.size),g,d,t,os⟩) (hrest:rest.length≤sizeLine) :
   wpAny (model prog w) A (call (.ref C) rest) Q E ⟨h,g,d,t,os⟩:=by
 obtain⟨nm,qn,N,bs,bm,sn,sub,ab,col,dd,k0,k1,k2,k3,k5,hC,hx⟩:=qc4 X xi;have F:=PySem.F.excBase_ValueError;have f1:=tc_lookup;have f2:=tc_bind (.ref C);have hT:(⟨h,g,d,t,os⟩:Shared).TypeIs (.ref C) "type":=⟨_,hC,rfl⟩
 have hcB:(Value.ref C::bm).contains (.type "ValueError")=true:=by rw[List.contains_cons,zg (v:=true) (by decide +kernel) hx,Bool.or_true]
 have hcA:(Value.ref C::bm).contains (.type "AttributeError")=false:=by rw[List.contains_cons,zg (v:=false) (by decide +kernel) hx];rfl
 have hcN:(Value.ref C::bm).contains (.type "NameError")=false:=by rw[List.contains_cons,zg (v:=false) (by decide +kernel) hx];rfl
 refine wpAny_call (codeAny_of_tree ?_);show wpAny _ _ (callAny (.ref C) _) _ _ _
 repeat (any_goals (first
   | assumption
   | with_reducible refine wpAny_loadPart_at hC ?_
   | wp_step))
 refine⟨rfl,?_⟩;refine codeAny_call_builtin_at (Code.quiet_builtin _ (by decide +kernel)) entry_typeCall (wpAny_check_type_call_sub hC ?_)
 repeat (first
   | with_reducible refine wpAny_loadPart_at hC ?_
   | with_reducible refine wpAny_madeBy_exc hC ?_
   | wp_step)
 refine codeAny_call_builtin_code (Code.quiet_builtin _ F.quiet) (Z3 F hC hcB ?_);refine qc6 F hC hcB hcA hcN ?_ hrest;show wpAny _ _ _ _ _ (⟨(h.push { cls:=.type "tuple",data:=.seq rest.toArray }).push (zT C h.objs.size),g,d,t,os⟩:Shared);have kp:∀ b o,h.get? b=some o->((h.push { cls:=.type "tuple",data:=.seq rest.toArray }).push (zT C h.objs.size)).get? b=some o:=fun b o e=>Heap.get?_push_of_some _ (Heap.get?_push_of_some _ e);have hC1:=kp _ _ hC;have X1:=X.keeps kp;have hget:((h.push { cls:=.type "tuple",data:=.seq rest.toArray }).push (zT C h.objs.size)).get? (h.objs.size+1)=some (zT C h.objs.size):=by heap_get
 have hcC:(Value.ref C::bm).contains (.ref C)=true:=by simp
 unfold isInstance
 repeat (first
   | with_reducible refine wpAny_loadPart_at hget ?_
   | (show wpAny _ _ (isSubtype (.ref C) _) _ _ _;with_reducible refine wpAny_isSubtype_exc hC1 ?_;rw[hcC])
   | wp_step)
 show wpAny _ _ (typeLookup (.ref C) _) _ _ _;refine(looks_findIn X1 hi).at ?_;refine wpAny_holding (wpAny_bind ((PySem.W.bind_fn X1 _ hf).at ?_));refine wpAny_bind (wpAny_mono hq (fun r s' hr=>?_) fun _ _ x=>x);obtain⟨rfl,hQ⟩:=hr
 wp_walk
 exact hQ
end
theorem xcd {K:Frag}{C:Addr} (q:xIn K C=true):∃ cd bm,clsIn K C=some cd∧cd.mro=.ref C::bm∧Qn bm=true∧cd.hasDict=true:=by
 obtain⟨nm,qn,N,bs,bm,sn,sub,ab,col,dd,k0,k1,k2,k3,k5,ho,hx⟩:=xIn_iff.mp q
 have e:∃ cd,clsIn K C=some cd∧cd.mro=.ref C::bm∧cd.hasDict=true:=by
   unfold clsIn;rw[ho];exact⟨_,rfl,rfl,rfl⟩
 obtain⟨cd,h1,h2,h3⟩:=e;exact⟨cd,bm,h1,h2,hx,h3⟩
theorem qcl {K:Frag}{C:Addr}{T:String} (q:xIn K C=true) (h4:([.type "ValueError",.type "Exception",.type "BaseException",.type "object"]:List Value).contains (.type T)=true):mroIn K C (.type T)=some true:=by
 obtain⟨cd,bm,h1,h2,h3,_⟩:=xcd q;unfold mroIn;rw[h1,Option.bind_some,h2,if_neg (by simp),List.contains_cons,zg h4 h3,Bool.or_true]
section
variable {M:Model}{A:Around}{E:Value->Shared->Prop}{s:Shared}{env:Env}
theorem qbB {x:Sem Value}{Q:Flow->Shared->Prop} (hh:A.handled=none)
   (h:wpAny M A x (fun v s1=>∃ (ea C:Addr) (o:Obj) (vs:Array Value) (K:Frag),v=.ref ea∧K.In s1.heap∧xIn K C=true∧s1.heap.get? ea=some o∧o.cls=.ref C∧o.data=.fields vs∧vs[1]?=some .none∧E (.ref ea) s1) E s) :
   wpAny M A (raiseStmt env (some x) none) Q E s:=by
 unfold raiseStmt;refine wpAny_bind (wpAny_mono h (fun v s1 h1=>?_) fun _ _ x=>x);obtain⟨ea,C,o,vs,K,rfl,X,xi,he,hc,hd,hv,hE⟩:=h1;obtain⟨nm,qn,N,bs,bm,sn,sub,ab,col,dd,k0,k1,k2,k3,k5,hC,hx⟩:=qc4 X xi;have hcB:(Value.ref C::bm).contains (.type "BaseException")=true:=by rw[List.contains_cons,zg (v:=true) (by decide +kernel) hx,Bool.or_true]
 obtain⟨oc,od,odt,osl⟩:=o;dsimp only at hc hd;subst hc hd;obtain⟨hp,g,d,tk,os⟩:=s1
 repeat (first
   | with_reducible refine wpAny_field he rfl hv ?_
   | with_reducible refine wpAny_loadPart_at he ?_
   | with_reducible refine wpAny_loadPart_at hC ?_
   | (with_reducible refine wpAny_isSubtype_exc hC ?_;rw[hcB])
   | wp_step)
 exact wpAny_raiseNew_none hh hE
end
section
variable {prog:Program}{w:World}{A:Around}{E:Value->Shared->Prop}{s:Shared}{K:Frag}{C x:Addr}{ox:Obj}{name:Str}{v:Value}
theorem qbE {rest:List Value}{vs:Array Value}{Q:Value->Shared->Prop} (X:K.In s.heap) (xi:xIn K C=true) (hx:s.heap.get? x=some ox) (hc:ox.cls=.ref C) (hd:ox.data=.fields vs) (hz:vs.size=6) (hl:rest.length≤sizeLine)
   (h:∀ h' tp,(∀ b o,b≠x->s.heap.get? b=some o->h'.get? b=some o)->h'.get? x=some (ox.mapFields (·.setIfInBounds 0 tp))->Q .none { s with heap:=h' }) :
   wpAny (model prog w) A (call (.builtin "ValueError.__init__") (.ref x::rest)) Q E s:=by
 obtain⟨hp,g,d,tk,os⟩:=s;have F:=PySem.F.excBase_ValueError;obtain⟨nm,qn,N,bs,bm,sn,sub,ab,col,dd,k0,k1,k2,k3,k5,hC,hxt⟩:=qc4 X xi;have hcB:(Value.ref C::bm).contains (.type "ValueError")=true:=by rw[List.contains_cons,zg (v:=true) (by decide +kernel) hxt,Bool.or_true]
 have hshort:=F.noStar
 have chk:wpAny (model prog w) A.in1 (checkBuiltinCall "ValueError.__init__" ⟨.ref x::rest,[]⟩) (fun _ s'=>s'=⟨hp,g,d,tk,os⟩) (fun _ _=>False) ⟨hp,g,d,tk,os⟩:=by
   simp only[checkBuiltinCall,F.initKind,F.initSplit,F.initRow]
   repeat (first
     | (with_reducible refine wpAny_loadPart_at hx ?_;rw[hc])
     | with_reducible refine wpAny_loadPart_at hC ?_
     | (with_reducible refine wpAny_isSubtype_exc hC ?_;rw[hcB])
     | wp_step)
   refine wpAny_onRaise ?_
   rw[show ∀ (a b:String) (n:Nat),Bind.check ⟨.positional,"*","ValueError",.self,[⟨"args",.varPos,false⟩]⟩ a b n (List.map (fun x=>x.fst) ({ pos:=Value.ref x::rest }:Args).kw)=pure () from
     fun a b n=>check_star_args _ _ _ _ _ _]
   exact wpAny_pure rfl
 refine wpAny_call (codeAny_call_builtin F.init.plain F.initEntry (wpAny_mono chk (fun _ s1 e=>?_) fun _ _ z=>z.elim));subst e;unfold Builtin.«BaseException.__init__»
 repeat (first
   | with_reducible refine wpAny_loadPart_at hx ?_
   | wp_step)
 obtain⟨a0,h0⟩:∃ a0,vs[0]?=some a0:=⟨_,Array.getElem?_eq_getElem (by omega)⟩
 rw[hd];refine wpAny_pure ?_;rw[h0];refine wpAny_pure ?_;have hx1:(hp.push { cls:=.type "tuple",data:=.seq rest.toArray }).get? x=some ox:=Heap.get?_push_of_some _ hx;refine wpAny_bind (wpAny_setField hx1 hd (by omega) ?_)
 have fin:=h ((hp.push { cls:=.type "tuple",data:=.seq rest.toArray }).update x (Obj.mapFields (·.setIfInBounds 0 (.ref hp.objs.size)))) (.ref hp.objs.size) (fun b o hb e=>by
   rw[Heap.get?_update_other _ _ (Ne.symm hb)]
   exact Heap.get?_push_of_some _ e) (Heap.get?_update_self _ hx1 (Obj.isFreed_of_fields (Obj.data_mapFields hd _)))
 cases a0<;>(repeat wp_step)<;>exact fin
end
theorem qav (self:Value) {l:List Value}:Qn l=true->refuseLoop self "__setattr__" l=pure ():=by
 induction l with
 | nil=>intro e;cases e
 | cons x r ih =>
   intro e;rcases QA e with ⟨c,r',h,e'⟩|h
   · cases h;rw[refuseLoop_ref];exact ih e'
   · rw[h];exact PySem.F.store_ValueError.passes self
section
variable {prog:Program}{w:World}{A:Around}{E:Value->Shared->Prop}{s:Shared}{K:Frag}{C x:Addr}{ox:Obj}{name:Str}{v:Value}
theorem qc5 {vs:Array Value}{Q:Unit->Shared->Prop} (X:K.In s.heap) (xi:xIn K C=true) (hx:s.heap.get? x=some ox) (hc:ox.cls=.ref C) (hd:ox.data=.fields vs) (hdn:ox.dict=none)
   (hs:findIn K (.ref C) "__setattr__"=some (some (.builtin "object.__setattr__"))) (ha:findIn K (.ref C) name=some none)
   (h:∀ h' dx,s.heap.objs.size≤dx->h'.get? x=some { ox with dict:=some dx }->h'.Ns1 dx (fun y=>if y=name then some v else none)->(∀ b o,b≠x->s.heap.get? b=some o->h'.get? b=some o) ->
     Q () { s with heap:=h',toks:=s.toks+2 }) :
   wpAny (model prog w) A (setAttr (.ref x) name v) Q E s:=by
 have SF:=PySem.F.store_object;obtain⟨cd,bm,hcd,hmro,hxt,hdict⟩:=xcd xi;have I:InstAt s.heap x ox C none:=⟨hx,hc,by unfold notCls;rw[hd],by rw[hdn];exact True.intro⟩
 refine PySem.W.set_plain X I hs ?_;have sub:Looks (model prog w) s.heap (isInstance (.ref x) (.type "object")) true:=I.type.andThen (looks_mroIn X (qcl xi (by decide +kernel)));refine codeAny_call_builtin SF.slot.plain SF.entry (@check_slot (model prog w) _ _ { s with toks:=s.toks+1 } "object.__setattr__" "object" "__setattr__" (.ref x) [.str name s.toks,v] [] _ SF.kind SF.split sub (SF.args (.ref x) (.str name s.toks) v) ?_);have hm:Looks (model prog w) s.heap (mroOf (.ref C)) cd.mro:=(looks_clsIn X hcd).andThen .now;rw[PySem.W.osa_eq,refuse_eq];refine wpAny_bind (wpAny_bind (I.type.here (s:={ s with toks:=s.toks+1 }) (wpAny_bind (hm.here (s:={ s with toks:=s.toks+1 }) ?_))));rw[hmro,refuseLoop_ref,qav _ hxt];refine wpAny_pure (wpAny_bind (I.type.here (s:={ s with toks:=s.toks+1 }) (wpAny_bind ((looks_findIn X ha).here (s:={ s with toks:=s.toks+1 }) (wpAny_bind (wpAny_pure ?_))))));dsimp only;unfold PySem.Builtin.ObjectAttr.storeInOwnDict;refine wpAny_bind (wpAny_pure ?_);rw[if_neg (by simp)];refine wpAny_bind (wpAny_bind (wpAny_loadPart hx ?_));rw[hc];dsimp only;refine wpAny_bind ((looks_clsIn X hcd).here (s:={ s with toks:=s.toks+1 }) ?_);rw[hdict,hdn,if_neg (by decide)];dsimp only;rw[if_neg (by simp[typeHasDict]),hd];dsimp only;have hx1:(s.heap.push { cls:=.type "dict",data:=.dict #[] }).get? x=some ox:=Heap.get?_push_of_some _ hx;have hxs:x≠s.heap.objs.size:=Nat.ne_of_lt (Heap.lt_size hx);refine wpAny_bind (wpAny_alloc' ?_);refine wpAny_bind (wpAny_update' hx1 ?_);refine wpAny_pure (a:=some s.heap.objs.size) ?_;generalize hg:((s.heap.push { cls:=.type "dict",data:=.dict #[] }).update x fun o=>{ cls:=o.cls,dict:=some s.heap.objs.size,data:=o.data,slots:=o.slots })=g1
 have hgd:g1.get? s.heap.objs.size=some { cls:=.type "dict",data:=.dict #[] }:=by
   rw[← hg];exact(Heap.get?_update_ne _ _ _ _ hxs.symm).trans (Heap.get?_push_at rfl rfl)
 have hnd:g1.Ns s.heap.objs.size (fun _=>none):=⟨_,#[],_,hgd,rfl,fun e he=>absurd he (by simp),fun _=>rfl⟩
 have hgx:g1.get? x=some { ox with dict:=some s.heap.objs.size }:=by
   rw[← hg];refine Heap.get?_update_self _ hx1 ?_;have hfr:=(Heap.get?_some_iff.mp hx).2;obtain⟨oc,od,odt,osl⟩:=ox;cases odt<;>first|rfl|exact hfr
 have hgo:∀ b o,b≠x->s.heap.get? b=some o->g1.get? b=some o:=fun b o hb e=>by
   rw[← hg];exact(Heap.get?_update_ne _ _ _ _ hb).trans (Heap.get?_push_of_some _ e)
 show wpAny _ _ (PySem.Builtin.ObjectAttr.storeInDict s.heap.objs.size (.str name s.toks) name v) _ _ _;unfold PySem.Builtin.ObjectAttr.storeInDict PySem.Builtin.ObjectAttr.newKeyGuard;refine wpAny_bind (wpAny_pure (wpAny_bind (wpAny_nsSet1 (Heap.Ns1.of_empty hnd) fun h' hn' hs'=>?_)));obtain⟨oD,esD,epD,hoD,hdD,hcD⟩:=hn'.count (Within.cons name v Within.nil);refine wpAny_bind (wpAny_lookBehind hoD (by rw[hdD];exact pastItsLine_dict (Nat.le_trans hcD (by rw[List.length_cons,List.length_nil,sizeLine_eq];omega))) ?_);refine wpAny_pure (h h' s.heap.objs.size (Nat.le_refl _) ((hs'.2 x hxs).trans hgx) hn' fun b o hb e=>(hs'.2 b (Nat.ne_of_lt (Heap.lt_size e))).trans (hgo b o hb e))
end
section
variable {prog:Program}{w:World}{A:Around}{E:Value->Shared->Prop}{s:Shared}{K:Frag}{C x:Addr}{ox:Obj}{od:Option Obj}{name:Str}{v:Value}
theorem Ji {tk:Tok}{fill expr:Bool}{Q:Value->Shared->Prop} (X:K.In s.heap) (I:InstAt s.heap x ox C od) (xi:xIn K C=true)
   (hga:findIn K (.ref C) "__getattribute__"=some (some (.builtin "BaseException.__getattribute__"))) (hna:findIn K (.ref C) "__getattr__"=some none)
   (h:wpAny (model prog w) A.in1 (Builtin.«object.__getattribute__» ⟨[.ref x,.str name tk],[]⟩) (fun fin s'=>match fin with|.done (.ret v)=>wpAny (model prog w) A (handedOut v) Q E s'|_=>False) (fun _ _=>False) s) :
   wpAny (model prog w) A (getAttrBy (.ref x) (.str name tk) fill expr) Q E s:=by
 have hx2:(Value.builtin "BaseException.__getattribute__" == Value.builtin "object.__getattribute__")=false:=by decide +kernel
 unfold getAttrBy;refine wpAny_holding (wpAny_bind (I.type.here (wpAny_bind ((looks_findIn X hga).here ?_))));dsimp only;rw[hx2,Bool.and_false,if_neg (by decide)];unfold getAttrByItsOwn;refine wpAny_bind ((PySem.W.looks_hook X (r:=none) (by rw[if_pos (by rfl)];exact hna)).here (wpAny_bind (wpAny_attempt (wpAny_holding ?_))));unfold callGetattribute;rw[show (expr && onTheHeap (Value.builtin "BaseException.__getattribute__"))=false from by cases expr<;>rfl,if_neg (by decide)];unfold boundAndCalled;rw[PySem.F.excAttr_ValueError.ga.bind];refine wpAny_bind (wpAny_pure ?_);show wpAny _ _ (call (.builtin "BaseException.__getattribute__") [.ref x,.str name tk]) _ _ _;refine wpAny_call (codeAny_call_builtin PySem.F.excAttr_ValueError.ga.plain PySem.F.entry_bexc_ga ?_);refine @check_slot (model prog w) _ _ s "BaseException.__getattribute__" "BaseException" "__getattribute__" (.ref x) [.str name tk] [] _ (by decide +kernel) (by decide +kernel) (I.type.andThen (looks_mroIn X (qcl xi (by decide +kernel)))) (PySem.F.args_bexc_ga (.ref x) (.str name tk)) ?_;refine wpAny_mono h (fun fin s' z=>?_) fun _ _ z=>z.elim;rcases fin with (_|_|_|_)|_<;>first|exact z|exact z.elim
theorem qc7 {expr:Bool}{Q:Value->Shared->Prop} (X:K.In s.heap) (I:InstAt s.heap x ox C od) (xi:xIn K C=true)
   (hga:findIn K (.ref C) "__getattribute__"=some (some (.builtin "BaseException.__getattribute__"))) (hna:findIn K (.ref C) "__getattr__"=some none)
   (hf:findObj K C od name=some (.value v)) (hh:PySem.W.handedIn v=true) (h:Q v { s with toks:=s.toks+1 }):wpAny (model prog w) A (getAttr (.ref x) name expr) Q E s:=by
 unfold getAttr;refine wpAny_bind (wpAny_mkText (Ji (s:={ s with toks:=s.toks+1 }) X I xi hga hna ?_));have L1:=looks_find (M:=model prog w) X I hf;unfold Builtin.«object.__getattribute__»;refine wpAny_bind (wpAny_pure (wpAny_bind (wpAny_pure (wpAny_bind (I.type.here (s:={ s with toks:=s.toks+1 }) (wpAny_bind (L1.here (s:={ s with toks:=s.toks+1 }) ?_)))))));refine wpAny_pure ?_;show wpAny _ _ (handedOut v) _ _ _;rw[PySem.W.handedOut_of hh];exact wpAny_pure h
end
structure XC (K:Frag) (C:Addr):Prop where
 xi:xIn K C=true
 ga:findIn K (.ref C) "__getattribute__"=some (some (.builtin "BaseException.__getattribute__"))
 na:findIn K (.ref C) "__getattr__"=some none
 sa:findIn K (.ref C) "__setattr__"=some (some (.builtin "object.__setattr__"))
 cl:findIn K (.ref C) "__class__"=some (some (.builtin "object.__class__"))
 gt:specialIn K (.builtin "object.__class__") "__get__"=some (some (.builtin "getset_descriptor.__get__"))
 tk:takesIn K (.builtin "object.__class__")=some true
section
variable {prog:Program}{w:World}{A:Around}{E:Value->Shared->Prop}{s:Shared}{K:Frag}{C x:Addr}{ox:Obj}{od:Option Obj}
theorem qbD {Q:Option Value->Shared->Prop} (X:K.In s.heap) (I:InstAt s.heap x ox C od) (c:XC K C) (hn:specialIn K (.builtin "object.__class__") "__get__"=some (some (.builtin "getset_descriptor.__get__")))
   (htk:takesIn K (.builtin "object.__class__")=some true) (h:Q (some (.ref C)) { s with toks:=s.toks+1 }):wpAny (model prog w) A (getAttr? (.ref x) "__class__") Q E s:=by
 obtain⟨cd,bm,hcd,hmro,hxt,hdict⟩:=xcd c.xi
 have hf:findObj K C od "__class__"=some (.bind (.builtin "getset_descriptor.__get__") (.builtin "object.__class__")):=by
   unfold findObj;rw[hcd,Option.bind_some,c.cl,Option.bind_some];simp[hn,htk]
 have L1:=looks_find (M:=model prog w) X I hf;unfold getAttr? getAttrBy?;refine wpAny_bind (wpAny_mkText (wpAny_bind (wpAny_attempt (Ji (s:={ s with toks:=s.toks+1 }) X I c.xi c.ga c.na ?_))));unfold Builtin.«object.__getattribute__»;refine wpAny_bind (wpAny_pure (wpAny_bind (wpAny_pure (wpAny_bind (I.type.here (s:={ s with toks:=s.toks+1 }) (wpAny_bind (L1.here (s:={ s with toks:=s.toks+1 }) ?_)))))));show wpAny _ _ (holding [.builtin "object.__class__"] (call (.builtin "getset_descriptor.__get__") [.builtin "object.__class__",.ref x,.ref C]) >>= ret) _ _ _;refine wpAny_bind (wpAny_holding (wpAny_call (PySem.W.class_get (s:={ s with toks:=s.toks+1 }) (ox:=ox) (od:=od) X I (qcl c.xi (by decide +kernel)) ?_)));refine wpAny_pure ?_;exact PySem.W.handed_on rfl (wpAny_pure h)
theorem qaw {cc:Value}{dep:Int}{tk:Tok}{b:Bool}{Q:Fin->Shared->Prop} (X:K.In s.heap) (I:InstAt s.heap x ox C od) (c:XC K C) (hn:specialIn K (.builtin "object.__class__") "__get__"=some (some (.builtin "getset_descriptor.__get__")))
   (htk:takesIn K (.builtin "object.__class__")=some true)
   (hty:Looks (model prog w) s.heap (typeOf cc) (.type "type")) (his:Looks (model prog w) s.heap (isType cc) true)
   (hne:(Value.ref C == cc)=true->b=true) (hsub:Looks (model prog w) s.heap (isSubtype (.ref C) cc) b) (h:∀ t,Q (.done (.ret (.bool b))) { s with toks:=t }) :
   wpAny (model prog w) A (Builtin.«isinstance.nested» ⟨[.ref x,cc,.int dep tk],[]⟩) Q E s:=by
 obtain⟨cd,bm,hcd,hmro,hxt,hdict⟩:=xcd c.xi
 have hisD:Looks (model prog w) s.heap (isType (.ref C)) true:=by
   unfold clsIn at hcd;split at hcd
   · rename_i c' d' cd' sl' ho
     intro A' Q' E' s' k q;unfold isType loadHead;exact wpAny_bind (wpAny_loadPart (k _ _ (X _ _ ho)) (wpAny_pure q))
   · cases hcd
 obtain⟨h0,g,d,tt,os⟩:=s;have L0:=I.type (M:=model prog w);have LI:Looks (model prog w) h0 (isInstance (.ref x) cc) b:=L0.andThen hsub;unfold Builtin.«isinstance.nested»;refine wpAny_bind (L0.at ?_);by_cases hq:(Value.ref C == cc)=true
 · rw[if_pos hq];have hb:=hne hq;subst hb;exact wpAny_pure (M:=model prog w) (E:=E) (h tt)
 rw[if_neg hq];refine wpAny_bind (hty.at ?_);rw[if_pos (by decide)]
 k_delta "plainIsInstance"
 refine wpAny_bind (wpAny_bind (his.at ?_));simp only[Bool.not_true,Bool.false_eq_true,if_false];refine wpAny_bind (LI.at ?_)
 cases b with
 | true =>
   simp only[if_true]
   first
     | exact wpAny_pure (h tt)
     | exact wpAny_pure (wpAny_pure (h tt))
     | exact wpAny_bind (wpAny_pure (wpAny_pure (h tt)))
 | false =>
   simp only[Bool.false_eq_true,if_false];refine wpAny_bind (qbD X I c hn htk ?_);refine wpAny_bind (hisD.at ?_);simp only[Bool.not_true,Bool.false_eq_true,if_false];refine wpAny_bind (wpAny_rule ?_);refine hsub.at ?_
   first
     | exact wpAny_pure (h _)
     | exact wpAny_pure (wpAny_pure (h _))
     | exact wpAny_bind (wpAny_pure (wpAny_pure (h _)))
theorem qax {cc:Value}{b:Bool}{Q:Value->Shared->Prop} (X:K.In s.heap) (I:InstAt s.heap x ox C od) (c:XC K C) (hn:specialIn K (.builtin "object.__class__") "__get__"=some (some (.builtin "getset_descriptor.__get__")))
   (htk:takesIn K (.builtin "object.__class__")=some true)
   (hty:∀ (M:Model) h',K.In h'->Looks M h' (typeOf cc) (.type "type")) (his:∀ (M:Model) h',K.In h'->Looks M h' (isType cc) true)
   (hne:(Value.ref C == cc)=true->b=true) (hsub:∀ (M:Model) h',K.In h'->Looks M h' (isSubtype (.ref C) cc) b) (h:∀ t,Q (.bool b) { s with toks:=t }) :
   wpAny (model prog w) A (call (.builtin "isinstance") [.ref x,cc]) Q E s :=
 call_isinstance (S:=fun _ R s=>(K.In s.heap∧InstAt s.heap x ox C od)∧∀ t,R (.ok (.ret (.bool b))) { s with toks:=t })
   (fun _ _ _ _ _ hs=>isinstance_outer (qaw hs.1.1 hs.1.2 c hn htk (hty _ _ hs.1.1) (his _ _ hs.1.1) hne (hsub _ _ hs.1.1) hs.2) (by intro q;cases q)) ⟨⟨X,I⟩,h⟩
end
section
variable {X:Cx}{pins:List (Addr×Obj)}{σ:St}{H:Hp}{s:Shared}{h':Heap}
theorem Inv.two {x a:Addr}{o1 o2:HO}{t':Nat} (I:Inv X pins σ H s) (mu:Mut (H x)) (hp:s.heap.objs.size≤a) (k:∀ b u,b≠x->s.heap.get? b=some u->h'.get? b=some u) (hx:∃ u,h'.get? x=some u)
   (n1:ObjOk X.prog X.w (upd (upd H x o1) a o2) h' x o1) (n2:ObjOk X.prog X.w (upd (upd H x o1) a o2) h' a o2):Inv X pins σ (upd (upd H x o1) a o2) { s with heap:=h',toks:=t' }:=by
 have ha:H a=none:=I.hok.fresh hp;have ne:∀ b,H b=none->b≠x:=fun b n z=>by subst z;rw[n]at mu;exact mu
 have nm:∀ b u,H b=some u->¬ Mut (some u)->b≠x:=fun b u q n z=>by subst z;rw[q]at mu;exact n mu
 have old:∀ b u,H b=some u->¬ Mut (some u)->upd (upd H x o1) a o2 b=some u:=fun b u q n=>by rw[qb (qe q ha),qb (nm b u q n)];exact q
 refine I.un ⟨fun b u e n _ _=>k b u (ne b n) e,fun b u e n _ _=>⟨u.slots,k b u (ne b n) e⟩,fun b u e n _=>?_,fun b u e _=>?_,fun b xs e=>old b _ e fun z=>z,fun b o u e=>old b _ e fun z=>z,fun b ps e=>⟨#[],by rw[old b _ e fun z=>z];simp⟩⟩ fun b u e=>?_
 · rw[qb (Nat.ne_of_lt (Nat.lt_of_lt_of_le (Heap.lt_size e) hp)),qb (ne b n)];exact n
 · by_cases z:b=x
   · subst z;exact hx
   · exact⟨u,k b u z e⟩
 · by_cases z:b=a
   · subst z;rw[qd]at e;cases e;exact n2
   · rw[qb z]at e;by_cases z2:b=x
     · subst z2;rw[qd]at e;cases e;exact n1
     · rw[qb z2]at e;refine(I.hok b u e).stay (fun c v hc q=>?_) (fun c q=>old c _ q fun z=>z) fun c xs q=>old c _ q fun z=>z;rcases hc with hc|hc
       · subst hc;exact k c v z2 q
       · exact k c v (nm c _ hc fun z=>z) q
end
section
variable {X:Cx}{o e value:Expr}{es:List Expr}{f x:Str}{p apos pos pos' tpos:Pos}{ta tv:TE}{t:TA}{C fa:Addr}
structure XMk (K:Frag) (C f:Addr):Prop where
 c:XC K C
 init:findIn K (.ref C) "__init__"=some (some (.ref f))
 fn:isFn K (.ref f)=true
 kp:keepIn K (.ref C)=true
def qcr (C:Addr) (sp:Sp) (t:TA):TE:=fun σ H Q=>t σ H fun vs H1=>vs.length≤10∧∀ ea,H1 ea=none ->
 sp (.ref ea::vs) (upd H1 ea (.ext (ExO ea C none .none))) (fun v H2=>v=.non∧Q (.ref ea) H2) E0
theorem Jx {k:Nat}{fd:FuncData}{ps:List Str}{sp:Sp}{pins:List (Addr×Obj)}{σ:St}{H:Hp}{s:Shared}{Q:VK}{us:List Value}{vs:List V} (M:XMk X.K C fa) (F:zb X.prog X.w X.K X.mg X.base CX0 k fa fd ps sp)
   (hr:Room (k+1) X.A) (hb:Binds X.K fd ps []) (I:Inv X pins σ H s) (r:Vals vs us) (hl10:vs.length≤10)
   (h:∀ ea,H ea=none->sp (.ref ea::vs) (upd H ea (.ext (ExO ea C none .none))) (fun v H2=>v=.non∧Q (.ref ea) H2) E0) :
   wpAny (model X.prog X.w) X.A (call (.ref C) us) (EP X pins σ Q) X.xe s:=by
 have hq:=h (s.heap.objs.size+1) (I.hok.fresh (Nat.le_succ _));have hul:us.length≤sizeLine:=by rw[← r.length,sizeLine_eq];omega
 have kp:∀ b o,s.heap.get? b=some o->((s.heap.push { cls:=.type "tuple",data:=.seq us.toArray }).push (zT C s.heap.objs.size)).get? b=some o:=fun b o e=>Heap.get?_push_of_some _ (Heap.get?_push_of_some _ e);have hget:((s.heap.push { cls:=.type "tuple",data:=.seq us.toArray }).push (zT C s.heap.objs.size)).get? (s.heap.objs.size+1)=some (zT C s.heap.objs.size):=by heap_get
 have I2:Inv X pins σ (upd H (s.heap.objs.size+1) (.ext (ExO (s.heap.objs.size+1) C none .none))) { s with heap:=(s.heap.push { cls:=.type "tuple",data:=.seq us.toArray }).push (zT C s.heap.objs.size) } :=
   I.laid (t':=s.toks) kp (Nat.le_succ _) (jN ⟨_,_,hget,rfl,rfl,rfl,rfl,rfl,rfl⟩)
 have r2:Vals (V.ref (s.heap.objs.size+1)::vs) (Value.ref (s.heap.objs.size+1)::us):=.cons rfl r
 have hl:(Value.ref (s.heap.objs.size+1)::us++[]).length=ps.length:=by
   have e:=r2.length;rw[F.len _ _ _ _ hq]at e;rw[List.append_nil];exact e.symm
 obtain⟨hp,g,d,tk,os⟩:=s
 refine qcm I.kIn M.c.xi M.init (beq_iff_eq.mp M.fn) (wpAny_call (codeAny_mono (F.run _ X.stack _ _ ⟨Value.ref (hp.objs.size+1)::us,[]⟩ (Value.ref (hp.objs.size+1)::us) _ _ E0 (hr.make C us [])
   (I2.env0.make C us []) (by have:=hb _ (Value.ref (hp.objs.size+1)::us) I2.kIn hl;rw[List.append_nil]at this;exact this) r2 hq) fun r s' hq'=>?_)) hul
 cases r with
 | error e=>exact False.elim hq'
 | ok fl =>
   cases fl with
   | ret u =>
     obtain⟨v,H',I3,rv,ev,q3⟩:=I2.after hq';subst ev;exact⟨rv,⟨V.ref (hp.objs.size+1),H',I3,rfl,q3⟩⟩
   | next=>exact False.elim hq'
   | brk=>exact False.elim hq'
   | cont=>exact False.elim hq'
theorem qaJ {k:Nat}{fd:FuncData}{ps:List Str}{sp:Sp} (M:XMk X.K C fa) (F:zb X.prog X.w X.K X.mg X.base CX0 k fa fd ps sp) (hr:Room (k+1) X.A) (hg:Gl X x) (hm:X.mg x=some (.ref C)) (hb:Binds X.K fd ps [])
   (ha:PA X (e::es) t) (hdb:(x == ("__debug__":Str))=false:=by decide) (he:starEach (e::es) X.env=(false,eval e X.env)::starEach es X.env:=by rfl) (hpl:(backTo pos (starEach es X.env)).any (·.1)=false:=by rfl) :
   PE X (.Call (.Name x p) (e::es) [] pos) (qcr C sp t):=by
 intro pins s σ H Q I h;refine wpAny_Call_Name_kw (zH I hg hm ?_ hdb);refine callWith_K (h₀:=X.base) I.ok.mod.kin M.kp (thn (ha pos pins s σ H _ I h) fun us s1 ⟨vs,H1,I1,r,q⟩=>⟨I1.kIn,?_⟩) he hpl;exact Jx M F hr hb I1 r q.1 q.2
inductive jo (K:Frag) (E:XK) (x:V) (H1:Hp):Prop
 | mk (ea C dx:_) (h1:x=.ref ea) (h2:xIn K C=true) (h3:H1 ea=some (.ext (ExO ea C dx .none))) (h4:Sure E C ea dx H1):jo K E x H1
def qct (K:Frag) (E:XK) (te:TE):TS:=fun _ σ H=>te σ H fun x H1=>jo K E x H1
theorem qaG {E:XK}{te:TE} (th:Throws X E) (hc:X.calm=true) (he:PE X e te):PS X (.Raise (some e) none pos) (qct X.K E te):=by
 intro pins s σ H D I h;rw[arm_exec_Raise];refine wpAny_bind (wpAny_standAt ?_);simp only[evalOpt,Option.map];refine qbB (I.ok.hd hc) (wpAny_bind (thn (he pins s σ H _ I h) fun u s1 ⟨x,H1,I1,rx,ea,C,dx,ex,xi,e1,sr⟩=>wpAny_bind (wpAny_standAt (wpAny_pure ?_))));subst ex;obtain rfl:u=Value.ref ea:=rx;obtain⟨⟨oe,vs,hx,hcl,hdx,hd,hz,h1,hx2⟩,_,_⟩:=(show ObjOk X.prog X.w H1 s1.heap ea (.ext (ExO ea C dx .none)) from I1.hok ea _ e1)
 exact⟨ea,C,oe,vs,X.K,rfl,I1.kIn,xi,hx,hcl,hd,h1,th pins σ H1 s1 ea C dx I1 ⟨.none,e1,.inl rfl⟩ sr⟩
inductive jn (K:Frag) (Q:VK) (vs:List V) (H1:Hp):Prop
 | mk (ea C dx tb rest:_) (h1:vs=.ref ea::rest) (h2:rest.length≤10) (h3:H1 ea=some (.ext (ExO ea C dx tb))) (h4:xIn K C=true) (h5:Q .non H1):jn K Q vs H1
def qcs (K:Frag) (t:TA):TE:=fun σ H Q=>t σ H fun vs H1=>jn K Q vs H1
theorem jk {H:Hp}{a:Addr}{o:HO} (h:H a=some o):upd H a o=H:=by
 funext b;unfold upd;split
 · rename_i e;rw[e,h]
 · rfl
theorem Jj:findCls [] (.type "ValueError") (.type "type") "__init__"=some (.val (.builtin "ValueError.__init__")):=by kernel_rfl
theorem qaK {pl:Sem Bool} (hg:Gl X x) (hm:X.mg x=none) (hv:bootBuiltins x=some (.type "ValueError")) (ha:PA X (e::es) t) (hn:x≠"__name__":=by decide) (hdb:(x == ("__debug__":Str))=false:=by decide)
   (hst:starEach (e::es) X.env=(false,eval e X.env)::starEach es X.env:=by rfl) (hpl:(backTo pos (starEach es X.env)).any (·.1)=false:=by rfl)
   (ht:eval (.Call (.Attribute (.Name x p) "__init__" apos) (e::es) [] pos) X.env=(do
     let ov ← eval (.Name x p) X.env
     standAt apos.atName
     let (f,first) ← holding [ov] (getMethod ov "__init__" pl)
     callWith pos f first (backTo pos (starEach (e::es) X.env)) (backToKw pos (keywordEach [] X.env))):=by rfl) :
   PE X (.Call (.Attribute (.Name x p) "__init__" apos) (e::es) [] pos) (qcs X.K t):=by
 intro pins s σ H Q I h;refine PySem.W.methodCall_KW (pl:=pl) (ZM I hg hm hv ?_ hn hdb) ht;obtain⟨m,F⟩:=I.fr;refine PySem.W.method_type (v:=.builtin "ValueError.__init__") F I.mod.kin (by kernel_rfl) (by decide +kernel) Jj rfl ?_;have I0:=I.tok (s.toks+1);refine PyProof.Rows.callWith_builtin1 (thn (ha pos pins _ σ H _ I0 h) fun us s1 zz_=>?_) hst hpl;obtain⟨vs,H1,I1,r,ea,C,dx,tb,rest,ev,hl,e1,xi,q⟩:=zz_;subst ev
 obtain⟨u0,us0,rfl,r0,r1⟩:∃ u0 us0,us=u0::us0∧RelV (.ref ea) u0∧Vals rest us0:=by
   cases r with
   | cons a b=>exact⟨_,_,rfl,a,b⟩
 obtain rfl:u0=Value.ref ea:=r0;obtain⟨⟨oe,vs,hx,hcl,hdx,hd,hz,h1,hx2⟩,_,_⟩:=(show ObjOk X.prog X.w H1 s1.heap ea (.ext (ExO ea C dx tb)) from I1.hok ea _ e1)
 refine qbE I1.kIn xi hx hcl hd hz (by rw[← r1.length,sizeLine_eq];omega) fun h' tp k1 k2=>⟨.non,H1,?_,rfl,q⟩
 have J:Inv X pins σ (upd H1 ea (.ext (ExO ea C dx tb))) { s1 with heap:=h',toks:=s1.toks }:=by
   refine I1.write (x:=ea) (e:=ea) (by rw[e1];exact True.intro) (.inl rfl) k1 ⟨_,k2⟩ (jN ⟨_,_,k2,(Obj.cls_mapFields _ _).trans hcl,?_,Obj.data_mapFields hd _,by simp[hz],?_,?_⟩)
   · rw[← hdx];obtain⟨oc,od,odt,osl⟩:=oe;have hd':odt=.fields vs:=hd;subst hd';rfl
   · rw[Array.getElem?_setIfInBounds_ne (by decide)];exact h1
   · rw[Array.getElem?_setIfInBounds_ne (by decide)];exact hx2
 rw[jk e1]at J;exact J
structure qc3 (K:Frag) (C f:Addr):Prop where
 sp:specialIn K (.ref C) "__getattribute__"=some (some (.builtin "type.__getattribute__"))
 rd:PySem.W.readsIn K C (.type "type")=true
 at_:findCls K (.ref C) (.type "type") "__init__"=some (.val (.ref f))
 kp:keepIn K (.ref f)=true
theorem qaM {k:Nat}{fd:FuncData}{ps:List Str}{sp:Sp}{pl:Sem Bool} (c:qc3 X.K C fa) (F:zb X.prog X.w X.K X.mg X.base CX0 k fa fd ps sp) (hr:Room k X.A) (hb:Binds X.K fd ps []) (hg:Gl X x) (hm:X.mg x=some (.ref C))
   (ha:PA X (e::es) t) (hdb:(x == ("__debug__":Str))=false:=by decide)
   (hst:starEach (e::es) X.env=(false,eval e X.env)::starEach es X.env:=by rfl) (hpl:(backTo pos (starEach es X.env)).any (·.1)=false:=by rfl)
   (ht:eval (.Call (.Attribute (.Name x p) "__init__" apos) (e::es) [] pos) X.env=(do
     let ov ← eval (.Name x p) X.env
     standAt apos.atName
     let (f,first) ← holding [ov] (getMethod ov "__init__" pl)
     callWith pos f first (backTo pos (starEach (e::es) X.env)) (backToKw pos (keywordEach [] X.env))):=by rfl) :
   PE X (.Call (.Attribute (.Name x p) "__init__" apos) (e::es) [] pos) (qcz sp [] E0 t):=by
 intro pins s σ H Q I h;refine PySem.W.methodCall_KW (pl:=pl) (zH I hg hm ?_ hdb) ht;refine PySem.W.method_cls I.kIn c.sp (PySem.W.cls_value I.kIn c.rd c.at_ rfl ?_);have I0:=I.tok (s.toks+1);refine callWith_K (h₀:=X.base) I.ok.mod.kin c.kp (thn (ha pos pins _ σ H _ I0 h) fun us s1 ⟨vs,H1,I1,r,q⟩=>⟨I1.kIn,?_⟩) hst hpl;exact qbi F hr hb .nil qQ I1 r q
def qdk (K:Frag) (ta tv:TE) (f:Str):TS:=fun D σ H=>tv σ H fun y H1=>ta σ H1 fun x H2=>∃ ea C tb,x=.ref ea∧H2 ea=some (.ext (ExO ea C none tb))∧XC K C∧qas K C f ∧
 ∀ dx,H2 dx=none->dx≠ea->D.nx σ (upd (upd H2 ea (.ext (ExO ea C (some dx) tb))) dx (.xd [(f,y)]))
theorem qbT (ha:PE X o ta) (hv:PE X value tv) (hs:swapsWith value (some (.Attribute o f pos')) pos.line X.env=pure false):PS X (.Assign [.Attribute o f pos'] value pos) (qdk X.K ta tv f):=by
 intro pins s σ H D I h;refine plainObj_wpAny_Assign_Attribute (thn (hv pins s σ H _ I h) fun u s1 ⟨y,H1,I1,ry,q⟩=>thn (ha pins s1 σ H1 _ I1 q) fun ov s2 zz_=>?_) hs;obtain⟨x,H2,I2,rx,ea,C,tb,ex,e1,c,n,q2⟩:=zz_;subst ex;obtain rfl:ov=Value.ref ea:=rx;obtain⟨⟨oe,vs,hx,hcl,hdx,hd,hz,h1,hx2⟩,_,_⟩:=(show ObjOk X.prog X.w H2 s2.heap ea (.ext (ExO ea C none tb)) from I2.hok ea _ e1)
 refine qc5 I2.kIn c.xi hx hcl hd hdx c.sa n fun h' dx hp k1 k2 k3=>⟨σ,_,?_,q2 dx (I2.hok.fresh hp) (Nat.ne_of_gt (Nat.lt_of_lt_of_le (Heap.lt_size hx) hp))⟩
 refine I2.two (by rw[e1];exact True.intro) hp k3 ⟨_,k1⟩ (jN ⟨_,_,k1,hcl,rfl,hd,hz,h1,hx2⟩) ⟨_,k2,fun g=>?_⟩;by_cases z:g=f
 · subst z;simp[List.lookup];exact ry
 · have:(g == f)=false:=by simp[z]
   simp[List.lookup,this,z];exact True.intro
inductive Jl (K:Frag) (f:Str) (Q:VK) (x:V) (H1:Hp):Prop
 | mk (ea C dx fs v:_) (h1:x=.ref ea) (h2:XAt H1 ea C (some dx)) (h3:H1 dx=some (.xd fs)) (h4:XC K C) (h5:qas K C f) (h6:fs.lookup f=some v) (h7:Q v H1):Jl K f Q x H1
def qbJ (K:Frag) (ta:TE) (f:Str):TE:=fun σ H Q=>ta σ H fun x H1=>Jl K f Q x H1
theorem qbc {pins:List (Addr×Obj)}{σ:St}{H:Hp}{s:Shared}{ea C dx:Addr}{fs:List (Str×V)} (I:Inv X pins σ H s) (x:XAt H ea C (some dx)) (hd:H dx=some (.xd fs)) :
   ∃ (ox od:Obj) (mA:Str->Option Value),InstAt s.heap ea ox C (some od)∧(∀ name,PySem.W.lookIn name od=some (mA name))∧∀ f,RelO (fs.lookup f) (mA f):=by
 obtain⟨tb,e1,_⟩:=x;obtain⟨⟨oe,vs,hx,hcl,hdx,hdt,hz,h1,hx2⟩,_,_⟩:=(show ObjOk X.prog X.w H s.heap ea (.ext (ExO ea C (some dx) tb)) from I.hok ea _ e1)
 obtain⟨mA,n,r⟩:=(show ObjOk X.prog X.w H s.heap dx (.xd fs) from I.hok dx _ hd)
 obtain⟨od,ho,hl⟩:=ZJ n;exact⟨oe,od,mA,⟨hx,hcl,by unfold notCls;rw[hdt],by rw[hdx];exact ho⟩,hl,r⟩
theorem JI (he:PE X e ta) (hb:attributeBase e f X.env (eval e X.env)=eval e X.env):PE X (.Attribute e f pos) (qbJ X.K ta f):=by
 intro pins s σ H Q I h;refine qci hb (thn (he pins s σ H _ I h) fun u s1 zz_=>?_);obtain⟨x,H1,I1,rx,ea,C,dx,fs,v,ex,xa,hd,c,n,l,q⟩:=zz_;subst ex;obtain rfl:u=Value.ref ea:=rx;obtain⟨ox,od,mA,J,hl,r⟩:=qbc I1 xa hd;obtain⟨uv,hu,ru⟩:=RelO.some_of (v:=v) (o:=mA f) (by rw[← l];exact r f)
 have hh:hasDictIn X.K C=true:=by
   obtain⟨cd,bm,hcd,_,_,hdict⟩:=xcd c.xi;unfold hasDictIn;rw[hcd];exact hdict
 exact qc7 I1.kIn J c.xi c.ga c.na (PySem.W.findObj_own hh n rfl (by rw[hl,hu])) (qaa ru) ⟨v,H1,I1.tok _,ru,q⟩
def Z4 (K:Frag) (C:Addr):V->Option Bool
 | .ref D=>if (clsIn K D).isSome && typeIn K (.ref D) == some (.type "type") then subIn K (.ref C) (.ref D) else none
 | .ty T=>if T == "ValueError" then some true else none
 | _=>none
inductive qbn (K:Frag) (xs:List V) (H:Hp) (Q:VK):Prop
 | mk (ea C dx fs c b:_) (h1:xs=[.ref ea,c]) (h2:XAt H ea C (some dx)) (h3:H dx=some (.xd fs)) (h4:XC K C) (h5:Z4 K C c=some b) (h6:Q (.bl b) H):qbn K xs H Q
def qed (K:Frag):List V->Hp->VK->Prop:=fun xs H Q=>qbn K xs H Q
theorem qbb:z3 X (.builtin "isinstance") (qed X.K):=by
 intro pins s σ H xs us Q I r h;obtain⟨ea,C,dx,fs,c,b,rfl,xa,hd,xc,hi,q⟩:=h;obtain⟨u,w',rfl,ru,rw'⟩:=jV r;cases (show u=Value.ref ea from ru);obtain⟨ox,od,mA,J,hl,_⟩:=qbc I xa hd
 cases c with
 | ref D =>
   cases (show w'=Value.ref D from rw');simp only[Z4]at hi;split at hi
   · rename_i hq
     simp only[Bool.and_eq_true,beq_iff_eq]at hq;obtain⟨q1,q2⟩:=hq;refine qax I.kIn J xc xc.gt xc.tk (b:=b) (fun _ h' X'=>looks_typeIn X' q2) (fun _ h' X'=>?_) (fun z=>?_) (fun _ h' X'=>looks_subIn X' hi) fun t=>⟨.bl b,H,I.tok t,rfl,q⟩
     · unfold clsIn at q1;split at q1
       · rename_i c' d' cd' sl' ho
         intro A' Q' E' s' k q;unfold isType loadHead;exact wpAny_bind (wpAny_loadPart (k _ _ (X' _ _ ho)) (wpAny_pure q))
       · cases q1
     · have z':C=D:=Value.ref.inj (beq_iff_eq.mp z);subst z';obtain⟨cd,bm,hcd,hmro,_,_⟩:=xcd xc.xi
       have e2:mroIn X.K C (.ref C)=some true:=by
         unfold mroIn;rw[hcd,Option.bind_some,hmro,if_neg (by simp)];simp
       have e3:subIn X.K (.ref C) (.ref C)=some true:=e2;rw[e3]at hi;exact(Option.some.inj hi).symm
   · cases hi
 | ty T =>
   cases (show w'=Value.type T from rw');simp only[Z4]at hi;split at hi
   · rename_i hq
     rw[beq_iff_eq]at hq;subst hq;cases hi;refine qax I.kIn J xc xc.gt xc.tk (b:=true) (fun _ h' X'=>Looks.of_pure (by kernel_rfl)) (fun _ h' X'=>Looks.of_pure rfl) (fun _=>rfl) (fun _ h' X'=>looks_mroIn X' (qcl xc.xi (by decide +kernel))) fun t=>⟨.bl true,H,I.tok t,rfl,q⟩
   · cases hi
 | non=>cases hi
 | bl _=>cases hi
 | int _=>cases hi
 | str _=>cases hi
 | byt _=>cases hi
 | flt _=>cases hi
end
abbrev qa9 (X:Cx):Cx:={ X with xe:=fun _ _=>False }
abbrev qaY (X:Cx) (ea:Addr):Cx:={ X with A:=X.A.mark (some (.ref ea)),calm:=false,xe:=fun _ _=>False }
section
variable {X:Cx}{pins:List (Addr×Obj)}{σ:St}{H:Hp}{s:Shared}
theorem Inv.dead (I:Inv X pins σ H s):Inv (qa9 X) pins σ H s:=by
 obtain⟨⟨a1,a2,a3,a4,a5,a6,a7,a8,a9,a10,a11,a12,a13,a14,a15,a16,a17,a18⟩,b1,b2,b3,b4,b5,b6,b7,b8,b9,b10⟩:=I;exact⟨⟨a1,a2,a3,a4,a5,a6,a7,a8,a9,a10,a11,a12,a13,a14,a15,a16,a17,a18⟩,b1,b2,b3,b4,b5,b6,b7,b8,b9,b10⟩
theorem Inv.live (I:Inv (qa9 X) pins σ H s):Inv X pins σ H s:=by
 obtain⟨⟨a1,a2,a3,a4,a5,a6,a7,a8,a9,a10,a11,a12,a13,a14,a15,a16,a17,a18⟩,b1,b2,b3,b4,b5,b6,b7,b8,b9,b10⟩:=I;exact⟨⟨a1,a2,a3,a4,a5,a6,a7,a8,a9,a10,a11,a12,a13,a14,a15,a16,a17,a18⟩,b1,b2,b3,b4,b5,b6,b7,b8,b9,b10⟩
theorem Inv.mark (I:Inv X pins σ H s) (ea:Addr):Inv (qaY X ea) pins σ H s:=by
 obtain⟨⟨a1,a2,a3,a4,a5,a6,a7,a8,a9,a10,a11,a12,a13,a14,a15,a16,a17,a18⟩,b1,b2,b3,b4,b5,b6,b7,b8,b9,b10⟩:=I;exact⟨⟨a1,a2,a3,a4,a5,a6,a7,a8,fun z=>(nomatch z),a10,a11,a12,a13,a14,a15,a16,a17,a18⟩,b1,b2,b3,b4,b5,b6,b7,b8,b9,b10⟩
theorem Inv.unmark {ea:Addr}{A0:Prop} (k:X.Ok) (I:Inv (qaY X ea) pins σ H s):Inv X pins σ H s:=by
 obtain⟨_,b1,b2,b3,b4,b5,b6,b7,b8,b9,b10⟩:=I;exact⟨k,b1,b2,b3,b4,b5,b6,b7,b8,b9,b10⟩
theorem Inv.lose {h':Heap}{m':Str->Option Value}{t':Nat} (I:Inv X pins σ H s) (hn:h'.Ns X.env.locals m') (hs:Heap.SameBut X.env.locals s.heap h'):Inv X pins (List.replicate X.N.length none) H { s with heap:=h',toks:=t' }:=by
 have neL:∀ b o,X.s₀.heap.get? b=some o->b≠X.env.locals:=fun b o e=>Nat.ne_of_lt (Nat.lt_of_lt_of_le (Heap.lt_size e) I.ok.above);have up:∀ b o,b≠X.env.locals->s.heap.get? b=some o->h'.get? b=some o:=fun b o hb e=>(hs.2 b hb).trans e
 refine⟨I.ok,I.os,I.bare,⟨fun b o e n hb hx=>up b o (neL b o e) (I.base.keep b o e n hb hx),fun b o e n hb hx=>?_,I.base.free,fun b o e hx=>?_,I.base.tups,I.base.frzs,I.base.tbls⟩,
   ⟨m',hn,fun i x v _ e2 _=>?_⟩,fun x c e=>?_,I.free,I.freeC,fun p hp=>?_,fun b u e=>?_,by simp⟩
 · obtain⟨sl,q⟩:=I.base.slot b o e n hb hx;exact⟨sl,up b _ (neL b o e) q⟩
 · obtain⟨o',q⟩:=I.base.there b o e hx;exact⟨o',up b _ (neL b o e) q⟩
 · rw[List.getElem?_replicate]at e2;split at e2<;>cases e2
 · obtain⟨v,o,ho,hd⟩:=I.cell x c e;exact⟨v,o,up c o (I.cne x c e) ho,hd⟩
 · obtain⟨e,n,ne,nf,d⟩:=I.pin p hp;exact⟨up p.1 p.2 ne e,n,ne,nf,d⟩
 · refine(I.hok b u e).stay (fun c v hc q=>up c v (fun z=>?_) q) (fun _ q=>q) fun _ _ q=>q;rcases hc with hc|hc
   · rw[← hc,z,I.free]at e;cases e
   · rw[z,I.free]at hc;cases hc
end
section
variable {M:Model}{A:Around}{E:Value->Shared->Prop}{s:Shared}
theorem Jh {K:Frag}{C L x:Addr}{ox:Obj}{Q:Bool->Shared->Prop} (X:K.In s.heap) (xc:xIn K C=true) (xl:xIn K L=true) (hm:mroIn K C (.ref L)=some true) (hx:s.heap.get? x=some ox) (hc:ox.cls=.ref C)
   (h:Q true s):wpAny M A (excMatches (.ref x) (.ref L)) Q E s:=by
 obtain⟨hp,g,d,tk,os⟩:=s;obtain⟨nm,qn,N,bs,bm,sn,sub,ab,col,dd,k0,k1,k2,k3,k5,hC,hxt⟩:=qc4 X xl;have hcB:(Value.ref L::bm).contains (.type "BaseException")=true:=by rw[List.contains_cons,zg (v:=true) (by decide +kernel) hxt,Bool.or_true]
 have f:=tc_notTuple;have LL:=looks_mroIn (M:=M) X hm;unfold excMatches
 repeat (first
   | (with_reducible refine wpAny_loadPart_at hx ?_;rw[hc])
   | with_reducible refine wpAny_loadPart_at hC ?_
   | (with_reducible refine wpAny_isSubtype_exc hC ?_;rw[hcB])
   | (with_reducible refine LL.at ?_)
   | wp_step)
 exact h
end
abbrev XTE:=St->Hp->VK->XK->Prop
abbrev XTS:=jU->XK->St->Hp->Prop
def qdF (X:Cx) (pins:List (Addr×Obj)) (σ:St) (E:XK) (Ex:Value->Shared->Prop):Prop :=
 ∀ (ea C:Addr) (dx:Option Addr) (H':Hp) (s':Shared),Inv X pins σ H' s'->XAt H' ea C dx->Sure E C ea dx H'->Ex (.ref ea) s'
def PEX (X:Cx) (e:Expr) (t:XTE):Prop :=
 ∀ (pins:List (Addr×Obj)) (s:Shared) (σ:St) (H:Hp) (Q:VK) (E:XK) (Ex:Value->Shared->Prop),Inv X pins σ H s->t σ H Q E->qdF X pins σ E Ex->wpAny (model X.prog X.w) X.A (eval e X.env) (EP X pins σ Q) Ex s
def PX (X:Cx) (st:List Stmt) (t:XTS):Prop :=
 ∀ (pins:List (Addr×Obj)) (s:Shared) (σ:St) (H:Hp) (D:jU) (E:XK) (Ex:Value->Shared->Prop),Inv X pins σ H s->t D E σ H->qdF X pins σ E Ex->wpAny (model X.prog X.w) X.A (execs st X.env) (SP X pins D) Ex s
section
variable {X:Cx}{e o c:Expr}{es:List Expr}{a b:List Stmt}{x m:Str}{p pos apos:Pos}{ta:TE}{t:TA}{tc:TT}{f C:Addr}{fd:FuncData}{ps:List Str}{sp:Sp}{k:Nat}
theorem QW {α:Type}{u:Sem α}{Q:α->Shared->Prop}{M:Model}{A:Around}{Ex:Value->Shared->Prop}{s:Shared} (h:wpAny M A u Q (fun _ _=>False) s):wpAny M A u Q Ex s:=wpAny_mono h (fun _ _ z=>z) fun _ _ z=>z.elim
theorem qbN {pins:List (Addr×Obj)}{σ:St}{H:Hp}{s:Shared}{Q:VK}{E:XK}{Ex:Value->Shared->Prop}{us:List Value}{vs:List V} (F:zb X.prog X.w X.K X.mg X.base (CX1 X.prog X.w) k f fd ps sp) (hr:Room k X.A) (hb:Binds X.K fd ps [])
   (I:Inv X pins σ H s) (r:Vals vs us) (h:sp vs H Q E) (w:qdF X pins σ E Ex):wpAny (model X.prog X.w) X.A (call (.ref f) us) (EP X pins σ Q) Ex s:=by
 have hl:(us++[]).length=ps.length:=by rw[List.append_nil,← r.length];exact F.len _ _ _ _ h
 have hbb:=hb s us I.kIn hl;rw[List.append_nil]at hbb;refine wpAny_call (codeAny_mono (F.run X.A X.stack s H ⟨us,[]⟩ us vs Q E hr I.env0 hbb r h) fun r s' hq=>?_)
 cases r with
 | error e =>
   obtain⟨ea,C,dx,H',e1,os,bare,un,hok,x,q⟩:=hq;subst e1;exact w ea C dx H' s' (I.call' os un hok bare fun b z=>absurd z (by simp)) x q
 | ok fl =>
   cases fl with
   | ret u=>exact I.after hq
   | next=>exact False.elim hq
   | brk=>exact False.elim hq
   | cont=>exact False.elim hq
def qc9 (sp:Sp) (t:TA):XTE:=fun σ H Q E=>t σ H fun vs H1=>sp vs H1 Q E
theorem jD (F:zb X.prog X.w X.K X.mg X.base (CX1 X.prog X.w) k f fd ps sp) (hr:Room k X.A) (hg:Gl X x) (hm:X.mg x=some (.ref f)) (hk:keepIn X.K (.ref f)=true) (hb:Binds X.K fd ps [])
   (ha:PA (qa9 X) (e::es) t) (hdb:(x == ("__debug__":Str))=false:=by decide) (he:starEach (e::es) X.env=(false,eval e X.env)::starEach es X.env:=by rfl) (hpl:(backTo pos (starEach es X.env)).any (·.1)=false:=by rfl) :
   PEX X (.Call (.Name x p) (e::es) [] pos) (qc9 sp t):=by
 intro pins s σ H Q E Ex I h w;refine wpAny_Call_Name_kw (zH I hg hm ?_ hdb);refine callWith_K (h₀:=X.base) I.ok.mod.kin hk (thn (QW (ha pos pins s σ H _ I.dead h)) fun us s1 ⟨vs,H1,I1,r,q⟩=>⟨I1.kIn,?_⟩) he hpl;exact qbN F hr hb I1.live r q w
def qc8 (te:XTE):XTS:=fun D E σ H=>te σ H (fun _ H1=>D.nx σ H1) E
theorem JC {te:XTE} (he:PEX X e te) (hs:swapsWith e none pos.line X.env=pure false:=by rfl):PX X [.Expr e pos] (qc8 te):=by
 intro pins s σ H D E Ex I h w;refine wpAny_execs_cons (wpAny_Expr_any (thn (he pins s σ H _ E Ex I h w) fun v s1 zz_=>?_) I.quiet hs);obtain⟨x,H1,I1,r1,q1⟩:=zz_;exact wpAny_execs_nil (show SP X pins D .next s1 from ⟨σ,H1,I1,q1⟩)
def xIf (tc:TT) (t u:XTS):XTS:=fun D E σ H=>tc σ H fun v H1=>if v=true then t D E σ H1 else u D E σ H1
theorem qdt {t u:XTS} (hc:PT (qa9 X) c tc) (ha:PX X a t) (hb:PX X b u):PX X [.If c a b pos] (xIf tc t u):=by
 intro pins s σ H D E Ex I h w
 have fin:∀ f s',SP X pins D f s'->(match f with|.next=>wpAny (model X.prog X.w) X.A (execs [] X.env) (SP X pins D) Ex s'|f=>SP X pins D f s'):=fun f s' q=>by
   cases f with
   | next=>exact wpAny_execs_nil q
   | ret v=>exact q
   | brk=>exact q
   | cont=>exact q
 refine wpAny_execs_cons (wpAny_If (thn (QW (hc pins s σ H _ I.dead h)) fun d s1 zz_=>?_));obtain⟨H1,I1,q1⟩:=zz_
 cases d with
 | true=>exact thn (ha pins s1 σ H1 D E Ex I1.live q1 w) fin
 | false=>exact thn (hb pins s1 σ H1 D E Ex I1.live q1 w) fin
end
def qb7 (v:Value):Bool:=match v with
 | .type s=>s == "type"
 | _=>false
def qb8 (v:Option Value):Bool:=match v with
 | some (.builtin s)=>s == "ValueError.__new__"
 | _=>false
def qdx (C:Addr) (l:List Value):Bool:=match l with
 | .ref C1::bm=>C1 == C && Qn bm
 | _=>false
def xOb (C:Addr) (o:Obj):Bool:=match o.data with
 | .cls cd=>qb7 o.cls && qdx C cd.mro && !cd.hasDel && cd.hasDict && o.slots.size == 6 && qb8 (o.slots.getD 4 none)
 | _=>false
theorem qa0 {v:Value} (h:qb7 v=true):v=.type "type":=by
 cases v with
 | type s=>rw[eq_of_beq (show (s == "type")=true from h)]
 | _=>cases h
theorem qa1 {v:Option Value} (h:qb8 v=true):v=some (.builtin "ValueError.__new__"):=by
 cases v with
 | none=>cases h
 | some v =>
   cases v with
   | builtin s=>rw[eq_of_beq (show (s == "ValueError.__new__")=true from h)]
   | _=>cases h
theorem qb3 {C:Addr}{l:List Value} (h:qdx C l=true):∃ bm,l=.ref C::bm∧Qn bm=true:=by
 cases l with
 | nil=>cases h
 | cons v bm =>
   cases v with
   | ref C1 =>
     have h':(C1 == C && Qn bm)=true:=h;rw[Bool.and_eq_true]at h';exact⟨bm,by rw[eq_of_beq h'.1],h'.2⟩
   | _=>cases h
theorem six {α:Type}{l:List α} (h:l.length=6):∃ a b c d e f,l=[a,b,c,d,e,f]:=by
 obtain⟨a,l,rfl⟩:=List.exists_cons_of_length_eq_add_one h;obtain⟨b,l,rfl⟩:=List.exists_cons_of_length_eq_add_one (Nat.succ.inj h);obtain⟨c,l,rfl⟩:=List.exists_cons_of_length_eq_add_one (Nat.succ.inj (Nat.succ.inj h));obtain⟨d,l,rfl⟩:=List.exists_cons_of_length_eq_add_one (Nat.succ.inj (Nat.succ.inj (Nat.succ.inj h)));obtain⟨e,l,rfl⟩:=List.exists_cons_of_length_eq_add_one (Nat.succ.inj (Nat.succ.inj (Nat.succ.inj (Nat.succ.inj h))));obtain⟨f,l,rfl⟩:=List.exists_cons_of_length_eq_add_one (Nat.succ.inj (Nat.succ.inj (Nat.succ.inj (Nat.succ.inj (Nat.succ.inj h)))))
 have:l=[]:=List.eq_nil_of_length_eq_zero (Nat.succ.inj (Nat.succ.inj (Nat.succ.inj (Nat.succ.inj (Nat.succ.inj (Nat.succ.inj h))))))
 subst this;exact⟨a,b,c,d,e,f,rfl⟩
theorem xIn_of {K:Frag}{C:Addr}{o:Obj} (h:K.lookup C=some o) (q:xOb C o=true):xIn K C=true:=by
 obtain⟨oc,dd,od,⟨sl⟩⟩:=o
 cases od with
 | cls cd =>
   have q':(qb7 oc && qdx C cd.mro && !cd.hasDel && cd.hasDict && sl.length == 6 && qb8 ((Array.mk sl).getD 4 none))=true:=q;simp only[Bool.and_eq_true,beq_iff_eq,Bool.not_eq_true']at q';obtain⟨⟨⟨⟨⟨q0,q1⟩,q2⟩,q3⟩,q4⟩,q5⟩:=q';obtain⟨bm,hm,hx⟩:=qb3 q1;obtain⟨k0,k1,k2,k3,k4,k5,rfl⟩:=six q4;have e4:k4=some (.builtin "ValueError.__new__"):=qa1 q5;have e0:=qa0 q0;obtain⟨nm,bs,mro,ns,qn,hdc,sn,sub,ab,col,del⟩:=cd;dsimp only at hm q2 q3;subst hm q2 q3 e4 e0;exact xIn_iff.mpr ⟨nm,qn,ns,bs,bm,sn,sub,ab,col,dd,k0,k1,k2,k3,k5,h,hx⟩
 | _=>cases q
theorem xIsa_of {K:Frag}{C D:Addr}{b:Bool} (h1:PySem.W.isClsIn K D=true) (h2:typeIn K (.ref D)=some (.type "type")) (h3:subIn K (.ref C) (.ref D)=some b):Z4 K C (.ref D)=some b:=by
 unfold Z4;have h1':(clsIn K D).isSome=true:=h1;simp only[h1',h2,Bool.true_and,beq_self_eq_true,if_true];exact h3
theorem Ja {P:Program}{w:World}{X:Cx}:Z1 (CX1 P w) X E0:=fun _ _ _ _ _ _ _ ⟨_,_,_,H',_,_,_,_,_,x,q⟩=>(q H' (fun _ _ _ e=>e) x).elim
def Rz (C:Addr) (f:Str) (v:V) (H:Hp) (E:XK):Prop:=∀ (ea dx:Addr) (H':Hp),Same H H'->H ea=none->H dx=none->H' dx=some (.xd [(f,v)])->XAt H' ea C (some dx)->E (.ref C) (some ea) H'
theorem Rz.sure {C:Addr}{f:Str}{v:V}{H:Hp}{E:XK} (h:Rz C f v H E) {ea dx:Addr}{tb:Value} (n1:H ea=none) (n2:H dx=none) (ne:dx≠ea) :
   Sure E C ea (some dx) (upd (upd (upd H ea (.ext (ExO ea C none .none))) ea (.ext (ExO ea C (some dx) tb))) dx (.xd [(f,v)])):=by
 intro H' k x;refine h ea dx H' (fun b o e=>k b o (qe e n1) ?_) n1 n2 (k dx _ ne qd) x;rw[qb (qe e n2),qb (qe e n1),qb (qe e n1)];exact e
section
variable {P:Program}{w:World}{K:Frag}{mg:Str->Option Value}{base:Heap}
theorem Fun.okX {x qual:Str}{st:Stmt}{f:Addr}{fd:FuncData}{N ps:List Str}{k:Nat}{sp:Sp} (F:Fun K x qual st f fd) (S:qD N ps (qk st)) (len:∀ vs H Q E,sp vs H Q E->vs.length=ps.length)
   (hbody:∀ (cdv:Value) (A:Around) (outer:List Env) (s:Shared) (H:Hp) (vs:List V) (Q:VK) (E:XK),Room k (A.deeper (envOfC qual (qk st) s.heap.objs.size f cdv))->sp vs H Q E ->
     ∃ t,PSs (zU (CX1 P w) P w K mg base N qual (qk st) f cdv A outer s H E) (q8 st) t∧t { nx:=fun _ H'=>Q .non H',rt:=Q } (Qo N vs) H):zb P w K mg base (CX1 P w) (k+1) f fd ps sp:=by
 obtain⟨oc,od,kV,doc,pm,an,cdv,ct,osl,rfl,lk,hcd⟩:=F.ex;exact qcY lk hcd S len fun A outer s H vs Q E hr hsp=>hbody cdv A outer s H vs Q E hr hsp
end
theorem CompOk.defX {CX:CXT}{P:Program}{w:World}{K:Frag}{mg:Str->Option Value}{base:Heap}{N0:List Str}{qual:Str}{sc0:Scope}{f:Addr}{cd:Value}{A:Around}{outer:List Env}{s:Shared}{H:Hp}{E:XK}{scope:Scope}
   (N:List Str) (js:List (Option Nat)) (hk0:sc0.kind=.function:=by rfl) (hk:scope.kind=.function:=by rfl) (hcell:∀ y∈scope.names,y.2≠.cell:=by decide +kernel) (hnames:∀ y∈scope.names,y.2=.local->scope.names.lookup y.1=some .local:=by decide +kernel)
   (hfr0:∀ y∈scope.names,y.2=.free->sc0.names.lookup y.1=some .cell:=by decide +kernel) (len:js.length=N.length:=by rfl) (hfr:qcb scope N0 N js=true:=by decide +kernel) :
   CompOk (zU CX P w K mg base N0 qual sc0 f cd A outer s H E) scope N (zV (zU CX P w K mg base N0 qual sc0 f cd A outer s H E).env.cells scope.names []) js :=
 CompOk.of hk hcell hnames hk0 (fun y hy z=>⟨hfr0 y hy z,Option.isSome_iff_exists.mp (PySem.W.cellsFrom_some _ _ _ (.inl (hfr0 y hy z)))⟩) len (jM hfr)
section
variable {X:Cx}{o e value:Expr}{es:List Expr}{f x:Str}{p apos pos pos' tpos:Pos}{ta tv:TE}{t:TA}{C fa:Addr}
inductive Jz (K:Frag) (xs:List V) (H:Hp) (Q:VK):Prop
 | mk (ea C c b:_) (h1:xs=[.ref ea,c]) (h2:XAt H ea C none) (h4:XC K C) (h5:Z4 K C c=some b) (h6:Q (.bl b) H):Jz K xs H Q
def qdp (K:Frag):List V->Hp->VK->Prop:=fun xs H Q=>Jz K xs H Q
theorem qbC {pins:List (Addr×Obj)}{σ:St}{H:Hp}{s:Shared}{ea C:Addr} (I:Inv X pins σ H s) (x:XAt H ea C none):∃ (ox:Obj),InstAt s.heap ea ox C none:=by
 obtain⟨tb,e1,_⟩:=x;obtain⟨⟨oe,vs,hx,hcl,hdx,hdt,hz,h1,hx2⟩,_,_⟩:=(show ObjOk X.prog X.w H s.heap ea (.ext (ExO ea C none tb)) from I.hok ea _ e1)
 exact⟨oe,hx,hcl,by unfold notCls;rw[hdt],by rw[hdx];exact True.intro⟩
theorem qam:z3 X (.builtin "isinstance") (qdp X.K):=by
 intro pins s σ H xs us Q I r h;obtain⟨ea,C,c,b,rfl,xa,xc,hi,q⟩:=h;obtain⟨u,w',rfl,ru,rw'⟩:=jV r;cases (show u=Value.ref ea from ru);obtain⟨ox,J⟩:=qbC I xa
 cases c with
 | ref D =>
   cases (show w'=Value.ref D from rw');simp only[Z4]at hi;split at hi
   · rename_i hq
     simp only[Bool.and_eq_true,beq_iff_eq]at hq;obtain⟨q1,q2⟩:=hq;refine qax I.kIn J xc xc.gt xc.tk (b:=b) (fun _ h' X'=>looks_typeIn X' q2) (fun _ h' X'=>?_) (fun z=>?_) (fun _ h' X'=>looks_subIn X' hi) fun t=>⟨.bl b,H,I.tok t,rfl,q⟩
     · unfold clsIn at q1;split at q1
       · rename_i c' d' cd' sl' ho
         intro A' Q' E' s' k q;unfold isType loadHead;exact wpAny_bind (wpAny_loadPart (k _ _ (X' _ _ ho)) (wpAny_pure q))
       · cases q1
     · have z':C=D:=Value.ref.inj (beq_iff_eq.mp z);subst z';obtain⟨cd,bm,hcd,hmro,_,_⟩:=xcd xc.xi
       have e2:mroIn X.K C (.ref C)=some true:=by
         unfold mroIn;rw[hcd,Option.bind_some,hmro,if_neg (by simp)];simp
       have e3:subIn X.K (.ref C) (.ref C)=some true:=e2;rw[e3]at hi;exact(Option.some.inj hi).symm
   · cases hi
 | ty T =>
   cases (show w'=Value.type T from rw');simp only[Z4]at hi;split at hi
   · rename_i hq
     rw[beq_iff_eq]at hq;subst hq;cases hi;refine qax I.kIn J xc xc.gt xc.tk (b:=true) (fun _ h' X'=>Looks.of_pure (by kernel_rfl)) (fun _ h' X'=>Looks.of_pure rfl) (fun _=>rfl) (fun _ h' X'=>looks_mroIn X' (qcl xc.xi (by decide +kernel))) fun t=>⟨.bl true,H,I.tok t,rfl,q⟩
   · cases hi
 | non=>cases hi
 | bl _=>cases hi
 | int _=>cases hi
 | str _=>cases hi
 | byt _=>cases hi
 | flt _=>cases hi
end
def XE (K:Frag) (H:Hp) (e:V) (C:Addr):Prop:=XC K C∧∃ ea,e=.ref ea∧(XAt H ea C none∨∃ dx fs,XAt H ea C (some dx)∧H dx=some (.xd fs))
section
variable {X:Cx}{o e e2 value:Expr}{es:List Expr}{f g x:Str}{p apos pos pos' tpos:Pos}{ta tv:TE}{t:TA}{C fa:Addr}
def jZ (K:Frag):List V->Hp->VK->Prop:=fun xs H Q=>∃ e C c b,xs=[e,c]∧XE K H e C∧Z4 K C c=some b∧Q (.bl b) H
theorem zL:z3 X (.builtin "isinstance") (jZ X.K):=by
 intro pins s σ H xs us Q I r h;obtain⟨e,C,c,b,rfl,⟨xc,ea,rfl,h⟩,hi,q⟩:=h;rcases h with h|⟨dx,fs,h,hd⟩
 · exact qam pins s σ H _ us Q I r ⟨ea,C,c,b,rfl,h,xc,hi,q⟩
 · exact qbb pins s σ H _ us Q I r ⟨ea,C,dx,fs,c,b,rfl,h,hd,xc,hi,q⟩
end
end L2
namespace Srt
open PySem PySem.W PyProof.Rows
end Srt
namespace L2
open PySem PySem.Spec PyProof.Rows
open PySem.W (Frag)
theorem Z5:∀ {xs:List V}{us:List Value},us.length=xs.length->(∀ (i:Nat) (x:V) (u:Value),xs[i]?=some x->us[i]?=some u->RelV x u)->Vals xs us
 | [],[],_,_=>.nil
 | [],_::_,h,_=>by cases h
 | _::_,[],h,_=>by cases h
 | x::xs,u::us,h,r=>.cons (r 0 x u rfl rfl) (Z5 (Nat.succ.inj h) fun i y v e1 e2=>r (i+1) y v e1 e2)
theorem Zp {k:Key}{v:Value} (h:jf k v=true):RelV (kV k) v:=by
 rcases qF h with ⟨i,t,rfl,rfl⟩|⟨x,t,rfl,rfl⟩
 · exact⟨t,rfl⟩
 · exact⟨t,rfl⟩
theorem ZO:∀ {kvs:List (Key×V)}{vs:List (Key×Value)},KV kvs vs->∀ {i:Nat}{k:Key}{x:Value},vs[i]?=some (k,x)->∃ y,kvs[i]?=some (k,y)∧RelV y x
 | _,_,.nil,i,k,x,e=>by cases e
 | _,_,.cons (a:=a) (b:=b) r t,i,k,x,e=>by
   cases i with
   | zero =>
     cases e;exact⟨a.2,by rw[List.getElem?_cons_zero];obtain⟨a1,a2⟩:=a;have:=r.1;simp at this;rw[this],r.2⟩
   | succ i=>exact ZO t e
theorem zy:∀ {kvs:List (Key×V)}{vs:List (Key×Value)},KV kvs vs->vs.length=kvs.length
 | _,_,.nil=>rfl
 | _,_,.cons _ t=>by rw[List.length_cons,List.length_cons,zy t]
section
variable {X:Cx}
def Q6:List V->Hp->VK->Prop:=fun xs H Q=>∃ a kvs,xs=[V.ref a]∧Rd H a (.dK kvs)∧∀ l,H l=none->Q (.ref l) (upd H l (.lst (kvs.map fun p=>kV p.1)))
theorem Zf (hc:X.calm=true):z3 X (.type "list") Q6:=by
 intro pins s σ H xs us Q I r h;obtain⟨a,kvs,rfl,hq,q⟩:=h;obtain⟨u,rfl,ru⟩:=Zv r;cases ru;obtain⟨hz,hS,vs,rel,o,es,ep,e,x,d,k,p,n⟩:=QX I.hok hq;have D:s.heap.DictAt (qq X.prog X.w) a vs ep:=⟨o,es,e,x,d,k,p,n⟩
 refine PySem.W.kdl_call (PySem.W.kdl_dict (knd:=qq X.prog X.w) (kvs:=vs) (ep:=ep) hS) (I.ok.hd hc) D (by rw[zy rel];exact hz) fun h' tk acc' c' kp e' it=>?_;obtain⟨al,ag⟩:=it
 have rv:Vals (kvs.map fun p=>kV p.1) acc'.toList:=by
   refine Z5 (by rw[Array.length_toList,al,List.length_map,zy rel]) fun i y v e1 e2=>?_;obtain⟨k',x',e3,e4⟩:=ag i v (by rw[← Array.getElem?_toList];exact e2);obtain⟨y',e5,_⟩:=ZO rel e3;rw[List.getElem?_map,e5]at e1;cases e1;exact Zp e4
 refine⟨.ref s.heap.objs.size,_,I.laid (t':=tk) kp (Nat.le_refl _) (show ObjOk X.prog X.w _ h' _ (.lst _) from ⟨by rw[List.length_map];exact hz,acc'.toList,c',rv,?_⟩),rfl,q _ (I.hok.fresh (Nat.le_refl _))⟩;rw[Array.toArray_toList];exact e'
def qbP:R2:=fun x y H Q=>∃ a o,y=.ref a∧qau H a x o∧Q (.bl (!o.isSome)) H
theorem QJ (hu:X.A.units+1 < cLine):OpR X (compareOp .NotIn) qbP:=by
 intro pins s σ H x y v u Q I rx ry h;obtain⟨a,o,rfl,g,q⟩:=h;cases ry;exact qce hu I g rx fun s' I'=>⟨.bl _,H,I',rfl,q⟩
end
def Itd (a:Addr) (ob:Obj) (kvs:List (Key×V)):It :=
 ⟨fun i H=>H a=some (.frz ob (.dK kvs))∧i < kvs.length,fun i H x H'=>H'=H∧∃ k y,kvs[i]?=some (k,y)∧x=kV k,fun i H=>H a=some (.frz ob (.dK kvs))∧kvs.length≤i⟩
theorem jL {P:Program}{w:World}{H:Hp}{h:Heap}{a:Addr}{ob:Obj}{kvs:List (Key×V)}{es:Array DictEntry}{ep:Nat} (ok:HOk P w H h) (e:H a=some (.frz ob (.dK kvs))) (hd:ob.data=.dict es ep) :
   (a == sysModules)=false∧∃ vs,KV kvs vs∧h.DictAt (qq P w) a vs ep:=by
 obtain⟨g,hz,hS,vs,rel,o,es',ep',e1,x,d,r⟩:=(show ObjOk P w H h a (.frz ob (.dK kvs)) from ok a _ e)
 rw[g]at e1;cases e1;rw[hd]at d;cases d;exact⟨hS,vs,rel,_,_,g,x,hd,r⟩
theorem jX {P:Program}{w:World}{K:Frag}{tg:Expr} (a it:Addr) (ob:Obj) (kvs:List (Key×V)) {es:Array DictEntry}{ep:Nat} (hd:ob.data=.dict es ep):qc0 P w K tg (Itd a ob kvs) [it] it (fun i h=>h.IsKeyIter it a i kvs.length ep) where
 mem:=by simp
 obj:=fun i h st b hb=>by
   have e:b=it:=by simpa using hb
   subst e;obtain⟨o,e,c,d⟩:=st;exact⟨o,e,fun v z=>by rw[d]at z;cases z⟩
 keep:=fun i h h' st k=>by
   obtain⟨o,e,r⟩:=st;exact⟨o,k it (by simp) o e,r⟩
 item:=by
   intro X hP hw hK hc i pins s σ H E I hf st hg;subst hP hw hK;obtain⟨e,hi⟩:=hg;obtain⟨hS,vs,rel,D⟩:=jL I.hok e hd;obtain⟨f0,f1,f2,f3,f4,f5⟩:=hf it (by simp);have ln:=zy rel;obtain⟨⟨k,y⟩,hy⟩:∃ p,vs[i]?=some p:=⟨vs[i]'(by omega),by rw[List.getElem?_eq_getElem]⟩
   obtain⟨y',hy',_⟩:=ZO rel hy;rw[← ln]at st;refine wpAny_pyNext_dict_item st D hy fun key h' hkey st' sb=>?_;have I1:Inv X pins σ H { s with heap:=h' }:=I.turned (t':=s.toks) (fun b o hb e=>(sb.2 b hb).trans e) f0 f1 f3 f4 f5;obtain⟨o,e',c,d⟩:=id st';rw[ln]at st';exact⟨key,rfl,qa4 (s:={ s with heap:=h' }) e' c d (by decide) ⟨kV k,H,I1,Zp hkey,⟨rfl,k,y',hy',rfl⟩,st',fun b hb=>(hf b hb).1⟩⟩
 done:=by
   intro X hP hw hK hc i pins s σ H E I hf st hg;subst hP hw hK;obtain⟨e,hi⟩:=hg;obtain⟨hS,vs,rel,D⟩:=jL I.hok e hd;obtain⟨f0,f1,f2,f3,f4,f5⟩:=hf it (by simp);have ln:=zy rel;rw[← ln]at st;exact wpAny_pyNext_dict_end (I.ok.hd hc) st D (List.getElem?_eq_none (by omega)) fun h' eb=>⟨rfl,I.turned (t':=s.toks) (fun b o hb e=>eb b o hb e) f0 f1 f3 f4 f5⟩
 self:=fun _ _ _ _ _ st h=>wpAny_pyIter_keyiter st h
section
variable {X:Cx}{tg:Expr}
def qcX (tl:TE):TI:=fun σ H R=>tl σ H fun x H1=>∃ a ob kvs,x=.ref a∧H1 a=some (.frz ob (.dK kvs))∧R (Itd a ob kvs) H1
theorem zY {l:Expr}{tl:TE} (hl:PE X l tl):PI X tg l (qcX tl):=by
 intro pins s σ H R I h;refine thn (hl pins s σ H _ I h) fun v s1 zz_=>?_;obtain⟨x,H1,I1,r1,q1⟩:=zz_;obtain⟨a,ob,kvs,e,hq,q⟩:=q1;subst e;cases r1;obtain⟨g,hz,hS,vs,rel,o,es,ep,e1,x,d,r⟩:=(show ObjOk X.prog X.w H1 s1.heap a (.frz ob (.dK kvs)) from I1.hok a _ hq)
 rw[g]at e1;cases e1;have D:s1.heap.DictAt (qq X.prog X.w) a vs ep:=⟨_,_,g,x,d,r⟩
 refine wpAny_pyIter_dict hS D ?_;refine⟨s1.heap.objs.size,[s1.heap.objs.size],_,_,H1,rfl,I1.kept (t':=s1.toks) fun b o e=>Heap.get?_push_of_some _ e,jX a _ ob kvs d,(by rw[← zy rel];exact⟨_,Heap.get?_push_size _ rfl,rfl,rfl⟩),fun b hb=>?_,q⟩;have e:b=s1.heap.objs.size:=by simpa using hb
 subst e;exact I1.fpOk (Nat.le_refl _) (I1.hok.fresh (Nat.le_refl _))
theorem zP {a:Addr}{ob:Obj}{kvs:List (Key×V)}{g:TG}{tb:TS}{D:jU}{σ:St}{H:Hp} (Pv:Nat->St->Hp->Prop) (h0:Pv 0 σ H) (hl:∀ i σ H,i≤kvs.length->Pv i σ H->H a=some (.frz ob (.dK kvs)))
   (hs:∀ i k y σ H,kvs[i]?=some (k,y)->Pv i σ H->g (kV k) σ H fun σ2 H2=>tb { D with nx:=Pv (i+1),ct:=Pv (i+1),bk:=D.nx } σ2 H2) (hd:∀ σ H,Pv kvs.length σ H->D.nx σ H) :
   ∃ W:Nat->Nat->St->Hp->Prop,(∃ m,W 0 m σ H)∧∀ i m σ H,W i m σ H ->
     ((Itd a ob kvs).stop i H∧D.nx σ H)∨((Itd a ob kvs).go i H∧∃ N:St->Hp->Prop,(∀ σ' H',N σ' H'->∃ m',m' < m∧W (i+1) m' σ' H')∧∀ x H',(Itd a ob kvs).yld i H x H'->g x σ H' fun σ2 H2=>tb { D with nx:=N,ct:=N,bk:=D.nx } σ2 H2):=by
 refine⟨fun i m σ H=>m=kvs.length - i∧i≤kvs.length∧Pv i σ H,⟨kvs.length,by simp,Nat.zero_le _,h0⟩,?_⟩;rintro i m σ H ⟨rfl,hi,p⟩;have q:=hl i σ H hi p;by_cases hlt:i < kvs.length
 · refine .inr ⟨⟨q,hlt⟩,Pv (i+1),fun σ' H' p'=>⟨kvs.length - (i+1),by omega,rfl,hlt,p'⟩,fun x H' y=>?_⟩;obtain⟨e,k,y,hk,ex⟩:=y;subst e;subst ex;exact hs i k y σ _ hk p
 · have e:i=kvs.length:=by omega
   subst e;exact .inl ⟨⟨q,Nat.le_refl _⟩,hd σ H p⟩
theorem ZT {a:Addr}{ob:Obj}{kvs:List (Key×V)}{g:TG}{tt:TT}{te:TE}{D:Addr}{Q:VK}{σ:St}{H:Hp} (Pv:Nat->St->Hp->Prop) (h0:Pv 0 σ H) (hl:∀ i σ H,i≤kvs.length->Pv i σ H->H a=some (.frz ob (.dK kvs)))
   (hs:∀ i k y σ H,kvs[i]?=some (k,y)->Pv i σ H->g (kV k) σ H fun σ3 H3=>tt σ3 H3 fun ok H4=>if ok=true then te σ3 H4 fun y H5=>∃ ys,H5 D=some (.lst ys)∧ys.length < sizeLine∧Pv (i+1) σ3 (upd H5 D (.lst (ys++[y]))) else Pv (i+1) σ3 H4)
   (hd:∀ σ H,Pv kvs.length σ H->Q (.ref D) H) :
   Qz (Itd a ob kvs) g tt te D Q σ H:=by
 refine⟨fun i m σ H=>m=kvs.length - i∧i≤kvs.length∧Pv i σ H,⟨kvs.length,by simp,Nat.zero_le _,h0⟩,?_⟩;rintro i m σ H ⟨rfl,hi,p⟩;have q:=hl i σ H hi p;by_cases hlt:i < kvs.length
 · refine .inr ⟨⟨q,hlt⟩,Pv (i+1),fun σ' H' p'=>⟨kvs.length - (i+1),by omega,rfl,hlt,p'⟩,fun v H' y=>?_⟩;obtain⟨e,k,y,hk,ex⟩:=y;subst e;subst ex;exact hs i k y σ _ hk p
 · have e:i=kvs.length:=by omega
   subst e;exact .inl ⟨⟨q,Nat.le_refl _⟩,hd σ H p⟩
end
theorem Zc:entryFor table "dict.update.loop"=some Builtin.«dict.update.loop»:=entryFor_of_tree (by kernel_rfl)
theorem zM:plainId "dict.update.loop"=true:=by decide +kernel
theorem ZK:typeLookup (.type "list") (Str.ofString "keys")=pure none:=am_miss_of_fast (by kernel_rfl)
section
variable {prog:Program}{w:World}{A:Around}{E:Value->Shared->Prop}{s:Shared}
theorem qb1 {l:Addr}{o:Obj}{xs:Array Value}{k:Nat}{Q:Option Value->Shared->Prop} (hx:s.heap.get? l=some o) (hc:o.cls=.type "list") (hdat:o.data=.seq xs k) (hd:o.dict=none) (hA:A.handled=none)
   (q:∀ h' tk,(∀ b ob,s.heap.get? b=some ob->h'.get? b=some ob)->Q none { s with heap:=h',toks:=tk }):wpAny (model prog w) A (getAttr? (.ref l) (Str.ofString "keys")) Q E s:=by
 obtain⟨c,dct,dat,sl⟩:=o;simp only at hc hdat hd;subst hc;subst hdat;subst hd;obtain⟨hp,g,d,tk,os⟩:=s;have f1:=sub_AttributeError;have f3:=F.slot_list_getattribute.lookup;have f4:=F.slot_list_getattribute.bind (Value.ref l);have f5:=am_list_getattr_none;have f6:=attrError_no_first;unfold getAttr? getAttrBy? getAttrBy getAttrByItsOwn hookBefore callGetattribute boundAndCalled;refine wpAny_bind (wpAny_mkText (wpAny_bind (wpAny_attempt (wpAny_holding (wpAny_bind (wpAny_typeOf (s:={ heap:=hp,gens:=g,drawn:=d,toks:=tk+1,os:=os }) (T:="list") ⟨_,hx,rfl⟩ (wpAny_bind (wpAny_of_eq f3 ?_))))))));rw[if_neg (by decide)];refine wpAny_bind ?_;rw[if_neg (by decide)];refine wpAny_pure (wpAny_bind (wpAny_attempt (wpAny_holding ?_)));show wpAny _ _ (bindSpecial (.builtin "list.__getattribute__") (.ref l) >>= _) _ _ _;refine wpAny_bind (wpAny_of_eq f4 ?_);refine call_meets F.slot_list_getattribute ⟨_,hx,rfl⟩ am_entry_list_getattribute (F.args_list_getattribute_2 (.ref l) (.str (Str.ofString "keys") tk)) (meets_getattribute_miss_list l xs k sl (Str.ofString "keys") tk ZK (by decide +kernel) (by decide +kernel)) ⟨hx,hA,fun h' tk' e hx'=>?_⟩;obtain⟨kp,nw,t,u,he⟩:=hx';dsimp only;unfold getattributeRaised hookBehind;have hT:Shared.TypeIs { heap:=h',gens:=g,drawn:=d,toks:=tk',os:=os } (.ref e) "AttributeError":=⟨_,he,rfl⟩
 refine wpAny_bind (wpAny_isInstance hT f1 ?_);simp only[if_true];rw[if_neg (by decide)];refine wpAny_bind (wpAny_of_eq f5 ?_);unfold hookOrError attributeErrorLeaves;simp only[Bool.not_false,if_true];refine wpAny_bind (wpAny_throw ?_);refine wpAny_bind (wpAny_isInstance hT f1 ?_);simp only[if_true];exact wpAny_pure (q h' tk' kp)
end
section
variable {prog:Program}{w:World}{A:Around}{R:Result->Shared->Prop}{I:Addr}{fp wr:List Addr}{n:Nat}{P:Nat->Value->Prop}{St:Nat->Heap->Prop}
theorem qcd (W:Walks prog w A.in1 I fp wr n P St) (S:Addr) (nS:S∉fp) (vs:List (Key×Value)) (ln:vs.length=n) (hb:n≤sizeLine) (ts:Nat->Addr) (keys:Nat->Value)
   (hP:∀ i v,i < n->P i v->v=.ref (ts i)) (ok:∀ i k x,vs[i]?=some (k,x)->(qq prog w).is k (keys i)=true∧ts i≠S∧ts i∉wr) :
   ∀ (k i:Nat) (s:Shared),n - i=k->i≤n->St i s.heap->s.heap.DictOf (qq prog w) S (merged [] (vs.take i))->(∀ j kk x,vs[j]?=some (kk,x)->s.heap.IsTuple (ts j) #[keys j,x]) ->
     (∀ h' tk,(∀ b o,b≠S->b∉wr->s.heap.get? b=some o->h'.get? b=some o)->h'.DictOf (qq prog w) S (merged [] vs)->R (.ok (.ret .none)) { s with heap:=h',toks:=tk }) ->
     codeAny (model prog w) A (.builtin "dict.update.loop" ⟨[.ref S,.ref I,rawInt (i:Int),.none],[]⟩) R s:=by
 have wS:S∉wr:=fun z=>nS (W.sub _ z);intro k
 induction k with
 | zero =>
   intro i s k0 i0 st dS tu fin;have e:i=n:=by omega
   subst e;rw[← ln,List.take_length]at dS;refine codeAny_builtin Zc ?_;rw[Around.under_plainId zM _];show wpAny _ A.in1 (pyNext (.ref I) >>= _) _ _ s;refine wpAny_bind (W.done s _ _ st fun h' tk mv=>?_)
   have dS':h'.DictOf (qq prog w) S (merged [] vs):=by
     obtain⟨o,es,ep,e,c⟩:=dS;exact⟨o,es,ep,mv _ _ wS e,c⟩
   show wpAny _ A.in1 (Builtin.Dict.addKeywords S [] >>= fun _=>ret Value.none) _ _ _;unfold Builtin.Dict.addKeywords;refine wpAny_bind (wpAny_bind (wpAny_pure (wpAny_pure ?_)));exact wpAny_pure (fin h' tk (fun b o _ nb e=>mv b o nb e) dS')
 | succ k ih =>
   intro i s k0 i0 st dS tu fin;have lt:i < n:=by omega
   obtain⟨⟨kk,x⟩,hv⟩:∃ p,vs[i]?=some p:=⟨_,List.getElem?_eq_getElem (by omega)⟩
   obtain⟨hk,n1,n2⟩:=ok i kk x hv;refine codeAny_builtin Zc ?_;rw[Around.under_plainId zM _];show wpAny _ A.in1 (pyNext (.ref I) >>= _) _ _ s;refine wpAny_bind (W.item i s _ _ lt st fun v h' tk pv st' mv=>?_);have hvv:=hP i v lt pv;subst hvv
   have dS':h'.DictOf (qq prog w) S (merged [] (vs.take i)):=by
     obtain⟨o,es,ep,e,c⟩:=dS;exact⟨o,es,ep,mv _ _ wS e,c⟩
   have tu':∀ j kk x,vs[j]?=some (kk,x)->h'.IsTuple (ts j) #[keys j,x]:=fun j kk x e=>by
     obtain⟨o,e1,c⟩:=tu j kk x e;exact⟨o,mv _ _ (ok j kk x e).2.2 e1,c⟩
   obtain⟨ot,et,ct,nt,dt⟩:=tu' i kk x hv;have hT:Shared.TypeIs { s with heap:=h',toks:=tk } (.ref (ts i)) "tuple":=⟨_,et,ct⟩
   show wpAny _ A.in1 (holding [Value.ref (ts i)] _ >>= _) _ _ _;refine wpAny_bind (wpAny_holding (wpAny_bind (wpAny_tryCatch ?_)));unfold Builtin.Dict.pairItems;refine wpAny_bind (wpAny_typeOf hT ?_);rw[if_pos (by decide)];refine wpAny_bind (wpAny_seqItems (s:={ s with heap:=h',toks:=tk }) et dt (wpAny_pure ?_));show wpAny _ A.in1 (holding [keys i,x] (dictSet S (keys i) x)) _ _ _;refine wpAny_holding (wpAny_dictSet_pairs (s:={ s with heap:=h',toks:=tk }) hk dS' (fun h2 dS2 sb=>?_) ?_)
   · rw[← merged_take_succ [] vs i (kk,x) hv]at dS2;refine wpAny_pure ⟨plainId_quiet zM _,?_⟩;refine ih (i+1) _ (by omega) lt (W.frame _ h' _ st' fun b mb o e=>?_) dS2 (fun j k2 x2 e=>?_) fun h3 tk3 mv3 dS3=>?_
     · rw[sb.2 b (fun z:b=S=>nS (by rw[← z];exact mb))];exact e
     · obtain⟨o,e1,c⟩:=tu' j k2 x2 e;exact⟨o,by rw[sb.2 _ (ok j k2 x2 e).2.1];exact e1,c⟩
     · refine fin h3 tk3 (fun b o b1 b2 e=>mv3 b o b1 b2 ?_) dS3;rw[sb.2 b b1];exact mv b o b2 e
   · have:=merged_length_le ([]:List (Key×Value)) (vs.take i)
     rw[List.length_take]at this;simp at this;omega
end
section
variable {prog:Program}{w:World}{A:Around}{E:Value->Shared->Prop}{s:Shared}
theorem qa8 {l:Addr}{o:Obj}{items:Array Value}{nl:Nat}{vs:List (Key×Value)}{ts:Nat->Addr}{keys:Nat->Value}{Q:Value->Shared->Prop} (hh:A.handled=none) (hl:s.heap.get? l=some o) (hc:o.cls=.type "list") (hdat:o.data=.seq items nl) (hd:o.dict=none)
   (ln:vs.length=items.size) (hb:items.size≤sizeLine) (hI:∀ (i:Nat) v,items[i]?=some v->v=.ref (ts i)) (ok:∀ i k x,vs[i]?=some (k,x)->(qq prog w).is k (keys i)=true∧s.heap.IsTuple (ts i) #[keys i,x])
   (fin:∀ h' tk,(∀ b o,s.heap.get? b=some o->h'.get? b=some o)->h'.DictOf (qq prog w) s.heap.objs.size (merged [] vs)->Q (.ref s.heap.objs.size) { s with heap:=h',toks:=tk }) :
   wpAny (model prog w) A (call (.type "dict") [.ref l]) Q E s:=by
 refine callType_codes F.kt_called_dict (F.kt_typeCall_dict_1 (.ref l)) F.entry_dict_init (kt_code_dict_new (Q₁:=fun obj s₁=>obj=.ref s.heap.objs.size∧s₁={ s with heap:=s.heap.push { cls:=.type "dict",data:=.dict #[] } }) (.ref l) ⟨rfl,rfl⟩) fun obj s₁ a=>?_;obtain⟨rfl,rfl⟩:=a;have hnew:=Heap.DictOf.new (knd:=qq prog w) s.heap;refine⟨hnew.typeIs,F.args_dict_init_2 _ _,?_⟩;have hl':(s.heap.push { cls:=.type "dict",data:=.dict #[] }).get? l=some o:=Heap.get?_push_of_some _ hl;unfold Builtin.«dict.__init__» Builtin.Dict.selfAndRest;refine wpAny_bind ?_;show wpAny _ _ (_ >>= _) _ _ _;refine wpAny_bind (wpAny_notOrdered_dict hnew.typeIs ?_);show wpAny _ _ (pure (s.heap.objs.size,[Value.ref l])) _ _ _;refine wpAny_pure ?_;show wpAny _ _ (Builtin.Dict.updateFrom "dict.__init__" s.heap.objs.size (.ref l) [] .none) _ _ _;unfold Builtin.Dict.updateFrom;have hT:Shared.TypeIs { s with heap:=s.heap.push { cls:=.type "dict",data:=.dict #[] } } (.ref l) "list":=⟨o,hl',hc⟩
 refine wpAny_bind (wpAny_typeOf hT ?_);rw[if_pos (by decide)];refine wpAny_bind (qb1 (s:={ s with heap:=s.heap.push { cls:=.type "dict",data:=.dict #[] } }) hl' hc hdat hd (by simp[hh]) fun h1 tk1 kp=>?_);simp only[Option.isNone_none,if_true];have hlt:=Heap.lt_size hl;have hl1:h1.get? l=some o:=kp _ _ hl';have hL1:h1.IsList l items:=⟨o,hl1,hc,nl,hdat⟩
 refine wpAny_bind (wpAny_rule (wpAny_bind (wpAny_pyIter_list (s:={ s with heap:=h1,toks:=tk1 }) hL1 (wpAny_pure ⟨plainId_quiet zM _,?_⟩))))
 have hS1:h1.DictOf (qq prog w) s.heap.objs.size []:=by
   obtain⟨ob,es,ep,e,c⟩:=hnew;exact⟨ob,es,ep,kp _ _ e,c⟩
 have hSlt:s.heap.objs.size < h1.objs.size:=by
   obtain⟨ob,es,ep,e,c⟩:=hS1;exact Heap.lt_size e
 have hl1t:l < h1.objs.size:=Heap.lt_size hl1;have hh3:A.in1.in1.handled=none:=by simp[hh]
 have nS:s.heap.objs.size∉[h1.objs.size,l]:=by
   simp only[List.mem_cons,List.mem_singleton,List.not_mem_nil,or_false,not_or];exact⟨Nat.ne_of_lt hSlt,Nat.ne_of_gt hlt⟩
 refine qcd (Walks.list hh3 h1.objs.size l (Nat.ne_of_lt hl1t) items) s.heap.objs.size nS vs ln hb ts keys (fun i v _ e=>hI i v e) (fun i k x e=>?_) (items.size - 0) 0 _ (by omega) (Nat.zero_le _) ⟨⟨_,Heap.get?_push_size _ rfl,rfl,rfl⟩,hL1.push _⟩ ?_ (fun j kk x e=>?_) fun h' tk mv dS=>?_
 · obtain⟨k1,ot,et,c⟩:=ok i k x e;have h2:=Heap.lt_size et;have h3:=Heap.lt_size (kp _ _ (Heap.get?_push_of_some _ et));exact⟨k1,Nat.ne_of_lt h2,by simp only[List.mem_singleton];exact Nat.ne_of_lt h3⟩
 · obtain⟨ob,es,ep,e,c⟩:=hS1;exact⟨ob,es,ep,Heap.get?_push_of_some _ e,c⟩
 · obtain⟨k1,ot,et,c⟩:=ok j kk x e;exact⟨ot,Heap.get?_push_of_some _ (kp _ _ (Heap.get?_push_of_some _ et)),c⟩
 · refine⟨rfl,fin h' tk (fun b ob e=>?_) dS⟩;have h2:=Heap.lt_size e;have e1:=kp _ _ (Heap.get?_push_of_some { cls:=.type "dict",data:=.dict #[] } e);exact mv b ob (Nat.ne_of_lt h2) (by simp only[List.mem_singleton];exact Nat.ne_of_lt (Heap.lt_size e1)) (Heap.get?_push_of_some _ e1)
end
section
inductive Prs (K:Frag) (H:Hp):List V->List (Key×V)->Prop
 | nil:Prs K H [] []
 | cons {t:Addr}{k:Key}{v:V}{zs:List V}{kvs:List (Key×V)} (h:SqT K H t [kV k,v]) (r:Prs K H zs kvs):Prs K H (.ref t::zs) ((k,v)::kvs)
theorem Prs.len {K:Frag}{H:Hp}{zs:List V}{kvs:List (Key×V)} (r:Prs K H zs kvs):zs.length=kvs.length:=by
 induction r with
 | nil=>rfl
 | cons _ _ ih=>rw[List.length_cons,List.length_cons,ih]
variable {X:Cx}{pins:List (Addr×Obj)}{σ:St}{H:Hp}{s:Shared}
theorem qaI (I:Inv X pins σ H s):∀ {zs:List V}{kvs:List (Key×V)}{its:List Value},Prs X.K H zs kvs->Vals zs its->∃ (vs:List (Key×Value)) (tk:List (Addr×Value)),KV kvs vs∧vs.length=its.length∧tk.length=its.length ∧
   (∀ (j:Nat) (a:Addr×Value),tk[j]?=some a->its[j]?=some (.ref a.1))∧∀ (j:Nat) (k:Key) (x:Value) (a:Addr×Value),vs[j]?=some (k,x)->tk[j]?=some a->(qq X.prog X.w).is k a.2=true∧s.heap.IsTuple a.1 #[a.2,x]:=by
 intro zs kvs its r
 induction r generalizing its with
 | nil =>
   intro v;cases v;exact⟨[],[],.nil,rfl,rfl,(fun j a e=>by cases e),fun j k x a e=>by cases e⟩
 | @cons t k v zs kvs h r ih =>
   intro hv
   cases hv with
   | @cons _ u _ us r1 hv =>
     cases (show u=Value.ref t from r1);obtain⟨vs,tk,c,l1,l2,q1,q2⟩:=ih hv;obtain⟨ts,tv,it,_⟩:=I.tuple h
     cases tv with
     | @cons _ key _ us2 rk tv =>
       cases tv with
       | @cons _ x _ us3 rx tv =>
         cases tv;refine⟨(k,x)::vs,(t,key)::tk,.cons ⟨rfl,rx⟩ c,by rw[List.length_cons,List.length_cons,l1],by rw[List.length_cons,List.length_cons,l2],fun j a e=>?_,fun j k' x' a e1 e2=>?_⟩
         · cases j with
           | zero=>cases e;rfl
           | succ j=>exact q1 j a e
         · cases j with
           | zero=>cases e1;cases e2;exact⟨jg rk,it⟩
           | succ j=>exact q2 j k' x' a e1 e2
def JB (K:Frag):List V->Hp->VK->Prop:=fun xs H Q=>∃ (l:Addr) (zs:List V) (kvs:List (Key×V)),xs=[V.ref l]∧SqL K H l zs∧Prs K H zs kvs∧(kvs.map (·.1)).Nodup∧∀ d,H d=none->Q (.ref d) (upd H d (.dK kvs))
theorem Zg (hc:X.calm=true):z3 X (.type "dict") (JB X.K):=by
 intro pins s σ H xs us Q I r h;obtain⟨l,zs,kvs,rfl,hl,pr,nd,q⟩:=h;obtain⟨u,rfl,ru⟩:=Zv r;cases ru;obtain⟨its,rv,⟨o,nl,e1,e2,e3,e4⟩,hz⟩:=I.list hl;obtain⟨vs,tk,kv,l1,l2,q1,q2⟩:=qaI I pr rv;have hlen:=rv.length;have gd:∀ j,j < its.length->∃ a,tk[j]?=some a:=fun j hj=>⟨_,List.getElem?_eq_getElem (by omega)⟩
 have ek:vs.map (·.1)=kvs.map (·.1):=by
   clear q1 q2 l1 nd q pr
   induction kv with
   | nil=>rfl
   | cons h _ ih =>
     rw[List.map_cons,List.map_cons,ih,h.1]
 refine qa8 (ts:=fun j=>(tk.getD j (0,.none)).1) (keys:=fun j=>(tk.getD j (0,.none)).2) (vs:=vs) (I.ok.hd hc) e1 e2 e4 e3 (by rw[l1,List.size_toArray]) (by rw[List.size_toArray];omega) (fun j v e=>?_) (fun j k x e=>?_) fun h' tk' kp dS=>?_
 · have e:its[j]?=some v:=by simpa using e
   obtain⟨a,ha⟩:=gd j (List.getElem?_eq_some_iff.mp e).1
   have:=q1 j a ha
   rw[List.getD_eq_getElem?_getD,ha];rw[this]at e;cases e;rfl
 · obtain⟨a,ha⟩:=gd j (by rw[← l1];exact(List.getElem?_eq_some_iff.mp e).1)
   have:=q2 j k x a e ha
   simp only[List.getD_eq_getElem?_getD,ha];exact this
 · rw[merged_nil_of_nodup vs (by rw[ek];exact nd)]at dS;refine⟨.ref s.heap.objs.size,_,I.laid (t':=tk') kp (Nat.le_refl _) (show ObjOk X.prog X.w _ h' _ (.dK kvs) from ⟨by rw[← pr.len];exact hz,?_,vs,kv,dS⟩),rfl,q _ (I.hok.fresh (Nat.le_refl _))⟩
   have:=I.big
   exact beq_eq_false_iff_ne.mpr (Nat.ne_of_gt this)
end
section
variable {X:Cx}
def Qb:List V->Hp->VK->Prop:=fun xs H Q=>∃ a kvs,xs=[V.ref a]∧Rd H a (.dK kvs)∧∀ d,H d=none->Q (.ref d) (upd H d (.dK kvs))
theorem qX:z3 X (.type "dict") Qb:=by
 intro pins s σ H xs us Q I r h;obtain⟨a,kvs,rfl,hq,q⟩:=h;obtain⟨u,rfl,ru⟩:=Zv r;cases ru;obtain⟨hz,hS,vs,rel,D⟩:=QX I.hok hq;refine kt_call_dict hS D (by rw[zy rel];exact hz) fun h' dS sb=>?_;have kp:∀ b o,s.heap.get? b=some o->h'.get? b=some o:=fun b o e=>by rw[sb.2 b (Nat.ne_of_lt (Heap.lt_size e))];exact Heap.get?_push_of_some _ e
 refine⟨.ref s.heap.objs.size,_,I.laid (t':=s.toks) kp (Nat.le_refl _) (show ObjOk X.prog X.w _ h' _ (.dK kvs) from ⟨hz,?_,vs,rel,dS⟩),rfl,q _ (I.hok.fresh (Nat.le_refl _))⟩
 have:=I.big
 exact beq_eq_false_iff_ne.mpr (Nat.ne_of_gt this)
end
def ExcAt (h:Heap) (x:Addr):Prop:=∃ o vs,h.get? x=some o∧o.data=.fields vs∧vs[2]?=some .none
theorem ExcAt.lt {h:Heap}{x:Addr} (e:ExcAt h x):x < h.objs.size:=let ⟨_,_,e,_⟩:=e;Heap.lt_size e
theorem ExcAt.at_ {h h':Heap}{x:Addr} (e:ExcAt h x) (k:∀ o,h.get? x=some o->h'.get? x=some o):ExcAt h' x:=let ⟨o,vs,e,d⟩:=e;⟨o,vs,k o e,d⟩
section
variable {prog:Program}{w:World}{A:Around}{E:Value->Shared->Prop}{s:Shared}{x:Addr}
theorem Zq:entryFor table "proto.unchain"=some Builtin.«proto.unchain»:=entryFor_of_tree (by kernel_rfl)
theorem Zx {e:Value}{Q:Value->Shared->Prop} (hx:ExcAt s.heap x) (h:Q .none s) :
   wpAny (model prog w) A (runValue (.builtin "proto.unchain" ⟨[e,.ref x,.ref x,.bool false],[]⟩)) Q E s:=by
 obtain⟨o,vs,ho,hd,h2⟩:=hx;refine wpAny_runValue (codeAny_builtin Zq ?_);unfold Builtin.«proto.unchain»;refine wpAny_bind (wpAny_field ho hd h2 ?_);exact wpAny_pure h
theorem Z7 {α:Type}{a:Addr}{oe:Obj}{ws:Array Value}{Q:α->Shared->Prop} (hh:A.handled=some (.ref x)) (hx:ExcAt s.heap x) (ne:x≠a) (ha:s.heap.get? a=some oe) (hd:oe.data=.fields ws) (hz:2 < ws.size)
   (h:E (.ref a) { s with heap:=s.heap.update a (Obj.mapFields (·.setIfInBounds 2 (.ref x))) }):wpAny (model prog w) A (raiseNew (α:=α) (.ref a)) Q E s:=by
 unfold raiseNew;refine wpAny_bind (wpAny_handled ?_);rw[hh]
 have hne:((Value.ref x != Value.ref a)=true):=by
   rw[bne_iff_ne];intro z;injection z with z;exact ne z
 simp only[hne,if_true];refine wpAny_bind (wpAny_holding (Zx hx ?_));show wpAny _ _ (setField (.ref a) 2 (.ref x) >>= fun _=>throw (Value.ref a)) Q E s;exact wpAny_bind (wpAny_setField ha hd hz (wpAny_throw h))
theorem qbL {α:Type}{it:Addr}{g:Heap}{Q:α->Shared->Prop} (hh:A.handled=some (.ref x)) (hx:ExcAt s.heap x) (eb:Heap.ExtBut it g s.heap) (hg:∀ b o,g.get? b=some o->b < s.heap.objs.size)
   (h:∀ e h',Heap.ExtBut it g h'->(∃ o,h'.get? e=some o∧o.cls=.type "StopIteration")->E (.ref e) { s with heap:=h' }):wpAny (model prog w) A (newExc (.type "StopIteration") [] >>= fun e=>raiseNew (α:=α) e) Q E s:=by
 refine wpAny_bind ?_;simp only[newExc,newTuple];refine wpAny_bind (wpAny_newObj_type ?_ (by size_fits));refine wpAny_bind (m:=firstArgMember _ _) (wpAny_of_eq (a:=Value.none) (by first|rfl|(simp only[firstArgMember];rfl)) ?_);refine wpAny_newObj_type ?_ (by size_fits);have sz:x < s.heap.objs.size:=hx.lt;refine Z7 (A:=A) hh ((hx.at_ fun o e=>Heap.get?_push_of_some _ e).at_ fun o e=>Heap.get?_push_of_some _ e) (Nat.ne_of_lt (by rw[Heap.size_push];exact Nat.lt_succ_of_lt sz)) (Heap.get?_push_size _ rfl) rfl (Nat.le_of_ble_eq_true rfl) ?_;refine h _ _ (fun b o hb e=>?_) ⟨_,Heap.get?_update_self _ (Heap.get?_push_size _ rfl) rfl,rfl⟩;have lt:=hg b o e;exact(Heap.get?_update_other _ _ (Nat.ne_of_gt (by rw[Heap.size_push];exact Nat.lt_succ_of_lt lt))).trans (Heap.get?_push_of_some _ (Heap.get?_push_of_some _ (eb b o hb e)))
theorem QR {κ:Type} [DecidableEq κ] {knd:KeyKind prog w κ}{it d:Addr}{i ep:Nat}{kvs:List (κ×Value)}{Q:Option Value->Shared->Prop} (hh:A.handled=some (.ref x)) (hx:ExcAt s.heap x) (ne:x≠it)
   (hit:s.heap.IsKeyIter it d i kvs.length ep) (hm:s.heap.DictAt knd d kvs ep) (hi:kvs[i]?=none)
   (hQ:∀ h',Heap.ExtBut it s.heap h'->Q none { s with heap:=h' }):wpAny (model prog w) A (pyNext (.ref it)) Q E s:=by
 obtain⟨o,ho,hc,hd⟩:=id hit;obtain⟨od,es,hod,hcd,hdd,hk,hp,hn⟩:=id hm;have hsz:es.size=kvs.length:=by rw[← hp.length];simp
 have hge:es.size≤i:=by rw[hsz];simpa using hi
 have hown:Builtin.Dict_items.ownsTuple "dict_keyiterator"=false:=by decide
 unfold pyNext;refine wpAny_bind (wpAny_attempt (wpAny_callSpecial?_slot (name:=Str.ofString "__next__") hit.typeIs F.slot_dict_keyiterator_next (wpAny_call_entry F.slot_dict_keyiterator_next hit.typeIs F.entry_dict_keyiterator_next ?_ (F.args_dict_keyiterator_next_1 _))));refine wpAny_bind (wpAny_pure (wpAny_bind (wpAny_bind ?_)))
 first|refine wpAny_bind (wpAny_typeNameOfWhole_keyiter hit.typeIs (wpAny_pure ?_))|refine wpAny_bind (wpAny_typeNameOf_keyiter hit.typeIs (wpAny_pure ?_))
 refine wpAny_bind (wpAny_fieldsOf ho hd ?_);simp only[hown,Bool.false_eq_true,if_false];show wpAny _ _ (if (Value.ref d == Value.none)=true then _ else _) _ _ s;rw[if_neg (show ¬ ((Value.ref d == Value.none)=true) from Bool.false_ne_true)];refine wpAny_bind (wpAny_pure (wpAny_bind (wpAny_dictEntries hod hdd ?_)));rw[if_neg (by rw[hsz];simp)];refine wpAny_bind (wpAny_pure (wpAny_bind (wpAny_dictEpoch hod hdd ?_)));rw[if_neg (by simp)];refine wpAny_pure ?_;simp only[show ¬ ((i:Int) < 0) from by omega,if_false,Int.toNat_natCast,Array.getElem?_eq_none hge];refine wpAny_bind ?_
 first|refine wpAny_bind (wpAny_typeNameOfWhole_keyiter hit.typeIs (wpAny_pure ?_))|refine wpAny_bind (wpAny_typeNameOf_keyiter hit.typeIs (wpAny_pure ?_))
 refine wpAny_bind (m:=setField (.ref it) 0 .none) (wpAny_setField ho hd (by simp) ?_);refine qbL (A:=A.in1) (g:=s.heap) hh (hx.at_ fun o e=>(Heap.get?_update_other _ _ (Ne.symm ne)).trans e) (Heap.SameBut.update ..).extBut (fun b o e=>by rw[Heap.size_update];exact Heap.lt_size e) fun e h' eb he=>?_;refine wpAny_bind (wpAny_isInstance (T:="StopIteration") (b:=true) he isSubtype_stop ?_);exact wpAny_pure (hQ _ eb)
theorem qay {κ:Type} [DecidableEq κ] {knd:KeyKind prog w κ} (hh:A.handled=some (.ref x)) (I d:Addr) (hne:d≠I) (hxi:x≠I) (kvs:List (κ×Value)) (ep:Nat) :
   Walks prog w A I [I,d,x] [I] kvs.length (fun i v=>∃ k y,kvs[i]?=some (k,y)∧knd.is k v=true) (fun i h=>h.IsKeyIter I d i kvs.length ep∧h.DictAt knd d kvs ep∧ExcAt h x) where
 sub:=fun b hb=>by rw[List.mem_singleton.mp hb];exact List.mem_cons_self
 frame:=fun _ _ _ st k=>⟨st.1.at fun o e=>k I (by simp) o e,st.2.1.at' fun o e=>k d (by simp) o e,st.2.2.at_ fun o e=>k x (by simp) o e⟩
 item:=fun i s Q E hi st hQ=>by
   obtain⟨⟨k,y⟩,hy⟩:∃ p,kvs[i]?=some p:=⟨kvs[i],by simp[hi]⟩
   exact wpAny_pyNext_dict_item st.1 st.2.1 hy fun key h' hk it' sb=>hQ key h' s.toks ⟨k,y,hy,hk⟩ ⟨it',st.2.1.extBut sb.extBut hne,st.2.2.at_ fun o e=>sb.extBut x o hxi e⟩ fun b o hb e=>sb.extBut b o (fun z=>hb (by simp[z])) e
 done:=fun s Q E st hQ=>QR hh st.2.2 hxi st.1 st.2.1 (by simp) fun h' eb=>hQ h' s.toks fun b o hb e=>eb b o (fun z=>hb (by simp[z])) e
 self:=fun _ _ _ _ st hQ=>wpAny_pyIter_keyiter st.1 hQ
end
end L2
namespace L2
open PySem PySem.Spec PyProof.Rows PySem.Calls PyProof.V
section
variable {prog:Program}{w:World}{A:Around}{E:Value->Shared->Prop}{s:Shared}{x:Addr}{κ:Type} [DecidableEq κ] {knd:KeyKind prog w κ}{d:Addr}{kvs:List (κ×Value)}{ep:Nat}
abbrev JV (knd:KeyKind prog w κ) (kvs:List (κ×Value)) (i:Nat) (v:Value):Prop:=∃ k y,kvs[i]?=some (k,y)∧knd.is k v=true
theorem qcc {R:Result->Shared->Prop} (lo:(d == sysModules)=false) (hh:A.handled=some (.ref x)) (hx:ExcAt s.heap x) (hm:s.heap.DictAt knd d kvs ep) {S:Addr} (hSd:S≠d) (hSx:S≠x) {c0:Nat} (hS:s.heap.get? S=some { cls:=.type "list",data:=.seq #[] c0 })
   (hn:kvs.length≤sizeLine)
   (hR:∀ h' tk acc c,(∀ b o,b≠S->s.heap.get? b=some o->h'.get? b=some o)->h'.get? S=some { cls:=.type "list",dict:=none,data:=.seq acc c,slots:=#[] }->ItemsOf (JV knd kvs) acc kvs.length->R (.ok (.ret .none)) { s with heap:=h',toks:=tk }) :
   wpAny (model prog w) A.in1 (Builtin.List.listExtendWith (.ref S) (.ref d) .none)
     (fun fin s'=>match fin with|.done f=>R (.ok f) s'|.again c'=>c'.quiet=true∧codeAny (model prog w) A c' R s') (fun e s'=>R (.error e) s') s:=by
 have lS:=Heap.lt_size hS;have hSI:S≠s.heap.objs.size:=Nat.ne_of_lt lS;have out:S∉[s.heap.objs.size,d,x]:=by simp only[List.mem_cons,List.not_mem_nil,or_false,not_or];exact⟨hSI,hSd,hSx⟩
 have W:=qay (A:=A.in1) (knd:=knd) hh s.heap.objs.size d (Nat.ne_of_lt hm.lt_size) (Nat.ne_of_lt hx.lt) kvs ep;have goes:∀ (g:Heap) (c1 tk:Nat),(g.IsKeyIter s.heap.objs.size d 0 kvs.length ep∧g.DictAt knd d kvs ep∧ExcAt g x)->(∀ b o,b≠S->s.heap.get? b=some o->g.get? b=some o) ->
     g.get? S=some { cls:=.type "list",data:=.seq #[] c1 }->codeAny (model prog w) A (.builtin "list.extend.loop" ⟨[.ref S,.ref s.heap.objs.size,.none],[]⟩) R { s with heap:=g,toks:=tk }:=fun g c1 tk st kp e1 =>
   codeAny_extend_loopS W.toS hn S out .none kvs.length 0 _ #[] c1 rfl (Nat.zero_le _) st e1 (ItemsOf.nil _) fun s' acc c hmv e2 ha=>by
     rw[Moved.eq_with hmv];refine hR s'.heap s'.toks acc c (fun b o hb e=>hmv.heap b o (fun m=>?_) (kp b o hb e)) e2 ha;rcases List.mem_cons.mp m with z|m
     · exact hb z
     · rw[List.mem_singleton.mp m]at e;exact absurd (Heap.lt_size e) (Nat.lt_irrefl _)
 have dt:s.TypeIs (.ref d) "dict":=hm.dictOf.typeIs;unfold Builtin.List.listExtendWith;refine wpAny_bind (wpAny_typeOf (T:="dict") dt ?_);have n1:Builtin.List.listSameRef (.ref S) (.ref d)=false:=by simp[Builtin.List.listSameRef,hSd]
 have n2:(Value.type "dict" == Value.type "list")=false:=by decide
 have n3:(Value.type "dict" == Value.type "tuple")=false:=by decide
 simp only[n1,n2,n3,Bool.or_false,Bool.false_eq_true,if_false];refine wpAny_bind (wpAny_pyIter_dict lo hm ?_)
 have st0:∀ oI:Obj,oI={ cls:=.type "dict_keyiterator",data:=.fields #[.ref d,.int 0 0,.int kvs.length 0,.int ep 0] }->((s.heap.push oI).IsKeyIter s.heap.objs.size d 0 kvs.length ep∧(s.heap.push oI).DictAt knd d kvs ep∧ExcAt (s.heap.push oI) x):=fun oI z=>by
   subst z;exact⟨⟨_,Heap.get?_push_size _ rfl,rfl,rfl⟩,hm.push _,hx.at_ fun o e=>Heap.get?_push_of_some _ e⟩
 refine wpAny_bind (wpAny_holding (PySem.W.kdl_hint_dict (st0 _ rfl).2.1.dictOf.typeIs ?_));have e1:=Heap.get?_push_of_some { cls:=.type "dict_keyiterator",data:=.fields #[.ref d,.int 0 0,.int kvs.length 0,.int ep 0] } hS;refine wpAny_ite_split (fun _=>?_) (fun _=>wpAny_pure ⟨plainId_quiet PySem.F.plain_extend_loop _,goes _ c0 _ (st0 _ rfl) (fun b o _ e=>Heap.get?_push_of_some _ e) e1⟩);refine wpAny_bind (wpAny_rule (wpAny_bind ?_));show wpAny _ _ (updateSeq S (·.push .none) >>= fun _=>updateSeq S (·.pop)) _ _ _;refine wpAny_bind (wpAny_updateSeq e1 rfl ?_);have e2:=Heap.get?_update_self (Obj.mapSeq (·.push Value.none)) e1 rfl;refine wpAny_updateSeq (hz:=by seq_fits) e2 rfl ?_;have e3:=Heap.get?_update_self (Obj.mapSeq (·.pop)) e2 rfl
 have oth:∀ b o,b≠S->(s.heap.push { cls:=.type "dict_keyiterator",data:=.fields #[.ref d,.int 0 0,.int kvs.length 0,.int ep 0] }).get? b=some o->(((s.heap.push { cls:=.type "dict_keyiterator",data:=.fields #[.ref d,.int 0 0,.int kvs.length 0,.int ep 0] }).update S (Obj.mapSeq (·.push Value.none))).update S (Obj.mapSeq (·.pop))).get? b=some o :=
   fun b o hb e=>(Heap.get?_update_other _ _ (Ne.symm hb)).trans ((Heap.get?_update_other _ _ (Ne.symm hb)).trans e)
 refine wpAny_pure ⟨plainId_quiet PySem.F.plain_extend_loop _,goes _ _ _ (W.frame 0 _ _ (st0 _ rfl) fun b hb o e=>oth b o (fun z=>out (z▸hb)) e) (fun b o hb e=>oth b o hb (Heap.get?_push_of_some _ e)) e3⟩
theorem qaZ {Q:Value->Shared->Prop} (lo:(d == sysModules)=false) (hh:A.handled=some (.ref x)) (hx:ExcAt s.heap x) (hm:s.heap.DictAt knd d kvs ep) (hn:kvs.length≤sizeLine)
   (hQ:∀ h' tk acc c,(∀ b o,s.heap.get? b=some o->h'.get? b=some o)->h'.get? s.heap.objs.size=some { cls:=.type "list",dict:=none,data:=.seq acc c,slots:=#[] }->ItemsOf (JV knd kvs) acc kvs.length->Q (.ref s.heap.objs.size) { s with heap:=h',toks:=tk }) :
   wpAny (model prog w) A (call (.type "list") [.ref d]) Q E s:=by
 refine callType_codes (Q₁:=fun v s1=>v=.ref s.heap.objs.size∧s1={ s with heap:=s.heap.push { cls:=.type "list",data:=.seq #[] } }) PySem.F.called_list (PySem.F.typeCall_list_1 _) PySem.F.entry_list_init (code_list_new _ ⟨rfl,rfl⟩) fun v s1 h1=>?_;obtain⟨rfl,rfl⟩:=h1;have e0:(s.heap.push { cls:=.type "list",data:=.seq #[] }).get? s.heap.objs.size=some { cls:=.type "list",data:=.seq #[] }:=Heap.get?_push_size _ rfl;refine⟨⟨_,e0,rfl⟩,PySem.F.args_list_init_2 _ _,?_⟩;show wpAny _ A.in1.in1 (do let old ← Builtin.List.listItems (.ref s.heap.objs.size);Builtin.List.listUpdate (.ref s.heap.objs.size) (fun _=>#[]);letGo old.toList.reverse;Builtin.List.listExtendWith (.ref s.heap.objs.size) (.ref d) .none) _ _ _;unfold Builtin.List.listItems;refine wpAny_bind (wpAny_bind (wpAny_seqItems e0 rfl (wpAny_pure ?_)));refine wpAny_bind (m:=updateSeq s.heap.objs.size (fun _=>#[])) (wpAny_updateSeq e0 rfl ?_);have e1:=Heap.get?_update_self (Obj.mapSeq (fun _=>(#[]:Array Value))) e0 rfl
 have oth:∀ b o,b≠s.heap.objs.size->(s.heap.push { cls:=.type "list",data:=.seq #[] }).get? b=some o->((s.heap.push { cls:=.type "list",data:=.seq #[] }).update s.heap.objs.size (Obj.mapSeq (fun _=>(#[]:Array Value)))).get? b=some o :=
   fun b o hb e=>(Heap.get?_update_other _ _ (Ne.symm hb)).trans e
 refine wpAny_bind (wpAny_letGo ?_);refine qcc (A:=A.in1) lo hh (hx.at_ fun o e=>oth x o (Nat.ne_of_lt hx.lt) (Heap.get?_push_of_some _ e)) (hm.at' fun o e=>oth d o (Nat.ne_of_lt hm.lt_size) (Heap.get?_push_of_some _ e)) (Nat.ne_of_gt hm.lt_size) (Nat.ne_of_gt hx.lt) e1 hn fun h' tk acc c kp e2 ha=>?_;exact⟨rfl,hQ h' tk acc c (fun b o e=>kp b o (Nat.ne_of_lt (Heap.lt_size e)) (oth b o (Nat.ne_of_lt (Heap.lt_size e)) (Heap.get?_push_of_some _ e))) e2 ha⟩
end
end L2
namespace L2
open PySem PySem.Spec PyProof.Rows
open PySem.W (Frag keepIn callWith_K keq_flat)
def ExcO (o:Obj):Prop:=∃ vs,o.data=.fields vs∧vs[2]?=some Value.none
theorem ExcO.at_ {o:Obj}{h:Heap}{x:Addr} (e:ExcO o) (g:h.get? x=some o):ExcAt h x:=let ⟨vs,d,z⟩:=e;⟨o,vs,g,d,z⟩
def Hnd (X:Cx):Prop:=∃ x o,X.A.handled=some (.ref x)∧(x,o)∈X.pn∧ExcO o
section
variable {X:Cx}{pins:List (Addr×Obj)}{σ:St}{H:Hp}{s:Shared}
theorem Hnd.at_ (h:Hnd X) (I:Inv X pins σ H s):∃ x o,X.A.handled=some (.ref x)∧(x,o)∈X.pn∧ExcAt s.heap x:=by
 obtain⟨x,o,e,m,q⟩:=h;exact⟨x,o,e,m,q.at_ (I.pin (x,o) (List.mem_append_left _ m)).1⟩
theorem QU (hc:Hnd X):z3 X (.type "list") Q6:=by
 intro pins s σ H xs us Q I r h;obtain⟨a,kvs,rfl,hq,q⟩:=h;obtain⟨u,rfl,ru⟩:=Zv r;cases ru;obtain⟨hz,hS,vs,rel,o,es,ep,e,x,d,k,p,n⟩:=QX I.hok hq;have D:s.heap.DictAt (qq X.prog X.w) a vs ep:=⟨o,es,e,x,d,k,p,n⟩
 obtain⟨ex,eo,eh,_,ea⟩:=hc.at_ I;refine qaZ hS eh ea D (by rw[zy rel];exact hz) fun h' tk acc c kp e' it=>?_;obtain⟨al,ag⟩:=it
 have rv:Vals (kvs.map fun p=>kV p.1) acc.toList:=Z5 (by rw[Array.length_toList,al,List.length_map,zy rel]) fun i y v e1 e2=>by
   obtain⟨k',x',e3,e4⟩:=ag i v (by rw[← Array.getElem?_toList];exact e2);obtain⟨y',e5,_⟩:=ZO rel e3;rw[List.getElem?_map,e5]at e1;cases e1;exact Zp e4
 refine⟨.ref s.heap.objs.size,_,I.laid (t':=tk) kp (Nat.le_refl _) (show ObjOk X.prog X.w _ h' _ (.lst _) from ⟨by rw[List.length_map];exact hz,acc.toList,c,rv,?_⟩),rfl,q _ (I.hok.fresh (Nat.le_refl _))⟩;rw[Array.toArray_toList];exact e'
theorem qaH {tg l:Expr}{body:List Stmt}{tl:TE}{g:TG}{tb:TS}{pos:Pos} (hp:PassesOwn (model X.prog X.w) X.A X.env X.xe) (hc:Hnd X) (hl:PE X l tl) (hg:PG X tg g) (hb:PSs X body tb)
   (hs:∀ x,foldedSetIterable l X.env x=pure x:=by intro _;rfl):PS X (.For tg l body [] pos) (qbh (qcX tl) g tb):=by
 intro pins s σ H D I h;refine wpAny_For (thn (hl pins s σ H _ I h) fun v s1 zz_=>?_) hs;obtain⟨x,H1,I1,r1,q1⟩:=zz_;obtain⟨a,ob,kvs,e,hq,W,⟨m0,w0⟩,turn⟩:=q1;subst e;cases r1;obtain⟨g1,hz,hS,vs,rel,o,es,ep,e1,x,d,r⟩:=(show ObjOk X.prog X.w H1 s1.heap a (.frz ob (.dK kvs)) from I1.hok a _ hq)
 rw[g1]at e1;cases e1;have D1:s1.heap.DictAt (qq X.prog X.w) a vs ep:=⟨_,_,g1,x,d,r⟩
 refine wpAny_pyIter_dict hS D1 ?_;have ln0:=zy rel;generalize hit:s1.heap.objs.size=it;have fit0:Je X pins H1 it:=hit▸I1.fpOk (Nat.le_refl _) (I1.hok.fresh (Nat.le_refl _));obtain⟨f0,f1,f2,f3,f4,f5⟩:=id fit0;have I2:Inv X pins σ H1 _:=I1.kept (t':=s1.toks) fun b o e=>Heap.get?_push_of_some { cls:=.type "dict_keyiterator",data:=.fields #[.ref a,.int 0 0,.int vs.length 0,.int ep 0] } e
 have st2:(s1.heap.push { cls:=.type "dict_keyiterator",data:=.fields #[.ref a,.int 0 0,.int vs.length 0,.int ep 0] }).IsKeyIter it a 0 kvs.length ep:=by
   rw[← ln0,← hit];exact⟨_,Heap.get?_push_size _ rfl,rfl,rfl⟩
 refine codeAny_forLoop_any (fun n s'=>∃ i σ' H',Inv X pins σ' H' s'∧s'.heap.IsKeyIter it a i kvs.length ep∧H' it=none∧W i n σ' H') ?_ m0 ⟨0,σ,H1,I2,st2,f0,w0⟩;rintro n s3 ⟨i,σ3,H3,I3,st3,fr3,w3⟩;rcases turn i n σ3 H3 w3 with ⟨stop,qn⟩|⟨go,N,hN,step⟩
 · obtain⟨e3,hi⟩:=stop;obtain⟨_,vs3,rel3,D3⟩:=jL I3.hok e3 d;have ln:=zy rel3;rw[← ln]at st3;obtain⟨ex,eo,eh,em,ea⟩:=hc.at_ I3;refine wpAny_passesOwn hp (QR eh ea (fun z=>f5 (ex,eo) (List.mem_append_left _ em) z) st3 D3 (List.getElem?_eq_none (by omega)) fun h' eb=>?_);exact wpAny_execs_nil ⟨σ3,H3,I3.turned (t':=s3.toks) (fun b o hb e=>eb b o hb e) fr3 f1 f3 f4 f5,qn⟩
 · obtain⟨e3,hi⟩:=id go;obtain⟨_,vs3,rel3,D3⟩:=jL I3.hok e3 d;have ln:=zy rel3;obtain⟨⟨k,y⟩,hy⟩:∃ p,vs3[i]?=some p:=⟨vs3[i]'(by omega),by rw[List.getElem?_eq_getElem]⟩
   obtain⟨y',hy',_⟩:=ZO rel3 hy;rw[← ln]at st3;refine wpAny_passesOwn hp (wpAny_pyNext_dict_item st3 D3 hy fun key h' hkey st' sb=>?_);have I5:Inv X pins σ3 H3 { s3 with heap:=h' }:=I3.turned (t':=s3.toks) (fun b o hb e=>(sb.2 b hb).trans e) fr3 f1 f3 f4 f5;obtain⟨oi,e',c',d'⟩:=id st';rw[ln]at st';refine wpAny_passesOwn hp (qa4 (s:={ s3 with heap:=h' }) e' c' d' (by decide) ?_);have I5':=I5.pinned (fp:=[it]) (fun b hb=>by rw[List.mem_singleton.mp hb];exact⟨fr3,f1,f2,f3,f4,f5⟩) (fun b hb=>by rw[List.mem_singleton.mp hb];exact⟨oi,e',fun v z=>by rw[d']at z;cases z⟩);refine wpAny_passesOwn hp (thn (hg _ _ σ3 H3 (kV k) key _ I5' (Zp hkey) (step _ H3 ⟨rfl,k,y',hy',rfl⟩)) fun _ s6 zz_=>?_);obtain⟨σ6,H6,I6,q6⟩:=zz_;refine wpAny_passesOwn hp (thn (hb _ s6 σ6 H6 _ I6 q6) fun f s7 q7=>?_)
   have again:∀ {σ7:St}{H7:Hp},Inv X (pins++QI [it] h') σ7 H7 s7->N σ7 H7->∃ m,m < n∧∃ i σ' H',Inv X pins σ' H' s7∧s7.heap.IsKeyIter it a i kvs.length ep∧H' it=none∧W i m σ' H':=fun {σ7 H7} I7 n7=>by
     obtain⟨m',hm,w7⟩:=hN σ7 H7 n7;obtain⟨p1,p2,_⟩:=I7.pin (it,oi) (List.mem_append_right _ (List.mem_append_right _ (qW (List.mem_singleton.mpr rfl) e')));exact⟨m',hm,i+1,σ7,H7,I7.unpinned,st'.at (fun o q=>by rw[e']at q;cases q;exact p1),p2,w7⟩
   cases f with
   | next=>obtain⟨σ7,H7,I7,n7⟩:=q7;exact again I7 n7
   | cont=>obtain⟨σ7,H7,I7,n7⟩:=q7;exact again I7 n7
   | brk=>obtain⟨σ7,H7,I7,q7⟩:=q7;exact⟨σ7,H7,I7.unpinned,q7⟩
   | ret v=>obtain⟨x7,σ7,H7,I7,r7,q7⟩:=q7;exact⟨x7,σ7,H7,I7.unpinned,r7,q7⟩
end
structure RoomH (k:Nat) (A:Around) (x:Addr):Prop where
 hd:A.handled=some (.ref x)
 dp:A.depth+3 * k+5 < recursionLimit
 un:A.units+16 * k+200 < cLine
 gd:A.guards=some []
theorem RoomH.mono {j k:Nat}{A:Around}{x:Addr} (r:RoomH k A x) (h:j≤k):RoomH j A x:=⟨r.hd,by have:=r.dp;omega,by have:=r.un;omega,r.gd⟩
theorem RoomH.deeper {k:Nat}{A:Around}{x:Addr} (r:RoomH (k+1) A x) (env:Env):RoomH k (A.deeper env) x :=
 ⟨r.hd,by have:=r.dp;show A.depth+1+3 * k+5 < _;omega,by have:=r.un;show A.units+3+16 * k+200 < _;omega,r.gd⟩
theorem RoomH.depth {k:Nat}{A:Around}{x:Addr} (r:RoomH k A x):A.depth < recursionLimit:=by have:=r.dp;omega
theorem RoomH.hu {k:Nat}{A:Around}{x:Addr} (r:RoomH k A x):A.units+1 < cLine:=by have:=r.un;omega
theorem RoomH.units {k:Nat}{A:Around}{x:Addr} (r:RoomH k A x):A.units+64 < cLine:=by have:=r.un;omega
theorem Room.mark {k:Nat}{A:Around} (r:Room k A) (x:Addr):RoomH k (A.mark (some (.ref x))) x:=⟨rfl,r.dp,r.un,r.gd⟩
structure Z2 (P:Program) (w:World) (K:Frag) (mg:Str->Option Value) (base:Heap) (k:Nat) (f:Addr) (fd:FuncData) (ps:List Str) (sp:Sp):Prop where
 len:∀ vs H Q E,sp vs H Q E->vs.length=ps.length
 run:∀ (A:Around) (outer:List Env) (s:Shared) (H:Hp) (args:Args) (us:List Value) (vs:List V) (Q:VK) (x:Addr) (o:Obj),RoomH k A x->Env0 P w K mg base A outer s H->s.heap.get? x=some o->ExcO o->H x=none->x∉frs outer ->
   BindsTo s fd args (ps.zip us)->Vals vs us->sp vs H Q E0->codeAny (model P w) A (.call (.ref f) args) (CR CX0 outer P w H s Q E0) s
abbrev cxH (P:Program) (w:World) (K:Frag) (mg:Str->Option Value) (base:Heap) (N:List Str) (qual:Str) (scope:Scope) (f:Addr) (cd:Value) (A:Around) (outer:List Env) (s:Shared) (H:Hp) (x:Addr) (o:Obj):Cx :=
 { zU CX0 P w K mg base N qual scope f cd A outer s H E0 with calm:=false,pn:=[(x,o)],xe:=fun _ _=>False }
theorem J8 {P:Program}{w:World}{K:Frag}{mg:Str->Option Value}{base:Heap}{N:List Str}{qual:Str}{scope:Scope}{f:Addr}{cd:Value}{A:Around}{outer:List Env}{s:Shared}{H:Hp}{x:Addr}{o:Obj} (h:A.handled=some (.ref x)) (e:ExcO o) :
   Hnd (cxH P w K mg base N qual scope f cd A outer s H x o):=⟨x,o,h,List.mem_singleton.mpr rfl,e⟩
theorem Fun.okH {P:Program}{w:World}{K:Frag}{mg:Str->Option Value}{base:Heap}{y qual:Str}{st:Stmt}{f:Addr}{fd:FuncData}{N ps:List Str}{k:Nat}{sp:Sp} (F:Fun K y qual st f fd) (S:qD N ps (qk st))
   (len:∀ vs H Q E,sp vs H Q E->vs.length=ps.length)
   (hbody:∀ (cdv:Value) (A:Around) (outer:List Env) (s:Shared) (H:Hp) (vs:List V) (Q:VK) (x:Addr) (o:Obj),RoomH k (A.deeper (envOfC qual (qk st) s.heap.objs.size f cdv)) x->ExcO o->sp vs H Q E0 ->
     ∃ t,PSs (cxH P w K mg base N qual (qk st) f cdv A outer s H x o) (q8 st) t∧t { nx:=fun _ H'=>Q .non H',rt:=Q } (Qo N vs) H):Z2 P w K mg base (k+1) f fd ps sp:=by
 obtain⟨oc,od,kV,doc,pm,an,cdv,ct,osl,rfl,lk,hcd⟩:=F.ex;refine⟨len,fun A outer s H args us vs Q x o hr e0 hx xo nx nf hb r hsp=>?_⟩;have hl:=len _ _ _ _ hsp;have KX:K.In s.heap:=e0.mod.kin.keeps fun b o e=>(e0.bs b o e).1;have lim:s.heap.NoLimit:=e0.mod.nolimit.keeps fun b o e=>(e0.bs b o e).1
 have hkind:∀ y∈ps.zip us,(qk st).names.lookup y.1=some .local∨((qk st).names.lookup y.1=some .cell∧((cellsFrom (s.heap.objs.size+1) (qk st).names []).lookup y.1).isSome=true):=fun⟨n,v⟩ hy =>
   (S.par n (List.of_mem_zip hy).1).imp id fun q=>⟨q,PySem.W.cellsFrom_some _ _ _ (.inl q)⟩
 refine codeAny_call_function hr.depth (KX _ _ lk) rfl S.co S.gen rfl (PySem.W.codeRec_of KX hcd) (hb _ _ _ _ ?_);refine wpAny_newFunctionEnv_cells S.kind hkind fun env he s1 ic=>?_;subst he;refine⟨lim.keeps ic.toInCall.keep,codeAny_func ?_⟩;obtain⟨t,ht,hq⟩:=hbody cdv A outer s H vs Q x o (hr.deeper _) xo hsp;have e0':Env0 P w K mg base { A with handled:=none } outer s H:=⟨e0.frames,e0.mod,e0.bs,e0.bsz,e0.funs,e0.frf,e0.hok,e0.bare⟩
 have I0:=ZQ (CX:=CX0) (E:=E0) (qual:=qual) (f:=f) (cd:=cdv) S rfl e0' hl r ic
 have I:Inv (cxH P w K mg base N qual (qk st) f cdv A outer s H x o) [] (Qo N vs) H s1:=by
   obtain⟨⟨a1,a2,a3,a4,a5,a6,a7,a8,a9,a10,a11,a12,a13,a14,a15,a16,a17,a18⟩,b1,b2,b3,b4,b5,b6,b7,b8,b9,b10⟩:=I0;refine⟨⟨a1,a2,a3,a4,a5,a6,a7,a8,fun z=>(nomatch z),a10,a11,a12,a13,a14,a15,a16,a17,a18⟩,b1,b2,b3,b4,b5,b6,b7,fun p hp=>?_,b9,b10⟩;obtain rfl:p=(x,o):=by simpa using hp
   exact⟨ic.toInCall.keep _ _ hx,nx,Nat.ne_of_lt (Heap.lt_size hx),nf,fun v z=>by obtain⟨vs',d,_⟩:=xo;rw[d]at z;cases z⟩
 refine wpAny_mono (ht [] s1 (Qo N vs) H _ I hq) (fun fl s' hs=>?_) fun e s' hs=>hs.elim
 cases fl with
 | ret u =>
   obtain⟨v,σ',H',J,rv,q⟩:=hs;exact⟨v,H',J.os,J.bare,J.base,J.hok,rv,q⟩
 | next =>
   obtain⟨σ',H',J,q⟩:=hs;exact⟨.non,H',J.os,J.bare,J.base,J.hok,rfl,q⟩
 | brk=>obtain⟨_,_,_,q⟩:=hs;exact q.elim
 | cont=>obtain⟨_,_,_,q⟩:=hs;exact q.elim
section
variable {X:Cx}{y:Str}{p pos:Pos}{e:Expr}{es:List Expr}{t:TA}{f:Addr}{fd:FuncData}{ps:List Str}{sp:Sp}{k:Nat}
theorem qbO {pins:List (Addr×Obj)}{σ:St}{H:Hp}{s:Shared}{Q:VK}{us:List Value}{vs:List V} (F:Z2 X.prog X.w X.K X.mg X.base k f fd ps sp) (hc:Hnd X) (hr:∀ x,X.A.handled=some (.ref x)->RoomH k X.A x) (hb:Binds X.K fd ps [])
   (hf:frs X.stack ⊆ X.env.locals::X.fs) (I:Inv X pins σ H s) (r:Vals vs us) (h:sp vs H Q E0):wpAny (model X.prog X.w) X.A (call (.ref f) us) (EP X pins σ Q) X.xe s:=by
 have hl:(us++[]).length=ps.length:=by rw[List.append_nil,← r.length];exact F.len _ _ _ _ h
 have hbb:=hb s us I.kIn hl;rw[List.append_nil]at hbb;obtain⟨x,o,eh,em,eo⟩:=hc;obtain⟨p1,p2,p3,p4,_⟩:=I.pin (x,o) (List.mem_append_left _ em);refine wpAny_call (codeAny_mono (F.run X.A X.stack s H ⟨us,[]⟩ us vs Q x o (hr x eh) I.env0 p1 eo p2 (fun z=>(List.mem_cons.mp (hf z)).elim p3 p4) hbb r h) fun r s' hq=>?_)
 cases r with
 | error e=>exact hq.elim
 | ok fl =>
   cases fl with
   | ret u=>exact I.after hq
   | next=>exact False.elim hq
   | brk=>exact False.elim hq
   | cont=>exact False.elim hq
def qcn (sp:Sp) (t:TA):TE:=fun σ H Q=>t σ H fun vs H1=>sp vs H1 Q E0
theorem qaN (F:Z2 X.prog X.w X.K X.mg X.base k f fd ps sp) (hc:Hnd X) (hr:∀ x,X.A.handled=some (.ref x)->RoomH k X.A x) (hg:Gl X y) (hm:X.mg y=some (.ref f)) (hk:keepIn X.K (.ref f)=true) (hb:Binds X.K fd ps [])
   (ha:PA X (e::es) t) (hdb:(y == ("__debug__":Str))=false:=by decide) (he:starEach (e::es) X.env=(false,eval e X.env)::starEach es X.env:=by rfl) (hpl:(backTo pos (starEach es X.env)).any (·.1)=false:=by rfl) :
   PE X (.Call (.Name y p) (e::es) [] pos) (qcn sp t):=by
 intro pins s σ H Q I h;refine wpAny_Call_Name_kw (zH I hg hm ?_ hdb);refine callWith_K (h₀:=X.base) I.ok.mod.kin hk (thn (ha pos pins s σ H _ I h) fun us s1 ⟨vs,H1,I1,r,q⟩=>⟨I1.kIn,?_⟩) he hpl;exact qbO F hc hr hb (fun b z=>I.stkSub b z) I1 r q
end
def Jg (H:Hp) (ea:Addr) (H2:Hp):Hp:=fun b=>if b=ea then H ea else H2 b
theorem zZ {H H2:Hp}{ea b:Addr} (h:b≠ea):Jg H ea H2 b=H2 b:=by unfold Jg;rw[if_neg h]
theorem qap {H H2:Hp}{ea:Addr}:Jg H ea H2 ea=H ea:=by unfold Jg;rw[if_pos rfl]
section
variable {P:Program}{w:World}{H H2:Hp}{h h':Heap}{ea:Addr}
theorem HOk.cutX {φ:Heap->Prop} (ok:HOk P w H h) (e:H ea=some (.ext φ)):HOk P w (cut H [ea]) h:=fun b u q=>by
 have nb:b≠ea:=fun z=>by rw[jP (List.mem_singleton.mpr z)]at q;cases q
 have out:∀ c v,H c=some v->v≠.ext φ->cut H [ea] c=some v:=fun c v r nv=>by
   rw[zo fun z=>nv (by rw[List.mem_singleton.mp z,e]at r;exact(Option.some.inj r).symm)];exact r
 rw[zo fun z=>nb (List.mem_singleton.mp z)]at q;exact(ok b u q).stay (fun _ _ _ z=>z) (fun c r=>out c _ r (by intro z;cases z)) fun c xs r=>out c _ r (by intro z;cases z)
theorem HOk.backX {φ:Heap->Prop} (ok:HOk P w H h) (e:H ea=some (.ext φ)) (ok2:HOk P w H2 h') (n2:H2 ea=none) (k:∀ o,h.get? ea=some o->h'.get? ea=some o):HOk P w (Jg H ea H2) h':=fun b u q=>by
 by_cases z:b=ea
 · subst z;rw[qap,e]at q;cases q;obtain⟨f,⟨o,g⟩,st⟩:=(show ObjOk P w H h b (.ext φ) from ok b _ e)
   exact⟨st h h' f k,⟨o,k o g⟩,st⟩
 · rw[zZ z]at q;have out:∀ c v,H2 c=some v->Jg H ea H2 c=some v:=fun c v r=>by rw[zZ fun z=>by rw[z,n2]at r;cases r];exact r
   exact(ok2 b u q).stay (fun _ _ _ z=>z) (fun c r=>out c _ r) fun c xs r=>out c _ r
end
section
variable {X:Cx}{y:Str}{p pos:Pos}{e:Expr}{es:List Expr}{t:TA}{f:Addr}{fd:FuncData}{ps:List Str}{sp:Sp}{k:Nat}{ea:Addr}
def qcy (ea:Addr) (sp:Sp) (t:TA):TE:=fun σ H Q=>t σ H fun vs H1=>(∃ C dx tb,H1 ea=some (.ext (ExO ea C dx tb)))∧sp vs (cut H1 [ea]) (fun v H2=>Q v (Jg H1 ea H2)) E0
theorem jF (F:Z2 X.prog X.w X.K X.mg X.base k f fd ps sp) (hr:RoomH k X.A ea) (hg:Gl X y) (hm:X.mg y=some (.ref f)) (hk:keepIn X.K (.ref f)=true) (hb:Binds X.K fd ps [])
   (ha:PA X (e::es) t) (hdb:(y == ("__debug__":Str))=false:=by decide) (he:starEach (e::es) X.env=(false,eval e X.env)::starEach es X.env:=by rfl) (hpl:(backTo pos (starEach es X.env)).any (·.1)=false:=by rfl) :
   PE X (.Call (.Name y p) (e::es) [] pos) (qcy ea sp t):=by
 intro pins s σ H Q I h;refine wpAny_Call_Name_kw (zH I hg hm ?_ hdb);refine callWith_K (h₀:=X.base) I.ok.mod.kin hk (thn (ha pos pins s σ H _ I h) fun us s1 ⟨vs,H1,I1,r,⟨C,dx,tb,ee⟩,q⟩=>⟨I1.kIn,?_⟩) he hpl;have hl:(us++[]).length=ps.length:=by rw[List.append_nil,← r.length];exact F.len _ _ _ _ q
 have hbb:=hb s1 us I1.kIn hl;rw[List.append_nil]at hbb;obtain⟨⟨oe,vs',g,_,_,d,_,_,x2⟩,_,_⟩:=(show ObjOk X.prog X.w H1 s1.heap ea (.ext (ExO ea C dx tb)) from I1.hok ea _ ee)
 have e1:=I1.env0;have nfr:ea∉frs X.stack:=fun z=>by rw[e1.frf ea z]at ee;cases ee
 have cn:∀ b,H1 b=none->cut H1 [ea] b=none:=fun b n=>by
   unfold cut;split
   · rfl
   · exact n
 have e2:Env0 X.prog X.w X.K X.mg X.base X.A X.stack s1 (cut H1 [ea]):=⟨e1.frames,e1.mod,fun b o q=>⟨(e1.bs b o q).1,cn b (e1.bs b o q).2⟩,e1.bsz,e1.funs,fun b m=>cn b (e1.frf b m),e1.hok.cutX ee,e1.bare⟩
 refine wpAny_call (codeAny_mono (F.run X.A X.stack s1 (cut H1 [ea]) ⟨us,[]⟩ us vs _ ea oe hr e2 g ⟨vs',d,x2⟩ (jP (List.mem_singleton.mpr rfl)) nfr hbb r q) fun r s' hq=>?_)
 cases r with
 | error e=>exact hq.elim
 | ok fl =>
   cases fl with
   | ret u =>
     obtain⟨v,H2,os,bare,un,hok,rv,qv⟩:=hq;have n2:H2 ea=none:=un.free ea oe g (jP (List.mem_singleton.mpr rfl)) (by simp);have kp:s'.heap.get? ea=some oe:=un.keep ea oe g (jP (List.mem_singleton.mpr rfl)) nfr (by simp)
     have out:∀ b v,H1 b=some v->(∀ φ,v≠.ext φ)->cut H1 [ea] b=some v∧b≠ea:=fun b v r nv=>by
       have nb:b≠ea:=fun z=>by rw[z,ee]at r;exact nv _ (Option.some.inj r).symm
       exact⟨by rw[zo fun z=>nb (List.mem_singleton.mp z)];exact r,nb⟩
     have un':Un (frs X.stack) [] H1 (Jg H1 ea H2) s1.heap s'.heap:=⟨fun b o q n=>un.keep b o q (cn b n),fun b o q n=>un.slot b o q (cn b n),fun b o q n hx=>by rw[zZ (qe ee n).symm];exact un.free b o q (cn b n) hx,un.there,
       fun b xs q=>by obtain⟨a1,a2⟩:=out b _ q (by intro φ z;cases z);rw[zZ a2];exact un.tups b xs a1,
       fun b o u q=>by obtain⟨a1,a2⟩:=out b _ q (by intro φ z;cases z);rw[zZ a2];exact un.frzs b o u a1,
       fun b qs q=>by obtain⟨a1,a2⟩:=out b _ q (by intro φ z;cases z);rw[zZ a2];exact un.tbls b qs a1⟩
     exact I1.after ⟨v,Jg H1 ea H2,os,bare,un',e1.hok.backX ee hok n2 (fun o q=>by rw[g]at q;cases q;exact kp),rv,qv⟩
   | next=>exact False.elim hq
   | brk=>exact False.elim hq
   | cont=>exact False.elim hq
end
section
variable {X:Cx}{pins:List (Addr×Obj)}{σ σ':St}{H H':Hp}{s s':Shared}
def qbQ:V->List V->Hp->VK->Prop:=fun x vs H Q=>∃ a kvs,x=.ref a∧vs=[]∧H a=some (.dK kvs)∧Q .non (upd H a (.dK []))
theorem JQ:MtM X "dict.clear" qbQ:=by
 intro pins s σ H x vs v us Q I rx rv h;obtain⟨l,kvs,rfl,rfl,hH,q⟩:=h;cases rx;have hus:=rv.zero;subst hus;exact qcf I hH fun s1 I1=>⟨.non,_,I1,rfl,q⟩
theorem Inv.thaw {a:Addr}{u:HO}{ob:Obj} (I0:Inv X pins σ H s) (e0:H a=some u) (hu:(∀ xs,u≠.tup xs)∧(∀ o v,u≠.frz o v)∧∀ ps,u≠.tbl ps) (I:Inv X pins σ' H' s') (e:H' a=some (.frz ob u)):Inv X pins σ' (upd H' a u) s':=by
 have ne:∀ {b:Addr}{v:HO},X.H₀ b=some v->(∀ z,H b=some z->z≠u)->b≠a:=fun _ h z=>h _ (by rw[z];exact e0) rfl;have nn:∀ {b:Addr},H' b=none->b≠a:=fun n z=>by rw[z,e]at n;cases n
 have un:∀ {b:Addr},H' b=none->upd H' a u b=none:=fun n=>by rw[qb (nn n)];exact n
 have keepH:∀ b v,H' b=some v->v≠.frz ob u->upd H' a u b=some v:=fun b v q n=>by rw[qb fun z=>n (by rw[z,e]at q;exact(Option.some.inj q).symm)];exact q
 refine⟨I.ok,I.os,I.bare,⟨I.base.keep,I.base.slot,fun b o q n hx=>un (I.base.free b o q n hx),I.base.there,fun b xs q=>?_,fun b o v q=>?_,fun b ps q=>?_⟩,I.loc,I.cell,un I.free,fun x c q=>un (I.freeC x c q),fun p hp=>?_,fun b v q=>?_,I.len⟩
 · rw[qb (ne q fun z g=>by rw[I0.base.tups b xs q]at g;cases g;exact(hu.1 xs).symm)];exact I.base.tups b xs q
 · rw[qb (ne q fun z g=>by rw[I0.base.frzs b o v q]at g;cases g;exact(hu.2.1 o v).symm)];exact I.base.frzs b o v q
 · rw[qb (ne q fun z g=>by obtain⟨m,r⟩:=I0.base.tbls b ps q;rw[r]at g;cases g;exact(hu.2.2 _).symm)];exact I.base.tbls b ps q
 · obtain⟨p1,p2,p3⟩:=I.pin p hp;exact⟨p1,un p2,p3⟩
 · by_cases z:b=a
   · subst z;rw[qd]at q;cases q;obtain⟨_,ok⟩:=(show ObjOk X.prog X.w H' s'.heap b (.frz ob u) from I.hok b _ e)
     exact ok.stay (fun _ _ _ z=>z) (fun c r=>keepH c _ r (by intro z;cases z)) fun c xs r=>keepH c _ r (by intro z;cases z)
   · rw[qb z]at q;exact(I.hok b v q).stay (fun _ _ _ z=>z) (fun c r=>keepH c _ r (by intro z;cases z)) fun c xs r=>keepH c _ r (by intro z;cases z)
def loan (a:Addr) (ob:Obj) (kvs:List (Key×V)) (D:jU):jU :=
 { nx:=fun σ H=>H a=some (.frz ob (.dK kvs))∧D.nx σ (upd H a (.dK kvs)),ct:=fun σ H=>H a=some (.frz ob (.dK kvs))∧D.ct σ (upd H a (.dK kvs)),
   bk:=fun σ H=>H a=some (.frz ob (.dK kvs))∧D.bk σ (upd H a (.dK kvs)),rt:=fun v H=>H a=some (.frz ob (.dK kvs))∧D.rt v (upd H a (.dK kvs)) }
def qdl (t:TS):TS:=fun D σ H=>∃ a kvs,H a=some (.dK kvs)∧∀ ob,t (loan a ob kvs D) σ (upd H a (.frz ob (.dK kvs)))
theorem PS.loan {st:Stmt}{t:TS} (h:PS X st t):PS X st (qdl t):=by
 intro pins s σ H D I q;obtain⟨a,kvs,e,q⟩:=q;obtain⟨hz,hS,vs,rel,o,es,ep,e1,r⟩:=QX I.hok (.inl e);have I':Inv X pins σ (upd H a (.frz o (.dK kvs))) { s with heap:=s.heap,toks:=s.toks }:=I.write (x:=a) (e:=a) (by rw[e];exact True.intro) (.inl rfl) (fun b u _ z=>z) ⟨_,e1⟩ ⟨e1,hz,hS,vs,rel,o,es,ep,e1,r⟩;have th:∀ {σ':St}{H':Hp}{s':Shared},Inv X pins σ' H' s'->H' a=some (.frz o (.dK kvs))->Inv X pins σ' (upd H' a (.dK kvs)) s':=fun J g=>I.thaw e ⟨fun _ z=>(nomatch z),fun _ _ z=>(nomatch z),fun _ z=>(nomatch z)⟩ J g;refine wpAny_mono (h pins s σ _ (L2.loan a o kvs D) I' (q o)) (fun f s' hq=>?_) fun _ _ z=>z
 cases f with
 | next=>obtain⟨σ7,H7,I7,g,n7⟩:=hq;exact⟨σ7,_,th I7 g,n7⟩
 | cont=>obtain⟨σ7,H7,I7,g,n7⟩:=hq;exact⟨σ7,_,th I7 g,n7⟩
 | brk=>obtain⟨σ7,H7,I7,g,n7⟩:=hq;exact⟨σ7,_,th I7 g,n7⟩
 | ret v=>obtain⟨x7,σ7,H7,I7,r7,g,n7⟩:=hq;exact⟨x7,σ7,_,th I7 g,r7,n7⟩
def qdq:List V->Hp->VK->Prop:=fun xs H Q=>∃ a kvs c,xs=[.ref a,.ty c]∧Rd H a (.dK kvs)∧c∈Qy∧Q (.bl (qdy c "dict")) H
theorem jT:z3 X (.builtin "isinstance") qdq:=by
 intro pins s σ H xs us Q I r h;obtain⟨a,kvs,c,rfl,ea,hc,q⟩:=h;obtain⟨u,w',rfl,ru,rw'⟩:=jV r;cases (show w'=Value.type c from rw');cases (show u=Value.ref a from ru);obtain⟨_,_,vs,_,o,es,ep,h1,h2,_⟩:=QX I.hok ea;exact PySem.W.kia_one PySem.W.kitx_dict I.kIn ⟨o,h1,h2.1⟩ (qbv X.K (t:="dict") (by decide) hc) (fun z=>nomatch z) fun tk=>⟨.bl _,H,I.tok tk,rfl,q⟩
theorem RoomH.any {k:Nat}{A:Around}{x:Addr} (r:RoomH k A x):∀ y,A.handled=some (.ref y)->RoomH k A y:=fun y e=>by
 have:=r.hd.symm.trans e
 cases this;exact r
end
section
variable {X:Cx}{pos:Pos}
def qda (K:Frag) (LC:Addr) (i:Nat) (tb:XTS) (th:Addr->TS):TS:=fun D σ H=>tb D (fun Cv eo H'=>∃ C ea,Cv=.ref C∧eo=some ea∧xIn K C=true∧PySem.W.mroIn K C (.ref LC)=some true ∧
 th ea { nx:=fun _ _=>False,rt:=D.rt } (σ.set i (some (.ref ea))) H') σ H
theorem qbU {body suite:List Stmt}{b₀:Stmt}{lx n:Str}{np hpos:Pos}{i:Nat}{LC:Addr}{tb:XTS}{th:Addr->TS} (hst:X.stack=X.env::X.outer) (hfr:X.env.frame=some X.env.locals)
   (hb:PX X body tb) (hg:Gl X lx) (hm:X.mg lx=some (.ref LC)) (xl:xIn X.K LC=true) (hN:X.N.Nodup) (hi:X.N[i]?=some n) (hx:Loc X.env.scope n) (hloc:X.env.kindOf n=some .local)
   (hh:∀ ea,PSs (qaY X ea) (b₀::suite) (th ea)) (hdb:(lx == ("__debug__":Str))=false:=by decide) (hf:X.fn n=true∨X.env.scope.names.lookup n=some .local:=by first|exact .inl rfl|exact .inr rfl) :
   PS X (.Try body [.ExceptHandler (some (.Name lx np)) (some n) (b₀::suite) hpos] [] [] pos) (qda X.K LC i tb th):=by
 intro pins s σ H D I h;refine wpAny_Try_except ?_;refine wpAny_mono (hb pins s σ H D _ (fun e s₁=>wpAny (model X.prog X.w) X.A (noteFrame e X.env) (fun _ s₂=>wpAny (model X.prog X.w) X.A (setFlight e none) (fun _ s₃=>wpAny (model X.prog X.w) X.A (handleBy e X.env [.ExceptHandler (some (.Name lx np)) (some n) (b₀::suite) hpos]) (SP X pins D) X.xe s₃) X.xe s₂) X.xe s₁) I h ?_)
   (fun f s1 q=>?_) fun e s1 q=>q
 · intro ea C dx H' s' J xa sr;refine JR J hst hfr J.ok.frames xa fun s2 T hT hne J2=>?_;obtain⟨C1,ea1,e1,e2,xc,hmr,q⟩:=sr _ (fun b o hb e=>QM hT hb e) (JT hT hne);cases e1;cases e2;have tb1:zB H' ea C dx T ea=some (.ext (ExO ea C dx (.ref T))):=by unfold zB;rw[qb (Ne.symm hne),qd]
   have tb2:zB H' ea C dx T T=some (.ext (TbO T)):=by unfold zB;rw[qd]
   obtain⟨⟨oe,vs,hx1,hcl,hdx,hd,hz,h1,hx2⟩,_,_⟩:=(show ObjOk X.prog X.w _ s2.heap ea (.ext (ExO ea C dx (.ref T))) from J2.hok ea _ tb1)
   obtain⟨⟨oT,ts,hT1,hTd,hT3⟩,_,_⟩:=(show ObjOk X.prog X.w _ s2.heap T (.ext (TbO T)) from J2.hok T _ tb2)
   have JM:=J2.mark ea;refine wpAny_handleBy_cons (codeAny_handlers_test (zH (X:=qaY X ea) JM hg hm ?_ hdb)) (by intro z;cases z);refine Jh J2.kIn xc xl hmr hx1 hcl ?_;refine codeAny_handlers_suite_as ?_;unfold setFlight;refine wpAny_bind (wpAny_field hx1 hd h1 ?_);rw[if_pos (show (Value.ref T != Value.none)=true from by simp)];refine wpAny_setField hT1 hTd (Array.getElem?_eq_some_iff.mp hT3).1 ?_;rw[show s2.heap.update T (Obj.mapFields (·.setIfInBounds 3 ((none:Option Addr).elim Value.none fun f=>rawInt f)))=s2.heap from Heap.update_setField_same s2.heap T oT ts 3 Value.none hT1 hTd hT3];refine Qv (v:=.ref ea) J2 hN hi hx rfl (fun s3 J3=>?_) hf;refine wpAny_mono (hh ea pins s3 _ _ _ (J3.mark ea) q) (fun fl s4 q4=>?_) fun _ _ z=>z.elim
   cases fl with
   | next=>obtain⟨_,_,_,z⟩:=q4;exact z.elim
   | brk=>obtain⟨_,_,_,z⟩:=q4;exact z.elim
   | cont=>obtain⟨_,_,_,z⟩:=q4;exact z.elim
   | ret u =>
     obtain⟨v,σ',H4,J4,rv,z⟩:=q4;have J5:=Inv.unmark (A0:=True) J2.ok J4;obtain⟨m,hn,_⟩:=J5.loc;refine wpAny_nameGoes hloc hn (by rw[J2.ok.kind];rfl) fun h' m' hn' hs'=>?_;exact⟨v,_,H4,J5.lose hn' hs',rv,z⟩
 · cases f with
   | next=>exact wpAny_execs_nil q
   | ret v=>exact q
   | brk=>exact q
   | cont=>exact q
theorem Qg {H H2:Hp}{ea:Addr} (s:Same (cut H [ea]) H2):Same H (Jg H ea H2):=fun b o e=>by
 by_cases z:b=ea
 · subst z;rw[qap];exact e
 · rw[zZ z];exact s b o (by rw[zo fun m=>z (List.mem_singleton.mp m)];exact e)
end
section
variable {X:Cx}
def JH:V->Bool
 | .non=>true
 | .bl _=>true
 | .int _=>true
 | .str _=>true
 | .ref _=>true
 | _=>false
theorem j9 {A:Around}{s:Shared}{v:V}{a b:Value} (h:JH v=true) (ra:RelV v a) (rb:RelV v b):SeqAt.EqAt A s a b true:=by
 cases v with
 | non=>cases (show a=Value.none from ra);cases (show b=Value.none from rb);exact SeqAt.EqAt.same _
 | bl c=>cases (show a=Value.bool c from ra);cases (show b=Value.bool c from rb);exact SeqAt.EqAt.same _
 | int i =>
   obtain⟨t,q⟩:=(show ∃ t,a=Value.int i t from ra)
   obtain⟨t',q'⟩:=(show ∃ t,b=Value.int i t from rb)
   cases q;cases q'
   have:=keq_flat (A:=A) (s:=s) (.int i t) (.int i t')
   simpa[PyData.eqv] using this
 | str x =>
   obtain⟨t,q⟩:=(show ∃ t,a=Value.str x t from ra)
   obtain⟨t',q'⟩:=(show ∃ t,b=Value.str x t from rb)
   cases q;cases q'
   have:=keq_flat (A:=A) (s:=s) (.str x t) (.str x t')
   simpa[PyData.eqv] using this
 | ref p=>cases (show a=Value.ref p from ra);cases (show b=Value.ref p from rb);exact SeqAt.EqAt.same _
 | _=>cases h
def qea:R2:=fun x y H Q=>∃ a b xs,x=.ref a∧y=.ref b∧H a=some (.lst xs)∧H b=some (.lst xs)∧xs.all JH=true∧Q (.bl false) H
theorem qbt (hu:X.A.units+64 < cLine):OpR X (compareOp .NotEq) qea:=by
 intro pins s σ H x y v u Q I rx ry h;obtain⟨a,b,xs,rfl,rfl,ha,hb,pl,q⟩:=h;cases (show v=Value.ref a from rx);cases (show u=Value.ref b from ry);obtain⟨_,i1,n1,r1,l1,e1⟩:=I.lstM ha;obtain⟨_,i2,n2,r2,l2,e2⟩:=I.lstM hb;have hs1:i1.toArray.size=xs.length:=by rw[List.size_toArray];exact r1.length.symm
 have hs2:i2.toArray.size=xs.length:=by rw[List.size_toArray];exact r2.length.symm
 have hs:i1.toArray.size=i2.toArray.size:=hs1.trans hs2.symm
 have k:=SeqAt.RcNeAt.lists (A:=X.A) (s:=s) (e:=fun _=>true) ⟨_,e1,rfl,_,rfl⟩ ⟨_,e2,rfl,_,rfl⟩ hs (by omega) (fun j h1 h2=>by
   have hj:j < xs.length:=by omega
   obtain⟨w1,g1,q1⟩:=r1.get (List.getElem?_eq_getElem hj);obtain⟨w2,g2,q2⟩:=r2.get (List.getElem?_eq_getElem hj);have z1:i1.toArray[j]=w1:=by simpa using (List.getElem?_eq_some_iff.mp g1).2
   have z2:i2.toArray[j]=w2:=by simpa using (List.getElem?_eq_some_iff.mp g2).2
   rw[z1,z2]
   exact j9 (List.all_eq_true.mp pl _ (List.getElem_mem hj)) q1 q2)
 refine k _ _ _ _ ⟨.bl false,H,I,?_,q⟩;rw[show (List.range i1.toArray.size).all (fun _=>true)=true by simp];rfl
end
end L2
namespace K54
open PySem L2 PySem.NumText PyProof.Rows KC
open PySem.W (Frag keepIn fnOf codeIn nsIn)
def top (i:Nat):Stmt:=PySem.Challenge.pw_foldlog_k54_lesser_and_greater.main.body.getD i (.Pass ⟨0,0,0,0⟩)
abbrev zD:Stmt:=top 7
theorem sc_check_lacking:qD ["one","other","name"] ["one","other"] (qk zD):=⟨rfl,rfl,rfl,by decide +kernel,rfl,by decide +kernel,by decide +kernel⟩
abbrev zl:Stmt:=top 8
theorem zW:qD ["one","other"] ["one","other"] (qk zl):=⟨rfl,rfl,rfl,by decide +kernel,rfl,by decide +kernel,by decide +kernel⟩
abbrev jv:Stmt:=top 9
theorem Js:qD ["one","other"] ["one","other"] (qk jv):=⟨rfl,rfl,rfl,by decide +kernel,rfl,by decide +kernel,by decide +kernel⟩
abbrev ZA:Stmt:=top 10
theorem jY:qD ["one","other"] ["one","other"] (qk ZA):=⟨rfl,rfl,rfl,by decide +kernel,rfl,by decide +kernel,by decide +kernel⟩
abbrev jw:Stmt:=top 12
theorem Zz:qD ["_law_found"] ["_law_found"] (qk jw):=⟨rfl,rfl,rfl,by decide +kernel,rfl,by decide +kernel,by decide +kernel⟩
abbrev Ju:Stmt:=top 13
theorem sc_Ltake:qD ["_law_script","_law_pen","_law_many","_law_cell","_law_found"] ["_law_script","_law_pen","_law_many"] (qk Ju):=⟨rfl,rfl,rfl,by decide +kernel,rfl,by decide +kernel,by decide +kernel⟩
abbrev Jw:Stmt:=top 14
theorem sc_Lname:qD ["_law_number_here","_law_turn","_law_letters","_law_some","_law_word"] ["_law_number_here","_law_turn"] (qk Jw):=⟨rfl,rfl,rfl,by decide +kernel,rfl,by decide +kernel,by decide +kernel⟩
abbrev ZC:Stmt:=top 15
theorem sc_Lnumber:qD ["_law_script","_law_pen","_law_way"] ["_law_script","_law_pen"] (qk ZC):=⟨rfl,rfl,rfl,by decide +kernel,rfl,by decide +kernel,by decide +kernel⟩
abbrev ZB:Stmt:=top 16
theorem sc_Lturned:qD ["_law_script","_law_pen","_law_names","_law_left","_law_found","_law_name_here"] ["_law_script","_law_pen","_law_names"] (qk ZB):=⟨rfl,rfl,rfl,by decide +kernel,rfl,by decide +kernel,by decide +kernel⟩
abbrev jx:Stmt:=top 17
theorem sc_Lalike:qD ["_law_found","_law_due","_law_name_here"] ["_law_found","_law_due"] (qk jx):=⟨rfl,rfl,rfl,by decide +kernel,rfl,by decide +kernel,by decide +kernel⟩
abbrev Jv:Stmt:=top 18
theorem sc_Lpair:qD ["_law_one","_law_other","_law_few","_law_most","_law_name_here"] ["_law_one","_law_other"] (qk Jv):=⟨rfl,rfl,rfl,by decide +kernel,rfl,by decide +kernel,by decide +kernel⟩
abbrev Jt:Stmt:=top 19
theorem sc_Ltold:qD ["_law_one","_law_other","_law_due","_law_handed","_law_found","_law_k"] ["_law_one","_law_other"] (qk Jt):=⟨rfl,rfl,rfl,by decide +kernel,rfl,by decide +kernel,by decide +kernel⟩
abbrev Q4:Stmt:=top 20
theorem sc_Lrefused:qD ["_law_which","_law_one","_law_other","_law_due","_law_handed","e"] ["_law_which","_law_one","_law_other","_law_due"] (qk Q4):=⟨rfl,rfl,rfl,by decide +kernel,rfl,by decide +kernel,by decide +kernel⟩
abbrev Q5:Stmt:=top 21
theorem sc_Llacking:qD ["_law_one","_law_other","_law_name_here"] ["_law_one","_law_other"] (qk Q5):=⟨rfl,rfl,rfl,by decide +kernel,rfl,by decide +kernel,by decide +kernel⟩
abbrev qcC:Stmt:=top 22
theorem sc_law:qD ["_law_script","_law_pen","_law_turn","_law_step","_law_many","_law_names","_law_dicts","_law_k","_law_name_here","_law_one","_law_other","_law_due","_law_which"] ["_law_script"] (qk qcC):=⟨rfl,rfl,rfl,by decide +kernel,rfl,by decide +kernel,by decide +kernel⟩
abbrev zR:Stmt:=J1 (top 3) 0
theorem QG:qD ["self","found"] ["self","found"] (qk zR):=⟨rfl,rfl,rfl,by decide +kernel,rfl,by decide +kernel,by decide +kernel⟩
abbrev zE:Stmt:=J1 (top 1) 0
theorem Qp:qD ["self","text"] ["self","text"] (qk zE):=⟨rfl,rfl,rfl,by decide +kernel,rfl,by decide +kernel,by decide +kernel⟩
set_option genInjectivity false in
structure Ad where
 c_LogError:Addr
 c_NoName:Addr
 c_NoEntry:Addr
 c_NoBond:Addr
 c_NoPaper:Addr
 f_h:Addr
 fd_h:FuncData
 f_g:Addr
 fd_g:FuncData
 f_c:Addr
 fd_c:FuncData
 f_d:Addr
 fd_d:FuncData
 f_e:Addr
 fd_e:FuncData
 f_a:Addr
 fd_a:FuncData
 f_i:Addr
 fd_i:FuncData
 f_j:Addr
 fd_j:FuncData
 f_k:Addr
 fd_k:FuncData
 f_b:Addr
 fd_b:FuncData
 f_l:Addr
 fd_l:FuncData
 f_f:Addr
 fd_f:FuncData
 f_m:Addr
 fd_m:FuncData
 f_n:Addr
 fd_n:FuncData
 f_q:Addr
 fd_q:FuncData
 f_o:Addr
 fd_o:FuncData
 f_p:Addr
 fd_p:FuncData
structure DfM (K:Frag) (C:Addr) (x q:Str) (st:Stmt) (ps:List Str) (f:Addr) (fd:FuncData):Prop where
 F:Fun K x q st f fd
 b:Binds K fd ps []
 mt:qdY K C x f
structure Txt (K:Frag) (mg:Str->Option Value) (a:Ad):Prop where
 d_h:Df K mg "check_lacking" zD ["one","other"] a.f_h a.fd_h
 d_g:Df K mg "check_same_names" zl ["one","other"] a.f_g a.fd_g
 d_c:Df K mg "lesser" jv ["one","other"] a.f_c a.fd_c
 d_d:Df K mg "greater" ZA ["one","other"] a.f_d a.fd_d
 d_e:Df K mg "_law_whole" jw ["_law_found"] a.f_e a.fd_e
 d_a:Df K mg "_law_take" Ju ["_law_script","_law_pen","_law_many"] a.f_a a.fd_a
 d_i:Df K mg "_law_name" Jw ["_law_number_here","_law_turn"] a.f_i a.fd_i
 d_j:Df K mg "_law_number" ZC ["_law_script","_law_pen"] a.f_j a.fd_j
 d_k:Df K mg "_law_turned" ZB ["_law_script","_law_pen","_law_names"] a.f_k a.fd_k
 d_b:Df K mg "_law_alike" jx ["_law_found","_law_due"] a.f_b a.fd_b
 d_l:Df K mg "_law_pair" Jv ["_law_one","_law_other"] a.f_l a.fd_l
 d_f:Df K mg "_law_told" Jt ["_law_one","_law_other"] a.f_f a.fd_f
 d_m:Df K mg "_law_refused" Q4 ["_law_which","_law_one","_law_other","_law_due"] a.f_m a.fd_m
 d_n:Df K mg "_law_lacking" Q5 ["_law_one","_law_other"] a.f_n a.fd_n
 d_q:Df K mg "law" qcC ["_law_script"] a.f_q a.fd_q
 d_o:DfM K a.c_NoEntry "__init__" "NoEntry.__init__" zR ["self","found"] a.f_o a.fd_o
 d_p:DfM K a.c_LogError "__init__" "LogError.__init__" zE ["self","text"] a.f_p a.fd_p
 n_len:mg "len"=none
 n_max:mg "max"=none
 n_min:mg "min"=none
 n_isinstance:mg "isinstance"=none
 n_range:mg "range"=none
 n_int:mg "int"=none
 n_bool:mg "bool"=none
 n_str:mg "str"=none
 n_list:mg "list"=none
 n_dict:mg "dict"=none
 n_ValueError:mg "ValueError"=none
 g_LogError:mg "LogError"=some (.ref a.c_LogError)
 g_NoName:mg "NoName"=some (.ref a.c_NoName)
 g_NoEntry:mg "NoEntry"=some (.ref a.c_NoEntry)
 g_NoBond:mg "NoBond"=some (.ref a.c_NoBond)
 g_NoPaper:mg "NoPaper"=some (.ref a.c_NoPaper)
 xl_LogError:xIn K a.c_LogError=true
 ci_LogError:qc3 K a.c_LogError a.f_p
 X_NoEntry:XMk K a.c_NoEntry a.f_o
 up_NoEntry:PySem.W.mroIn K a.c_NoEntry (.ref a.c_LogError)=some true
 n_NoEntry_found:qas K a.c_NoEntry "found"
 is_NoEntry_NoName:Z4 K a.c_NoEntry (.ref a.c_NoName)=some false
 is_NoEntry_NoEntry:Z4 K a.c_NoEntry (.ref a.c_NoEntry)=some true
 is_NoEntry_NoBond:Z4 K a.c_NoEntry (.ref a.c_NoBond)=some false
 is_NoEntry_NoPaper:Z4 K a.c_NoEntry (.ref a.c_NoPaper)=some false
 ndc:([]:List Addr).Nodup
theorem qcB {t u:TS}{D:jU}{σ:L2.St}{H:Hp} (h:∀ N:L2.St->Hp->Prop,(∀ σ' H',u D σ' H'->N σ' H')->t { D with nx:=N } σ H):qdc t u D σ H:=h (u D) fun _ _ x=>x
theorem But.up {p:Addr}{H:Hp} (o:HO):But p H (upd H p o):=(But.refl p H).put o
theorem zA:bootBuiltins "ValueError"=some (.type "ValueError"):=by decide +kernel
theorem z5 {H:Hp}{a:Addr}{o u:HO} (e:H a=some u):upd (upd H a o) a u=H:=by rw[qbG];exact jk e
abbrev Kv:=List (Key×V)
structure Dn (kvs:Kv):Prop where
 nd:(kvs.map (·.1)).Nodup
 ti:∀ p∈kvs,∃ (x:Str) (i:Int),p=(.inr x,.int i)
 few:kvs.length≤60
theorem Zj:∀ {kvs:Kv}{i:Nat}{k:Key}{y:V},(kvs.map (·.1)).Nodup->kvs[i]?=some (k,y)->zf kvs k=some y
 | [],i,_,_,_,e=>by simp at e
 | (k0,y0)::r,0,k,y,_,e=>by cases e;exact qS rfl
 | (k0,y0)::r,i+1,k,y,nd,e=>by
   rw[List.map_cons,List.nodup_cons]at nd;have m:k∈r.map (·.1):=List.mem_map.mpr ⟨(k,y),List.mem_of_getElem? (by simpa using e),rfl⟩;rw[qT (fun z=>nd.1 (by rw[show k0=k from z];exact m))];exact Zj nd.2 (by simpa using e)
theorem Dn.val {kvs:Kv} (d:Dn kvs) {i:Nat}{k:Key}{y:V} (e:kvs[i]?=some (k,y)):∃ (x:Str) (n:Int),k=.inr x∧y=.int n∧zf kvs k=some (.int n):=by
 obtain⟨x,n,z⟩:=d.ti _ (List.mem_of_getElem? e);cases z;exact⟨x,n,rfl,rfl,Zj d.nd e⟩
theorem qaz {kvs:Kv}{k:Key}{y:V} (e:zf kvs k=some y):(k,y)∈kvs:=by
 unfold zf at e;obtain⟨p,h1,h2⟩:=Option.map_eq_some_iff.mp e
 have:=List.find?_some h1
 obtain⟨a,b⟩:=p;have e1:a=k:=by simpa using this
 have e2:b=y:=h2;subst e1 e2;exact List.mem_of_find?_eq_some h1
theorem Dn.look {kvs:Kv} (d:Dn kvs) {k:Key}{y:V} (e:zf kvs k=some y):∃ n:Int,y=.int n:=by
 obtain⟨x,n,z⟩:=d.ti _ (qaz e);cases z;exact⟨n,rfl⟩
def qV (p q:Kv):Option Key:=(p.find? fun z=>(zf q z.1).isNone).map (·.1)
def Qm (p q:Kv):Option Key:=(qV p q).or (qV q p)
theorem QO {p q:Kv} (d:Dn p) {k:Key} (e:qV p q=some k):∃ x:Str,k=.inr x:=by
 obtain⟨z,h1,h2⟩:=Option.map_eq_some_iff.mp e;obtain⟨x,n,w⟩:=d.ti _ (List.mem_of_find?_eq_some h1);exact⟨x,by rw[← h2,w]⟩
theorem zO {p q:Kv} (e:qV p q=none) {z:Key×V} (m:z∈p):∃ y,zf q z.1=some y:=by
 have:=List.find?_eq_none.mp (Option.map_eq_none_iff.mp e) z m
 cases h:zf q z.1 with
 | none=>rw[h]at this;exact absurd rfl this
 | some y=>exact⟨y,rfl⟩
theorem zp {α:Type}{l:List α}{i:Nat}{x:α} (e:l[i]?=some x):l.take (i+1)=l.take i++[x]:=by
 rw[List.take_add_one,e];rfl
theorem Qi {p q:Kv}{i:Nat}{k:Key}{y:V} (e:p[i]?=some (k,y)) (h:qV (p.take i) q=none):qV (p.take (i+1)) q=if (zf q k).isNone=true then some k else none:=by
 unfold qV at h ⊢;rw[zp e,List.find?_append,Option.map_eq_none_iff.mp h,Option.none_or];by_cases g:(zf q k).isNone=true
 · rw[if_pos g,List.find?_cons_of_pos (by exact g)];rfl
 · rw[if_neg g,List.find?_cons_of_neg (by exact g)];rfl
theorem QP {p q:Kv}{i:Nat}{k:Key} (h:qV (p.take i) q=some k):qV p q=some k:=by
 unfold qV at h ⊢;obtain⟨z,h1,h2⟩:=Option.map_eq_some_iff.mp h
 have:p=p.take i++p.drop i:=(List.take_append_drop i p).symm
 rw[this,List.find?_append,h1];exact congrArg some h2
def Ql:V->V->V
 | .int i,.int j=>.int (if j < i then j else i)
 | a,_=>a
def Qt:V->V->V
 | .int i,.int j=>.int (if j > i then j else i)
 | a,_=>a
def two (f:V->V->V) (p q:Kv):Kv:=p.map fun z=>(z.1,f z.2 ((zf q z.1).getD .non))
theorem Qu (f:V->V->V) (p q:Kv):(two f p q).map (·.1)=p.map (·.1):=by unfold two;rw[List.map_map];rfl
theorem zm (f:V->V->V) (p q:Kv):(two f p q).length=p.length:=by unfold two;rw[List.length_map]
theorem qbf {f:V->V->V} (hf:∀ i j:Int,∃ n:Int,f (.int i) (.int j)=.int n) {p q:Kv} (dp:Dn p) (dq:Dn q) (h:qV p q=none):Dn (two f p q):=⟨by rw[Qu];exact dp.nd,fun z m=>by
   obtain⟨w,mw,rfl⟩:=List.mem_map.mp m;obtain⟨x,i,e⟩:=dp.ti w mw;obtain⟨y,e2⟩:=zO h mw;obtain⟨j,rfl⟩:=dq.look e2;obtain⟨n,hn⟩:=hf i j;refine⟨x,n,?_⟩;rw[e2,e]
   exact congrArg (Prod.mk _) hn,by rw[zm];exact dp.few⟩
theorem qaV (i j:Int):∃ n:Int,Ql (.int i) (.int j)=.int n:=⟨_,rfl⟩
theorem qaX (i j:Int):∃ n:Int,Qt (.int i) (.int j)=.int n:=⟨_,rfl⟩
structure Fzn (x y:Addr) (p q:Kv) (H G:Hp):Prop where
 oth:∀ b,b≠x->b≠y->G b=H b
 rx:Rd G x (.dK p)
 ry:Rd G y (.dK q)
theorem Fzn.swap {x y:Addr}{p q:Kv}{H G:Hp} (f:Fzn x y p q H G):Fzn y x q p H G:=⟨fun b h1 h2=>f.oth b h2 h1,f.ry,f.rx⟩
inductive zk (K:Frag) (vs:List V) (H:Hp) (Q:VK):Prop
 | mk (ea:Addr) (x:Str) (C:Addr) (dx:Option Addr) (tb:Value) (h1:vs=[.ref ea,.str x]) (h2:H ea=some (.ext (ExO ea C dx tb))) (h3:xIn K C=true) (h4:Q .non H):zk K vs H Q
def zx (K:Frag):Sp:=fun vs H Q _=>zk K vs H Q
inductive zq (a:Ad) (vs:List V) (H:Hp) (Q:VK):Prop
 | mk (ea:Addr) (v:V) (h1:vs=[.ref ea,v]) (h2:H ea=some (.ext (ExO ea a.c_NoEntry none .none))) (h3:∀ dx,H dx=none->dx≠ea->Q .non (upd (upd H ea (.ext (ExO ea a.c_NoEntry (some dx) .none))) dx (.xd [("found",v)]))):zq a vs H Q
def zC (a:Ad):Sp:=fun vs H Q _=>zq a vs H Q
inductive zj (a:Ad) (vs:List V) (H:Hp) (Q:VK) (E:XK):Prop
 | mk (x y:Addr) (p q:Kv) (h1:vs=[.ref x,.ref y]) (h2:x≠y) (h3:H x=some (.dK p)) (h4:H y=some (.dK q)) (h5:Dn p) (h6:Dn q) (h7:((qV p q=none∧Q .non H)∨∃ n:Str,qV p q=some (.inr n)∧∀ G,Fzn x y p q H G->Rz a.c_NoEntry "found" (.str n) G E)):zj a vs H Q E
def zw (a:Ad):Sp:=fun vs H Q E=>zj a vs H Q E
section
variable {P:Program}{w:World}{K:Frag}{mg:Str->Option Value}{base:Heap}
theorem Qs {a:Ad} (T:Txt K mg a):zb P w K mg base CX0 1 a.f_p a.fd_p ["self","text"] (zx K):=by
 refine T.d_p.F.ok Qp (fun vs H Q E h=>?_) (fun cdv A outer s H vs Q E hr h=>?_)
 · obtain⟨ea,x,C,dx,tb,rfl,he,xi,kk⟩:=h;rfl
 · obtain⟨ea,x,C,dx,tb,rfl,he,xi,kk⟩:=h;refine⟨_,(qj (zv (qaK rfl T.n_ValueError zA (qa (pv 0) (qa (pv 1) qh))))),?_⟩;(try dsimp only [zU,Cx.nox]);exact⟨_,rfl,_,rfl,ea,C,dx,tb,_,rfl,Nat.le_of_ble_eq_true rfl,he,xi,kk⟩
theorem QK {a:Ad} (T:Txt K mg a):zb P w K mg base CX0 3 a.f_o a.fd_o ["self","found"] (zC a):=by
 have G_p:=Qs (P:=P) (w:=w) (base:=base) T;refine T.d_o.F.ok QG (fun vs H Q E h=>?_) (fun cdv A outer s H vs Q E hr h=>?_)
 · obtain⟨ea,v,rfl,he,kk⟩:=h;rfl
 · obtain⟨ea,v,rfl,he,kk⟩:=h;have h_p:Room (1+1) _:=hr.mono (by decide)
   refine⟨_,(qi (zv (qaM T.ci_LogError G_p (h_p.mono (by decide)) T.d_p.b rfl T.g_LogError (qa (pv 0) (qa za qh))))
     (qj (qbT (pv 0) (pv 1) rfl))),?_⟩
   try dsimp only [zU,Cx.nox]
   refine⟨_,rfl,ea,_,_,_,_,rfl,he,T.X_NoEntry.c.xi,?_⟩;exact⟨_,rfl,_,rfl,ea,_,_,rfl,he,T.X_NoEntry.c,T.n_NoEntry_found,kk⟩
theorem Qr {a:Ad} (T:Txt K mg a):zb P w K mg base (CX1 P w) 5 a.f_h a.fd_h ["one","other"] (zw a):=by
 have G_o:=QK (P:=P) (w:=w) (base:=base) T;refine T.d_h.F.okX sc_check_lacking (fun vs H Q E h=>?_) (fun cdv A outer s H vs Q E hr h=>?_)
 · obtain⟨x,y,p,q,rfl,nxy,hx,hy,dp,dq,kk⟩:=h;rfl
 · obtain⟨x,y,p,q,rfl,nxy,hx,hy,dp,dq,kk⟩:=h;have hu:=zJ hr;have h_o:Room (3+1) _:=hr.mono (by decide)
   refine⟨_,(qj (PS.loan (zr PassesOwn.leaving rfl (zY (pv 0)) (qK (i:=2) (sc_check_lacking.nd) rfl (Or.inl rfl))
       (qj (zc (qC (QJ hu) (pv 2) (pv 1) (by with_unfolding_all rfl))
         (qj (qaG throws_cx rfl (qaJ T.X_NoEntry G_o h_o rfl T.g_NoEntry T.d_o.b (qa (pv 2) qh))))
         qt))))),?_⟩
   try dsimp only [zU,Cx.nox]
   refine⟨x,p,hx,fun ob=>?_⟩;have hx1:upd H x (.frz ob (.dK p)) x=some (.frz ob (.dK p)):=qd;have hy1:upd H x (.frz ob (.dK p)) y=some (.dK q):=(qb (Ne.symm nxy)).trans hy;have hb:upd (upd H x (.frz ob (.dK p))) x (.dK p)=H:=z5 hx;have fz:Fzn x y p q H (upd H x (.frz ob (.dK p))):=⟨fun b h1 _=>qb h1,.inr ⟨ob,hx1⟩,.inl hy1⟩
   generalize upd H x (.frz ob (.dK p))=G at hx1 hy1 hb fz ⊢;refine⟨_,rfl,x,ob,p,rfl,hx1,zP (a:=x) (ob:=ob) (kvs:=p) (fun j σ H'=>∃ s2:Option V,σ=[some (.ref x),some (.ref y),s2]∧H'=G∧qV (p.take j) q=none) ⟨none,rfl,rfl,rfl⟩ (fun j σ H' _ ⟨_,_,h,_⟩=>h▸hx1) ?_ ?_⟩
   · rintro j k v σ H' hz ⟨s2,rfl,rfl,l0⟩;obtain⟨nm,n,rfl,rfl,_⟩:=dp.val hz;have l1:=Qi hz l0;refine⟨_,rfl,_,rfl,y,_,rfl,.inl ⟨q,.inr nm,.inl hy1,rfl,rfl⟩,_,rfl,?_⟩
     cases hv:zf q (.inr nm) with
     | some u =>
       rw[hv]at l1;exact qM rfl ⟨_,rfl,rfl,by simpa using l1⟩
     | none =>
       rw[hv]at l1;have lk:qV p q=some (.inr nm):=QP (i:=j+1) (by simpa using l1);rcases kk with ⟨h,_⟩|⟨m,h,kz⟩
       · rw[lk]at h;cases h
       · rw[lk]at h;cases h;refine JZ rfl ?_;refine⟨_,rfl,Nat.le_of_ble_eq_true rfl,fun ea fea=>⟨ea,_,rfl,qd,fun dx' fdx ne=>?_⟩⟩;rw[qb ne]at fdx;exact⟨rfl,ea,_,_,rfl,T.X_NoEntry.c.xi,(qb (Ne.symm ne)).trans qd,Rz.sure (kz _ fz) fea fdx ne⟩
   · rintro σ H' ⟨s2,rfl,rfl,l0⟩;rw[List.take_length]at l0;rcases kk with ⟨_,kk⟩|⟨m,h,_⟩
     · exact⟨hx1,by rw[hb];exact kk⟩
     · rw[l0]at h;cases h
end
theorem qI {H G:Hp}{l:Addr}{o:HO} (h:upd H l o=G) (f:H l=none):Same H G∧G l=some o:=by
 subst h;exact⟨Same.new o f,qd⟩
abbrev prK (z:Key×V):List V:=[kV z.1,z.2]
theorem JF {K:Frag}{H:Hp}:∀ {cs:List V}{L:Kv},TupL prK H cs L->Prs K H cs L
 | [],[],_=>.nil
 | [],_::_,h=>absurd h.1 (by simp)
 | _::_,[],h=>absurd h.1 (by simp)
 | c::cs,(k,v)::L,h=>by
   obtain⟨t,e,q⟩:=h.2 0 c (k,v) rfl rfl;subst e;exact .cons (SqT.of q) (JF ⟨by have:=h.1;simpa using this,fun i z p e1 e2=>h.2 (i+1) z p (by simpa using e1) (by simpa using e2)⟩)
theorem Zy {f:V->V->V}{p q:Kv}{i:Nat}{k:Key}{y z:V} (e:p[i]?=some (k,y)) (v:zf q k=some z):(two f p q)[i]?=some (k,f y z):=by
 unfold two;rw[List.getElem?_map,e,Option.map_some];show some (k,f y ((zf q k).getD .non))=_;rw[v];rfl
theorem zI {p q:Kv} (h:Qm p q=none):qV p q=none∧qV q p=none:=by
 unfold Qm at h
 cases h1:qV p q with
 | some k=>rw[h1]at h;cases h
 | none=>rw[h1,Option.none_or]at h;exact⟨rfl,h⟩
inductive q9 (a:Ad) (vs:List V) (H:Hp) (Q:VK) (E:XK):Prop
 | mk (x y:Addr) (p q:Kv) (h1:vs=[.ref x,.ref y]) (h2:x≠y) (h3:H x=some (.dK p)) (h4:H y=some (.dK q)) (h5:Dn p) (h6:Dn q) (h7:((Qm p q=none∧Q .non H)∨∃ n:Str,Qm p q=some (.inr n)∧∀ G,Fzn x y p q H G->Rz a.c_NoEntry "found" (.str n) G E)):q9 a vs H Q E
def qU (a:Ad):Sp:=fun vs H Q E=>q9 a vs H Q E
def qcA (f:V->V->V) (a:Ad):Sp:=fun vs H Q E=>∃ (x y:Addr) (p q:Kv),vs=[.ref x,.ref y]∧x≠y∧H x=some (.dK p)∧H y=some (.dK q)∧Dn p∧Dn q∧((Qm p q=none∧∀ (d:Addr) (H':Hp),H d=none->Same H H'->H' d=some (.dK (two f p q))->Q (.ref d) H')∨∃ n:Str,Qm p q=some (.inr n)∧∀ G,Fzn x y p q H G->Rz a.c_NoEntry "found" (.str n) G E)
abbrev QB:=qcA Ql
abbrev Qh:=qcA Qt
section
variable {P:Program}{w:World}{K:Frag}{mg:Str->Option Value}{base:Heap}
theorem zh {a:Ad} (T:Txt K mg a):zb P w K mg base (CX1 P w) 6 a.f_g a.fd_g ["one","other"] (qU a):=by
 have G_h:=Qr (P:=P) (w:=w) (base:=base) T;refine T.d_g.F.okX zW (fun vs H Q E h=>?_) (fun cdv A outer s H vs Q E hr h=>?_)
 · obtain⟨x,y,p,q,rfl,nxy,hx,hy,dp,dq,kk⟩:=h;rfl
 · obtain⟨x,y,p,q,rfl,nxy,hx,hy,dp,dq,kk⟩:=h;have h_h:Room (5) _:=hr.mono (by decide)
   refine⟨_,(qi (zv (ql G_h h_h rfl T.d_h.m T.d_h.k T.d_h.b .nil throws_cx.passes (qa (pv 0) (qa (pv 1) qh))))
     (qj (zv (ql G_h h_h rfl T.d_h.m T.d_h.k T.d_h.b .nil throws_cx.passes (qa (pv 1) (qa (pv 0) qh)))))),?_⟩
   try dsimp only [zU,Cx.nox]
   refine⟨_,rfl,_,rfl,x,y,p,q,rfl,nxy,hx,hy,dp,dq,?_⟩
   cases h1:qV p q with
   | some k =>
     obtain⟨n,rfl⟩:=QO dp h1;rcases kk with ⟨h,_⟩|⟨m,h,kz⟩
     · rw[(zI h).1]at h1;cases h1
     · have e:Qm p q=some (.inr n):=by unfold Qm;rw[h1];rfl
       rw[e]at h;cases h;exact .inr ⟨n,rfl,kz⟩
   | none =>
     refine .inl ⟨rfl,_,rfl,_,rfl,y,x,q,p,rfl,Ne.symm nxy,hy,hx,dq,dp,?_⟩;have e:Qm p q=qV q p:=by unfold Qm;rw[h1];rfl
     rw[e]at kk;rcases kk with ⟨h,kk⟩|⟨n,h,kz⟩
     · exact .inl ⟨h,kk⟩
     · exact .inr ⟨n,h,fun G fz=>kz G fz.swap⟩
theorem ZH {a:Ad} (T:Txt K mg a):zb P w K mg base (CX1 P w) 7 a.f_c a.fd_c ["one","other"] (QB a):=by
 have G_g:=zh (P:=P) (w:=w) (base:=base) T;refine T.d_c.F.okX Js (fun vs H Q E h=>?_) (fun cdv A outer s H vs Q E hr h=>?_)
 · obtain⟨x,y,p,q,rfl,nxy,hx,hy,dp,dq,kk⟩:=h;rfl
 · obtain⟨x,y,p,q,rfl,nxy,hx,hy,dp,dq,kk⟩:=h;have hu:=zJ hr;have h_g:Room (6) _:=hr.mono (by decide)
   refine⟨_,(qi (zv (ql G_g h_g rfl T.d_g.m T.d_g.k T.d_g.b .nil throws_cx.passes (qa (pv 0) (qa (pv 1) qh))))
     (qj (PS.loan (qw (qA (r:=JB K) (Zg rfl) (by rfl) T.n_dict qE (qa (Z9 rfl (CompOk.defX ["name","one","other"] [none,some 0,some 1]) (zY (pv 0)) (fun _ _ _ _ _=>(qK (i:=0) (show List.Nodup (["name","one","other"]:List Str) by decide +kernel) rfl (Or.inl rfl))) (fun _ _ _ _ _=>Zl) (fun _ _ _ _ _=>(ZE (qa (pv 0) (qa (qB (QT rfl) (by rfl) T.n_min QV (qa (qL hu (pv 1) (pv 0) (fun _ _=>rfl)) (qa (qL hu (pv 2) (pv 0) (fun _ _=>rfl)) qh))) qh))))) qh)))))),?_⟩
   try dsimp only [zU,Cx.nox]
   refine⟨_,rfl,_,rfl,x,y,p,q,rfl,nxy,hx,hy,dp,dq,?_⟩;rcases kk with ⟨h,kk⟩|⟨n,h,kz⟩
   rotate_left
   · exact .inr ⟨n,h,kz⟩
   refine .inl ⟨h,x,p,hx,fun ob=>?_⟩;obtain⟨h1,h2⟩:=zI h;have hx1:upd H x (.frz ob (.dK p)) x=some (.frz ob (.dK p)):=qd;have hy1:upd H x (.frz ob (.dK p)) y=some (.dK q):=(qb (Ne.symm nxy)).trans hy;have hb:∀ b,b≠x->upd H x (.frz ob (.dK p)) b=H b:=fun b n=>qb n;generalize upd H x (.frz ob (.dK p))=G at hx1 hy1 hb ⊢;refine⟨_,rfl,x,ob,p,rfl,hx1,fun C fC=>?_⟩;refine ZT (a:=x) (ob:=ob) (kvs:=p) (D:=C) (fun i σ H2=>∃ (c0:Option V) (cs:List V),σ=[c0,some (.ref x),some (.ref y)]∧Same G H2∧H2 C=some (.lst cs)∧TupL prK H2 cs ((two Ql p q).take i)) ⟨none,[],rfl,Same.new _ fC,qd,.nil⟩ (fun i σ H2 _ ⟨_,_,_,S,_⟩=>S _ _ hx1) ?_ ?_
   · rintro i k v σ H2 hk ⟨c0,cs,rfl,S,hC,tl⟩;obtain⟨nm,n,rfl,rfl,hv⟩:=dp.val hk;obtain⟨u,hu2⟩:=zO h1 (List.mem_of_getElem? hk);obtain⟨m,rfl⟩:=dq.look hu2;have et:=zp (Zy (f:=Ql) hk hu2)
     have lc:cs.length≤60:=by
       have a1:=tl.1;rw[List.length_take,zm]at a1
       have:=dp.few
       omega
     refine⟨_,rfl,_,rfl,_,rfl,x,_,rfl,.inl ⟨p,.inr nm,.inr ⟨ob,S _ _ hx1⟩,rfl,hv.symm⟩,_,rfl,_,rfl,y,_,rfl,.inl ⟨q,.inr nm,.inl (S _ _ hy1),rfl,hu2.symm⟩,n,m,rfl,qG (Nat.le_of_ble_eq_true rfl),fun t ft=>?_⟩;generalize hG:upd H2 t _=Gu;obtain⟨Su,eu0⟩:=qI hG ft;have eu:Gu t=some (.tup (prK (.inr nm,Ql (.int n) (.int m)))):=eu0;have hCu:=Su _ _ hC;refine⟨_,hCu,qH (by omega),_,cs++[.ref t],rfl,(S.trans Su).put fC _,qd,?_⟩;rw[et];exact((tl.same Su).snoc (p:=((.inr nm:Key),Ql (.int n) (.int m))) eu).put hCu
   · rintro σ H2 ⟨c0,cs,rfl,S,hC,tl⟩;rw[← zm Ql p q,List.take_length]at tl;refine⟨C,cs,two Ql p q,rfl,SqL.of hC,JF tl,by rw[Qu];exact dp.nd,fun d fd=>?_⟩;have nd:d≠x:=fun z=>by rw[z,S _ _ hx1]at fd;cases fd
     have hd:H d=none:=by
       rw[← hb d nd]
       cases g:G d with
       | none=>rfl
       | some u=>rw[S _ _ g]at fd;cases fd
     refine⟨(qb (Ne.symm nd)).trans (S _ _ hx1),kk d _ hd (fun b u e=>?_) ((qb nd).trans qd)⟩;by_cases z:b=x
     · subst z;rw[hx]at e;cases e;exact qd
     · rw[qb z,qb (qe e hd),S b u (by rw[hb b z];exact e)]
theorem Q8 {a:Ad} (T:Txt K mg a):zb P w K mg base (CX1 P w) 7 a.f_d a.fd_d ["one","other"] (Qh a):=by
 have G_g:=zh (P:=P) (w:=w) (base:=base) T;refine T.d_d.F.okX jY (fun vs H Q E h=>?_) (fun cdv A outer s H vs Q E hr h=>?_)
 · obtain⟨x,y,p,q,rfl,nxy,hx,hy,dp,dq,kk⟩:=h;rfl
 · obtain⟨x,y,p,q,rfl,nxy,hx,hy,dp,dq,kk⟩:=h;have hu:=zJ hr;have h_g:Room (6) _:=hr.mono (by decide)
   refine⟨_,(qi (zv (ql G_g h_g rfl T.d_g.m T.d_g.k T.d_g.b .nil throws_cx.passes (qa (pv 0) (qa (pv 1) qh))))
     (qj (PS.loan (qw (qA (r:=JB K) (Zg rfl) (by rfl) T.n_dict qE (qa (Z9 rfl (CompOk.defX ["name","one","other"] [none,some 0,some 1]) (zY (pv 0)) (fun _ _ _ _ _=>(qK (i:=0) (show List.Nodup (["name","one","other"]:List Str) by decide +kernel) rfl (Or.inl rfl))) (fun _ _ _ _ _=>Zl) (fun _ _ _ _ _=>(ZE (qa (pv 0) (qa (qB (qal rfl) (by rfl) T.n_max qao (qa (qL hu (pv 1) (pv 0) (fun _ _=>rfl)) (qa (qL hu (pv 2) (pv 0) (fun _ _=>rfl)) qh))) qh))))) qh)))))),?_⟩
   try dsimp only [zU,Cx.nox]
   refine⟨_,rfl,_,rfl,x,y,p,q,rfl,nxy,hx,hy,dp,dq,?_⟩;rcases kk with ⟨h,kk⟩|⟨n,h,kz⟩
   rotate_left
   · exact .inr ⟨n,h,kz⟩
   refine .inl ⟨h,x,p,hx,fun ob=>?_⟩;obtain⟨h1,h2⟩:=zI h;have hx1:upd H x (.frz ob (.dK p)) x=some (.frz ob (.dK p)):=qd;have hy1:upd H x (.frz ob (.dK p)) y=some (.dK q):=(qb (Ne.symm nxy)).trans hy;have hb:∀ b,b≠x->upd H x (.frz ob (.dK p)) b=H b:=fun b n=>qb n;generalize upd H x (.frz ob (.dK p))=G at hx1 hy1 hb ⊢;refine⟨_,rfl,x,ob,p,rfl,hx1,fun C fC=>?_⟩;refine ZT (a:=x) (ob:=ob) (kvs:=p) (D:=C) (fun i σ H2=>∃ (c0:Option V) (cs:List V),σ=[c0,some (.ref x),some (.ref y)]∧Same G H2∧H2 C=some (.lst cs)∧TupL prK H2 cs ((two Qt p q).take i)) ⟨none,[],rfl,Same.new _ fC,qd,.nil⟩ (fun i σ H2 _ ⟨_,_,_,S,_⟩=>S _ _ hx1) ?_ ?_
   · rintro i k v σ H2 hk ⟨c0,cs,rfl,S,hC,tl⟩;obtain⟨nm,n,rfl,rfl,hv⟩:=dp.val hk;obtain⟨u,hu2⟩:=zO h1 (List.mem_of_getElem? hk);obtain⟨m,rfl⟩:=dq.look hu2;have et:=zp (Zy (f:=Qt) hk hu2)
     have lc:cs.length≤60:=by
       have a1:=tl.1;rw[List.length_take,zm]at a1
       have:=dp.few
       omega
     refine⟨_,rfl,_,rfl,_,rfl,x,_,rfl,.inl ⟨p,.inr nm,.inr ⟨ob,S _ _ hx1⟩,rfl,hv.symm⟩,_,rfl,_,rfl,y,_,rfl,.inl ⟨q,.inr nm,.inl (S _ _ hy1),rfl,hu2.symm⟩,n,m,rfl,qG (Nat.le_of_ble_eq_true rfl),fun t ft=>?_⟩;generalize hG:upd H2 t _=Gu;obtain⟨Su,eu0⟩:=qI hG ft;have eu:Gu t=some (.tup (prK (.inr nm,Qt (.int n) (.int m)))):=eu0;have hCu:=Su _ _ hC;refine⟨_,hCu,qH (by omega),_,cs++[.ref t],rfl,(S.trans Su).put fC _,qd,?_⟩;rw[et];exact((tl.same Su).snoc (p:=((.inr nm:Key),Qt (.int n) (.int m))) eu).put hCu
   · rintro σ H2 ⟨c0,cs,rfl,S,hC,tl⟩;rw[← zm Qt p q,List.take_length]at tl;refine⟨C,cs,two Qt p q,rfl,SqL.of hC,JF tl,by rw[Qu];exact dp.nd,fun d fd=>?_⟩;have nd:d≠x:=fun z=>by rw[z,S _ _ hx1]at fd;cases fd
     have hd:H d=none:=by
       rw[← hb d nd]
       cases g:G d with
       | none=>rfl
       | some u=>rw[S _ _ g]at fd;cases fd
     refine⟨(qb (Ne.symm nd)).trans (S _ _ hx1),kk d _ hd (fun b u e=>?_) ((qb nd).trans qd)⟩;by_cases z:b=x
     · subst z;rw[hx]at e;cases e;exact qd
     · rw[qb z,qb (qe e hd),S b u (by rw[hb b z];exact e)]
end
inductive QC (vs:List V) (H:Hp) (Q:VK):Prop
 | mk (n:Int) (h1:vs=[.int n]) (h2:Q (.bl true) H):QC vs H Q
def z6:Sp:=fun vs H Q _=>QC vs H Q
inductive QF (vs:List V) (H:Hp) (Q:VK):Prop
 | mk (f d:Addr) (p:Kv) (h1:vs=[.ref f,.ref d]) (h2:f≠d) (h3:Rd H f (.dK p)) (h4:H d=some (.dK p)) (h5:Dn p) (h6:∀ H',Same H H'->Q (.bl true) H'):QF vs H Q
def z9:Sp:=fun vs H Q _=>QF vs H Q
theorem Rd.same {H H':Hp} (s:Same H H') {a:Addr}{u:HO} (h:Rd H a u):Rd H' a u:=h.imp (fun e=>s _ _ e) fun⟨o,e⟩=>⟨o,s _ _ e⟩
theorem Za {p:Kv} (d:Dn p):(p.map fun z=>kV z.1).all JH=true:=List.all_eq_true.mpr fun v m=>by
 obtain⟨z,mz,rfl⟩:=List.mem_map.mp m;obtain⟨x,i,rfl⟩:=d.ti z mz;rfl
section
variable {P:Program}{w:World}{K:Frag}{mg:Str->Option Value}{base:Heap}
theorem JK {a:Ad} (T:Txt K mg a):zb P w K mg base CX0 1 a.f_e a.fd_e ["_law_found"] z6:=by
 refine T.d_e.F.ok Zz (fun vs H Q E h=>?_) (fun cdv A outer s H vs Q E hr h=>?_)
 · obtain⟨n,rfl,kk⟩:=h;rfl
 · obtain⟨n,rfl,kk⟩:=h;refine⟨_,(qj (qw (jG (qB Qf (by rfl) T.n_isinstance qm (qa (pv 0) (qa (zG (v:=.ty "int") rfl T.n_int ZW rfl) qh))) (jE (qbs (qB Qf (by rfl) T.n_isinstance qm (qa (pv 0) (qa (zG (v:=.ty "bool") rfl T.n_bool Zh rfl) qh)))))))),?_⟩;(try dsimp only [zU,Cx.nox]);exact⟨_,rfl,_,_,_,rfl,(by decide),rfl,_,rfl,qb6 ⟨_,rfl,_,_,_,rfl,(by decide),rfl,_,rfl,kk⟩⟩
theorem j3 {a:Ad} (T:Txt K mg a):Z2 P w K mg base 1 a.f_e a.fd_e ["_law_found"] z6:=by
 refine T.d_e.F.okH Zz (fun vs H Q E h=>?_) (fun cdv A outer s H vs Q x0 o0 hr eo h=>?_)
 · obtain⟨n,rfl,kk⟩:=h;rfl
 · obtain⟨n,rfl,kk⟩:=h;have hu:=hr.hu;have hn:=fun (N:List Str) (qu:Str) (sc:Scope) (f:Addr)=>J8 (P:=P) (w:=w) (K:=K) (mg:=mg) (base:=base) (N:=N) (qual:=qu) (scope:=sc) (f:=f) (cd:=cdv) (A:=A) (outer:=outer) (s:=s) (H:=H) hr.hd eo;refine⟨_,(qj (qw (jG (qB Qf (by rfl) T.n_isinstance qm (qa (pv 0) (qa (zG (v:=.ty "int") rfl T.n_int ZW rfl) qh))) (jE (qbs (qB Qf (by rfl) T.n_isinstance qm (qa (pv 0) (qa (zG (v:=.ty "bool") rfl T.n_bool Zh rfl) qh)))))))),?_⟩;(try dsimp only [zU,Cx.nox]);exact⟨_,rfl,_,_,_,rfl,(by decide),rfl,_,rfl,qb6 ⟨_,rfl,_,_,_,rfl,(by decide),rfl,_,rfl,kk⟩⟩
theorem JL {a:Ad} (T:Txt K mg a):zb P w K mg base CX0 2 a.f_b a.fd_b ["_law_found","_law_due"] z9:=by
 have G_e:=JK (P:=P) (w:=w) (base:=base) T;refine T.d_b.F.ok sc_Lalike (fun vs H Q E h=>?_) (fun cdv A outer s H vs Q E hr h=>?_)
 · obtain⟨f,d,p,rfl,nfd,hf,hd,dp,kk⟩:=h;rfl
 · obtain⟨f,d,p,rfl,nfd,hf,hd,dp,kk⟩:=h;have hu:=zJ hr;have hU:=hr.units;have h_e:Room (1) _:=hr.mono (by decide)
   refine⟨_,(qi (zc (PW.pt (Qq (zd (qY (qB (r:=qdq) jT (by rfl) T.n_isinstance qm (qa (pv 0) (qa (zG (v:=.ty "dict") rfl T.n_dict qE rfl) qh))))) (Qc (qC (qbt hU) (qA (r:=Q6) (Zf rfl) (by rfl) T.n_list zt (qa (pv 0) qh)) (qA (r:=Q6) (Zf rfl) (by rfl) T.n_list zt (qa (pv 1) qh)) (qZ _)))))
       (qj (qw zQ))
       qt)
     (qi (PS.loan (zr PassesOwn.never rfl (zY (pv 1)) (qK (i:=2) (sc_Lalike.nd) rfl (Or.inl rfl))
       (qj (zc (PW.pt (Qq (zd (qY (ql G_e h_e rfl T.d_e.m T.d_e.k T.d_e.b .nil qQ (qa (qL hu (pv 0) (pv 2) (fun _ _=>rfl)) qh)))) (Qc (qC (uNe hU) (qL hu (pv 0) (pv 2) (fun _ _=>rfl)) (qL hu (pv 1) (pv 2) (fun _ _=>rfl)) (qZ _)))))
         (qj (qw zQ))
         qt))))
     (qj (qw zQ)))),?_⟩
   try dsimp only [zU,Cx.nox]
   refine⟨_,rfl,f,p,_,rfl,hf,(by decide),_,rfl,qM rfl ?_⟩;refine⟨_,rfl,f,p,rfl,hf,fun l1 f1=>?_⟩;have S1:=Same.new (.lst (p.map fun z=>kV z.1)) f1;refine⟨_,rfl,d,p,rfl,.inl (S1 _ _ hd),fun l2 f2=>?_⟩;have S2:=Same.new (.lst (p.map fun z=>kV z.1)) f2;refine⟨l1,l2,_,rfl,rfl,S2 _ _ qd,qd,Za dp,_,rfl,qM rfl ?_⟩;have S:=S1.trans S2;generalize upd (upd H l1 (.lst (p.map fun z=>kV z.1))) l2 (.lst (p.map fun z=>kV z.1))=G at S ⊢;(try unfold qP);(try dsimp only);refine⟨d,p,S _ _ hd,fun ob=>?_⟩;have hb:upd (upd G d (.frz ob (.dK p))) d (.dK p)=G:=z5 (S _ _ hd);have hd1:upd G d (.frz ob (.dK p)) d=some (.frz ob (.dK p)):=qd;have hf1:Rd (upd G d (.frz ob (.dK p))) f (.dK p):=(Rd.same S hf).imp (fun e=>(qb nfd).trans e) fun⟨o,e⟩=>⟨o,(qb nfd).trans e⟩
   generalize upd G d (.frz ob (.dK p))=G1 at hb hd1 hf1 ⊢;refine⟨_,rfl,d,ob,p,rfl,hd1,zP (a:=d) (ob:=ob) (kvs:=p) (fun j σ H'=>∃ s2:Option V,σ=[some (.ref f),some (.ref d),s2]∧H'=G1) ⟨none,rfl,rfl⟩ (fun j σ H' _ ⟨_,_,h⟩=>h▸hd1) ?_ ?_⟩
   · rintro j k v σ H' hz ⟨s2,rfl,rfl⟩;obtain⟨nm,n,rfl,rfl,hv⟩:=dp.val hz;have GF:=show qau _ f (kV (.inr nm)) (some (.int n)) from .inl ⟨p,.inr nm,hf1,rfl,hv.symm⟩;have GD:=show qau _ d (kV (.inr nm)) (some (.int n)) from .inl ⟨p,.inr nm,.inr ⟨ob,hd1⟩,rfl,hv.symm⟩;refine⟨_,rfl,_,rfl,f,_,rfl,GF,n,rfl,_,rfl,qM rfl ?_⟩;refine⟨_,rfl,_,rfl,f,_,rfl,GF,_,rfl,_,rfl,d,_,rfl,GD,?_⟩;refine .inl ⟨rfl,_,rfl,qM (by simp) ⟨_,rfl,rfl⟩⟩
   · rintro σ H' ⟨s2,rfl,rfl⟩;exact⟨hd1,by rw[hb];exact kk G S⟩
theorem j4 {a:Ad} (T:Txt K mg a):Z2 P w K mg base 2 a.f_b a.fd_b ["_law_found","_law_due"] z9:=by
 have G_e:=j3 (P:=P) (w:=w) (base:=base) T;refine T.d_b.F.okH sc_Lalike (fun vs H Q E h=>?_) (fun cdv A outer s H vs Q x0 o0 hr eo h=>?_)
 · obtain⟨f,d,p,rfl,nfd,hf,hd,dp,kk⟩:=h;rfl
 · obtain⟨f,d,p,rfl,nfd,hf,hd,dp,kk⟩:=h;have hu:=hr.hu;have hn:=fun (N:List Str) (qu:Str) (sc:Scope) (f:Addr)=>J8 (P:=P) (w:=w) (K:=K) (mg:=mg) (base:=base) (N:=N) (qual:=qu) (scope:=sc) (f:=f) (cd:=cdv) (A:=A) (outer:=outer) (s:=s) (H:=H) hr.hd eo;have hU:=hr.units;have h_e:RoomH (1) _ _:=hr.mono (by decide)
   refine⟨_,(qi (zc (PW.pt (Qq (zd (qY (qB (r:=qdq) jT (by rfl) T.n_isinstance qm (qa (pv 0) (qa (zG (v:=.ty "dict") rfl T.n_dict qE rfl) qh))))) (Qc (qC (qbt hU) (qA (r:=Q6) (QU (hn _ _ _ _)) (by rfl) T.n_list zt (qa (pv 0) qh)) (qA (r:=Q6) (QU (hn _ _ _ _)) (by rfl) T.n_list zt (qa (pv 1) qh)) (qZ _)))))
       (qj (qw zQ))
       qt)
     (qi (PS.loan (qaH PassesOwn.never (hn _ _ _ _) (pv 1) (qK (i:=2) (sc_Lalike.nd) rfl (Or.inl rfl))
       (qj (zc (PW.pt (Qq (zd (qY (qaN G_e (hn _ _ _ _) h_e.any rfl T.d_e.m T.d_e.k T.d_e.b (qa (qL hu (pv 0) (pv 2) (fun _ _=>rfl)) qh)))) (Qc (qC (uNe hU) (qL hu (pv 0) (pv 2) (fun _ _=>rfl)) (qL hu (pv 1) (pv 2) (fun _ _=>rfl)) (qZ _)))))
         (qj (qw zQ))
         qt))))
     (qj (qw zQ)))),?_⟩
   try dsimp only [zU,Cx.nox]
   refine⟨_,rfl,f,p,_,rfl,hf,(by decide),_,rfl,qM rfl ?_⟩;refine⟨_,rfl,f,p,rfl,hf,fun l1 f1=>?_⟩;have S1:=Same.new (.lst (p.map fun z=>kV z.1)) f1;refine⟨_,rfl,d,p,rfl,.inl (S1 _ _ hd),fun l2 f2=>?_⟩;have S2:=Same.new (.lst (p.map fun z=>kV z.1)) f2;refine⟨l1,l2,_,rfl,rfl,S2 _ _ qd,qd,Za dp,_,rfl,qM rfl ?_⟩;have S:=S1.trans S2;generalize upd (upd H l1 (.lst (p.map fun z=>kV z.1))) l2 (.lst (p.map fun z=>kV z.1))=G at S ⊢;(try unfold qP);(try dsimp only);refine⟨d,p,S _ _ hd,fun ob=>?_⟩;have hb:upd (upd G d (.frz ob (.dK p))) d (.dK p)=G:=z5 (S _ _ hd);have hd1:upd G d (.frz ob (.dK p)) d=some (.frz ob (.dK p)):=qd;have hf1:Rd (upd G d (.frz ob (.dK p))) f (.dK p):=(Rd.same S hf).imp (fun e=>(qb nfd).trans e) fun⟨o,e⟩=>⟨o,(qb nfd).trans e⟩
   generalize upd G d (.frz ob (.dK p))=G1 at hb hd1 hf1 ⊢;refine⟨_,rfl,d,ob,p,rfl,hd1,zP (a:=d) (ob:=ob) (kvs:=p) (fun j σ H'=>∃ s2:Option V,σ=[some (.ref f),some (.ref d),s2]∧H'=G1) ⟨none,rfl,rfl⟩ (fun j σ H' _ ⟨_,_,h⟩=>h▸hd1) ?_ ?_⟩
   · rintro j k v σ H' hz ⟨s2,rfl,rfl⟩;obtain⟨nm,n,rfl,rfl,hv⟩:=dp.val hz;have GF:=show qau _ f (kV (.inr nm)) (some (.int n)) from .inl ⟨p,.inr nm,hf1,rfl,hv.symm⟩;have GD:=show qau _ d (kV (.inr nm)) (some (.int n)) from .inl ⟨p,.inr nm,.inr ⟨ob,hd1⟩,rfl,hv.symm⟩;refine⟨_,rfl,_,rfl,f,_,rfl,GF,n,rfl,_,rfl,qM rfl ?_⟩;refine⟨_,rfl,_,rfl,f,_,rfl,GF,_,rfl,_,rfl,d,_,rfl,GD,?_⟩;refine .inl ⟨rfl,_,rfl,qM (by simp) ⟨_,rfl,rfl⟩⟩
   · rintro σ H' ⟨s2,rfl,rfl⟩;exact⟨hd1,by rw[hb];exact kk G S⟩
end
theorem jy {L:Kv}{k:Key}{v:V} (h:k∉L.map (·.1)):z4 L k v=L++[(k,v)]:=by
 refine qaF v ?_
 cases e:zf L k with
 | none=>rfl
 | some y=>exact absurd (qbF e) h
theorem jz {L:Kv}{k:Key}{u v:V} (h:k∉L.map (·.1)):z4 (L++[(k,u)]) k v=L++[(k,v)]:=by
 unfold z4;have e1:((L++[(k,u)]).any fun kv=>decide (kv.1=k))=true:=by simp
 rw[if_pos e1,List.map_append]
 have e2:L.map (fun kv=>if kv.1=k then (kv.1,v) else kv)=L:=by
   refine(List.map_congr_left fun z m=>?_).trans (List.map_id L);rw[if_neg (fun z':z.1=k=>h (z'▸List.mem_map.mpr ⟨z,m,rfl⟩))];rfl
 rw[e2];simp
theorem qaB (f:V->V->V) (p q:Kv) (i:Nat):((two f p q).take i).map (·.1)=(p.map (·.1)).take i:=by rw[List.map_take,Qu]
theorem JP {p q:Kv}{f:V->V->V}{i:Nat}{k:Key}{y:V} (nd:(p.map (·.1)).Nodup) (e:p[i]?=some (k,y)):k∉((two f p q).take i).map (·.1):=fun m=>by
 rw[qaB]at m;have e':(p.map (·.1))[i]?=some k:=by rw[List.getElem?_map,e];rfl
 obtain⟨j,hj⟩:=List.mem_iff_getElem?.mp m;rw[List.getElem?_take]at hj;split at hj
 · rename_i lt
   have hi:i < (p.map (·.1)).length:=(List.getElem?_eq_some_iff.mp e').1
   have:=(List.getElem?_inj (by omega) nd).mp (hj.trans e'.symm)
   omega
 · cases hj
inductive Q1 (vs:List V) (H:Hp) (Q:VK):Prop
 | mk (x y:Addr) (p q:Kv) (h1:vs=[.ref x,.ref y]) (h2:x≠y) (h3:H x=some (.dK p)) (h4:H y=some (.dK q)) (h5:Dn p) (h6:Dn q) (h7:qV p q=none) (h8:∀ (t f g:Addr) (H':Hp),H t=none->H f=none->H g=none->f≠g->Same H H'->H' t=some (.tup [.ref f,.ref g])->H' f=some (.dK (two Ql p q))->H' g=some (.dK (two Qt p q))->Q (.ref t) H'):Q1 vs H Q
def jt:Sp:=fun vs H Q _=>Q1 vs H Q
def qef:Option Key->V
 | some k=>kV k
 | none=>.non
inductive z8 (vs:List V) (H:Hp) (Q:VK):Prop
 | mk (x y:Addr) (p q:Kv) (h1:vs=[.ref x,.ref y]) (h2:x≠y) (h3:H x=some (.dK p)) (h4:H y=some (.dK q)) (h5:Dn p) (h6:Dn q) (h7:Q (qef (Qm p q)) H):z8 vs H Q
def QE:Sp:=fun vs H Q _=>z8 vs H Q
section
variable {P:Program}{w:World}{K:Frag}{mg:Str->Option Value}{base:Heap}
theorem qaQ {a:Ad} (T:Txt K mg a):zb P w K mg base CX0 1 a.f_l a.fd_l ["_law_one","_law_other"] jt:=by
 refine T.d_l.F.ok sc_Lpair (fun vs H Q E h=>?_) (fun cdv A outer s H vs Q E hr h=>?_)
 · obtain⟨x,y,p,q,rfl,nxy,hx,hy,dp,dq,h1,kk⟩:=h;rfl
 · obtain⟨x,y,p,q,rfl,nxy,hx,hy,dp,dq,h1,kk⟩:=h;have hu:=zJ hr;have hU:=hr.units
   refine⟨_,(qi (qO (i:=2) sc_Lpair.nd rfl (Or.inl rfl) Qx)
     (qi (qO (i:=3) sc_Lpair.nd rfl (Or.inl rfl) Qx)
     (qi (PS.loan (zr PassesOwn.never rfl (zY (pv 0)) (qK (i:=4) (sc_Lpair.nd) rfl (Or.inl rfl))
       (qi (zX hu (pv 2) (pv 4) (qL hu (pv 0) (pv 4) (fun _ _=>rfl)) rfl)
       (qi (zX hu (pv 3) (pv 4) (qL hu (pv 0) (pv 4) (fun _ _=>rfl)) rfl)
       (qi (zc (qC qbZ (qL hu (pv 1) (pv 4) (fun _ _=>rfl)) (qL hu (pv 0) (pv 4) (fun _ _=>rfl)) (qZ _))
         (qj (zX hu (pv 2) (pv 4) (qL hu (pv 1) (pv 4) (fun _ _=>rfl)) rfl))
         qt)
       (qj (zc (qC qcN (qL hu (pv 1) (pv 4) (fun _ _=>rfl)) (qL hu (pv 0) (pv 4) (fun _ _=>rfl)) (qZ _))
         (qj (zX hu (pv 3) (pv 4) (qL hu (pv 1) (pv 4) (fun _ _=>rfl)) rfl))
         qt)))))))
     (qj (qw (ZE (qa (pv 2) (qa (pv 3) qh)))))))),?_⟩
   try dsimp only [zU,Cx.nox]
   refine fun f ff g fg=>?_;have nfg:f≠g:=fun z=>by rw[z,← z,qd]at fg;cases fg
   have nfx:f≠x:=fun z=>by rw[z,hx]at ff;cases ff
   have nfy:f≠y:=fun z=>by rw[z,hy]at ff;cases ff
   rw[qb (Ne.symm nfg)]at fg;have ngx:g≠x:=fun z=>by rw[z,hx]at fg;cases fg
   have ngy:g≠y:=fun z=>by rw[z,hy]at fg;cases fg
   have S0:Same H (upd (upd H f (.dK [])) g (.dK [])):=(Same.new _ ff).put fg _;have ef:upd (upd H f (.dK [])) g (.dK []) f=some (.dK []):=(qb nfg).trans qd;have eg:upd (upd H f (.dK [])) g (.dK []) g=some (.dK []):=qd;(try unfold qP);(try dsimp only);generalize upd (upd H f (.dK [])) g (.dK [])=G at S0 ef eg ⊢;refine⟨x,p,S0 _ _ hx,fun ob=>?_⟩;refine⟨_,rfl,x,ob,p,rfl,qd,zP (a:=x) (ob:=ob) (kvs:=p) (fun j σ H'=>∃ s4:Option V,σ=[some (.ref x),some (.ref y),some (.ref f),some (.ref g),s4]∧H' x=some (.frz ob (.dK p))∧(∀ b u,b≠x->H b=some u->H' b=some u)∧H' f=some (.dK ((two Ql p q).take j))∧H' g=some (.dK ((two Qt p q).take j))) ⟨none,rfl,qd,fun b u n e=>(qb n).trans (S0 _ _ e),(qb nfx).trans ef,(qb ngx).trans eg⟩ (fun j σ H' _ ⟨_,_,h,_⟩=>h) ?_ ?_⟩
   · rintro j k v σ H' hz ⟨s4,rfl,hx1,ho,hf1,hg1⟩;obtain⟨nm,n,rfl,rfl,hv⟩:=dp.val hz;obtain⟨u,hu2⟩:=zO h1 (List.mem_of_getElem? hz);obtain⟨m,rfl⟩:=dq.look hu2;have few:=dp.few;have lt:∀ fn,((two fn p q).take j).length < sizeLine:=fun fn=>qH (by rw[List.length_take,zm];omega);have lt1':∀ fn z,((two fn p q).take j++[z]).length < sizeLine:=fun fn z=>qH (by rw[List.length_append,List.length_take,zm,List.length_singleton];omega);have na:∀ fn,(.inr nm:Key)∉((two fn p q).take j).map (·.1):=fun fn=>JP dp.nd hz;have tk1:=zp (Zy (f:=Ql) hz hu2);have tk2:=zp (Zy (f:=Qt) hz hu2);have hy1:=ho _ _ (Ne.symm nxy) hy;refine⟨_,rfl,_,rfl,x,_,rfl,.inl ⟨p,.inr nm,.inr ⟨ob,hx1⟩,rfl,hv.symm⟩,_,rfl,_,rfl,f,_,rfl,DPut.k hf1 (lt _),?_⟩;rw[jy (na _)];have gx:upd H' f (.dK ((two Ql p q).take j++[(.inr nm,.int n)])) x=some (.frz ob (.dK p)):=(qb (Ne.symm nfx)).trans hx1;have gg:upd H' f (.dK ((two Ql p q).take j++[(.inr nm,.int n)])) g=some (.dK ((two Qt p q).take j)):=(qb (Ne.symm nfg)).trans hg1;(try dsimp only);refine⟨_,rfl,_,rfl,x,_,rfl,.inl ⟨p,.inr nm,.inr ⟨ob,gx⟩,rfl,hv.symm⟩,_,rfl,_,rfl,g,_,rfl,DPut.k gg (lt _),?_⟩;rw[jy (na _)];have qx:upd (upd H' f (.dK ((two Ql p q).take j++[(.inr nm,.int n)]))) g (.dK ((two Qt p q).take j++[(.inr nm,.int n)])) x=some (.frz ob (.dK p)):=(qb (Ne.symm ngx)).trans gx;have qf:upd (upd H' f (.dK ((two Ql p q).take j++[(.inr nm,.int n)]))) g (.dK ((two Qt p q).take j++[(.inr nm,.int n)])) f=some (.dK ((two Ql p q).take j++[(.inr nm,.int n)])):=(qb nfg).trans qd;have qg:upd (upd H' f (.dK ((two Ql p q).take j++[(.inr nm,.int n)]))) g (.dK ((two Qt p q).take j++[(.inr nm,.int n)])) g=some (.dK ((two Qt p q).take j++[(.inr nm,.int n)])):=qd
     have qo:∀ b u,b≠x->H b=some u->upd (upd H' f (.dK ((two Ql p q).take j++[(.inr nm,.int n)]))) g (.dK ((two Qt p q).take j++[(.inr nm,.int n)])) b=some u:=fun b u nb e=>by
       rw[qb (qe e fg),qb (qe e ff)];exact ho b u nb e
     try dsimp only
     generalize upd (upd H' f (.dK ((two Ql p q).take j++[(.inr nm,.int n)]))) g (.dK ((two Qt p q).take j++[(.inr nm,.int n)]))=G2 at qx qf qg qo ⊢;have qy:=qo _ _ (Ne.symm nxy) hy;have GX:∀ {G3:Hp},G3 x=some (.frz ob (.dK p))->qau G3 x (kV (.inr nm)) (some (.int n)):=fun e=>.inl ⟨p,.inr nm,.inr ⟨ob,e⟩,rfl,hv.symm⟩;have GY:∀ {G3:Hp},G3 y=some (.dK q)->qau G3 y (kV (.inr nm)) (some (.int m)):=fun e=>.inl ⟨q,.inr nm,.inl e,rfl,hu2.symm⟩;refine qR (t:=qcu _ _ _) (fun σ' G3=>σ'=[some (.ref x),some (.ref y),some (.ref f),some (.ref g),some (.str nm)]∧G3 x=some (.frz ob (.dK p))∧(∀ b u,b≠x->H b=some u->G3 b=some u)∧G3 f=some (.dK ((two Ql p q).take (j+1)))∧G3 g=some (.dK ((two Qt p q).take j++[(.inr nm,.int n)]))) (fun N hN=>?_) ?_
     · refine⟨_,rfl,_,rfl,y,_,rfl,GY qy,_,rfl,_,rfl,x,_,rfl,GX qx,_,_,rfl,rfl,_,rfl,?_⟩;refine Jf (fun lt1=>?_) (fun ge1=>?_)
       · refine⟨_,rfl,_,rfl,y,_,rfl,GY qy,_,rfl,_,rfl,f,_,rfl,DPut.k qf (lt1' _ _),?_⟩;rw[jz (na _)];refine hN _ _ ⟨rfl,(qb (Ne.symm nfx)).trans qx,fun b u nb e=>by rw[qb (qe e ff)];exact qo b u nb e,?_,(qb (Ne.symm nfg)).trans qg⟩;rw[qd,tk1];show some (HO.dK (_++[((.inr nm:Key),V.int m)]))=some (HO.dK (_++[((.inr nm:Key),V.int (if m < n then m else n))]));rw[if_pos lt1]
       · refine hN _ _ ⟨rfl,qx,qo,?_,qg⟩;rw[qf,tk1];show some (HO.dK (_++[((.inr nm:Key),V.int n)]))=some (HO.dK (_++[((.inr nm:Key),V.int (if m < n then m else n))]));rw[if_neg ge1]
     rintro σ' G3 ⟨rfl,rx,ro,rf,rg⟩;have ry:=ro _ _ (Ne.symm nxy) hy;refine⟨_,rfl,_,rfl,y,_,rfl,GY ry,_,rfl,_,rfl,x,_,rfl,GX rx,_,_,rfl,rfl,_,rfl,?_⟩;refine Jf (fun lt1=>?_) (fun ge1=>?_)
     · refine⟨_,rfl,_,rfl,y,_,rfl,GY ry,_,rfl,_,rfl,g,_,rfl,DPut.k (k:=.inr nm) rg (lt1' _ _),?_⟩;rw[jz (na _)];refine⟨_,rfl,(qb (Ne.symm ngx)).trans rx,fun b u nb e=>by rw[qb (qe e fg)];exact ro b u nb e,(qb nfg).trans rf,?_⟩;rw[qd,tk2];show some (HO.dK (_++[((.inr nm:Key),V.int m)]))=some (HO.dK (_++[((.inr nm:Key),V.int (if m > n then m else n))]));rw[if_pos lt1]
     · refine⟨_,rfl,rx,ro,rf,?_⟩;rw[rg,tk2];show some (HO.dK (_++[((.inr nm:Key),V.int n)]))=some (HO.dK (_++[((.inr nm:Key),V.int (if m > n then m else n))]));rw[if_neg ge1]
   · rintro σ H' ⟨s4,rfl,hx1,ho,hf1,hg1⟩;have e1:(two Ql p q).take p.length=two Ql p q:=by rw[← zm Ql p q,List.take_length]
     have e2:(two Qt p q).take p.length=two Qt p q:=by rw[← zm Qt p q,List.take_length]
     rw[e1]at hf1;rw[e2]at hg1;refine⟨hx1,?_⟩;refine⟨_,rfl,_,rfl,qG (Nat.le_of_ble_eq_true rfl),fun t ft=>?_⟩;have tx:t≠x:=fun z=>by rw[z,qd]at ft;cases ft
     rw[qb tx]at ft
     have ht:H t=none:=by
       cases e:H t with
       | none=>rfl
       | some u=>rw[ho t u tx e]at ft;cases ft
     have tf:f≠t:=fun z=>by rw[← z,hf1]at ft;cases ft
     have tg:g≠t:=fun z=>by rw[← z,hg1]at ft;cases ft
     refine kk t f g _ ht ff fg nfg (fun b u e=>?_) qd ((qb tf).trans ((qb nfx).trans hf1)) ((qb tg).trans ((qb ngx).trans hg1));rw[qb (qe e ht)];by_cases z:b=x
     · subst z;rw[hx]at e;cases e;exact qd
     · rw[qb z];exact ho b u z e
theorem jc {a:Ad} (T:Txt K mg a):zb P w K mg base CX0 1 a.f_n a.fd_n ["_law_one","_law_other"] QE:=by
 refine T.d_n.F.ok sc_Llacking (fun vs H Q E h=>?_) (fun cdv A outer s H vs Q E hr h=>?_)
 · obtain⟨x,y,p,q,rfl,nxy,hx,hy,dp,dq,kk⟩:=h;rfl
 · obtain⟨x,y,p,q,rfl,nxy,hx,hy,dp,dq,kk⟩:=h;have hu:=zJ hr;have hU:=hr.units
   refine⟨_,(qi (PS.loan (zr PassesOwn.never rfl (zY (pv 0)) (qK (i:=2) (sc_Llacking.nd) rfl (Or.inl rfl))
       (qj (zc (qC (QJ hu) (pv 2) (pv 1) (by with_unfolding_all rfl))
         (qj (qw (pv 2)))
         qt))))
     (qi (PS.loan (zr PassesOwn.never rfl (zY (pv 1)) (qK (i:=2) (sc_Llacking.nd) rfl (Or.inl rfl))
       (qj (zc (qC (QJ hu) (pv 2) (pv 0) (by with_unfolding_all rfl))
         (qj (qw (pv 2)))
         qt))))
     (qj (qw JJ)))),?_⟩
   try dsimp only [zU,Cx.nox]
   refine qcB fun N hN=>?_;refine⟨x,p,hx,fun ob=>?_⟩;have hx1:upd H x (.frz ob (.dK p)) x=some (.frz ob (.dK p)):=qd;have hy1:upd H x (.frz ob (.dK p)) y=some (.dK q):=(qb (Ne.symm nxy)).trans hy;have hb:upd (upd H x (.frz ob (.dK p))) x (.dK p)=H:=z5 hx;generalize upd H x (.frz ob (.dK p))=G at hx1 hy1 hb ⊢;refine⟨_,rfl,x,ob,p,rfl,hx1,zP (a:=x) (ob:=ob) (kvs:=p) (fun j σ H'=>∃ s2:Option V,σ=[some (.ref x),some (.ref y),s2]∧H'=G∧qV (p.take j) q=none) ⟨none,rfl,rfl,rfl⟩ (fun j σ H' _ ⟨_,_,h,_⟩=>h▸hx1) ?_ ?_⟩
   · rintro j k v σ H' hz ⟨s2,rfl,rfl,l0⟩;obtain⟨nm,n,rfl,rfl,_⟩:=dp.val hz;have l1:=Qi hz l0;refine⟨_,rfl,_,rfl,y,_,rfl,.inl ⟨q,.inr nm,.inl hy1,rfl,rfl⟩,_,rfl,?_⟩
     cases hv:zf q (.inr nm) with
     | some u =>
       rw[hv]at l1;exact qM rfl ⟨_,rfl,rfl,by simpa using l1⟩
     | none =>
       rw[hv]at l1;have lk:qV p q=some (.inr nm):=QP (i:=j+1) (by simpa using l1);refine JZ rfl ⟨_,rfl,hx1,?_⟩;rw[hb];have e:Qm p q=some (.inr nm):=by unfold Qm;rw[lk];rfl
       rw[e]at kk;exact kk
   rintro σ H' ⟨s2,rfl,rfl,l0⟩;rw[List.take_length]at l0;refine⟨hx1,hN _ _ ?_⟩;rw[hb];have el:Qm p q=qV q p:=by unfold Qm;rw[l0];rfl
   rw[el]at kk;clear hx1 hy1 hb;(try dsimp only);refine⟨y,q,hy,fun ob=>?_⟩;have hy1:upd H y (.frz ob (.dK q)) y=some (.frz ob (.dK q)):=qd;have hx1:upd H y (.frz ob (.dK q)) x=some (.dK p):=(qb nxy).trans hx;have hb:upd (upd H y (.frz ob (.dK q))) y (.dK q)=H:=z5 hy;generalize upd H y (.frz ob (.dK q))=G at hx1 hy1 hb ⊢;refine⟨_,rfl,y,ob,q,rfl,hy1,zP (a:=y) (ob:=ob) (kvs:=q) (fun j σ H'=>∃ s2:Option V,σ=[some (.ref x),some (.ref y),s2]∧H'=G∧qV (q.take j) p=none) ⟨_,rfl,rfl,rfl⟩ (fun j σ H' _ ⟨_,_,h,_⟩=>h▸hy1) ?_ ?_⟩
   · rintro j k v σ H' hz ⟨s2,rfl,rfl,l0⟩;obtain⟨nm,n,rfl,rfl,_⟩:=dq.val hz;have l1:=Qi hz l0;refine⟨_,rfl,_,rfl,x,_,rfl,.inl ⟨p,.inr nm,.inl hx1,rfl,rfl⟩,_,rfl,?_⟩
     cases hv:zf p (.inr nm) with
     | some u =>
       rw[hv]at l1;exact qM rfl ⟨_,rfl,rfl,by simpa using l1⟩
     | none =>
       rw[hv]at l1;have lk:qV q p=some (.inr nm):=QP (i:=j+1) (by simpa using l1);refine JZ rfl ⟨_,rfl,hy1,?_⟩;rw[hb];rw[lk]at kk;exact kk
   rintro σ H' ⟨s2,rfl,rfl,l0⟩;rw[List.take_length]at l0;refine⟨hy1,?_⟩;rw[hb];rw[l0]at kk;exact kk
end
abbrev abc:Str:="abcdefghijklmnopqrstuvwxyz"
abbrev ch (c:Nat):Str:=⟨#[c]⟩
abbrev chs (cs:List Nat):List Str:=cs.map ch
def Ltr (c:Nat):Prop:=97≤c∧c < 123
theorem qar {i:Int} (h0:0≤i) (h1:i < 26):atI abc.cps.toList i=some (97+i.toNat):=by
 have:∀ n:Fin 26,atI abc.cps.toList ((n.1:Nat):Int)=some (97+n.1):=by decide +kernel
 have:=this ⟨i.toNat,by omega⟩
 rwa [Int.toNat_of_nonneg h0]at this
theorem Zt (x y:Str):(x++y).cps.toList=x.cps.toList++y.cps.toList:=Array.toList_append
theorem qch (cs:List Nat):((chs cs).map (·.length)).sum+(chs cs).length * ("":Str).length=cs.length:=by
 have e:((chs cs).map (·.length)).sum=cs.length:=by
   induction cs with
   | nil=>rfl
   | cons c r ih =>
     show (ch c).length+((chs r).map (·.length)).sum=_;rw[ih];show 1+_=_;rw[List.length_cons];omega
 rw[e];rfl
def PenS (H:Hp) (p:Addr):Prop:=∃ i c z:Int,0≤i∧0≤c∧H p=some (.lst [.int i,.int c,.int z])
theorem PenS.ne {H:Hp}{p b:Addr} (h:PenS H p) (e:H b=none):b≠p:=fun z=>by
 obtain⟨_,_,_,_,_,h⟩:=h;rw[z,h]at e;cases e
theorem PenS.sm {H H':Hp}{p:Addr} (s:Same H H') (h:PenS H p):PenS H' p:=let ⟨i,c,z,a,b,h⟩:=h;⟨i,c,z,a,b,s _ _ h⟩
theorem PenS.up {H:Hp}{p b:Addr}{o:HO} (h:PenS H p) (n:b≠p):PenS (upd H b o) p:=let ⟨i,c,z,a,d,h⟩:=h;⟨i,c,z,a,d,(qb (Ne.symm n)).trans h⟩
def Scr (K:Frag) (H:Hp) (sa p:Addr) (ns:List Int):Prop:=(Rd H sa (.lst (ns.map V.int))∧sa≠p)∨∀ H',SqL K H' sa (ns.map V.int)
theorem Scr.sq {K:Frag}{H:Hp}{sa p:Addr}{ns:List Int} (h:Scr K H sa p ns):SqL K H sa (ns.map V.int):=h.elim (fun h=>.inl h.1) fun h=>h H
theorem Scr.but {K:Frag}{H H':Hp}{sa p:Addr}{ns:List Int} (h:Scr K H sa p ns) (B:But p H H'):Scr K H' sa p ns:=h.imp (fun h=>⟨h.1.imp (fun e=>B _ _ e h.2) fun⟨o,e⟩=>⟨o,B _ _ e h.2⟩,h.2⟩) id
theorem Scr.sm {K:Frag}{H H':Hp}{sa p:Addr}{ns:List Int} (h:Scr K H sa p ns) (s:Same H H'):Scr K H' sa p ns:=h.imp (fun h=>⟨h.1.imp (fun e=>s _ _ e) fun⟨o,e⟩=>⟨o,s _ _ e⟩,h.2⟩) id
theorem Scr.of {K:Frag}{H:Hp}{sa p:Addr}{ns:List Int} (h:SqL K H sa (ns.map V.int)) (n:H p=none):Scr K H sa p ns:=by
 rcases h with h|h
 · refine .inl ⟨h,fun z=>?_⟩;rcases h with e|⟨o,e⟩
   · rw[z,n]at e;cases e
   · rw[z,n]at e;cases e
 · exact .inr fun _=>.inr h
inductive Q0 (K:Frag) (vs:List V) (H:Hp) (Q:VK):Prop
 | mk (sa p:Addr) (ns:List Int) (many:Int) (h1:vs=[.ref sa,.ref p,.int many]) (h2:Scr K H sa p ns) (h3:PenS H p) (h4:0 < many) (h5:many < 1073741824) (h6:∀ (d:Int) (H':Hp),0≤d->d < many->But p H H'->PenS H' p->Q (.int d) H'):Q0 K vs H Q
def Qw (K:Frag):Sp:=fun vs H Q _=>Q0 K vs H Q
inductive Qk (K:Frag) (vs:List V) (H:Hp) (Q:VK):Prop
 | mk (sa p:Addr) (ns:List Int) (h1:vs=[.ref sa,.ref p]) (h2:Scr K H sa p ns) (h3:PenS H p) (h4:∀ (d:Int) (H':Hp),But p H H'->PenS H' p->Q (.int d) H'):Qk K vs H Q
def Q2 (K:Frag):Sp:=fun vs H Q _=>Qk K vs H Q
section
variable {P:Program}{w:World}{K:Frag}{mg:Str->Option Value}{base:Heap}
theorem Zo {a:Ad} (T:Txt K mg a):zb P w K mg base CX0 1 a.f_a a.fd_a ["_law_script","_law_pen","_law_many"] (Qw K):=by
 refine T.d_a.F.ok sc_Ltake (fun vs H Q E h=>?_) (fun cdv A outer s H vs Q E hr h=>?_)
 · obtain⟨sa,p,ns,many,rfl,hs,⟨i,c,z,i0,c0,hp⟩,m0,m1,kk⟩:=h;rfl
 · obtain⟨sa,p,ns,many,rfl,hs,⟨i,c,z,i0,c0,hp⟩,m0,m1,kk⟩:=h;have hU:=hr.units
   refine⟨_,(qi (zc (PW.pt (JD (qC (uEq hU) (qr (r:=rIx K) qp (pv 1) qc (fun _ _=>rfl)) qc (qZ _)) (Z8 (qC qbZ (qr (r:=rIx K) qp (pv 1) qc (fun _ _=>rfl)) (qB (QT rfl) (by rfl) T.n_min QV (qa (qB jS (by rfl) T.n_len ZV (qa (pv 0) qh)) (qa qc qh))) (qZ _)))))
       (qi (qO (i:=3) sc_Ltake.nd rfl (Or.inl rfl) (qr (r:=rIx K) qp (pv 0) (qr (r:=rIx K) qp (pv 1) qc (fun _ _=>rfl)) (fun _ _=>rfl)))
       (qi (qbW (pv 1) qc qa5 qc qcW Qa)
       (qi (jA (qN Qd (qN qbd (qN qbd (qN Q7 (qr (r:=rIx K) qp (pv 1) qc (fun _ _=>rfl)) qc) (qN Qd (pv 3) qc)) (qr (r:=rIx K) qp (pv 1) qc (fun _ _=>rfl))) qc) (jC (pv 1) qc Qa))
       (qj (zc (qC qdv (pv 3) (qN ZG qc qc) (qZ _))
         (qj (jA (pv 3) (jC (pv 1) qc Qa)))
         qt)))))
       qt)
     (qi (zc (qC qcN (qr (r:=rIx K) qp (pv 1) qc (fun _ _=>rfl)) qc (qZ _))
       (qi (qO (i:=4) sc_Ltake.nd rfl (Or.inl rfl) (qN Qd (qr (r:=rIx K) qp (pv 1) qc (fun _ _=>rfl)) (pv 2)))
       (qi (jA (qN ja (qr (r:=rIx K) qp (pv 1) qc (fun _ _=>rfl)) (pv 2)) (jC (pv 1) qc Qa))
       (qj (qw (pv 4)))))
       qt)
     (qi (jA (qN Qd (qN qbd (qN Q7 (qr (r:=rIx K) qp (pv 1) qc (fun _ _=>rfl)) qc) qc) qc) (jC (pv 1) qc Qa))
     (qj (qw (qN Qd (qN ja (qN Qd (qN qbd (qN Q7 (qr (r:=rIx K) qp (pv 1) qc (fun _ _=>rfl)) qc) qc) qc) qc) (pv 2))))))),?_⟩
   try dsimp only [zU,Cx.nox]
   refine qR (t:=qcu _ _ _) (fun σ' G=>∃ s3:Option V,σ'=[some (.ref sa),some (.ref p),some (.int many),s3,none]∧But p H G∧PenS G p) (fun N hN=>?_) ?_
   · have no:N [some (.ref sa),some (.ref p),some (.int many),none,none] H:=hN _ _ ⟨none,rfl,But.refl _ _,i,c,z,i0,c0,hp⟩;refine⟨_,rfl,.inl ⟨p,_,_,_,rfl,rfl,SqL.of hp,rfl,.inl ⟨rfl,_,rfl,?_⟩⟩⟩;refine Jf (fun hc=>?_) (fun hc=>no);refine⟨_,rfl,.inl ⟨p,_,_,_,rfl,rfl,SqL.of hp,rfl,_,rfl,_,_,rfl,.inl ⟨_,hs.sq,rfl⟩,_,_,rfl,_,_,rfl,rfl,_,rfl,?_⟩⟩;refine Jf (fun hl=>?_) (fun hl=>no)
     have hl2:i < ((ns.map V.int).length:Int):=by
       split at hl<;>omega
     obtain⟨v,hv,mv⟩:=Zi (xs:=ns.map V.int) i0 hl2;obtain⟨cell,_,rfl⟩:=List.mem_map.mp mv;refine⟨_,rfl,_,rfl,.inl ⟨p,_,_,_,rfl,rfl,SqL.of hp,rfl,.inl ⟨sa,_,_,_,rfl,rfl,hs.sq,hv,?_⟩⟩⟩;refine⟨_,rfl,p,_,_,_,rfl,rfl,SqL.of hp,Int.le_refl _,rfl,_,_,rfl,rfl,p,_,_,0,rfl,rfl,hp,rfl,?_⟩;have h1:upd H p (.lst ([.int i,.int c,.int z].set 0 (.int (i+1)))) p=some (.lst [.int (i+1),.int c,.int z]):=qd;have B1:But p H (upd H p (.lst ([.int i,.int c,.int z].set 0 (.int (i+1))))):=But.up _;(try dsimp only);generalize upd H p (.lst ([.int i,.int c,.int z].set 0 (.int (i+1))))=G1 at h1 B1 ⊢;refine⟨_,rfl,.inl ⟨p,_,_,_,rfl,rfl,SqL.of h1,rfl,_,_,rfl,rfl,.inr ⟨by decide,by decide⟩,_,rfl,_,_,rfl,rfl,(by show (0:Int) < _;decide),.inl ⟨_,_,rfl,rfl,_,rfl,.inl ⟨p,_,_,_,rfl,rfl,SqL.of h1,rfl,.inl ⟨_,_,rfl,rfl,_,_,rfl,rfl,(by show (0:Int) < _;decide),_,rfl,p,_,_,2,rfl,rfl,h1,rfl,?_⟩⟩⟩⟩⟩;generalize hz2:(z * 48271+cell % 2147483629+(i+1)) % 2147483647=z2;have h2:upd G1 p (.lst ([.int (i+1),.int c,.int z].set 2 (.int z2))) p=some (.lst [.int (i+1),.int c,.int z2]):=qd;have B2:But p H (upd G1 p (.lst ([.int (i+1),.int c,.int z].set 2 (.int z2)))):=B1.put _;(try dsimp only);generalize upd G1 p (.lst ([.int (i+1),.int c,.int z].set 2 (.int z2)))=G2 at h2 B2 ⊢;refine⟨_,rfl,_,_,rfl,rfl,⟨by decide,by decide,by decide⟩,_,_,rfl,rfl,_,rfl,?_⟩;refine Jf (fun hb=>?_) (fun _=>hN _ _ ⟨_,rfl,B2,i+1,c,z2,by omega,c0,h2⟩);refine⟨_,rfl,_,rfl,p,_,_,1,rfl,rfl,h2,rfl,?_⟩;have t18:(0:Int)≤10 ^ Int.toNat 18:=by decide
     exact hN _ _ ⟨_,rfl,B2.put _,i+1,cell,z2,by omega,Int.le_trans t18 hb,qd⟩
   rintro σ' G ⟨s3,rfl,B,i,c,z,i0,c0,hp⟩;refine⟨_,rfl,.inl ⟨p,_,_,_,rfl,rfl,SqL.of hp,rfl,_,_,rfl,rfl,_,rfl,?_⟩⟩;refine Jf (fun hc=>?_) (fun hc=>?_)
   · refine⟨_,rfl,.inl ⟨p,_,_,_,rfl,rfl,SqL.of hp,rfl,_,rfl,_,_,rfl,rfl,m0,?_⟩⟩;refine⟨_,rfl,.inl ⟨p,_,_,_,rfl,rfl,SqL.of hp,rfl,_,rfl,_,_,rfl,rfl,⟨m0,m1⟩,_,rfl,p,_,_,1,rfl,rfl,hp,rfl,?_⟩⟩;exact⟨_,rfl,kk _ _ (Int.emod_nonneg _ (by omega)) (Int.emod_lt_of_pos _ m0) (B.put _) ⟨i,_,z,i0,Int.ediv_nonneg c0 (by omega),qd⟩⟩
   · refine⟨_,rfl,.inl ⟨p,_,_,_,rfl,rfl,SqL.of hp,rfl,_,_,rfl,rfl,.inr ⟨by decide,by decide⟩,.inl ⟨_,_,rfl,rfl,_,_,rfl,rfl,(by show (0:Int) < _;decide),_,rfl,p,_,_,2,rfl,rfl,hp,rfl,?_⟩⟩⟩;generalize hz2:(z * 16807+1013904223) % 2147483647=z2;have h2:upd G p (.lst ([.int i,.int c,.int z].set 2 (.int z2))) p=some (.lst [.int i,.int c,.int z2]):=qd;have B2:But p H (upd G p (.lst ([.int i,.int c,.int z].set 2 (.int z2)))):=B.put _;(try dsimp only);generalize upd G p (.lst ([.int i,.int c,.int z].set 2 (.int z2)))=G2 at h2 B2 ⊢;refine⟨_,rfl,.inl ⟨p,_,_,_,rfl,rfl,SqL.of h2,rfl,_,_,rfl,rfl,.inr ⟨by decide,by decide⟩,.inl ⟨_,_,rfl,rfl,_,_,rfl,rfl,(by show (0:Int) < _;decide),_,_,rfl,rfl,⟨by decide,by decide⟩,_,rfl,_,_,rfl,rfl,m0,?_⟩⟩⟩;exact kk _ _ (Int.emod_nonneg _ (by omega)) (Int.emod_lt_of_pos _ m0) B2 ⟨i,c,z2,i0,c0,h2⟩
theorem j2 {a:Ad} (T:Txt K mg a):zb P w K mg base CX0 2 a.f_j a.fd_j ["_law_script","_law_pen"] (Q2 K):=by
 have G_a:=Zo (P:=P) (w:=w) (base:=base) T;refine T.d_j.F.ok sc_Lnumber (fun vs H Q E h=>?_) (fun cdv A outer s H vs Q E hr h=>?_)
 · obtain⟨sa,p,ns,rfl,hs,hp,kk⟩:=h;rfl
 · obtain⟨sa,p,ns,rfl,hs,hp,kk⟩:=h;have hU:=hr.units;have h_a:Room (1) _:=hr.mono (by decide)
   refine⟨_,(@qi _ _ _ _ _ (by exact(qO (i:=2) sc_Lnumber.nd rfl (Or.inl rfl) (ql G_a h_a rfl T.d_a.m T.d_a.k T.d_a.b .nil qQ (qa (pv 0) (qa (pv 1) (qa qc qh))))))
     (by exact(@qi _ _ _ _ _ (by exact(@zc _ _ _ _ _ _ _ _ (by exact(qC (uEq hU) (pv 2) qc (qZ _)))
       (by exact(@qj _ _ _ (by exact(@qw _ _ _ _ (by exact(@qr _ _ _ _ _ _ (rIx K) (by exact qp) (by exact(@zS _ _ _ _ (by exact(@qa _ _ _ _ _ (by exact(qN ZF qc (qN ZF (qN ZG qc qc) qc))) (by exact(@qa _ _ _ _ _ (by exact(qN ZF (qN ZG qc qc) qc)) (by exact(@qa _ _ _ _ _ (by exact qc) (by exact(@qa _ _ _ _ _ (by exact qc) (by exact(@qa _ _ _ _ _ (by exact(qdu qco qc)) (by exact(@qh _)) (by rfl))) (by rfl))) (by rfl))) (by rfl))) (by rfl))))) (by exact(ql G_a h_a rfl T.d_a.m T.d_a.k T.d_a.b .nil qQ (qa (pv 0) (qa (pv 1) (qa qc qh))))) (by exact fun _ _=>rfl)))))))
       (by exact qt)))
     (by exact(qi (zc (qC (uEq hU) (pv 2) qc (qZ _))
       (qj (qw (qN qbd (qN Q7 (qN ZF (ql G_a h_a rfl T.d_a.m T.d_a.k T.d_a.b .nil qQ (qa (pv 0) (qa (pv 1) (qa qc qh)))) qc) (qN ZG qc qc)) (ql G_a h_a rfl T.d_a.m T.d_a.k T.d_a.b .nil qQ (qa (pv 0) (qa (pv 1) (qa (qN ZG qc qc) qh)))))))
       qt)
     (qj (qw (qN ZF (ql G_a h_a rfl T.d_a.m T.d_a.k T.d_a.b .nil qQ (qa (pv 0) (qa (pv 1) (qa qc qh)))) qc)))))))),?_⟩
   try dsimp only [zU,Cx.nox]
   refine⟨_,rfl,_,rfl,sa,p,ns,_,rfl,hs,hp,by decide,by decide,fun w G1 w0 w1 B_G1 p_G1=>?_⟩;have s1:=hs.but B_G1;refine⟨_,rfl,.inl ⟨rfl,_,rfl,?_⟩⟩;refine Jf (fun g=>?_) (fun g=>?_)
   · refine⟨_,_,rfl,rfl,⟨by decide,by decide,by decide⟩,_,_,rfl,rfl,_,_,rfl,rfl,_,_,rfl,rfl,⟨by decide,by decide,by decide⟩,_,_,rfl,rfl,_,rfl,qG (Nat.le_of_ble_eq_true rfl),fun ol fol=>?_⟩;(try dsimp only);generalize hG:upd G1 ol _=G2;obtain⟨So,eo⟩:=qI hG fol;have nol:=p_G1.ne fol;have s2:Scr K G2 sa p ns:=s1.sm So;refine⟨_,rfl,_,rfl,sa,p,ns,_,rfl,s2,p_G1.sm So,by decide,by decide,fun d G3 d0 d1 B_G3 p_G3=>?_⟩;obtain⟨v,hv,mv⟩:=Zi (xs:=[.int (0 - (10 ^ Int.toNat 30 - 1)),.int (10 ^ Int.toNat 30 - 1),.int 0,.int 1,.int (-1)]) d0 d1
     obtain⟨n,rfl⟩:∃ n:Int,v=.int n:=by
       simp only[List.mem_cons,List.not_mem_nil,or_false]at mv;rcases mv with rfl|rfl|rfl|rfl|rfl<;>exact⟨_,rfl⟩
     exact .inl ⟨ol,_,_,_,rfl,rfl,SqL.of (B_G3 _ _ eo nol),hv,kk _ _ ((B_G1.same So).trans B_G3) p_G3⟩
   refine⟨_,rfl,.inl ⟨rfl,_,rfl,?_⟩⟩;refine Jf (fun g=>?_) (fun g=>?_)
   · refine⟨_,rfl,_,rfl,sa,p,ns,_,rfl,s1,p_G1,by decide,by decide,fun d G2 d0 d1 B_G2 p_G2=>?_⟩;refine⟨_,_,rfl,rfl,_,_,rfl,rfl,⟨by decide,by decide,by decide⟩,_,_,rfl,rfl,.inl ⟨by omega,by omega⟩,?_⟩;refine⟨_,rfl,_,rfl,_,_,rfl,rfl,⟨by decide,by decide,by decide⟩,sa,p,ns,_,rfl,s1.but B_G2,p_G2,by decide,by decide,fun e G3 e0 e1 B_G3 p_G3=>?_⟩;exact .inl ⟨_,_,rfl,rfl,kk _ _ ((B_G1.trans B_G2).trans B_G3) p_G3⟩
   · refine⟨_,rfl,_,rfl,sa,p,ns,_,rfl,s1,p_G1,by decide,by decide,fun d G2 d0 d1 B_G2 p_G2=>?_⟩;exact⟨_,_,rfl,rfl,kk _ _ (B_G1.trans B_G2) p_G2⟩
end
def Wd (x:Str):Prop:=x.cps.toList.length≤8∧∀ c∈x.cps.toList,Ltr c
abbrev somes:List Str:=["b","ba","bab","a","at","any","read","z","zz","joint","aa","abcdefgh"]
theorem qaD:∀ x∈somes,Wd x:=by
 have:∀ x∈somes,x.cps.toList.length≤8∧∀ c∈x.cps.toList,97≤c∧c < 123:=by decide +kernel
 exact this
theorem qaq {c:Nat} (h:Ltr c):PySem.Builtin.Str.occurrences abc ⟨#[c]⟩ 0 abc.length 1=[c - 97]:=by
 have:∀ n:Fin 26,PySem.Builtin.Str.occurrences abc ⟨#[97+n.1]⟩ 0 abc.length 1=[n.1]:=by decide +kernel
 have q:=this ⟨c - 97,by have:=h.1;have:=h.2;omega⟩;have e:97+(c - 97)=c:=by have:=h.1;omega
 simp only[e]at q;exact q
theorem ZR {α β:Type} (g:α->β):∀ (l:List α) (k:Nat),(l.map g).eraseIdx k=(l.eraseIdx k).map g
 | [],_=>rfl
 | _::_,0=>rfl
 | _::r,k+1=>congrArg _ (ZR g r k)
theorem Zb {α:Type}:∀ (l:List α) (k:Nat) (h:k < l.length),([l[k]]++l.eraseIdx k).Perm l
 | [],_,h=>absurd h (by simp)
 | a::r,0,_=>List.Perm.refl _
 | a::r,k+1,h=>by
   have hk:k < r.length:=by simpa using h
   exact(List.Perm.swap a (r[k]'hk) (r.eraseIdx k)).trans ((Zb r k hk).cons a)
inductive Q3 (vs:List V) (H:Hp) (Q:VK):Prop
 | mk (k t:Int) (h1:vs=[.int k,.int t]) (h2:0≤k) (h3:k < 60) (h4:0≤t) (h5:t < 26) (h6:∀ (x:Str) (H':Hp),Same H H'->Q (.str x) H'):Q3 vs H Q
def ju:Sp:=fun vs H Q _=>Q3 vs H Q
inductive Qj (K:Frag) (vs:List V) (H:Hp) (Q:VK):Prop
 | mk (sa p q:Addr) (ns:List Int) (xs:List Str) (h1:vs=[.ref sa,.ref p,.ref q]) (h2:Scr K H sa p ns) (h3:PenS H p) (h4:H q=some (.lst (xs.map V.str))) (h5:xs.length≤60) (h6:∀ (l:Addr) (ys:List Str) (H':Hp),H l=none->But p H H'->PenS H' p->H' l=some (.lst (ys.map V.str))->ys.Perm xs->Q (.ref l) H'):Qj K vs H Q
def QY (K:Frag):Sp:=fun vs H Q _=>Qj K vs H Q
section
variable {P:Program}{w:World}{K:Frag}{mg:Str->Option Value}{base:Heap}
theorem qaR {a:Ad} (T:Txt K mg a):zb P w K mg base CX0 1 a.f_i a.fd_i ["_law_number_here","_law_turn"] ju:=by
 refine T.d_i.F.ok sc_Lname (fun vs H Q E h=>?_) (fun cdv A outer s H vs Q E hr h=>?_)
 · obtain⟨k,t,rfl,k0,k1,t0,t1,kk⟩:=h;rfl
 · obtain⟨k,t,rfl,k0,k1,t0,t1,kk⟩:=h;have hU:=hr.units
   refine⟨_,(qi (qO (i:=2) sc_Lname.nd rfl (Or.inr rfl) za)
     (@qi _ _ _ _ _ (by exact(@qO _ _ 3 _ _ _ _ (by exact sc_Lname.nd) (by rfl) (by exact Or.inl rfl) (by exact(@zS _ _ _ _ (by exact(@qa _ _ _ _ _ (by exact za) (by exact(@qa _ _ _ _ _ (by exact za) (by exact(@qa _ _ _ _ _ (by exact za) (by exact(@qa _ _ _ _ _ (by exact za) (by exact(@qa _ _ _ _ _ (by exact za) (by exact(@qa _ _ _ _ _ (by exact za) (by exact(@qa _ _ _ _ _ (by exact za) (by exact(@qa _ _ _ _ _ (by exact za) (by exact(@qa _ _ _ _ _ (by exact za) (by exact(@qa _ _ _ _ _ (by exact za) (by exact(@qa _ _ _ _ _ (by exact za) (by exact(@qa _ _ _ _ _ (by exact za) (by exact(@qh _)) (by rfl))) (by rfl))) (by rfl))) (by rfl))) (by rfl))) (by rfl))) (by rfl))) (by rfl))) (by rfl))) (by rfl))) (by rfl))) (by rfl))))) (by rfl) (by exact .inl rfl)))
     (by exact(qi (qO (i:=4) sc_Lname.nd rfl (Or.inl rfl) (qN qbd (qN qbd za (qr (r:=rIx K) qp (pv 2) (qN ja (pv 0) qc) (fun _ _=>rfl))) (qr (r:=rIx K) qp (pv 2) (qN Qd (pv 0) qc) (fun _ _=>rfl))))
     (qi (zc (qC qbZ (pv 0) qc (qZ _))
       (qj (qO (i:=4) sc_Lname.nd rfl (Or.inl rfl) (qr (r:=rIx K) qp (pv 3) (pv 0) (fun _ _=>rfl))))
       qt)
     (qj (qw (qaO PySem.F.plainAttrs_str PySem.F.slot_str_join PySem.F.type_str_join qb2 za (qa (Z9 rfl (CompOk.def ["_law_sign","_law_letters","_law_turn"] [none,some 2,some 1]) (qcH (pv 4)) (fun _ _ _ _ _=>(qK (i:=0) (show List.Nodup (["_law_sign","_law_letters","_law_turn"]:List Str) by decide +kernel) rfl (Or.inl rfl))) (fun _ _ _ _ _=>Zl) (fun _ _ _ _ _=>(qr (r:=rIx K) qp (pv 1) (qN Qd (qN qbd (show PE _ _ (tBM K "str" qbo _ _) from (qaO PySem.F.plainAttrs_str PySem.F.slot_str_index PySem.F.type_str_index qaT (pv 1) (qa (pv 0) qh))) (pv 2)) qc) (fun _ _=>rfl)))) qh))))))))),?_⟩
   try dsimp only [zU,Cx.nox]
   refine⟨qG (Nat.le_of_ble_eq_true rfl),fun ol fol=>?_⟩;(try dsimp only);generalize hG:upd H ol _=G;obtain⟨So,eo0⟩:=qI hG fol;have eo:G ol=some (.lst (somes.map V.str)):=eo0;clear hG eo0;have q0:0≤k / 26:=Int.ediv_nonneg k0 (by decide);have q1:k / 26 < 26:=by omega
   have r0:0≤k % 26:=Int.emod_nonneg _ (by decide);have r1:k % 26 < 26:=Int.emod_lt_of_pos _ (by decide);(try unfold qP);(try dsimp only);refine⟨_,rfl,_,rfl,_,_,rfl,rfl,⟨by decide,by decide⟩,.inr (.inr ⟨_,_,_,rfl,rfl,qG (by decide +kernel),qar q0 q1,.inr (.inr ⟨_,_,rfl,rfl,?_,_,rfl,_,rfl,_,_,rfl,rfl,(by show (0:Int) < _;decide),.inr (.inr ⟨_,_,_,rfl,rfl,qG (by decide +kernel),qar r0 r1,.inr (.inr ⟨_,_,rfl,rfl,?_,?_⟩)⟩)⟩)⟩)⟩
   · exact qG (Nat.le_of_ble_eq_true rfl)
   · exact qG (Nat.le_of_ble_eq_true rfl)
   have wd0:Wd ((Str.ofString "q"++ch (97+(k / 26).toNat))++ch (97+(k % 26).toNat)):=by
     refine⟨?_,fun c m=>?_⟩
     · rw[Zt,Zt,List.length_append,List.length_append];exact Nat.le_of_ble_eq_true rfl
     · rw[Zt,Zt]at m;rcases List.mem_append.mp m with m|m
       · rcases List.mem_append.mp m with m|m
         · have:c=113:=by simpa using (show c∈[113] from m)
           rw[this];exact⟨by decide,by decide⟩
         · have:c=97+(k / 26).toNat:=by simpa using (show c∈[97+(k / 26).toNat] from m)
           rw[this];exact⟨by omega,by omega⟩
       · have:c=97+(k % 26).toNat:=by simpa using (show c∈[97+(k % 26).toNat] from m)
         rw[this];exact⟨by omega,by omega⟩
   generalize hw:((Str.ofString "q"++ch (97+(k / 26).toNat))++ch (97+(k % 26).toNat))=w0 at wd0;(try unfold qP);(try dsimp only);refine qR (t:=qcu _ _ _) (fun σ' H'=>∃ x:Str,σ'=[some (.int k),some (.int t),some (.str abc),some (.ref ol),some (.str x)]∧H'=G∧Wd x) (fun N hN=>?_) ?_
   · refine⟨_,rfl,_,_,rfl,rfl,_,rfl,?_⟩;refine Jf (fun lt=>?_) (fun _=>hN _ _ ⟨_,by rw[← hw];rfl,rfl,wd0⟩);obtain⟨v,hv,mv⟩:=Zi (xs:=somes.map V.str) k0 (by simpa using lt);obtain⟨x,mx,rfl⟩:=List.mem_map.mp mv;exact⟨_,rfl,_,rfl,.inl ⟨ol,_,_,_,rfl,rfl,SqL.of eo,hv,hN _ _ ⟨x,rfl,rfl,qaD x mx⟩⟩⟩
   rintro σ' H' ⟨x,rfl,rfl,wx⟩;refine⟨rfl,_,rfl,x,rfl,fun D fD=>?_⟩;refine qba (x:=x) (D:=D) (fun i σ H2=>∃ (c0:Option V) (cs:List Nat),σ=[c0,some (.str abc),some (.int t)]∧Same H' H2∧H2 D=some (.lst ((chs cs).map V.str))∧cs.length=i) ⟨none,[],rfl,Same.new _ fD,qd,rfl⟩ ?_ ?_
   · rintro i c σ H2 hc ⟨c0,cs,rfl,S,hD,lc⟩;have lt:Ltr c:=wx.2 c (List.mem_of_getElem? (by rw[Array.getElem?_toList];exact hc))
     have li:i < 8:=by
       have:=(Array.getElem?_eq_some_iff.mp hc).1
       have:=wx.1
       rw[Array.length_toList]at this;omega
     refine⟨_,rfl,_,rfl,rfl,_,rfl,abc,_,_,_,rfl,rfl,qaq lt,_,rfl,.inl ⟨_,_,rfl,rfl,_,_,rfl,rfl,(by show (0:Int) < _;decide),.inr (.inr ⟨_,_,_,rfl,rfl,qG (by decide +kernel),qar (Int.emod_nonneg _ (by decide)) (Int.emod_lt_of_pos _ (by decide)),?_⟩)⟩⟩;refine⟨_,hD,qH (by rw[List.length_map,List.length_map];omega),_,cs++[_],rfl,S.put fD _,(by rw[qd];simp only[chs,List.map_append];rfl),(by rw[List.length_append,lc];rfl)⟩
   · rintro σ H2 ⟨c0,cs,rfl,S,hD,lc⟩;refine⟨_,D,_,rfl,rfl,SqL.of hD,(by rw[qch,lc,← Array.length_toList];have:=wx.1;omega),?_⟩;exact kk _ _ (So.trans S)
theorem j1 {a:Ad} (T:Txt K mg a):zb P w K mg base CX0 2 a.f_k a.fd_k ["_law_script","_law_pen","_law_names"] (QY K):=by
 have G_a:=Zo (P:=P) (w:=w) (base:=base) T;refine T.d_k.F.ok sc_Lturned (fun vs H Q E h=>?_) (fun cdv A outer s H vs Q E hr h=>?_)
 · obtain⟨sa,p,q,ns,xs,rfl,hs,hp,hq,lx,kk⟩:=h;rfl
 · obtain⟨sa,p,q,ns,xs,rfl,hs,hp,hq,lx,kk⟩:=h;have h_a:Room (1) _:=hr.mono (by decide)
   refine⟨_,(qi (qO (i:=3) sc_Lturned.nd rfl (Or.inl rfl) (qA (r:=qeb K) ZU (by rfl) T.n_list zt (qa (pv 2) qh)))
     (qi (qO (i:=4) sc_Lturned.nd rfl (Or.inl rfl) (zS qh))
     (qi (zr PassesOwn.never rfl (Zm (pv 2)) (qK (i:=5) (sc_Lturned.nd) rfl (Or.inl rfl))
       (qj (zv (qaO PySem.F.plainAttrs_list PySem.F.slot_list_append PySem.F.type_list_append QL (pv 4) (qa (qaO PySem.F.plainAttrs_list PySem.F.slot_list_pop PySem.F.type_list_pop qaS (pv 3) (qa (ql G_a h_a rfl T.d_a.m T.d_a.k T.d_a.b .nil qQ (qa (pv 0) (qa (pv 1) (qa (qB jS (by rfl) T.n_len ZV (qa (pv 3) qh)) qh)))) qh)) qh)))))
     (qj (qw (pv 4)))))),?_⟩
   try dsimp only [zU,Cx.nox]
   refine⟨_,rfl,q,_,rfl,.inl (SqL.of hq),fun l fl=>?_⟩;have nl:=hp.ne fl;have Sl:=Same.new (.lst (xs.map V.str)) fl;have el:upd H l (.lst (xs.map V.str)) l=some (.lst (xs.map V.str)):=qd;have hp1:=hp.sm Sl;(try unfold qP);(try dsimp only);generalize upd H l (.lst (xs.map V.str))=G1 at Sl el hp1 ⊢;refine⟨qG (Nat.le_of_ble_eq_true rfl),fun f ff=>?_⟩;have nf:=hp1.ne ff
   have fH:H f=none:=by
     cases e:H f with
     | none=>rfl
     | some u=>rw[Sl _ _ e]at ff;cases ff
   have nlf:l≠f:=qe el ff
   have nqp:q≠p:=fun z=>by
     obtain⟨_,_,_,_,_,h⟩:=hp;rw[z,h]at hq
     cases xs with
     | nil=>simp at hq
     | cons a b=>injection hq with hq;injection hq with hq;injection hq with h1 _;cases h1
   have Sf:=Sl.trans (Same.new (.lst []) ff);(try unfold qP);(try dsimp only);refine⟨_,rfl,q,rfl,⟨_,SqL.of ((Sf _ _ hq))⟩,Qe (K:=K) (a:=q) (xs:=xs.map V.str) (fun j σ H'=>∃ (s5:Option V) (ys zs:List Str),σ=[some (.ref sa),some (.ref p),some (.ref q),some (.ref l),some (.ref f),s5]∧But p H H'∧PenS H' p∧H' l=some (.lst (zs.map V.str))∧H' f=some (.lst (ys.map V.str))∧(ys++zs).Perm xs∧ys.length=j) ⟨none,[],xs,rfl,fun b o e _=>Sf b o e,hp1.up nf,(qb nlf).trans el,qd,List.Perm.refl _,rfl⟩ (fun j σ H' _ ⟨_,_,_,_,B,_⟩=>SqL.of (B _ _ hq nqp)) ?_ ?_⟩
   · rintro j z σ H' hz ⟨s5,ys,zs,rfl,B,pB,hl,hf,pm,ly⟩
     have jl:j < xs.length:=by
       have:=(List.getElem?_eq_some_iff.mp hz).1
       rwa [List.length_map]at this
     have pl:=pm.length_eq;rw[List.length_append]at pl;refine⟨_,rfl,.inl ⟨rfl,_,SqL.of hf⟩,_,rfl,.inl ⟨rfl,_,SqL.of hl⟩,?_⟩;refine⟨_,rfl,_,rfl,_,rfl,_,_,rfl,.inl ⟨_,SqL.of hl,rfl⟩,sa,p,ns,_,rfl,hs.but B,pB,by rw[List.length_map];omega,by rw[List.length_map];omega,fun d G2 d0 d1 B2 p2=>?_⟩;rw[List.length_map]at d1;have hl2:=B2 _ _ hl nl;have hf2:=B2 _ _ hf nf;have dk:d.toNat < zs.length:=by omega
     refine⟨l,_,d,d.toNat,_,rfl,rfl,hl2,by omega,by omega,?_,by rw[List.getElem?_map,List.getElem?_eq_getElem dk];rfl,?_⟩
     · unfold seqIndex?;simp only[show ¬ d < 0 by omega,if_false];rw[List.length_map,if_pos (by simp only[Bool.and_eq_true,decide_eq_true_eq];exact⟨d0,d1⟩)]
     refine⟨f,_,_,rfl,rfl,(qb (Ne.symm nlf)).trans hf2,qH (by rw[List.length_map];omega),?_⟩;refine⟨_,ys++[zs[d.toNat]],zs.eraseIdx d.toNat,rfl,?_,(p2.up nl).up nf,?_,?_,?_,by rw[List.length_append,ly];rfl⟩
     · intro b o e nb;rw[qb (qe e fH),qb (qe e fl)];exact B2 b o (B b o e nb) nb
     · rw[qb nlf,qd,ZR]
     · rw[qd,List.map_append];rfl
     · refine List.Perm.trans ?_ pm;rw[List.append_assoc];refine List.Perm.append_left _ ?_;exact Zb zs _ dk
   · rintro σ H' ⟨s5,ys,zs,rfl,B,pB,hl,hf,pm,ly⟩;rw[List.length_map]at ly;have pl:=pm.length_eq;rw[List.length_append]at pl;have ez:zs=[]:=List.length_eq_zero_iff.mp (by omega);subst ez;rw[List.append_nil]at pm;exact⟨_,rfl,kk f ys H' fH B pB hf pm⟩
end
theorem j8 {p:Kv} (d:Dn p):qV p p=none:=by
 unfold qV;rw[Option.map_eq_none_iff,List.find?_eq_none];intro z m;obtain⟨i,hi⟩:=List.getElem?_of_mem m;obtain⟨k,y⟩:=z;rw[Zj d.nd hi];exact Bool.false_ne_true
theorem ZN {p:Kv} (d:Dn p):Qm p p=none:=by unfold Qm;rw[j8 d];rfl
theorem JU {p q:Kv} (h:Qm p q=none):Qm q p=none:=by
 obtain⟨h1,h2⟩:=zI h;unfold Qm;rw[h1,h2];rfl
theorem jm {f:V->V->V} (hf:∀ i:Int,f (.int i) (.int i)=.int i) {p:Kv} (d:Dn p):two f p p=p:=by
 refine List.ext_getElem? fun i=>?_
 cases e:p[i]? with
 | none=>exact List.getElem?_eq_none (by rw[zm];exact List.getElem?_eq_none_iff.mp e)
 | some z =>
   obtain⟨k,y⟩:=z;obtain⟨x,n,rfl,rfl,hv⟩:=d.val e;rw[Zy e hv,hf]
theorem qaU (i:Int):Ql (.int i) (.int i)=.int i:=by show V.int (if i < i then i else i)=V.int i;rw[if_neg (by omega)]
theorem qaW (i:Int):Qt (.int i) (.int i)=.int i:=by show V.int (if i > i then i else i)=V.int i;rw[if_neg (by omega)]
inductive QZ (vs:List V) (H:Hp) (Q:VK):Prop
 | mk (x y:Addr) (p q:Kv) (h1:vs=[.ref x,.ref y]) (h2:x≠y) (h3:H x=some (.dK p)) (h4:H y=some (.dK q)) (h5:Dn p) (h6:Dn q) (h7:Qm p q=none) (h8:∀ H',Same H H'->Q (.bl true) H'):QZ vs H Q
def jr:Sp:=fun vs H Q _=>QZ vs H Q
section
variable {P:Program}{w:World}{K:Frag}{mg:Str->Option Value}{base:Heap}
theorem qaP {a:Ad} (T:Txt K mg a):zb P w K mg base CX0 8 a.f_f a.fd_f ["_law_one","_law_other"] jr:=by
 have G_l:=qaQ (P:=P) (w:=w) (base:=base) T;have G_c:=ZH (P:=P) (w:=w) (base:=base) T;have G_d:=Q8 (P:=P) (w:=w) (base:=base) T;have G_b:=JL (P:=P) (w:=w) (base:=base) T;refine T.d_f.F.ok sc_Ltold (fun vs H Q E h=>?_) (fun cdv A outer s H vs Q E hr h=>?_)
 · obtain⟨x,y,p,q,rfl,nxy,hx,hy,dp,dq,lk,kk⟩:=h;rfl
 · obtain⟨x,y,p,q,rfl,nxy,hx,hy,dp,dq,lk,kk⟩:=h;have hu:=zJ hr;have h_l:Room (1) _:=hr.mono (by decide);have h_c:Room (7) _:=hr.mono (by decide);have h_d:Room (7) _:=hr.mono (by decide);have h_b:Room (2) _:=hr.mono (by decide)
   refine⟨_,(qi (qO (i:=2) sc_Ltold.nd rfl (Or.inl rfl) (ql G_l h_l rfl T.d_l.m T.d_l.k T.d_l.b .nil qQ (qa (pv 0) (qa (pv 1) qh))))
     (qi (qO (i:=3) sc_Ltold.nd rfl (Or.inl rfl) (zS (qa (qA (r:=Qb) qX (by rfl) T.n_dict qE (qa (pv 0) qh)) (qa (qA (r:=Qb) qX (by rfl) T.n_dict qE (qa (pv 1) qh)) qh))))
     (qi (qO (i:=4) sc_Ltold.nd rfl (Or.inl rfl) (zS (qa (ql G_c h_c rfl T.d_c.m T.d_c.k T.d_c.b .nil Ja (qa (qr (r:=rIx K) qp (pv 3) qc (fun _ _=>rfl)) (qa (qr (r:=rIx K) qp (pv 3) qc (fun _ _=>rfl)) qh))) (qa (ql G_d h_d rfl T.d_d.m T.d_d.k T.d_d.b .nil Ja (qa (qr (r:=rIx K) qp (pv 3) qc (fun _ _=>rfl)) (qa (qr (r:=rIx K) qp (pv 3) qc (fun _ _=>rfl)) qh))) qh))))
     (qi (zr PassesOwn.never rfl (zF rfl T.n_range (qa qc qh)) (qK (i:=5) (sc_Ltold.nd) rfl (Or.inl rfl))
       (qi (zc (zd (qY (ql G_b h_b rfl T.d_b.m T.d_b.k T.d_b.b .nil qQ (qa (qr (r:=rIx K) qp (pv 4) (pv 5) (fun _ _=>rfl)) (qa (qr (r:=rIx K) qp (pv 2) (pv 5) (fun _ _=>rfl)) qh)))))
         (qj (qw zQ))
         qt)
       (qi (zv (qcK PySem.F.plainAttrs_dict PySem.F.slot_dict_clear PySem.F.type_dict_clear JQ (qr (r:=rIx K) qp (pv 4) (pv 5) (fun _ _=>rfl))))
       (qj (zX hu (qr (r:=rIx K) qp (pv 4) (pv 5) (fun _ _=>rfl)) za qc rfl)))))
     (qi (zc (PW.pt (Qq (zd (qY (ql G_b h_b rfl T.d_b.m T.d_b.k T.d_b.b .nil qQ (qa (qr (r:=rIx K) qp (pv 3) qc (fun _ _=>rfl)) (qa (pv 0) qh))))) (Qc (zd (qY (ql G_b h_b rfl T.d_b.m T.d_b.k T.d_b.b .nil qQ (qa (qr (r:=rIx K) qp (pv 3) qc (fun _ _=>rfl)) (qa (pv 1) qh))))))))
       (qj (qw zQ))
       qt)
     (qi (zc (PW.pt (Qq (zd (qY (ql G_b h_b rfl T.d_b.m T.d_b.k T.d_b.b .nil qQ (qa (ql G_d h_d rfl T.d_d.m T.d_d.k T.d_d.b .nil Ja (qa (qr (r:=rIx K) qp (pv 3) qc (fun _ _=>rfl)) (qa (qr (r:=rIx K) qp (pv 3) qc (fun _ _=>rfl)) qh))) (qa (qr (r:=rIx K) qp (pv 2) qc (fun _ _=>rfl)) qh))))) (Qc (zd (qY (ql G_b h_b rfl T.d_b.m T.d_b.k T.d_b.b .nil qQ (qa (ql G_c h_c rfl T.d_c.m T.d_c.k T.d_c.b .nil Ja (qa (qr (r:=rIx K) qp (pv 3) qc (fun _ _=>rfl)) (qa (qr (r:=rIx K) qp (pv 3) qc (fun _ _=>rfl)) qh))) (qa (qr (r:=rIx K) qp (pv 2) qc (fun _ _=>rfl)) qh))))))))
       (qj (qw zQ))
       qt)
     (qj (qw (jG (ql G_b h_b rfl T.d_b.m T.d_b.k T.d_b.b .nil qQ (qa (ql G_c h_c rfl T.d_c.m T.d_c.k T.d_c.b .nil Ja (qa (qA (r:=Qb) qX (by rfl) T.n_dict qE (qa (pv 0) qh)) (qa (qA (r:=Qb) qX (by rfl) T.n_dict qE (qa (pv 0) qh)) qh))) (qa (pv 0) qh))) (jE (ql G_b h_b rfl T.d_b.m T.d_b.k T.d_b.b .nil qQ (qa (ql G_d h_d rfl T.d_d.m T.d_d.k T.d_d.b .nil Ja (qa (qA (r:=Qb) qX (by rfl) T.n_dict qE (qa (pv 1) qh)) (qa (qA (r:=Qb) qX (by rfl) T.n_dict qE (qa (pv 1) qh)) qh))) (qa (pv 1) qh))))))))))))),?_⟩
   try dsimp only [zU,Cx.nox]
   obtain⟨l1,l2⟩:=zI lk;have dmin:=qbf qaV dp dq l1;have dmax:=qbf qaX dp dq l1;refine⟨_,rfl,_,rfl,x,y,p,q,rfl,nxy,hx,hy,dp,dq,l1,fun t f g G1 ft ff fg nfg S1 et ef eg=>?_⟩;(try unfold qP);(try dsimp only);refine⟨_,rfl,x,p,rfl,.inl (S1 _ _ hx),fun u fu=>?_⟩;generalize hG:upd G1 u _=G2;obtain⟨S2,eu⟩:=qI hG fu;clear hG;refine⟨_,rfl,y,q,rfl,.inl (S2 _ _ (S1 _ _ hy)),fun v fv=>?_⟩;generalize hG:upd G2 v _=G3;obtain⟨S3,ev⟩:=qI hG fv;clear hG;have nuv:u≠v:=qe eu fv;refine⟨qG (Nat.le_of_ble_eq_true rfl),fun hl fl=>?_⟩;generalize hG:upd G3 hl _=G4;obtain⟨S4,el⟩:=qI hG fl;clear hG;have S14:=(S2.trans S3).trans S4;have eu4:=S4 _ _ (S3 _ _ eu);have ev4:=S4 _ _ ev;(try unfold qP);(try dsimp only);refine⟨_,rfl,.inl ⟨hl,_,_,_,rfl,rfl,SqL.of el,rfl,_,rfl,.inl ⟨hl,_,_,_,rfl,rfl,SqL.of el,rfl,u,v,p,q,rfl,nuv,eu4,ev4,dp,dq,.inl ⟨lk,fun c G5 fc SG5 ec=>?_⟩⟩⟩⟩;refine⟨_,rfl,.inl ⟨hl,_,_,_,rfl,rfl,SqL.of (SG5 _ _ el),rfl,_,rfl,.inl ⟨hl,_,_,_,rfl,rfl,SqL.of (SG5 _ _ el),rfl,u,v,p,q,rfl,nuv,(SG5 _ _ eu4),(SG5 _ _ ev4),dp,dq,.inl ⟨lk,fun d G6 fd SG6 ed=>?_⟩⟩⟩⟩;refine⟨qG (Nat.le_of_ble_eq_true rfl),fun m fm=>?_⟩;generalize hG:upd G6 m _=G7;obtain⟨S7,em⟩:=qI hG fm;clear hG;have S47:=(SG5.trans SG6).trans S7;have ec7:=S7 _ _ (SG6 _ _ ec);have ed7:=S7 _ _ ed;have ncd:c≠d:=qe ec fd;have n_c:∀ b o,G4 b=some o->b≠c:=fun b o e=>qe e fc;have n_d:∀ b o,G4 b=some o->b≠d:=fun b o e=>qe (SG5 _ _ e) fd;have nmc:m≠c:=fun z=>by rw[z,SG6 _ _ ec]at fm;cases fm
   have nmd:m≠d:=fun z=>by rw[z,ed]at fm;cases fm
   try unfold qP
   try dsimp only
   refine qR (t:=qbh _ _ _) (fun σ' G8=>∃ s5:Option V,σ'=[some (.ref x),some (.ref y),some (.ref t),some (.ref hl),some (.ref m),s5]∧∀ b o,G4 b=some o->G8 b=some o) (fun N hN=>?_) ?_
   · refine⟨_,rfl,by decide,by decide,zK (lo:=0) (D:={ nx:=N,rt:=Q }) (fun j σ H'=>∃ s5:Option V,σ=[some (.ref x),some (.ref y),some (.ref t),some (.ref hl),some (.ref m),s5]∧(∀ b o,G4 b=some o->H' b=some o)∧H' m=some (.lst [.ref c,.ref d])∧(j=0->H' c=some (.dK (two Ql p q)))∧(j≤1->H' d=some (.dK (two Qt p q)))) ⟨none,rfl,fun b o e=>S47 b o e,em,fun _=>ec7,fun _=>ed7⟩ ?_ ?_⟩
     · rintro j σ H' hj ⟨s5,rfl,hO,hm,h0,h1⟩;have ht:=hO _ _ (S14 _ _ et)
       match j,hj with
       | 0,_ =>
         have hc:=h0 rfl;have hd:=h1 (by omega);have hf:=hO _ _ (S14 _ _ ef);refine⟨_,rfl,_,rfl,.inl ⟨m,_,_,_,rfl,rfl,SqL.of hm,rfl,_,rfl,_,rfl,.inr (.inl ⟨t,_,_,_,rfl,rfl,SqT.of ht,rfl,c,f,two Ql p q,rfl,(n_c _ _ (S14 _ _ ef)).symm,.inl hc,hf,dmin,fun H2 S2'=>⟨_,rfl,qM rfl ?_⟩⟩)⟩⟩;have hc2:=S2' _ _ hc;have hm2:=S2' _ _ hm;(try unfold qP);(try dsimp only);refine⟨_,rfl,_,rfl,.inl ⟨m,_,_,_,rfl,rfl,SqL.of hm2,rfl,.inr (.inr (.inl ⟨rfl,.inl ⟨_,hc2⟩⟩)),c,_,rfl,rfl,hc2,?_⟩⟩;have hm3:upd H2 c (.dK []) m=some (.lst [.ref c,.ref d]):=(qb nmc).trans hm2;refine⟨_,rfl,_,rfl,.inl ⟨m,_,_,_,rfl,rfl,SqL.of hm3,rfl,c,_,rfl,DPut.k (k:=.inr "no") qd (qH (Nat.zero_le _)),?_⟩⟩;exact⟨_,rfl,fun b o e=>(qb (n_c b o e)).trans ((qb (n_c b o e)).trans (S2' _ _ (hO b o e))),(qb nmc).trans hm3,(fun z=>absurd z (by omega)),fun _=>(qb (Ne.symm ncd)).trans ((qb (Ne.symm ncd)).trans (S2' _ _ hd))⟩
       | 1,_ =>
         have hd:=h1 (by omega);have hg:=hO _ _ (S14 _ _ eg);refine⟨_,rfl,_,rfl,.inl ⟨m,_,_,_,rfl,rfl,SqL.of hm,rfl,_,rfl,_,rfl,.inr (.inl ⟨t,_,_,_,rfl,rfl,SqT.of ht,rfl,d,g,two Qt p q,rfl,(n_d _ _ (S14 _ _ eg)).symm,.inl hd,hg,dmax,fun H2 S2'=>⟨_,rfl,qM rfl ?_⟩⟩)⟩⟩;have hd2:=S2' _ _ hd;have hm2:=S2' _ _ hm;(try unfold qP);(try dsimp only);refine⟨_,rfl,_,rfl,.inl ⟨m,_,_,_,rfl,rfl,SqL.of hm2,rfl,.inr (.inr (.inl ⟨rfl,.inl ⟨_,hd2⟩⟩)),d,_,rfl,rfl,hd2,?_⟩⟩;have hm3:upd H2 d (.dK []) m=some (.lst [.ref c,.ref d]):=(qb nmd).trans hm2;refine⟨_,rfl,_,rfl,.inl ⟨m,_,_,_,rfl,rfl,SqL.of hm3,rfl,d,_,rfl,DPut.k (k:=.inr "no") qd (qH (Nat.zero_le _)),?_⟩⟩;exact⟨_,rfl,fun b o e=>(qb (n_d b o e)).trans ((qb (n_d b o e)).trans (S2' _ _ (hO b o e))),(qb nmd).trans hm3,(fun z=>absurd z (by omega)),fun z=>absurd z (by omega)⟩
       | n+2,h=>exact absurd h (by show ¬ (n+2 < 2);omega)
     · rintro σ H' ⟨s5,rfl,hO,_⟩;exact hN _ _ ⟨s5,rfl,hO⟩
   rintro σ' G8 ⟨s5,rfl,hO⟩;have nux:u≠x:=(qe (S1 _ _ hx) fu).symm;have nvy:v≠y:=(qe (S2 _ _ (S1 _ _ hy)) fv).symm;have x4:=S14 _ _ (S1 _ _ hx);have y4:=S14 _ _ (S1 _ _ hy);(try unfold qP);(try dsimp only);refine⟨_,rfl,.inl ⟨hl,_,_,_,rfl,rfl,SqL.of (hO _ _ el),rfl,_,rfl,u,x,p,rfl,nux,.inl (hO _ _ eu4),hO _ _ x4,dp,fun H2 T2=>⟨_,rfl,qM rfl ?_⟩⟩⟩;refine⟨_,rfl,.inl ⟨hl,_,_,_,rfl,rfl,SqL.of (T2 _ _ (hO _ _ el)),rfl,_,rfl,v,y,q,rfl,nvy,.inl (T2 _ _ (hO _ _ ev4)),T2 _ _ (hO _ _ y4),dq,fun H3 T3=>⟨_,rfl,qM rfl ?_⟩⟩⟩;have hO3:∀ b o,G4 b=some o->H3 b=some o:=fun b o e=>T3 _ _ (T2 _ _ (hO b o e));have t4:=S14 _ _ et;have g4:=S14 _ _ eg;have f4:=S14 _ _ ef;clear hO T2 T3;(try unfold qP);(try dsimp only);refine⟨_,rfl,.inl ⟨hl,_,_,_,rfl,rfl,SqL.of (hO3 _ _ el),rfl,_,rfl,.inl ⟨hl,_,_,_,rfl,rfl,SqL.of (hO3 _ _ el),rfl,u,v,p,q,rfl,nuv,(hO3 _ _ eu4),(hO3 _ _ ev4),dp,dq,.inl ⟨lk,fun k H4 fk SH4 ek=>⟨_,rfl,.inr (.inl ⟨t,_,_,_,rfl,rfl,SqT.of (SH4 _ _ (hO3 _ _ t4)),rfl,k,g,_,rfl,(qe (hO3 _ _ g4) fk).symm,.inl ek,SH4 _ _ (hO3 _ _ g4),dmax,fun H5 T5=>⟨_,rfl,qM rfl ?_⟩⟩)⟩⟩⟩⟩⟩;have hO5:∀ b o,G4 b=some o->H5 b=some o:=fun b o e=>T5 _ _ (SH4 _ _ (hO3 b o e));clear hO3 T5 SH4 ek fk;refine⟨_,rfl,.inl ⟨hl,_,_,_,rfl,rfl,SqL.of (hO5 _ _ el),rfl,_,rfl,.inl ⟨hl,_,_,_,rfl,rfl,SqL.of (hO5 _ _ el),rfl,u,v,p,q,rfl,nuv,(hO5 _ _ eu4),(hO5 _ _ ev4),dp,dq,.inl ⟨lk,fun k H6 fk SH6 ek=>⟨_,rfl,.inr (.inl ⟨t,_,_,_,rfl,rfl,SqT.of (SH6 _ _ (hO5 _ _ t4)),rfl,k,f,_,rfl,(qe (hO5 _ _ f4) fk).symm,.inl ek,SH6 _ _ (hO5 _ _ f4),dmin,fun H7 T7=>⟨_,rfl,qM rfl ?_⟩⟩)⟩⟩⟩⟩⟩;have hO7:∀ b o,G4 b=some o->H7 b=some o:=fun b o e=>T7 _ _ (SH6 _ _ (hO5 b o e));clear hO5 T7 SH6 ek fk;(try unfold qP);(try dsimp only);refine⟨_,rfl,x,p,rfl,.inl (hO7 _ _ x4),fun a1 fa1=>?_⟩;generalize hG:upd H7 a1 _=H8;obtain⟨S8,ea1⟩:=qI hG fa1;clear hG;refine⟨_,rfl,x,p,rfl,.inl (S8 _ _ (hO7 _ _ x4)),fun a2 fa2=>?_⟩;generalize hG:upd H8 a2 _=H9;obtain⟨S9,ea2⟩:=qI hG fa2;clear hG;refine⟨a1,a2,p,p,rfl,qe ea1 fa2,S9 _ _ ea1,ea2,dp,dp,.inl ⟨ZN dp,fun k H10 fk SH10 ek=>?_⟩⟩;rw[jm qaU dp]at ek;have x10:=SH10 _ _ (S9 _ _ (S8 _ _ (hO7 _ _ x4)));refine⟨_,rfl,k,x,p,rfl,(qe (S9 _ _ (S8 _ _ (hO7 _ _ x4))) fk).symm,.inl ek,x10,dp,fun H11 T11=>⟨_,rfl,qb6 ?_⟩⟩;have hO11:∀ b o,G4 b=some o->H11 b=some o:=fun b o e=>T11 _ _ (SH10 _ _ (S9 _ _ (S8 _ _ (hO7 b o e))));clear hO7 S8 S9 SH10 T11 ek fk ea1 ea2 fa1 fa2 x10;refine⟨_,rfl,y,q,rfl,.inl (hO11 _ _ y4),fun b1 fb1=>?_⟩;generalize hG:upd H11 b1 _=H12;obtain⟨S12,eb1⟩:=qI hG fb1;clear hG;refine⟨_,rfl,y,q,rfl,.inl (S12 _ _ (hO11 _ _ y4)),fun b2 fb2=>?_⟩;generalize hG:upd H12 b2 _=H13;obtain⟨S13,eb2⟩:=qI hG fb2;clear hG;refine⟨b1,b2,q,q,rfl,qe eb1 fb2,S13 _ _ eb1,eb2,dq,dq,.inl ⟨ZN dq,fun k H14 fk SH14 ek=>?_⟩⟩;rw[jm qaW dq]at ek;have y14:=SH14 _ _ (S13 _ _ (S12 _ _ (hO11 _ _ y4)));refine⟨_,rfl,k,y,q,rfl,(qe (S13 _ _ (S12 _ _ (hO11 _ _ y4))) fk).symm,.inl ek,y14,dq,fun H15 T15=>?_⟩;exact kk _ fun b o e=>T15 _ _ (SH14 _ _ (S13 _ _ (S12 _ _ (hO11 _ _ (S14 _ _ (S1 _ _ e))))))
end
inductive z7 (vs:List V) (H:Hp) (Q:VK):Prop
 | mk (wh:Int) (x y:Addr) (p q:Kv) (n:Str) (h1:vs=[.int wh,.ref x,.ref y,.str n]) (h2:x≠y) (h3:H x=some (.dK p)) (h4:H y=some (.dK q)) (h5:Dn p) (h6:Dn q) (h7:Qm p q=some (.inr n)) (h8:∀ H',Same H H'->Q (.bl true) H'):z7 vs H Q
def QD (a:Ad):Sp:=fun vs H Q _=>z7 vs H Q
section
variable {P:Program}{w:World}{K:Frag}{mg:Str->Option Value}{base:Heap}
theorem jb {a:Ad} (T:Txt K mg a):zb P w K mg base CX0 8 a.f_m a.fd_m ["_law_which","_law_one","_law_other","_law_due"] (QD a):=by
 have G_c:=ZH (P:=P) (w:=w) (base:=base) T;have G_d:=Q8 (P:=P) (w:=w) (base:=base) T;have G_b:=j4 (P:=P) (w:=w) (base:=base) T;refine T.d_m.F.ok sc_Lrefused (fun vs H Q E h=>?_) (fun cdv A outer s H vs Q E hr h=>?_)
 · obtain⟨wh,x,y,p,q,n,rfl,nxy,hx,hy,dp,dq,lk,kk⟩:=h;rfl
 · obtain⟨wh,x,y,p,q,n,rfl,nxy,hx,hy,dp,dq,lk,kk⟩:=h;have hU:=hr.units;have h_c:Room (7) _:=hr.mono (by decide);have h_d:Room (7) _:=hr.mono (by decide);have h_b:Room (2) _:=hr.mono (by decide)
   refine⟨_,(qi (qO (i:=4) sc_Lrefused.nd rfl (Or.inl rfl) (zS (qa (qA (r:=Qb) qX (by rfl) T.n_dict qE (qa (pv 1) qh)) (qa (qA (r:=Qb) qX (by rfl) T.n_dict qE (qa (pv 2) qh)) qh))))
     (qi (qbU (i:=5) rfl rfl (by exact(qdt (qC (uEq hU) (pv 0) qc (qZ _))
         (JC (jD G_c h_c rfl T.d_c.m T.d_c.k T.d_c.b (qa (qr (r:=rIx K) qp (pv 4) qc (fun _ _=>rfl)) (qa (qr (r:=rIx K) qp (pv 4) qc (fun _ _=>rfl)) qh))))
         (JC (jD G_d h_d rfl T.d_d.m T.d_d.k T.d_d.b (qa (qr (r:=rIx K) qp (pv 4) qc (fun _ _=>rfl)) (qa (qr (r:=rIx K) qp (pv 4) qc (fun _ _=>rfl)) qh))))))
       rfl T.g_LogError T.xl_LogError sc_Lrefused.nd rfl (Or.inl rfl) rfl (fun ea=>(by exact
       (qi (zc (PW.pt (Qq (zd (qY (qB (r:=jZ K) zL (by rfl) T.n_isinstance qm (qa (pv 5) (qa (Zn (v:=.ref a.c_NoEntry) rfl T.g_NoEntry rfl) qh))))) (Qq (zd (qY (qB (r:=jZ K) zL (by rfl) T.n_isinstance qm (qa (pv 5) (qa (zG (v:=.ty "ValueError") rfl T.n_ValueError zA rfl) qh))))) (Qc (zd (qY (qB Qf (by rfl) T.n_isinstance qm (qa (show PE _ _ (qbJ K _ "found") from JI (pv 5) rfl) (qa (zG (v:=.ty "str") rfl T.n_str qan rfl) qh)))))))))
         (qj (qw zQ))
         qt)
       (qi (zc (PW.pt (Qq (qY (qB (r:=jZ K) zL (by rfl) T.n_isinstance qm (qa (pv 5) (qa (Zn (v:=.ref a.c_NoName) rfl T.g_NoName rfl) qh)))) (Qq (qY (qB (r:=jZ K) zL (by rfl) T.n_isinstance qm (qa (pv 5) (qa (Zn (v:=.ref a.c_NoBond) rfl T.g_NoBond rfl) qh)))) (Qq (qY (qB (r:=jZ K) zL (by rfl) T.n_isinstance qm (qa (pv 5) (qa (Zn (v:=.ref a.c_NoPaper) rfl T.g_NoPaper rfl) qh)))) (Qc (qC (uNe hU) (show PE _ _ (qbJ K _ "found") from JI (pv 5) rfl) (pv 3) (qZ _)))))))
         (qj (qw zQ))
         qt)
       (qj (qw (jG (jF (ea:=ea) G_b (h_b.mark ea) rfl T.d_b.m T.d_b.k T.d_b.b (qa (qr (r:=rIx K) qp (pv 4) qc (fun _ _=>rfl)) (qa (pv 1) qh))) (jE (jF (ea:=ea) G_b (h_b.mark ea) rfl T.d_b.m T.d_b.k T.d_b.b (qa (qr (r:=rIx K) qp (pv 4) qc (fun _ _=>rfl)) (qa (pv 2) qh))))))))))))
     (qj (qw zQ)))),?_⟩
   try dsimp only [zU,Cx.nox]
   refine⟨_,rfl,x,p,rfl,.inl hx,fun u fu=>?_⟩;have hu0:=fu;generalize hG:upd H u _=G2;obtain⟨S2,eu⟩:=qI hG fu;clear hG;refine⟨_,rfl,y,q,rfl,.inl (S2 _ _ hy),fun v fv=>?_⟩;generalize hG:upd G2 v _=G3;obtain⟨S3,ev⟩:=qI hG fv;clear hG;have nuv:u≠v:=qe eu fv
   have hv0:H v=none:=by
     cases e:H v with
     | none=>rfl
     | some o=>rw[S2 _ _ e]at fv;cases fv
   refine⟨qG (Nat.le_of_ble_eq_true rfl),fun hl fl=>?_⟩;generalize hG:upd G3 hl _=G4;obtain⟨S4,el⟩:=qI hG fl;clear hG;have S14:=(S2.trans S3).trans S4;have eu4:=S4 _ _ (S3 _ _ eu);have ev4:=S4 _ _ ev;have x4:=S14 _ _ hx;have y4:=S14 _ _ hy;have nux:u≠x:=(qe hx fu).symm;have nyu:y≠u:=qe hy fu;have nvy:v≠y:=(qe (S2 _ _ hy) fv).symm;have nxv:x≠v:=qe (S2 _ _ hx) fv;have nlu:hl≠u:=fun z=>by rw[z,S3 _ _ eu]at fl;cases fl
   have nlv:hl≠v:=fun z=>by rw[z,ev]at fl;cases fl
   try unfold qP
   try dsimp only
   refine⟨_,rfl,.inl ⟨rfl,_,rfl,?_⟩⟩;refine Jf (fun _=>?_) (fun _=>?_)
   · refine⟨_,rfl,.inl ⟨hl,_,_,_,rfl,rfl,SqL.of el,rfl,_,rfl,.inl ⟨hl,_,_,_,rfl,rfl,SqL.of el,rfl,u,v,p,q,rfl,nuv,eu4,ev4,dp,dq,.inr ⟨n,lk,fun G0 fz=>?_⟩⟩⟩⟩;intro ea dx2 G S fe fd hd xa;refine⟨_,ea,rfl,rfl,T.X_NoEntry.c.xi,T.up_NoEntry,?_⟩;obtain⟨tb,xe,_⟩:=id xa;refine⟨_,rfl,_,_,_,_,rfl,⟨T.X_NoEntry.c,ea,rfl,.inr ⟨dx2,_,xa,hd⟩⟩,T.is_NoEntry_NoEntry,_,rfl,qM rfl ?_⟩;refine⟨_,rfl,_,_,_,_,rfl,⟨T.X_NoEntry.c,ea,rfl,.inr ⟨dx2,_,xa,hd⟩⟩,(show Z4 K a.c_NoEntry (.ty "ValueError")=some true from rfl),_,rfl,qM rfl ?_⟩;refine⟨_,rfl,ea,_,dx2,_,_,rfl,xa,hd,T.X_NoEntry.c,T.n_NoEntry_found,rfl,_,_,_,rfl,(by decide),rfl,_,rfl,qM rfl ?_⟩;(try unfold qP);(try dsimp only);refine⟨_,rfl,_,_,_,_,rfl,⟨T.X_NoEntry.c,ea,rfl,.inr ⟨dx2,_,xa,hd⟩⟩,T.is_NoEntry_NoName,_,rfl,qM rfl ?_⟩;refine⟨_,rfl,_,_,_,_,rfl,⟨T.X_NoEntry.c,ea,rfl,.inr ⟨dx2,_,xa,hd⟩⟩,T.is_NoEntry_NoBond,_,rfl,qM rfl ?_⟩;refine⟨_,rfl,_,_,_,_,rfl,⟨T.X_NoEntry.c,ea,rfl,.inr ⟨dx2,_,xa,hd⟩⟩,T.is_NoEntry_NoPaper,_,rfl,qM rfl ?_⟩;refine⟨_,rfl,ea,_,dx2,_,_,rfl,xa,hd,T.X_NoEntry.c,T.n_NoEntry_found,rfl,_,rfl,.inl ⟨rfl,_,rfl,qM (by simp) ?_⟩⟩;(try unfold qP);(try dsimp only)
     have old:∀ b o,G4 b=some o->b≠u->b≠v->G b=some o∧b≠ea:=fun b o e n1 n2=>by
       have e0:G0 b=some o:=(fz.oth b n1 n2).trans e;exact⟨S _ _ e0,qe e0 fe⟩
     have rd:∀ b kvs,Rd G0 b (.dK kvs)->Rd G b (.dK kvs)∧b≠ea:=fun b kvs r=>⟨Rd.same S r,fun z=>by
       rcases r with e|⟨o,e⟩
       · rw[z,fe]at e;cases e
       · rw[z,fe]at e;cases e⟩
     obtain⟨ru,nue⟩:=rd u p fz.rx;obtain⟨rv,nve⟩:=rd v q fz.ry;obtain⟨gl,nle⟩:=old hl _ el nlu nlv;obtain⟨gx,nxe⟩:=old x _ x4 (Ne.symm nux) nxv;obtain⟨gy,nye⟩:=old y _ y4 nyu (Ne.symm nvy);have cu:∀ (G':Hp) b kvs,b≠ea->Rd G' b (.dK kvs)->Rd (cut G' [ea]) b (.dK kvs):=fun G' b kvs nb r=>r.imp (fun e=>by rw[zo fun z=>nb (List.mem_singleton.mp z)];exact e) fun⟨o,e⟩=>⟨o,by rw[zo fun z=>nb (List.mem_singleton.mp z)];exact e⟩
     have cx:∀ (G':Hp) b o,b≠ea->G' b=some o->cut G' [ea] b=some o:=fun G' b o nb e=>by rw[zo fun z=>nb (List.mem_singleton.mp z)];exact e
     refine⟨_,rfl,.inl ⟨hl,_,_,_,rfl,rfl,SqL.of gl,rfl,_,rfl,⟨_,_,tb,xe⟩,u,x,p,rfl,nux,cu _ _ _ nue ru,cx _ _ _ nxe gx,dp,fun H2 T2=>⟨_,rfl,qb6 ?_⟩⟩⟩;have T2':=Qg T2;generalize Jg G ea H2=G9 at T2' ⊢;refine⟨_,rfl,.inl ⟨hl,_,_,_,rfl,rfl,SqL.of (T2' _ _ gl),rfl,_,rfl,⟨_,_,tb,T2' _ _ xe⟩,v,y,q,rfl,nvy,cu _ _ _ nve (Rd.same T2' rv),cx _ _ _ nye (T2' _ _ gy),dq,fun H3 T3=>?_⟩⟩;refine kk _ fun b o e=>Qg T3 _ _ (T2' _ _ (old b o (S14 _ _ e) (qe e hu0) (qe e hv0)).1)
   · refine⟨_,rfl,.inl ⟨hl,_,_,_,rfl,rfl,SqL.of el,rfl,_,rfl,.inl ⟨hl,_,_,_,rfl,rfl,SqL.of el,rfl,u,v,p,q,rfl,nuv,eu4,ev4,dp,dq,.inr ⟨n,lk,fun G0 fz=>?_⟩⟩⟩⟩;intro ea dx2 G S fe fd hd xa;refine⟨_,ea,rfl,rfl,T.X_NoEntry.c.xi,T.up_NoEntry,?_⟩;obtain⟨tb,xe,_⟩:=id xa;refine⟨_,rfl,_,_,_,_,rfl,⟨T.X_NoEntry.c,ea,rfl,.inr ⟨dx2,_,xa,hd⟩⟩,T.is_NoEntry_NoEntry,_,rfl,qM rfl ?_⟩;refine⟨_,rfl,_,_,_,_,rfl,⟨T.X_NoEntry.c,ea,rfl,.inr ⟨dx2,_,xa,hd⟩⟩,(show Z4 K a.c_NoEntry (.ty "ValueError")=some true from rfl),_,rfl,qM rfl ?_⟩;refine⟨_,rfl,ea,_,dx2,_,_,rfl,xa,hd,T.X_NoEntry.c,T.n_NoEntry_found,rfl,_,_,_,rfl,(by decide),rfl,_,rfl,qM rfl ?_⟩;(try unfold qP);(try dsimp only);refine⟨_,rfl,_,_,_,_,rfl,⟨T.X_NoEntry.c,ea,rfl,.inr ⟨dx2,_,xa,hd⟩⟩,T.is_NoEntry_NoName,_,rfl,qM rfl ?_⟩;refine⟨_,rfl,_,_,_,_,rfl,⟨T.X_NoEntry.c,ea,rfl,.inr ⟨dx2,_,xa,hd⟩⟩,T.is_NoEntry_NoBond,_,rfl,qM rfl ?_⟩;refine⟨_,rfl,_,_,_,_,rfl,⟨T.X_NoEntry.c,ea,rfl,.inr ⟨dx2,_,xa,hd⟩⟩,T.is_NoEntry_NoPaper,_,rfl,qM rfl ?_⟩;refine⟨_,rfl,ea,_,dx2,_,_,rfl,xa,hd,T.X_NoEntry.c,T.n_NoEntry_found,rfl,_,rfl,.inl ⟨rfl,_,rfl,qM (by simp) ?_⟩⟩;(try unfold qP);(try dsimp only)
     have old:∀ b o,G4 b=some o->b≠u->b≠v->G b=some o∧b≠ea:=fun b o e n1 n2=>by
       have e0:G0 b=some o:=(fz.oth b n1 n2).trans e;exact⟨S _ _ e0,qe e0 fe⟩
     have rd:∀ b kvs,Rd G0 b (.dK kvs)->Rd G b (.dK kvs)∧b≠ea:=fun b kvs r=>⟨Rd.same S r,fun z=>by
       rcases r with e|⟨o,e⟩
       · rw[z,fe]at e;cases e
       · rw[z,fe]at e;cases e⟩
     obtain⟨ru,nue⟩:=rd u p fz.rx;obtain⟨rv,nve⟩:=rd v q fz.ry;obtain⟨gl,nle⟩:=old hl _ el nlu nlv;obtain⟨gx,nxe⟩:=old x _ x4 (Ne.symm nux) nxv;obtain⟨gy,nye⟩:=old y _ y4 nyu (Ne.symm nvy);have cu:∀ (G':Hp) b kvs,b≠ea->Rd G' b (.dK kvs)->Rd (cut G' [ea]) b (.dK kvs):=fun G' b kvs nb r=>r.imp (fun e=>by rw[zo fun z=>nb (List.mem_singleton.mp z)];exact e) fun⟨o,e⟩=>⟨o,by rw[zo fun z=>nb (List.mem_singleton.mp z)];exact e⟩
     have cx:∀ (G':Hp) b o,b≠ea->G' b=some o->cut G' [ea] b=some o:=fun G' b o nb e=>by rw[zo fun z=>nb (List.mem_singleton.mp z)];exact e
     refine⟨_,rfl,.inl ⟨hl,_,_,_,rfl,rfl,SqL.of gl,rfl,_,rfl,⟨_,_,tb,xe⟩,u,x,p,rfl,nux,cu _ _ _ nue ru,cx _ _ _ nxe gx,dp,fun H2 T2=>⟨_,rfl,qb6 ?_⟩⟩⟩;have T2':=Qg T2;generalize Jg G ea H2=G9 at T2' ⊢;refine⟨_,rfl,.inl ⟨hl,_,_,_,rfl,rfl,SqL.of (T2' _ _ gl),rfl,_,rfl,⟨_,_,tb,T2' _ _ xe⟩,v,y,q,rfl,nvy,cu _ _ _ nve (Rd.same T2' rv),cx _ _ _ nye (T2' _ _ gy),dq,fun H3 T3=>?_⟩⟩;refine kk _ fun b o e=>Qg T3 _ _ (T2' _ _ (old b o (S14 _ _ e) (qe e hu0) (qe e hv0)).1)
end
inductive jp (K:Frag) (vs:List V) (H:Hp) (Q:VK):Prop
 | mk (a:Addr) (ns:List Int) (h1:vs=[.ref a]) (h2:SqL K H a (ns.map V.int)) (h3:ns.length≤63) (h4:∀ H',Q (.bl true) H'):jp K vs H Q
def jq (K:Frag):Sp:=fun vs H Q _=>jp K vs H Q
def Ks (m:Kv) (xs:List Str):Prop:=∀ n:Str,(zf m (.inr n)).isSome=true↔n∈xs
theorem jI {m m':Kv}{xs:List Str} (d:Dn m) (k:Ks m xs) (k':Ks m' xs):qV m m'=none:=by
 unfold qV;rw[Option.map_eq_none_iff,List.find?_eq_none];intro z mz;obtain⟨i,hi⟩:=List.getElem?_of_mem mz;obtain⟨x,n,e⟩:=d.ti z mz;subst e
 have:=(k' x).mpr ((k x).mp (by rw[Zj d.nd hi];rfl))
 show ¬ ((zf m' (.inr x)).isNone=true)
 cases h:zf m' (.inr x) with
 | none=>rw[h]at this;cases this
 | some y=>exact Bool.false_ne_true
theorem qb5 {m m':Kv}{xs:List Str} (d:Dn m) (d':Dn m') (k:Ks m xs) (k':Ks m' xs):Qm m m'=none:=by
 unfold Qm;rw[jI d k k',jI d' k' k];rfl
theorem qcG {m:Kv}{k:Key}{v:V} (h:(m.map (·.1)).Nodup):((z4 m k v).map (·.1)).Nodup:=by
 unfold z4;split
 · have e:(m.map fun kv=>if kv.1=k then (kv.1,v) else kv).map (·.1)=m.map (·.1):=by
     rw[List.map_map];refine List.map_congr_left fun z _=>?_;show (if z.1=k then (z.1,v) else z).1=z.1;split<;>rfl
   rw[e];exact h
 · rename_i g
   rw[List.map_append,List.nodup_append];refine⟨h,by simp,fun a ma b mb=>?_⟩;rw[List.map_singleton,List.mem_singleton]at mb;subst mb;rintro rfl;obtain⟨z,mz,e⟩:=List.mem_map.mp ma;exact g (List.any_eq_true.mpr ⟨z,mz,by simpa using e⟩)
theorem qbS {m:Kv}{k:Key}{v:V}{z:Key×V} (h:z∈z4 m k v):z∈m∨z=(k,v):=by
 unfold z4 at h;split at h
 · obtain⟨w,mw,e⟩:=List.mem_map.mp h;by_cases g:w.1=k
   · rw[if_pos g]at e;rw[← e,g];exact .inr rfl
   · rw[if_neg g]at e;rw[← e];exact .inl mw
 · rcases List.mem_append.mp h with h|h
   · exact .inl h
   · exact .inr (List.mem_singleton.mp h)
theorem qbr (m:Kv) (k:Key) (v:V):(z4 m k v).length≤m.length+1:=by
 unfold z4;split
 · rw[List.length_map];omega
 · rw[List.length_append];exact Nat.le_refl _
theorem JE {m:Kv}{k:Key}{v:V} (h:(zf m k).isSome=true):(z4 m k v).length=m.length:=by
 unfold z4;rw[if_pos (by rw[zu];exact h),List.length_map]
theorem Dn.put {m:Kv} (d:Dn m) (x:Str) (i:Int) (h:(z4 m (.inr x) (.int i)).length≤60):Dn (z4 m (.inr x) (.int i)):=⟨qcG d.nd,fun z mz=>(qbS mz).elim (d.ti z) fun e=>⟨x,i,e⟩,h⟩
theorem Dn.drop {m:Kv} (d:Dn m) (k:Key):Dn (ZS m k):=⟨by
   have:((ZS m k).map (·.1)).Sublist (m.map (·.1)):=List.Sublist.map _ List.filter_sublist
   exact this.nodup d.nd,fun z mz=>d.ti z (qad mz),Nat.le_trans (jO m k) d.few⟩
theorem Dn.nil:Dn []:=⟨List.nodup_nil,fun z m=>(nomatch m),Nat.zero_le _⟩
structure Ly (K:Frag) (sa p nl d0 d1 l:Addr) (ns:List Int) (xs:List Str) (m0 m1:Kv) (H:Hp):Prop where
 sc:Scr K H sa p ns
 pen:PenS H p
 hn:H nl=some (.lst (xs.map V.str))
 hl:H l=some (.lst [.ref d0,.ref d1])
 h0:H d0=some (.dK m0)
 h1:H d1=some (.dK m1)
 n0:Dn m0
 n1:Dn m1
 nn:nl≠p
 nl_:l≠p
 n01:d0≠d1
theorem PenS.nd {H:Hp}{p d:Addr}{m:Kv} (h:PenS H p) (e:H d=some (.dK m)):d≠p:=fun z=>by
 obtain⟨_,_,_,_,_,h⟩:=h;rw[z,h]at e;cases e
section
variable {K:Frag}{sa p nl d0 d1 l:Addr}{ns:List Int}{xs:List Str}{m0 m1:Kv}{H H':Hp}
theorem Ly.but (y:Ly K sa p nl d0 d1 l ns xs m0 m1 H) (B:But p H H') (pe:PenS H' p):Ly K sa p nl d0 d1 l ns xs m0 m1 H' :=
 ⟨y.sc.but B,pe,B _ _ y.hn y.nn,B _ _ y.hl y.nl_,B _ _ y.h0 (y.pen.nd y.h0),B _ _ y.h1 (y.pen.nd y.h1),y.n0,y.n1,y.nn,y.nl_,y.n01⟩
theorem Ly.sm (y:Ly K sa p nl d0 d1 l ns xs m0 m1 H) (s:Same H H'):Ly K sa p nl d0 d1 l ns xs m0 m1 H' :=
 ⟨y.sc.sm s,y.pen.sm s,s _ _ y.hn,s _ _ y.hl,s _ _ y.h0,s _ _ y.h1,y.n0,y.n1,y.nn,y.nl_,y.n01⟩
theorem Jr {d:Addr}{m m':Kv} (h:Scr K H sa p ns) (e:H d=some (.dK m)):Scr K (upd H d (.dK m')) sa p ns:=h.imp (fun h=>⟨h.1.imp (fun q=>(qb fun z=>by rw[z,e]at q;cases q).trans q) fun⟨o,q⟩=>by
   by_cases z:sa=d
   · rw[z,e]at q;cases q
   · exact⟨o,(qb z).trans q⟩,h.2⟩) id
theorem Ly.put0 (y:Ly K sa p nl d0 d1 l ns xs m0 m1 H) {m:Kv} (d:Dn m):Ly K sa p nl d0 d1 l ns xs m m1 (upd H d0 (.dK m)) :=
 ⟨Jr y.sc y.h0,y.pen.up (y.pen.nd y.h0),(qb (ZI y.hn y.h0 (by intro z;cases z))).trans y.hn,(qb (ZI y.hl y.h0 (by intro z;cases z))).trans y.hl,qd,(qb (Ne.symm y.n01)).trans y.h1,d,y.n1,y.nn,y.nl_,y.n01⟩
theorem Ly.put1 (y:Ly K sa p nl d0 d1 l ns xs m0 m1 H) {m:Kv} (d:Dn m):Ly K sa p nl d0 d1 l ns xs m0 m (upd H d1 (.dK m)) :=
 ⟨Jr y.sc y.h1,y.pen.up (y.pen.nd y.h1),(qb (ZI y.hn y.h1 (by intro z;cases z))).trans y.hn,(qb (ZI y.hl y.h1 (by intro z;cases z))).trans y.hl,(qb y.n01).trans y.h0,qd,y.n0,d,y.nn,y.nl_,y.n01⟩
end
theorem qbu {m:Kv}{ys:List Str}{j:Nat}{x:Str}{v:V} (h:Ks m (ys.take j)) (e:ys[j]?=some x):Ks (z4 m (.inr x) v) (ys.take (j+1)):=fun n=>by
 rw[ji,zp e,List.mem_append,List.mem_singleton];by_cases z:n=x
 · subst z;rw[if_pos rfl];exact⟨fun _=>.inr rfl,fun _=>rfl⟩
 · rw[if_neg (fun q=>z (Sum.inr.inj q))];exact⟨fun q=>.inl ((h n).mp q),fun q=>(h n).mpr (q.elim id fun q=>absurd q z)⟩
theorem qb4 {m:Kv}{xs:List Str}{x:Str}{v:V} (h:Ks m xs) (mx:x∈xs):Ks (z4 m (.inr x) v) xs:=fun n=>by
 rw[ji];by_cases z:n=x
 · subst z;rw[if_pos rfl];exact⟨fun _=>mx,fun _=>rfl⟩
 · rw[if_neg (fun q=>z (Sum.inr.inj q))];exact h n
theorem Ks.nil {ys:List Str}:Ks [] (ys.take 0):=fun n=>by simp[zf]
theorem Ks.perm {m:Kv}{ys xs:List Str} (h:Ks m ys) (p:ys.Perm xs):Ks m xs:=fun n=>(h n).trans p.mem_iff
section
variable {P:Program}{w:World}{K:Frag}{mg:Str->Option Value}{base:Heap}
theorem qcP {a:Ad} (T:Txt K mg a):zb P w K mg base CX0 9 a.f_q a.fd_q ["_law_script"] (jq K):=by
 have G_a:=Zo (P:=P) (w:=w) (base:=base) T;have G_i:=qaR (P:=P) (w:=w) (base:=base) T;have G_k:=j1 (P:=P) (w:=w) (base:=base) T;have G_n:=jc (P:=P) (w:=w) (base:=base) T;have G_j:=j2 (P:=P) (w:=w) (base:=base) T;have G_f:=qaP (P:=P) (w:=w) (base:=base) T;have G_m:=jb (P:=P) (w:=w) (base:=base) T;refine T.d_q.F.ok sc_law (fun vs H Q E h=>?_) (fun cdv A outer s H vs Q E hr h=>?_)
 · obtain⟨sa,ns,rfl,hS,hlen,kk⟩:=h;rfl
 · obtain⟨sa,ns,rfl,hS,hlen,kk⟩:=h;have hu:=zJ hr;have hU:=hr.units;have h_a:Room (1) _:=hr.mono (by decide);have h_i:Room (1) _:=hr.mono (by decide);have h_k:Room (2) _:=hr.mono (by decide);have h_n:Room (1) _:=hr.mono (by decide);have h_j:Room (2) _:=hr.mono (by decide);have h_f:Room (8) _:=hr.mono (by decide);have h_m:Room (8) _:=hr.mono (by decide)
   refine⟨_,(@qi _ _ _ _ _ (by exact(qO (i:=1) sc_law.nd rfl (Or.inl rfl) (zS (qa qc (qa qc (qa qc qh))))))
     (by exact(@qi _ _ _ _ _ (by exact(qO (i:=2) sc_law.nd rfl (Or.inr rfl) (ql G_a h_a rfl T.d_a.m T.d_a.k T.d_a.b .nil qQ (qa (pv 0) (qa (pv 1) (qa qc qh))))))
     (by exact(@qi _ _ _ _ _ (by exact(@qO _ _ 3 _ _ _ _ (by exact sc_law.nd) (by rfl) (by exact(Or.inr rfl)) (by exact(@qr _ _ _ _ _ _ (rIx K) (by exact qp) (by exact(@zS _ _ _ _ (by exact(@qa _ _ _ _ _ (by exact qc) (by exact(@qa _ _ _ _ _ (by exact qc) (by exact(@qa _ _ _ _ _ (by exact qc) (by exact(@qa _ _ _ _ _ (by exact qc) (by exact(@qa _ _ _ _ _ (by exact qc) (by exact(@qa _ _ _ _ _ (by exact qc) (by exact(@qa _ _ _ _ _ (by exact qc) (by exact(@qa _ _ _ _ _ (by exact qc) (by exact(@qh _)) (by rfl))) (by rfl))) (by rfl))) (by rfl))) (by rfl))) (by rfl))) (by rfl))) (by rfl))))) (by exact(ql G_a h_a rfl T.d_a.m T.d_a.k T.d_a.b .nil qQ (qa (pv 0) (qa (pv 1) (qa qc qh))))) (by exact fun _ _=>rfl))) (by rfl) (by exact .inl rfl)))
     (by exact(qi (qO (i:=4) sc_law.nd rfl (Or.inl rfl) (ql G_a h_a rfl T.d_a.m T.d_a.k T.d_a.b .nil qQ (qa (pv 0) (qa (pv 1) (qa qc qh)))))
     (qi (zc (qC (uEq hU) (ql G_a h_a rfl T.d_a.m T.d_a.k T.d_a.b .nil qQ (qa (pv 0) (qa (pv 1) (qa qc qh)))) qc (qZ _))
       (qj (qO (i:=4) sc_law.nd rfl (Or.inl rfl) (ql G_a h_a rfl T.d_a.m T.d_a.k T.d_a.b .nil qQ (qa (pv 0) (qa (pv 1) (qa qc qh))))))
       qt)
     (qi (qbV (i:=5) sc_law.nd rfl (Or.inl rfl) rfl (CompOk.def ["_law_k","_law_turn","_law_step"] [none,some 2,some 3]) (zF rfl T.n_range (qa (pv 4) qh)) (fun _ _ _ _ _=>(qK (i:=0) (show List.Nodup (["_law_k","_law_turn","_law_step"]:List Str) by decide +kernel) rfl (Or.inl rfl))) (fun _ _ _ _ _=>Zl) (fun _ _ _ _ _=>(ql G_i h_i rfl T.d_i.m T.d_i.k T.d_i.b .nil qQ (qa (qN Qd (qN Q7 (pv 0) (pv 2)) qc) (qa (pv 1) qh)))))
     (qi (qO (i:=6) sc_law.nd rfl (Or.inl rfl) (zS (qa Qx (qa Qx qh))))
     (qi (zr PassesOwn.never rfl (zF rfl T.n_range (qa qc qh)) (qK (i:=7) (sc_law.nd) rfl (Or.inl rfl))
       (qj (zr PassesOwn.never rfl (Zm (ql G_k h_k rfl T.d_k.m T.d_k.k T.d_k.b .nil qQ (qa (pv 0) (qa (pv 1) (qa (pv 5) qh))))) (qK (i:=8) (sc_law.nd) rfl (Or.inl rfl))
         (qj (zX hu (qr (r:=rIx K) qp (pv 6) (pv 7) (fun _ _=>rfl)) (pv 8) (ql G_j h_j rfl T.d_j.m T.d_j.k T.d_j.b .nil qQ (qa (pv 0) (qa (pv 1) qh))) rfl)))))
     (qi (zr PassesOwn.never rfl (Zm (pv 5)) (qK (i:=8) (sc_law.nd) rfl (Or.inl rfl))
       (qj (zc (qC (uEq hU) (ql G_a h_a rfl T.d_a.m T.d_a.k T.d_a.b .nil qQ (qa (pv 0) (qa (pv 1) (qa qc qh)))) qc (qZ _))
         (qj (zX hu (qr (r:=rIx K) qp (pv 6) qc (fun _ _=>rfl)) (pv 8) (qL hu (qr (r:=rIx K) qp (pv 6) qc (fun _ _=>rfl)) (pv 8) (fun _ _=>rfl)) rfl))
         qt)))
     (qi (zc (PW.pt (Qq (zd (qY (ql G_f h_f rfl T.d_f.m T.d_f.k T.d_f.b .nil qQ (qa (qr (r:=rIx K) qp (pv 6) qc (fun _ _=>rfl)) (qa (qr (r:=rIx K) qp (pv 6) qc (fun _ _=>rfl)) qh))))) (Qc (zd (qY (ql G_f h_f rfl T.d_f.m T.d_f.k T.d_f.b .nil qQ (qa (qr (r:=rIx K) qp (pv 6) qc (fun _ _=>rfl)) (qa (qr (r:=rIx K) qp (pv 6) qc (fun _ _=>rfl)) qh))))))))
       (qj (qw zQ))
       qt)
     (qi (zr PassesOwn.never rfl (zF rfl T.n_range (qa (qN Q7 (ql G_a h_a rfl T.d_a.m T.d_a.k T.d_a.b .nil qQ (qa (pv 0) (qa (pv 1) (qa qc qh)))) (qB (QT rfl) (by rfl) T.n_min QV (qa (pv 4) (qa qc qh)))) qh)) (qK (i:=7) (sc_law.nd) rfl (Or.inl rfl))
       (qj (zv (qaL (qr (r:=rIx K) qp (pv 6) (ql G_a h_a rfl T.d_a.m T.d_a.k T.d_a.b .nil qQ (qa (pv 0) (qa (pv 1) (qa qc qh)))) (fun _ _=>rfl)) (qr (r:=rIx K) qp (pv 5) (ql G_a h_a rfl T.d_a.m T.d_a.k T.d_a.b .nil qQ (qa (pv 0) (qa (pv 1) (qa (pv 4) qh)))) (fun _ _=>rfl)) qc ⟨rfl,rfl,rfl,rfl⟩))))
     (qi (zr PassesOwn.never rfl (Zm (zS (qa (ZE (qa (qr (r:=rIx K) qp (pv 6) qc (fun _ _=>rfl)) (qa (qr (r:=rIx K) qp (pv 6) qc (fun _ _=>rfl)) qh))) (qa (ZE (qa (qr (r:=rIx K) qp (pv 6) qc (fun _ _=>rfl)) (qa (qr (r:=rIx K) qp (pv 6) qc (fun _ _=>rfl)) qh))) qh)))) (qcI rfl (jB (qK (i:=9) (sc_law.nd) rfl (Or.inl rfl)) (jB (qK (i:=10) (sc_law.nd) rfl (Or.inl rfl)) qbX)))
       (qi (qO (i:=11) sc_law.nd rfl (Or.inl rfl) (ql G_n h_n rfl T.d_n.m T.d_n.k T.d_n.b .nil qQ (qa (pv 9) (qa (pv 10) qh))))
       (qi (zr PassesOwn.never rfl (zF rfl T.n_range (qa qc qh)) (qK (i:=12) (sc_law.nd) rfl (Or.inl rfl))
         (qj (zc (PW.pt (JD (qC qbY (pv 11) JJ (qZ _)) (Z8 (zd (qY (ql G_m h_m rfl T.d_m.m T.d_m.k T.d_m.b .nil qQ (qa (pv 12) (qa (pv 9) (qa (pv 10) (qa (pv 11) qh))))))))))
           (qj (qw zQ))
           qt)))
       (qj (zc (PW.pt (JD (qC qcM (pv 11) JJ (qZ _)) (Z8 (zd (qY (ql G_f h_f rfl T.d_f.m T.d_f.k T.d_f.b .nil qQ (qa (pv 9) (qa (pv 10) qh))))))))
         (qj (qw zQ))
         qt)))))
     (qj (qw zQ))))))))))))))))),?_⟩
   try dsimp only [zU,Cx.nox]
   refine⟨qG (Nat.le_of_ble_eq_true rfl),fun p fp=>?_⟩;have sc0:=(Scr.of (p:=p) hS fp).sm (Same.new (.lst [.int 0,.int 0,.int 7]) fp);have pe0:PenS (upd H p (.lst [.int 0,.int 0,.int 7])) p:=⟨0,0,7,by decide,by decide,qd⟩
   try unfold qP
   try dsimp only
   generalize upd H p (.lst [.int 0,.int 0,.int 7])=G0 at sc0 pe0 ⊢;clear hS fp H;refine⟨_,rfl,_,rfl,sa,p,ns,_,rfl,sc0,pe0,by decide,by decide,fun tu G1 tu0 tu1 B_G1 p_G1=>?_⟩;have sc1:=sc0.but B_G1;(try unfold qP);(try dsimp only);refine⟨qG (Nat.le_of_ble_eq_true rfl),fun ol fol=>?_⟩;generalize hG:upd G1 ol _=G2;obtain⟨So,eo⟩:=qI hG fol;clear hG;have nol:=p_G1.ne fol;have sc2:=sc1.sm So;refine⟨_,rfl,_,rfl,sa,p,ns,_,rfl,sc2,p_G1.sm So,by decide,by decide,fun d G3 d0 d1 B_G3 p_G3=>?_⟩;have sc3:=sc2.but B_G3;obtain⟨sv,hv,mv⟩:=Zi (xs:=[.int 1,.int 7,.int 11,.int 13,.int 17,.int 19,.int 23,.int 29]) d0 d1
   obtain⟨st,rfl,st0,st1⟩:∃ n:Int,sv=.int n∧1≤n∧n≤29:=by
     simp only[List.mem_cons,List.not_mem_nil,or_false]at mv;rcases mv with rfl|rfl|rfl|rfl|rfl|rfl|rfl|rfl<;>exact⟨_,rfl,by decide,by decide⟩
   refine .inl ⟨ol,_,_,_,rfl,rfl,SqL.of (B_G3 _ _ eo nol),hv,?_⟩;clear hv mv d0 d1 eo nol So sc0 sc1 sc2 pe0 p_G1;(try unfold qP);(try dsimp only);refine⟨_,rfl,_,rfl,sa,p,ns,_,rfl,sc3,p_G3,by decide,by decide,fun mn G4 mn0 mn1 B_G4 p_G4=>?_⟩;have sc4:=sc3.but B_G4;(try unfold qP);(try dsimp only);refine qR (t:=qcu _ _ _) (fun σ' G6=>∃ many:Int,σ'=[some (.ref sa),some (.ref p),some (.int tu),some (.int st),some (.int many),none,none,none,none,none,none,none,none]∧0≤many∧many≤60∧Scr K G6 sa p ns∧PenS G6 p) (fun N hN=>?_) ?_
   · refine⟨_,rfl,_,rfl,sa,p,ns,_,rfl,sc4,p_G4,by decide,by decide,fun w G5 w0 w1 B_G5 p_G5=>?_⟩;refine .inl ⟨rfl,_,rfl,Jf (fun _=>?_) (fun _=>hN _ _ ⟨mn,rfl,mn0,by omega,sc4.but B_G5,p_G5⟩)⟩;refine⟨_,rfl,_,rfl,sa,p,ns,_,rfl,(sc4.but B_G5),p_G5,by decide,by decide,fun e G6 e0 e1 B_G6 p_G6=>?_⟩;exact hN _ _ ⟨e,rfl,e0,by omega,(sc4.but B_G5).but B_G6,p_G6⟩
   clear B_G1 B_G3 B_G4 sc3 sc4 p_G3 p_G4;rintro σ' G6 ⟨many,rfl,many0,many1,sc6,p6⟩;(try unfold qP);(try dsimp only);refine⟨_,rfl,_,rfl,by omega,by omega,fun nl fnl=>?_⟩;have nnp:nl≠p:=p6.ne fnl;refine Jb (lo:=0) (n:=many.toNat) (D:=nl) (fun i σ H2=>∃ (c0:Option V) (xs:List Str),σ=[c0,some (.int tu),some (.int st)]∧Same G6 H2∧H2 nl=some (.lst (xs.map V.str))∧xs.length=i) ⟨none,[],rfl,Same.new _ fnl,qd,rfl⟩ ?_ ?_
   · rintro i σ H2 hi ⟨c0,xs,rfl,S,hD,lx⟩;refine⟨_,rfl,_,rfl,_,_,rfl,rfl,.inr ⟨by omega,by omega⟩,_,_,rfl,rfl,(by show (0:Int) < _;decide),_,rfl,_,_,rfl,Int.emod_nonneg _ (by decide),Int.emod_lt_of_pos _ (by decide),tu0,tu1,fun x H3 S3=>?_⟩;refine⟨_,S3 _ _ hD,qH (by rw[List.length_map];omega),_,xs++[x],rfl,(S.trans S3).put fnl _,(by rw[qd,List.map_append];rfl),by rw[List.length_append,lx];rfl⟩
   rintro σ G7 ⟨c0,xs,rfl,S67,hnl,lx0⟩;have lx:xs.length≤60:=by omega
   have lxm:(xs.length:Int)=many:=by omega
   have sc7:=sc6.sm S67;have p7:=p6.sm S67;clear S67 sc6 p6;(try unfold qP);(try dsimp only);refine fun d0 fd0 d1 fd1=>?_;have n01:d0≠d1:=fun z=>by rw[z,qd]at fd1;cases fd1
   rw[qb (Ne.symm n01)]at fd1;have S8:Same G7 (upd (upd G7 d0 (.dK [])) d1 (.dK [])):=(Same.new _ fd0).put fd1 _;have e0:upd (upd G7 d0 (.dK [])) d1 (.dK []) d0=some (.dK []):=(qb n01).trans qd;have e1:upd (upd G7 d0 (.dK [])) d1 (.dK []) d1=some (.dK []):=qd;generalize upd (upd G7 d0 (.dK [])) d1 (.dK [])=G8 at S8 e0 e1 ⊢;refine⟨qG (Nat.le_of_ble_eq_true rfl),fun l fl=>?_⟩;generalize hG:upd G8 l _=GL;obtain⟨Sl,el⟩:=qI hG fl;clear hG;have p8:=p7.sm S8;have ly0:Ly K sa p nl d0 d1 l ns xs [] [] GL:=⟨(sc7.sm S8).sm Sl,p8.sm Sl,Sl _ _ (S8 _ _ hnl),el,Sl _ _ e0,Sl _ _ e1,Dn.nil,Dn.nil,nnp,p8.ne fl,n01⟩
   clear Sl el S8 e0 e1 fl fd0 fd1 sc7 p7 p8 hnl fnl nnp G8 n01;(try unfold qP);(try dsimp only);refine qR (t:=qbh _ _ _) (fun σ' G'=>∃ (s7 s8:Option V) (m0 m1:Kv),σ'=[some (.ref sa),some (.ref p),some (.int tu),some (.int st),some (.int many),some (.ref nl),some (.ref l),s7,s8,none,none,none,none]∧Ly K sa p nl d0 d1 l ns xs m0 m1 G'∧Ks m0 xs∧Ks m1 xs) (fun N hN=>?_) ?_
   · refine⟨_,rfl,by decide,by decide,zK (lo:=0) (D:={ nx:=N,rt:=Q }) (fun j σ G'=>∃ (s7 s8:Option V) (m0 m1:Kv),σ=[some (.ref sa),some (.ref p),some (.int tu),some (.int st),some (.int many),some (.ref nl),some (.ref l),s7,s8,none,none,none,none]∧Ly K sa p nl d0 d1 l ns xs m0 m1 G'∧(j=0->m0=[])∧(j≤1->m1=[])∧(1≤j->Ks m0 xs)∧(2≤j->Ks m1 xs)) ⟨none,none,[],[],rfl,ly0,fun _=>rfl,fun _=>rfl,(fun z=>absurd z (by omega)),fun z=>absurd z (by omega)⟩ ?_ ?_⟩
     · rintro j σ G' hj ⟨s7,s8,m0,m1,rfl,ly,z0,z1,k0,k1⟩
       match j,hj with
       | 0,_ =>
         have z0:=z0 rfl;have z1:=z1 (by omega);refine⟨_,rfl,_,rfl,_,rfl,sa,p,nl,ns,xs,rfl,ly.sc,ly.pen,ly.hn,lx,fun q ys G9 fq B9 p9 hq pm=>?_⟩;have ly9:=ly.but B9 p9;have nqp:q≠p:=ly.pen.ne fq;have lys:ys.length≤60:=by rw[pm.length_eq];exact lx
         refine⟨q,rfl,⟨_,SqL.of hq⟩,Qe (K:=K) (a:=q) (xs:=ys.map V.str) (fun i σ G'=>∃ (s8:Option V) (m:Kv),σ=[some (.ref sa),some (.ref p),some (.int tu),some (.int st),some (.int many),some (.ref nl),some (.ref l),some (.int (0+((0:Nat):Int))),s8,none,none,none,none]∧Ly K sa p nl d0 d1 l ns xs m m1 G'∧G' q=some (.lst (ys.map V.str))∧m.length≤i∧Ks m (ys.take i)) ⟨s8,[],rfl,by rw[z0]at ly9;exact ly9,hq,Nat.zero_le _,Ks.nil⟩ (fun i σ G' _ ⟨_,_,_,_,h,_⟩=>SqL.of h) ?_ ?_⟩
         · rintro i w σ G' hw ⟨s8,m,rfl,la,ha,lm,km⟩
           obtain⟨nm,hnm,rfl⟩:∃ x,ys[i]?=some x∧V.str x=w:=by
             rw[List.getElem?_map]at hw;exact Option.map_eq_some_iff.mp hw
           have ilt:=(List.getElem?_eq_some_iff.mp hnm).1;refine⟨_,rfl,_,rfl,sa,p,ns,rfl,la.sc,la.pen,fun v G2 B2 p2=>?_⟩;have lb:=la.but B2 p2;refine⟨_,rfl,_,rfl,.inl ⟨l,_,_,_,rfl,rfl,SqL.of lb.hl,rfl,_,rfl,d0,_,rfl,DPut.k (k:=.inr nm) lb.h0 (qH (by omega)),?_⟩⟩;have pl:=qbr m (.inr nm) (.int v);refine⟨_,_,rfl,lb.put0 (lb.n0.put nm v (by omega)),(qb (ZI (B2 _ _ ha nqp) lb.h0 (by intro z;cases z))).trans (B2 _ _ ha nqp),by omega,qbu km hnm⟩
         · rintro σ G' ⟨s8,m,rfl,la,ha,lm,km⟩;rw[List.length_map,List.take_length]at km;have km':=km.perm pm;exact⟨_,s8,m,m1,rfl,la,(fun z=>absurd z (by omega)),fun _=>z1,fun _=>km',fun z=>absurd z (by omega)⟩
       | 1,_ =>
         have z1:=z1 (by omega);have k0:=k0 (by omega);refine⟨_,rfl,_,rfl,_,rfl,sa,p,nl,ns,xs,rfl,ly.sc,ly.pen,ly.hn,lx,fun q ys G9 fq B9 p9 hq pm=>?_⟩;have ly9:=ly.but B9 p9;have nqp:q≠p:=ly.pen.ne fq;have lys:ys.length≤60:=by rw[pm.length_eq];exact lx
         refine⟨q,rfl,⟨_,SqL.of hq⟩,Qe (K:=K) (a:=q) (xs:=ys.map V.str) (fun i σ G'=>∃ (s8:Option V) (m:Kv),σ=[some (.ref sa),some (.ref p),some (.int tu),some (.int st),some (.int many),some (.ref nl),some (.ref l),some (.int (0+((1:Nat):Int))),s8,none,none,none,none]∧Ly K sa p nl d0 d1 l ns xs m0 m G'∧G' q=some (.lst (ys.map V.str))∧m.length≤i∧Ks m (ys.take i)) ⟨s8,[],rfl,by rw[z1]at ly9;exact ly9,hq,Nat.zero_le _,Ks.nil⟩ (fun i σ G' _ ⟨_,_,_,_,h,_⟩=>SqL.of h) ?_ ?_⟩
         · rintro i w σ G' hw ⟨s8,m,rfl,la,ha,lm,km⟩
           obtain⟨nm,hnm,rfl⟩:∃ x,ys[i]?=some x∧V.str x=w:=by
             rw[List.getElem?_map]at hw;exact Option.map_eq_some_iff.mp hw
           have ilt:=(List.getElem?_eq_some_iff.mp hnm).1;refine⟨_,rfl,_,rfl,sa,p,ns,rfl,la.sc,la.pen,fun v G2 B2 p2=>?_⟩;have lb:=la.but B2 p2;refine⟨_,rfl,_,rfl,.inl ⟨l,_,_,_,rfl,rfl,SqL.of lb.hl,rfl,_,rfl,d1,_,rfl,DPut.k (k:=.inr nm) lb.h1 (qH (by omega)),?_⟩⟩;have pl:=qbr m (.inr nm) (.int v);refine⟨_,_,rfl,lb.put1 (lb.n1.put nm v (by omega)),(qb (ZI (B2 _ _ ha nqp) lb.h1 (by intro z;cases z))).trans (B2 _ _ ha nqp),by omega,qbu km hnm⟩
         · rintro σ G' ⟨s8,m,rfl,la,ha,lm,km⟩;rw[List.length_map,List.take_length]at km;have km':=km.perm pm;exact⟨_,s8,m0,m,rfl,la,(fun z=>absurd z (by omega)),(fun z=>absurd z (by omega)),fun _=>k0,fun _=>km'⟩
       | n+2,h=>exact absurd h (by show ¬ (n+2 < 2);omega)
     · rintro σ G' ⟨s7,s8,m0,m1,rfl,ly,_,_,k0,k1⟩;exact hN _ _ ⟨s7,s8,m0,m1,rfl,ly,k0 (by decide),k1 (by decide)⟩
   clear ly0;rintro σ' G1 ⟨s7,s8,m0,m1,rfl,ly,k0,k1⟩;(try unfold qP);(try dsimp only);refine qR (t:=qbh _ _ _) (fun σ' G'=>∃ (s8:Option V) (m1:Kv),σ'=[some (.ref sa),some (.ref p),some (.int tu),some (.int st),some (.int many),some (.ref nl),some (.ref l),s7,s8,none,none,none,none]∧Ly K sa p nl d0 d1 l ns xs m0 m1 G'∧Ks m1 xs) (fun N hN=>?_) ?_
   · refine⟨_,rfl,nl,rfl,⟨_,SqL.of ly.hn⟩,Qe (K:=K) (a:=nl) (xs:=xs.map V.str) (D:={ nx:=N,rt:=Q }) (fun j σ G'=>∃ (s8:Option V) (m1:Kv),σ=[some (.ref sa),some (.ref p),some (.int tu),some (.int st),some (.int many),some (.ref nl),some (.ref l),s7,s8,none,none,none,none]∧Ly K sa p nl d0 d1 l ns xs m0 m1 G'∧Ks m1 xs) ⟨s8,m1,rfl,ly,k1⟩ (fun j σ G' _ ⟨_,_,_,h,_⟩=>SqL.of h.hn) ?_ ?_⟩
     · rintro j w σ G' hw ⟨s8,m1,rfl,ly,k1⟩
       obtain⟨nm,hnm,rfl⟩:∃ x,xs[j]?=some x∧V.str x=w:=by
         rw[List.getElem?_map]at hw;exact Option.map_eq_some_iff.mp hw
       have mx:=List.mem_of_getElem? hnm;refine⟨_,rfl,_,rfl,sa,p,ns,_,rfl,ly.sc,ly.pen,by decide,by decide,fun w G2 w0 w1 B_G2 p_G2=>?_⟩;have ly:=ly.but B_G2 p_G2;refine .inl ⟨rfl,_,rfl,Jf (fun _=>?_) (fun _=>⟨_,m1,rfl,ly,k1⟩)⟩;have q0:=(k0 nm).mpr mx;have q1:=(k1 nm).mpr mx;obtain⟨v,ev⟩:=Option.isSome_iff_exists.mp q0;obtain⟨i,rfl⟩:=ly.n0.look ev;refine⟨_,rfl,.inl ⟨l,_,_,_,rfl,rfl,SqL.of ly.hl,rfl,_,rfl,d0,_,rfl,.inl ⟨m0,.inr nm,.inl ly.h0,rfl,ev.symm⟩,_,rfl,.inl ⟨l,_,_,_,rfl,rfl,SqL.of ly.hl,rfl,_,rfl,d1,_,rfl,DPut.k (k:=.inr nm) ly.h1 (qH (by have:=ly.n1.few;omega)),?_⟩⟩⟩;exact⟨_,_,rfl,ly.put1 (ly.n1.put nm i (by rw[JE q1];exact ly.n1.few)),qb4 k1 mx⟩
     · rintro σ G' ⟨s8,m1,rfl,ly,k1⟩;exact hN _ _ ⟨s8,m1,rfl,ly,k1⟩
   clear ly k1;rintro σ' G1 ⟨s8,m1,rfl,ly,k1⟩;have lk:=qb5 ly.n0 ly.n1 k0 k1;(try unfold qP);(try dsimp only);refine⟨_,rfl,.inl ⟨l,_,_,_,rfl,rfl,SqL.of ly.hl,rfl,_,rfl,.inl ⟨l,_,_,_,rfl,rfl,SqL.of ly.hl,rfl,d0,d1,m0,m1,rfl,ly.n01,ly.h0,ly.h1,ly.n0,ly.n1,lk,fun G2 T2=>⟨_,rfl,qM rfl ?_⟩⟩⟩⟩;have ly2:=ly.sm T2;refine⟨_,rfl,.inl ⟨l,_,_,_,rfl,rfl,SqL.of ly2.hl,rfl,_,rfl,.inl ⟨l,_,_,_,rfl,rfl,SqL.of ly2.hl,rfl,d1,d0,m1,m0,rfl,Ne.symm ly2.n01,ly2.h1,ly2.h0,ly2.n1,ly2.n0,JU lk,fun G3 T3=>⟨_,rfl,qM rfl ?_⟩⟩⟩⟩;have ly3:=ly2.sm T3;clear ly ly2 T2 T3 k0 k1 lk;(try unfold qP);(try dsimp only);refine qR (t:=qbh _ _ _) (fun σ' G'=>∃ (s7:Option V) (m0 m1:Kv),σ'=[some (.ref sa),some (.ref p),some (.int tu),some (.int st),some (.int many),some (.ref nl),some (.ref l),s7,s8,none,none,none,none]∧Ly K sa p nl d0 d1 l ns xs m0 m1 G') (fun N hN=>?_) ?_
   · refine⟨_,rfl,_,rfl,sa,p,ns,_,rfl,ly3.sc,ly3.pen,by decide,by decide,fun w G4 w0 w1 B_G4 p_G4=>?_⟩;have ly4:=ly3.but B_G4 p_G4;refine⟨_,rfl,_,_,rfl,_,_,rfl,rfl,.inl ⟨by omega,by omega⟩,?_⟩;generalize hb:w * (if 1 < many then 1 else many)=b
     have bb:0≤b∧b≤3∧(0 < b->0 < many):=by
       subst hb;by_cases g:1 < many
       · rw[if_pos g];omega
       · rw[if_neg g]
         have:many=0∨many=1:=by omega
         rcases this with h|h
         · rw[h];omega
         · rw[h];omega
     refine⟨b,rfl,by omega,by omega,zK (lo:=0) (D:={ nx:=N,rt:=Q }) (fun j σ G'=>∃ (s7:Option V) (m0 m1:Kv),σ=[some (.ref sa),some (.ref p),some (.int tu),some (.int st),some (.int many),some (.ref nl),some (.ref l),s7,s8,none,none,none,none]∧Ly K sa p nl d0 d1 l ns xs m0 m1 G') ⟨s7,m0,m1,rfl,ly4⟩ ?_ ?_⟩
     · rintro j σ G' hj ⟨s7,m0,m1,rfl,ly⟩;have mpos:0 < many:=bb.2.2 (by omega);refine⟨_,rfl,_,rfl,_,rfl,sa,p,ns,_,rfl,ly.sc,ly.pen,by decide,by decide,fun c G5 c0 c1 B_G5 p_G5=>?_⟩;have ly5:=ly.but B_G5 p_G5;have cs:c=0∨c=1:=by omega
       rcases cs with hc|hc
       · subst hc;refine .inl ⟨l,_,_,_,rfl,rfl,SqL.of ly5.hl,rfl,d0,rfl,.inl ⟨_,.inl ly5.h0⟩,?_⟩;refine⟨_,rfl,_,rfl,_,rfl,_,rfl,sa,p,ns,_,rfl,ly5.sc,ly5.pen,mpos,by omega,fun e G6 e0 e1 B_G6 p_G6=>?_⟩;have ly6:=ly5.but B_G6 p_G6;obtain⟨v,hv,mv⟩:=Zi (xs:=xs.map V.str) e0 (by rw[List.length_map,lxm];exact e1);obtain⟨nm,_,rfl⟩:=List.mem_map.mp mv;refine .inl ⟨nl,_,_,_,rfl,rfl,SqL.of ly6.hn,hv,m0,.inr nm,ly6.h0,rfl,fun v ev=>?_,fun ev=>?_⟩
         · exact⟨_,_,_,rfl,ly6.put0 (ly6.n0.drop _)⟩
         · exact⟨_,m0,m1,rfl,ly6⟩
       · subst hc;refine .inl ⟨l,_,_,_,rfl,rfl,SqL.of ly5.hl,rfl,d1,rfl,.inl ⟨_,.inl ly5.h1⟩,?_⟩;refine⟨_,rfl,_,rfl,_,rfl,_,rfl,sa,p,ns,_,rfl,ly5.sc,ly5.pen,mpos,by omega,fun e G6 e0 e1 B_G6 p_G6=>?_⟩;have ly6:=ly5.but B_G6 p_G6;obtain⟨v,hv,mv⟩:=Zi (xs:=xs.map V.str) e0 (by rw[List.length_map,lxm];exact e1);obtain⟨nm,_,rfl⟩:=List.mem_map.mp mv;refine .inl ⟨nl,_,_,_,rfl,rfl,SqL.of ly6.hn,hv,m1,.inr nm,ly6.h1,rfl,fun v ev=>?_,fun ev=>?_⟩
         · exact⟨_,_,_,rfl,ly6.put1 (ly6.n1.drop _)⟩
         · exact⟨_,m0,m1,rfl,ly6⟩
     · rintro σ G' ⟨s7,m0,m1,rfl,ly⟩;exact hN _ _ ⟨s7,m0,m1,rfl,ly⟩
   clear ly3;rintro σ' G1 ⟨s7,m0,m1,rfl,ly⟩;(try unfold qP);(try dsimp only);refine⟨_,rfl,.inl ⟨l,_,_,_,rfl,rfl,SqL.of ly.hl,rfl,_,rfl,.inl ⟨l,_,_,_,rfl,rfl,SqL.of ly.hl,rfl,qG (Nat.le_of_ble_eq_true rfl),fun t1 ft1=>?_⟩⟩⟩;generalize hG:upd G1 t1 _=G2;obtain⟨S2,et1⟩:=qI hG ft1;clear hG;refine⟨_,rfl,.inl ⟨l,_,_,_,rfl,rfl,SqL.of (S2 _ _ ly.hl),rfl,_,rfl,.inl ⟨l,_,_,_,rfl,rfl,SqL.of (S2 _ _ ly.hl),rfl,qG (Nat.le_of_ble_eq_true rfl),fun t2 ft2=>?_⟩⟩⟩;generalize hG:upd G2 t2 _=G3;obtain⟨S3,et2⟩:=qI hG ft2;clear hG;refine⟨qG (Nat.le_of_ble_eq_true rfl),fun L fL=>?_⟩;generalize hG:upd G3 L _=G4;obtain⟨S4,eL⟩:=qI hG fL;clear hG;have ly4:=ly.sm ((S2.trans S3).trans S4);have et1:=S4 _ _ (S3 _ _ et1);have et2:=S4 _ _ et2;clear S2 S3 S4 ly ft1 ft2 fL;refine⟨L,rfl,⟨_,SqL.of eL⟩,Qe (K:=K) (a:=L) (xs:=[.ref t1,.ref t2]) (fun j σ G'=>∃ s7 s9 s10 s11 s12:Option V,σ=[some (.ref sa),some (.ref p),some (.int tu),some (.int st),some (.int many),some (.ref nl),some (.ref l),s7,s8,s9,s10,s11,s12]∧Same G4 G') ⟨_,_,_,_,_,rfl,Same.refl _⟩ (fun j σ G' _ ⟨_,_,_,_,_,_,h⟩=>SqL.of (h _ _ eL)) ?_ ?_⟩
   rotate_left
   · rintro σ G' ⟨_,_,_,_,_,rfl,_⟩;exact kk G'
   rintro j z σ G' hz ⟨s7,s9,s10,s11,s12,rfl,S⟩
   obtain⟨t,x,y,p1,q1,rfl,et,nxy,hx,hy,dp,dq⟩:∃ (t x y:Addr) (p1 q1:Kv),z=.ref t∧G4 t=some (.tup [.ref x,.ref y])∧x≠y∧G4 x=some (.dK p1)∧G4 y=some (.dK q1)∧Dn p1∧Dn q1:=by
     match j,hz with
     | 0,hz=>cases hz;exact⟨t1,d0,d1,m0,m1,rfl,et1,ly4.n01,ly4.h0,ly4.h1,ly4.n0,ly4.n1⟩
     | 1,hz=>cases hz;exact⟨t2,d1,d0,m1,m0,rfl,et2,Ne.symm ly4.n01,ly4.h1,ly4.h0,ly4.n1,ly4.n0⟩
     | n+2,hz=>cases hz
   refine⟨t,_,rfl,SqT.of (S _ _ et),rfl,_,_,rfl,_,_,rfl,rfl,?_⟩;refine⟨_,rfl,_,rfl,x,y,p1,q1,rfl,nxy,S _ _ hx,S _ _ hy,dp,dq,?_⟩;(try unfold qP);(try dsimp only)
   cases lk:Qm p1 q1 with
   | none =>
     refine qR (t:=qbh _ _ _) (fun σ' G'=>∃ s12:Option V,σ'=[some (.ref sa),some (.ref p),some (.int tu),some (.int st),some (.int many),some (.ref nl),some (.ref l),s7,s8,some (.ref x),some (.ref y),some .non,s12]∧Same G4 G') (fun N hN=>?_) ?_
     · refine⟨_,rfl,by decide,by decide,zK (lo:=0) (fun j σ G'=>∃ s12:Option V,σ=[some (.ref sa),some (.ref p),some (.int tu),some (.int st),some (.int many),some (.ref nl),some (.ref l),s7,s8,some (.ref x),some (.ref y),some .non,s12]∧Same G4 G') ⟨_,rfl,S⟩ ?_ ?_⟩
       · rintro j σ G' hj ⟨s12,rfl,S⟩;exact⟨_,rfl,rfl,_,rfl,qM rfl ⟨_,rfl,S⟩⟩
       · rintro σ G' ⟨s12,rfl,S⟩;exact hN _ _ ⟨_,rfl,S⟩
     rintro σ' G' ⟨s12,rfl,S⟩;refine⟨_,rfl,rfl,_,rfl,JZ rfl ?_⟩;exact⟨_,rfl,_,rfl,x,y,p1,q1,rfl,nxy,S _ _ hx,S _ _ hy,dp,dq,lk,fun G5 T5=>⟨_,rfl,qM rfl ⟨_,_,_,_,_,rfl,S.trans T5⟩⟩⟩
   | some k =>
     obtain⟨n,rfl⟩:∃ n:Str,k=.inr n:=by
       unfold Qm at lk
       cases h1:qV p1 q1 with
       | some k'=>rw[h1]at lk;cases lk;exact QO dp h1
       | none=>rw[h1,Option.none_or]at lk;exact QO dq lk
     refine qR (t:=qbh _ _ _) (fun σ' G'=>∃ s12:Option V,σ'=[some (.ref sa),some (.ref p),some (.int tu),some (.int st),some (.int many),some (.ref nl),some (.ref l),s7,s8,some (.ref x),some (.ref y),some (.str n),s12]∧Same G4 G') (fun N hN=>?_) ?_
     · refine⟨_,rfl,by decide,by decide,zK (lo:=0) (fun j σ G'=>∃ s12:Option V,σ=[some (.ref sa),some (.ref p),some (.int tu),some (.int st),some (.int many),some (.ref nl),some (.ref l),s7,s8,some (.ref x),some (.ref y),some (.str n),s12]∧Same G4 G') ⟨_,rfl,S⟩ ?_ ?_⟩
       · rintro j σ G' hj ⟨s12,rfl,S⟩;refine⟨_,rfl,rfl,_,rfl,JZ rfl ?_⟩;exact⟨_,rfl,_,rfl,_,rfl,_,rfl,_,x,y,p1,q1,n,rfl,nxy,S _ _ hx,S _ _ hy,dp,dq,lk,fun G5 T5=>⟨_,rfl,qM rfl ⟨_,rfl,S.trans T5⟩⟩⟩
       · rintro σ G' ⟨s12,rfl,S⟩;exact hN _ _ ⟨_,rfl,S⟩
     rintro σ' G' ⟨s12,rfl,S⟩;exact⟨_,rfl,rfl,_,rfl,qM rfl ⟨_,_,_,_,_,rfl,S⟩⟩
end
theorem len_0 {p:List Value->Prop} (h:p []):∀ us:List Value,us.length=0->p us:=fun us hl=>by
 cases us with
 | nil=>exact h
 | cons a t=>cases hl
theorem len_1 {p:List Value->Prop} (h:∀ a,p [a]):∀ us:List Value,us.length=1->p us:=fun us hl=>by
 cases us with
 | nil=>cases hl
 | cons a t=>exact len_0 (p:=fun t=>p (a::t)) (h a) t (Nat.succ.inj hl)
theorem len_2 {p:List Value->Prop} (h:∀ a b,p [a,b]):∀ us:List Value,us.length=2->p us:=fun us hl=>by
 cases us with
 | nil=>cases hl
 | cons a t=>exact len_1 (p:=fun t=>p (a::t)) (h a) t (Nat.succ.inj hl)
theorem len_3 {p:List Value->Prop} (h:∀ a b c,p [a,b,c]):∀ us:List Value,us.length=3->p us:=fun us hl=>by
 cases us with
 | nil=>cases hl
 | cons a t=>exact len_2 (p:=fun t=>p (a::t)) (h a) t (Nat.succ.inj hl)
theorem len_4 {p:List Value->Prop} (h:∀ a b c d,p [a,b,c,d]):∀ us:List Value,us.length=4->p us:=fun us hl=>by
 cases us with
 | nil=>cases hl
 | cons a t=>exact len_3 (p:=fun t=>p (a::t)) (h a) t (Nat.succ.inj hl)
theorem mkDf {K:Frag}{h:Heap}{mg:Str->Option Value} (X:K.In h) (G:h.Ns mainGlobals mg) {x:Str}{st:Stmt}{ps:List Str}{f:Addr}{oc:Value}{od an:Option Addr}{osl:Array (Option Value)}{kV doc pm cdv ct:Value} (a:nsIn K mainGlobals x=some (some (.ref f))) (l:K.lookup f=some ⟨oc,od,.func (fnOf x x (zn st) (q8 st) (qk st) .none kV doc pm an cdv ct),osl⟩) (c:codeIn K cdv x=true) (k:keepIn K (.ref f)=true) (hb:∀ (kV doc pm:Value) (an:Option Addr) (cdv ct:Value) (us:List Value),us.length=ps.length->bindArgs (fnOf x x (zn st) (q8 st) (qk st) .none kV doc pm an cdv ct) ⟨us,[]⟩=pure (ps.zip us)):Df K mg x st ps f (fnOf x x (zn st) (q8 st) (qk st) .none kV doc pm an cdv ct):=⟨jK l c k,(jK l c k).binds hb,PySem.W.mg_of X G a,k⟩
theorem mkDm {K:Frag}{C:Addr}{x q:Str}{st:Stmt}{ps:List Str}{f:Addr}{oc:Value}{od an:Option Addr}{osl:Array (Option Value)}{kV doc pm cdv ct:Value} (m:qdY K C x f) (l:K.lookup f=some ⟨oc,od,.func (fnOf x q (zn st) (q8 st) (qk st) .none kV doc pm an cdv ct),osl⟩) (c:codeIn K cdv q=true) (k:keepIn K (.ref f)=true) (hb:∀ (kV doc pm:Value) (an:Option Addr) (cdv ct:Value) (us:List Value),us.length=ps.length->bindArgs (fnOf x q (zn st) (q8 st) (qk st) .none kV doc pm an cdv ct) ⟨us,[]⟩=pure (ps.zip us)):DfM K C x q st ps f (fnOf x q (zn st) (q8 st) (qk st) .none kV doc pm an cdv ct):=⟨jK l c k,(jK l c k).binds hb,m⟩
theorem all2 {l:PySem.W.OpenLaw}{w:World}{K:Frag}{h:Heap}{mg:Str->Option Value}{fa:Addr} (X:K.In h) (G:h.Ns mainGlobals mg) (hfa:mg "law"=some (.ref fa)) {a:Ad} (T:Txt K mg a)
   : ∃ fd:FuncData,(∀ (s:Shared) (v:Value),BindsTo s fd ⟨[v],[]⟩ [("_law_script",v)])∧∀ base:Heap,K.In base->base.Ns mainGlobals mg->zb l.prog w K mg base CX0 9 fa fd ["_law_script"] (jq K):=by
 have e:=hfa.symm.trans T.d_q.m;obtain⟨oc,od,kV,doc,pm,an,cdv,ct,osl,e2,lk,hcd⟩:=T.d_q.F.ex;cases e;exact⟨a.fd_q,fun s v=>by rw[e2];exact .of_eq rfl,fun base _ _=>qcP T⟩
theorem walk {l:PySem.W.OpenLaw}{q:Program}{loose:List Str}{XP:(Str->Option Value)->Heap->Prop}{YP:World->Heap->Prop}{d:DefRec}{K:Params->Frag} (hn:l.most=some 63) (hdf:d.params.defaults=[])
   (hY:∀ (w:World) (h:Heap),YP w h->(K w.params).In h)
   (F:∀ (w:World) (mg:Str->Option Value) (fa:Addr) (h:Heap),(K w.params).In h->h.Ns mainGlobals mg->mg d.name=some (.ref fa) ->
     ∃ fd:FuncData,(∀ (s:Shared) (u:Value),BindsTo s fd ⟨[u],[]⟩ [("_law_script",u)])∧∀ base:Heap,(K w.params).In base->base.Ns mainGlobals mg->zb l.prog w (K w.params) mg base CX0 9 fa fd ["_law_script"] (jq (K w.params))) :
   PySem.W.WalkO q loose XP YP l.row.toRowW d [] (fun f vs=>PySem.call f vs) :=
 L2.walk_of (n:=63) (k:=9) (x:="_law_script") (CX:=fun _=>CX0) (sp:=fun w=>jq (K w.params)) hn (by decide) hdf ⟨rfl,by decide,by decide,rfl⟩ hY F (fun _ _ a ns hl _ hS=>⟨a,ns,rfl,hS,hl,fun _=>rfl⟩) fun _ _ _ _ _ z=>z
end K54
open PySem PySem.W PyProof.Rows
set_option maxHeartbeats 0 in
theorem PySem.Challenge.cw_foldlog_k54_lesser_and_greater_holds : PySem.Challenge.rw_foldlog_k54_lesser_and_greater.Holds := by
 w_on;o_law;k_head;(case hw=>w_witness2)
 k_fill
 refine K54.walk (l:=PySem.Challenge.rw_foldlog_k54_lesser_and_greater) rfl rfl (fun w h Y=>PySem.W.kIn_of Y) ?F
 case F =>
   intro w mg fa h KX G hmg;refine' K54.all2 KX G hmg (a:=⟨_,_,_,_,_,_,_,_,_,_,_,_,_,_,_,_,_,_,_,_,_,_,_,_,_,_,_,_,_,_,_,_,_,_,_,_,_,_,_⟩) ?T
   case T =>
     constructor
     all_goals try dsimp only
     all_goals try refine' PySem.W.mg_of KX G ?_
     all_goals try refine' PySem.W.mg_none_of KX G ?_
     all_goals try refine' ⟨_,PySem.W.mg_of KX G ?_⟩
     all_goals try k_is
     all_goals try refine' K54.mkDf KX G ?_ ?_ ?_ ?_ (fun _ _ _ _ _ _=>by first|exact K54.len_0 rfl|exact K54.len_1 fun _=>rfl|exact K54.len_2 fun _ _=>rfl|exact K54.len_3 fun _ _ _=>rfl|exact K54.len_4 fun _ _ _ _=>rfl)
     all_goals try refine' K54.mkDm ⟨?_,?_,?_⟩ ?_ ?_ ?_ (fun _ _ _ _ _ _=>by first|exact K54.len_0 rfl|exact K54.len_1 fun _=>rfl|exact K54.len_2 fun _ _=>rfl|exact K54.len_3 fun _ _ _=>rfl|exact K54.len_4 fun _ _ _ _=>rfl)
     all_goals try refine' L2.xIsa_of ?_ ?_ ?_
     all_goals try refine' L2.XMro.of ?_ ?_
     all_goals try refine' L2.xIn_of ?_ ?_
     all_goals try refine' ⟨⟨L2.xIn_of ?_ ?_,?_,?_,?_,?_,?_,?_⟩,?_,?_,?_⟩
     all_goals try refine' ⟨⟨?_,?_,?_,?_⟩,?_,?_,?_,?_⟩
     all_goals try refine' ⟨?_,?_,?_,?_⟩
     all_goals try refine' ⟨?_,?_,?_⟩
     all_goals try refine' ⟨?_,?_⟩
     all_goals try (first|k_is|rfl)
     all_goals try (first|k_is|rfl)
     all_goals try (first|k_is|rfl)
     all_goals decide
