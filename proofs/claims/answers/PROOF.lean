import PyProof.Rows.All
import Wide.All
import OpenK.AllK
import Wide.FinOn
import PyProof.EqAt
import PyProof.EqKinds
import PyProof.TupleCall
import KE.BitLaws
import KE.KSortKeySt
import PyProof.ListRange
import KE.KLam
import KE.KDictSum
import PyProof.Rows.SortShellAny
import PyProof.ZipIter
import PyProof.TupleIter
import PyProof.DictRoadsH
import PyProof.MeetsDictList
import PyProof.DictTruth
import KE.KDictLaws
import KE.KTurns
import PyProof.ListMulRoad
import PyProof.Rows.SeqMore
import PyProof.FactsAll.tuple
import KE.KSortTupG
import Open.SpecLaws
import KE.OsHead
import KE.OsGo
import PySem.Challenge.RW_quarterhouse_s01_answers
set_option Elab.async false
set_option linter.all false
set_option maxRecDepth 100000
set_option maxHeartbeats 2000000
namespace L2
open PySem PySem.Spec PyProof.Rows
abbrev Key:=Sum Int Str
def keyIs:Key→Value→Bool
 |.inl k,v=>Value.isInt k v
 |.inr x,v=>Value.isStrOf x v
def keyH(w:World):Key→Int
 |.inl k=>hashInt k
 |.inr x=>hashStr w x
theorem cY:∀{k:Key}{v:Value},keyIs k v=true→(∃i t,k=Sum.inl i∧v=Value.int i t)∨(∃x t,k=Sum.inr x∧v=Value.str x t)
 |.inl i,v,h=>by
  obtain⟨t,e⟩:=Value.isInt_shape (k:=i) (v:=v) h
  exact .inl ⟨i,t,rfl,e⟩
 |.inr x,v,h=>by
  obtain⟨t,e⟩:=Value.isStrOf_shape (x:=x) (v:=v) h
  exact .inr ⟨x,t,rfl,e⟩
theorem keyIs_int(i:Int)(t:Tok):keyIs (.inl i) (.int i t)=true:=by simp[keyIs,Value.isInt]
theorem keyIs_str(x:Str)(t:Tok):keyIs (.inr x) (.str x t)=true:=by simp[keyIs,Value.isStrOf]
theorem key_ll(a b:Int):decide ((Sum.inl a:Key)=Sum.inl b)=(a==b):=by
 by_cases e:a=b
 ·subst e;simp
 ·have h:¬(Sum.inl a:Key)=Sum.inl b:=fun q=>e (Sum.inl.inj q)
  rw[decide_eq_false h]
  exact (beq_eq_false_iff_ne.mpr e).symm
theorem key_rr(a b:Str):decide ((Sum.inr a:Key)=Sum.inr b)=decide (a=b):=by
 by_cases e:a=b
 ·subst e;simp
 ·have h:¬(Sum.inr a:Key)=Sum.inr b:=fun q=>e (Sum.inr.inj q)
  rw[decide_eq_false h,decide_eq_false e]
theorem key_lr(a:Int)(b:Str):decide ((Sum.inl a:Key)=Sum.inr b)=false:=decide_eq_false (fun q=>nomatch q)
theorem key_rl(a:Str)(b:Int):decide ((Sum.inr a:Key)=Sum.inl b)=false:=decide_eq_false (fun q=>nomatch q)
def bK(prog:Program)(w:World):PySem.KeyKind prog w Key where
 is:=keyIs
 hash:=keyH w
 inj:=fun v a b ha hb=>by
  rcases cY ha with⟨i,t,rfl,rfl⟩|⟨x,t,rfl,rfl⟩
  ·rcases cY hb with⟨j,u,rfl,e⟩|⟨y,u,rfl,e⟩
   ·injection e with e1 _;rw[e1]
   ·exact nomatch e
  ·rcases cY hb with⟨j,u,rfl,e⟩|⟨y,u,rfl,e⟩
   ·exact nomatch e
   ·injection e with e1 _;rw[e1]
 byValue:=fun k v h=>by
  rcases cY h with⟨i,t,rfl,rfl⟩|⟨x,t,rfl,rfl⟩ <;> rfl
 pyHash:=fun hv h=>by
  rcases cY hv with⟨i,t,rfl,rfl⟩|⟨x,t,rfl,rfl⟩
  ·exact wpAny_pyHash_int h
  ·exact wpAny_pyHash_str h
 eqBool:=fun hu hv h=>by
  rcases cY hu with⟨i,t,rfl,rfl⟩|⟨x,t,rfl,rfl⟩
  ·rcases cY hv with⟨j,u,rfl,rfl⟩|⟨y,u,rfl,rfl⟩
   ·rw[key_ll]at h;exact wpAny_eqBool_int h
   ·rw[key_lr]at h;exact SeqAt.EqAt.int_str i t y u _ _ _ _ h
  ·rcases cY hv with⟨j,u,rfl,rfl⟩|⟨y,u,rfl,rfl⟩
   ·rw[key_rl]at h;exact SeqAt.EqAt.str_int x t j u _ _ _ _ h
   ·rw[key_rr]at h;exact wpAny_eqBool_str h
 «strs»:=fun k x t v h=>by
  rcases cY h with⟨i,u,rfl,e⟩|⟨y,u,rfl,e⟩
  ·exact nomatch e
  ·injection e with e1 _
   subst e1
   cases v <;> rfl
theorem mixKind_int(prog:Program)(w:World)(i:Int)(t:Tok):(bK prog w).is (.inl i) (.int i t)=true:=keyIs_int i t
theorem mixKind_str(prog:Program)(w:World)(x:Str)(t:Tok):(bK prog w).is (.inr x) (.str x t)=true:=keyIs_str x t
end L2
namespace L2
open PySem PySem.Spec PyProof.Rows
inductive V where
 |non|bl (b:Bool)|int (i:Int)|str (x:Str)|byt (b:Array UInt8)|flt (b:UInt64)|ref (a:Addr)|ty (n:String)
 deriving DecidableEq
def RelV:V→Value→Prop
 |.non,u=>u=Value.none
 |.bl b,u=>u=Value.bool b
 |.int i,u=>∃t,u=Value.int i t
 |.str x,u=>∃t,u=Value.str x t
 |.byt b,u=>∃t,u=Value.bytes b t
 |.flt b,u=>∃t,u=Value.float b t
 |.ref a,u=>u=Value.ref a
 |.ty n,u=>u=Value.type n
abbrev Vals:List V→List Value→Prop:=Paired RelV
theorem Vals.length{xs:List V}{us:List Value}(r:Vals xs us):xs.length=us.length:=Paired.length r
theorem Vals.get:∀{xs:List V}{us:List Value}{i:Nat}{x:V},Vals xs us→xs[i]?=some x→∃u,us[i]?=some u∧RelV x u
 |_,_,_,_,.nil,e=>by simp at e
 |_,_,0,_,.cons r _,e=>by simp at e;subst e;exact⟨_,rfl,r⟩
 |_,_,i+1,x,.cons _ t,e=>by
  obtain⟨u,h1,h2⟩:=Vals.get (i:=i) (x:=x) t (by simpa using e)
  exact⟨u,by simpa using h1,h2⟩
theorem Vals.set{x:V}{u:Value}(r:RelV x u):∀{xs:List V}{us:List Value} (i:Nat),Vals xs us→Vals (xs.set i x) (us.set i u)
 |_,_,_,.nil=>.nil
 |_,_,0,.cons _ t=>.cons r t
 |_,_,i+1,.cons q t=>.cons q (Vals.set r i t)
theorem Vals.append:∀{xs ys:List V}{us ws:List Value},Vals xs us→Vals ys ws→Vals (xs++ys) (us++ws)
 |_,_,_,_,.nil,s=>s
 |_,_,_,_,.cons r t,s=>.cons r (Vals.append t s)
theorem Vals.take:∀{xs:List V}{us:List Value} (n:Nat),Vals xs us→Vals (xs.take n) (us.take n)
 |_,_,0,_=>.nil
 |_,_,_+1,.nil=>.nil
 |_,_,n+1,.cons r t=>.cons r (Vals.take n t)
theorem Vals.drop:∀{xs:List V}{us:List Value} (n:Nat),Vals xs us→Vals (xs.drop n) (us.drop n)
 |_,_,0,r=>r
 |_,_,_+1,.nil=>.nil
 |_,_,n+1,.cons _ t=>Vals.drop n t
def RelO:Option V→Option Value→Prop
 |some v,some u=>RelV v u
 |none,none=>True
 |_,_=>False
def KV{κ:Type}:List (κ×V)→List (κ×Value)→Prop:=Paired fun(p:κ×V) (q:κ×Value)=>p.1=q.1∧RelV p.2 q.2
def kV:Key→V
 |.inl i=>.int i
 |.inr x=>.str x
inductive HO where
 |lst (xs:List V)
 |tup (xs:List V)
 |dK (kvs:List (Key×V))|dT (kvs:List (List Key×V))
 |set (S:Int→Bool) (n:Nat)
 |ins (C dx:Addr) (fs:List (Str×V))
 |own (x:Addr)
 |xd (fs:List (Str×V))
 |met (f x:Addr)
 |rng (lo hi:Int)
 |d8 (o:Obj) (u:HO)
 |tbl (ps:Array Value)
 |ext (φ:Heap→Prop)
abbrev Hp:=Addr→Option HO
def upd(H:Hp)(a:Addr)(o:HO):Hp:=fun b=>if b=a then some o else H b
theorem ao{H:Hp}{a:Addr}{o:HO}:upd H a o a=some o:=by unfold upd;rw[if_pos rfl]
theorem aB{H:Hp}{a b:Addr}{o:HO}(h:b≠a):upd H a o b=H b:=by unfold upd;rw[if_neg h]
theorem dB{H:Hp}{a:Addr}{o u:HO}:upd (upd H a o) a u=upd H a u:=by
 funext b;unfold upd;split <;> rfl
theorem bI{H:Hp}{a b:Addr}{o u:HO}(h:H a=some o)(h':H b=some u)(d:o≠u):a≠b:=by
 intro e;subst e;rw[h]at h';exact d (Option.some.inj h')
theorem aL{H:Hp}{a b:Addr}{o:HO}(h:H a=some o)(h':H b=none):a≠b:=by
 intro e;subst e;rw[h]at h';cases h'
section
variable(P:Program)(w:World)
def cM(H:Hp)(h:Heap)(a:Addr):HO→Prop
 |.lst xs=>xs.length≤sizeLine∧∃(its:List Value) (n:Nat),Vals xs its∧h.get? a=some { cls:=.type "list",data:=.seq its.toArray n }
 |.tup xs=>xs.length≤sizeLine∧∃its:List Value,Vals xs its∧IsTup h a its.toArray
 |.dK kvs=>kvs.length≤sizeLine∧(a==sysModules)=false∧∃vs,KV kvs vs∧h.DictOf (bK P w) a vs
 |.dT kvs=>kvs.length≤sizeLine∧(a==sysModules)=false∧∃xs:List (List Key×Addr×Value),
   Paired (fun(p:List Key×V) (q:List Key×Addr×Value)=>p.1=q.1∧H q.2.1=some (.tup (p.1.map kV))∧RelV p.2 q.2.2) kvs xs∧
   ∃o es ep,h.get? a=some o∧o.ExactDict∧o.data=.dict es ep∧es.toList=xs.map (entryOfKey (tupleKind (bK P w)))∧(xs.map (·.1)).Nodup
 |.set S n=>h.SetOf (intKind P w) a S n
 |.ins C dx fs=>H dx=some (.own a)∧fs.length≤1000∧dx≠a∧h.get? a=some (PySem.W.instObj C dx)∧
   ∃mA,h.Ns1 dx mA∧(∀f,RelO (fs.lookup f) (mA f))∧PySem.Within mA (fs.map (·.1))
 |.own _=>∃o,h.get? a=some o
 |.xd fs=>∃mA,h.Ns1 a mA∧∀f,RelO (fs.lookup f) (mA f)
 |.rng lo hi=>∃t u v,h.get? a=some { cls:=.type "range",data:=.fields #[.int lo t,.int hi u,.int 1 v] }
 |.d8 o u=>h.get? a=some o∧cM H h a u
 |.tbl ps=>h.get? a=some { cls:=.none,data:=.fields ps }
 |.met f x=>h.get? a=some (PySem.W.methodObj (.ref f) (.ref x))
 |.ext φ=>φ h∧(∃o,h.get? a=some o)∧∀h1 h2:Heap,φ h1→(∀o,h1.get? a=some o→h2.get? a=some o)→φ h2
def HOk(H:Hp)(h:Heap):Prop:=∀a o,H a=some o→cM P w H h a o
end
section
variable{P:Program}{w:World}{H H':Hp}{h h':Heap}{a:Addr}{o:HO}
theorem cM.lt(x:cM P w H h a o):a<h.objs.size:=by
 cases o with
 |lst xs=>obtain⟨_,_,_,_,e⟩:=x;exact Heap.lt_size e
 |tup xs=>obtain⟨_,_,_,p⟩:=x;exact p.lt
 |dK kvs=>obtain⟨_,_,_,_,o,_,_,e,_⟩:=x;exact Heap.lt_size e
 |dT kvs=>obtain⟨_,_,_,_,o,_,_,e,_⟩:=x;exact Heap.lt_size e
 |set S n=>obtain⟨o,_,_,_,e,_⟩:=x;exact Heap.lt_size e
 |ins C dx fs=>obtain⟨_,_,_,e,_⟩:=x;exact Heap.lt_size e
 |own y=>obtain⟨_,e⟩:=x;exact Heap.lt_size e
 |xd fs=>obtain⟨_,⟨_,_,_,e,_⟩,_⟩:=x;exact Heap.lt_size e
 |rng lo hi=>obtain⟨_,_,_,e⟩:=x;exact Heap.lt_size e
 |d8 ob u=>obtain⟨e,_⟩:=x;exact Heap.lt_size e
 |tbl ps=>exact Heap.lt_size (show h.get? a=some _ from x)
 |met f y=>exact Heap.lt_size (show h.get? a=some _ from x)
 |ext φ=>obtain⟨_,⟨_,e⟩,_⟩:=x;exact Heap.lt_size e
theorem Paired.mapP{α β:Type}{F G:α→β→Prop}:∀{l₁:List α}{l₂:List β},Paired F l₁ l₂→(∀a b,F a b→G a b)→Paired G l₁ l₂
 |_,_,.nil,_=>.nil
 |_,_,.cons r t,f=>.cons (f _ _ r) (Paired.mapP t f)
theorem cM.stay(x:cM P w H h a o)(k:∀b u,(b=a∨H b=some (.own a))→h.get? b=some u→h'.get? b=some u)
  (ho:∀b,H b=some (.own a)→H' b=some (.own a)) (ht:∀b xs,H b=some (.tup xs)→H' b=some (.tup xs)):cM P w H' h' a o:=by
 induction o with
 |lst xs=>obtain⟨z,its,n,r,e⟩:=x;exact⟨z,its,n,r,k _ _ (.inl rfl) e⟩
 |tup xs=>obtain⟨z,its,r,ob,e,c⟩:=x;exact⟨z,its,r,ob,k _ _ (.inl rfl) e,c⟩
 |dK kvs=>obtain⟨z,y,vs,r,ob,es,ep,e,c⟩:=x;exact⟨z,y,vs,r,ob,es,ep,k _ _ (.inl rfl) e,c⟩
 |dT kvs=>
  obtain⟨z,y,xs,r,ob,es,ep,e,c⟩:=x
  exact⟨z,y,xs,Paired.mapP r fun p q z=>⟨z.1,ht _ _ z.2.1,z.2.2⟩,ob,es,ep,k _ _ (.inl rfl) e,c⟩
 |set S n=>obtain⟨ob,es,ep,t,e,c⟩:=x;exact⟨ob,es,ep,t,k _ _ (.inl rfl) e,c⟩
 |ins C dx fs=>
  obtain⟨d,z,ne,e,mA,⟨od,es,ep,e2,c⟩,r⟩:=x
  exact⟨ho _ d,z,ne,k _ _ (.inl rfl) e,mA,⟨od,es,ep,k _ _ (.inr d) e2,c⟩,r⟩
 |own y=>obtain⟨ob,e⟩:=x;exact⟨ob,k _ _ (.inl rfl) e⟩
 |xd fs=>obtain⟨mA,⟨od,es,ep,e,c⟩,r⟩:=x;exact⟨mA,⟨od,es,ep,k _ _ (.inl rfl) e,c⟩,r⟩
 |rng lo hi=>obtain⟨t,u,v,e⟩:=x;exact⟨t,u,v,k _ _ (.inl rfl) e⟩
 |d8 ob u ih=>obtain⟨e,q⟩:=x;exact⟨k _ _ (.inl rfl) e,ih q⟩
 |tbl ps=>
  have e:h.get? a=some { cls:=.none,data:=.fields ps }:=x
  show h'.get? a=some { cls:=.none,data:=.fields ps }
  exact k a _ (.inl rfl) e
 |met f y=>
  have e:h.get? a=some (PySem.W.methodObj (.ref f) (.ref y)):=x
  show h'.get? a=some (PySem.W.methodObj (.ref f) (.ref y))
  exact k a _ (.inl rfl) e
 |ext φ=>obtain⟨p,⟨o,e⟩,st⟩:=x;exact⟨st _ _ p fun o q=>k _ _ (.inl rfl) q,⟨o,k _ _ (.inl rfl) e⟩,st⟩
theorem HOk.lt(x:HOk P w H h)(e:H a=some o):a<h.objs.size:=(x a o e).lt
theorem HOk.fresh(x:HOk P w H h)(e:h.objs.size≤a):H a=none:=by
 cases q:H a with
 |none=>rfl
 |some u=>exact absurd (Nat.lt_of_lt_of_le (x.lt q) e) (Nat.lt_irrefl _)
theorem HOk.kept(x:HOk P w H h)(k:∀b u,h.get? b=some u→h'.get? b=some u):HOk P w H h':=fun a o e=>
 (x a o e).stay (fun b u _ q=>k b u q) (fun _ q=>q) fun _ _ q=>q
theorem HOk.laid(x:HOk P w H h)(k:∀b u,h.get? b=some u→h'.get? b=some u)(hp:h.objs.size≤a)(new:cM P w (upd H a o) h' a o):HOk P w (upd H a o) h':=fun b u e=>by
 have hn:=x.fresh hp
 by_cases hb:b=a
 ·subst hb;rw[ao]at e;cases e;exact new
 ·rw[aB hb]at e
  exact (x b u e).stay (fun c v _ q=>k c v q) (fun c q=>by rw[aB (aL q hn)];exact q) fun c xs q=>by rw[aB (aL q hn)];exact q
end
def Rd(H:Hp)(a:Addr)(u:HO):Prop:=H a=some u∨∃o,H a=some (.d8 o u)
theorem Rd.of{H:Hp}{a:Addr}{u:HO}(h:H a=some u):Rd H a u:=.inl h
theorem Rd.ok{P:Program}{w:World}{H:Hp}{h:Heap}{a:Addr}{u:HO}(r:Rd H a u)(x:HOk P w H h):cM P w H h a u:=by
 rcases r with r|⟨o,r⟩
 ·exact x a u r
 ·obtain⟨_,q⟩:=x a _ r
  exact q
def Mut:Option HO→Prop
 |some (.lst _)=>True
 |some (.dK _)=>True
 |some (.dT _)=>True
 |some (.set _ _)=>True
 |some (.ins _ _ _)=>True
 |some (.ext _)=>True
 |_=>False
section
variable{P:Program}{w:World}{H:Hp}{h h':Heap}{x e:Addr}{o':HO}
theorem HOk.write(ok:HOk P w H h)(mu:Mut (H x))(he:e=x∨H e=some (.own x))(k:∀b u,b≠e→h.get? b=some u→h'.get? b=some u)(heo:∃u,h'.get? e=some u)
  (new:cM P w (upd H x o') h' x o'):HOk P w (upd H x o') h':=fun b u q=>by
 have nown:∀c y,H c=some (.own y)→c≠x:=fun c y r z=>by subst z;rw[r]at mu;exact mu
 have ntup:∀c xs,H c=some (.tup xs)→c≠x:=fun c xs r z=>by subst z;rw[r]at mu;exact mu
 by_cases hb:b=x
 ·subst hb;rw[ao]at q;cases q;exact new
 ·rw[aB hb]at q
  by_cases hbe:b=e
  ·have q':H b=some (.own x):=by
    rcases he with z|z
    ·exact absurd (hbe.trans z) hb
    ·rw[hbe];exact z
   rw[q]at q';cases q'
   obtain⟨v,hv⟩:=heo
   exact⟨v,by rw[hbe];exact hv⟩
  ·refine (ok b u q).stay (fun c v hc r=>k c v ?_ r) (fun c r=>by rw[aB (nown c b r)];exact r) fun c xs r=>by rw[aB (ntup c xs r)];exact r
   rcases hc with rfl|hc
   ·exact hbe
   ·rintro rfl
    rcases he with z|z
    ·exact nown c b hc z
    ·rw[hc]at z;cases z;exact hb rfl
end
structure Un(fs ex:List Addr)(H H':Hp)(h h':Heap):Prop where
 keep:∀b o,h.get? b=some o→H b=none→b∉fs→b∉ex→h'.get? b=some o
 slot:∀b o,h.get? b=some o→H b=none→b∈fs→b∉ex→∃sl,h'.get? b=some { o with slots:=sl }
 free:∀b o,h.get? b=some o→H b=none→b∉ex→H' b=none
 there:∀b o,h.get? b=some o→b∉ex→∃o',h'.get? b=some o'
 tups:∀b xs,H b=some (.tup xs)→H' b=some (.tup xs)
 frzs:∀b o u,H b=some (.d8 o u)→H' b=some (.d8 o u)
 tbls:∀b ps,H b=some (.tbl ps)→∃more,H' b=some (.tbl (ps++more))
section
variable{fs fs' ex ex':List Addr}{H H1 H2:Hp}{h h1 h2 h':Heap}{a x e:Addr}{o:HO}
theorem Un.any(u:Un fs ex H H1 h h1){b:Addr}{ob:Obj}(q:h.get? b=some ob)(n:H b=none)(hx:b∉ex):∃sl,h1.get? b=some { ob with slots:=sl }:=by
 by_cases hb:b∈fs
 ·exact u.slot b ob q n hb hx
 ·exact⟨ob.slots,u.keep b ob q n hb hx⟩
theorem Un.kept(k:∀b u,h.get? b=some u→h'.get? b=some u):Un fs ex H H h h':=
 ⟨fun b ob q _ _ _=>k b ob q,fun b ob q _ _ _=>⟨ob.slots,k b ob q⟩,fun _ _ _ n _=>n,fun b ob q _=>⟨ob,k b ob q⟩,fun _ _ q=>q,fun _ _ _ q=>q,fun _ ps q=>⟨#[],by rw[q];simp⟩⟩
theorem Un.refl:Un fs ex H H h h:=Un.kept fun _ _ q=>q
theorem Un.laid(k:∀b u,h.get? b=some u→h'.get? b=some u)(hp:h.objs.size≤a)(hn:H a=none):Un fs ex H (upd H a o) h h' where
 keep:=fun b u q _ _ _=>k b u q
 slot:=fun b u q _ _ _=>⟨u.slots,k b u q⟩
 free:=fun b u q n _=>by rw[aB (Nat.ne_of_lt (Nat.lt_of_lt_of_le (Heap.lt_size q) hp))];exact n
 there:=fun b u q _=>⟨u,k b u q⟩
 tups:=fun b xs q=>by rw[aB (aL q hn)];exact q
 frzs:=fun b u xs q=>by rw[aB (aL q hn)];exact q
 tbls:=fun b ps q=>⟨#[],by rw[aB (aL q hn),q];simp⟩
theorem Un.write(mu:Mut (H x))(he:e=x∨H e=some (.own x))(k:∀b u,b≠e→h.get? b=some u→h'.get? b=some u)(heo:∃u,h'.get? e=some u):Un fs ex H (upd H x o) h h':=by
 have hx:∀b,H b=none→b≠x:=fun b n z=>by subst z;rw[n]at mu;exact mu
 have hb:∀b,H b=none→b≠e:=fun b n z=>by
  subst z
  rcases he with r|r
  ·exact hx b n r
  ·rw[n]at r;cases r
 have hm:∀b u,H b=some u→¬Mut (some u)→b≠x:=fun b u q nm z=>by subst z;rw[q]at mu;exact nm mu
 refine⟨fun b u q n _ _=>k b u (hb b n) q,fun b u q n _ _=>⟨u.slots,k b u (hb b n) q⟩,fun b u q n _=>by rw[aB (hx b n)];exact n,fun b u q _=>?_,
  fun b xs q=>by rw[aB (hm b _ q fun z=>z)];exact q,fun b u xs q=>by rw[aB (hm b _ q fun z=>z)];exact q,fun b ps q=>⟨#[],by rw[aB (hm b _ q fun z=>z),q];simp⟩⟩
 by_cases hbe:b=e
 ·subst hbe;exact heo
 ·exact⟨u,k b u hbe q⟩
end
def trk(h:Heap)(H:Hp):List Addr:=(List.range h.objs.size).filter fun a=>(H a).isSome
def hidT(h:Heap)(H:Hp):Heap:=PySem.W.hideAll h (trk h H)
theorem hidT_size(h:Heap)(H:Hp):(hidT h H).objs.size=h.objs.size:=PySem.W.hideAll_size _ _
theorem hidT_get{h:Heap}{H:Hp}{b:Addr}{o:Obj}(e:h.get? b=some o)(n:H b=none):(hidT h H).get? b=some o:=
 PySem.W.hideAll_get _ e fun hm=>by
  have q:(H b).isSome=true:=(List.mem_filter.mp hm).2
  rw[n]at q;simp at q
theorem of_hidT{h:Heap}{H:Hp}{b:Addr}{o:Obj}(e:(hidT h H).get? b=some o):h.get? b=some o∧H b=none:=by
 have e':h.get? b=some o:=PySem.W.of_hideAll (trk h H) e
 refine⟨e',?_⟩
 cases q:H b with
 |none=>rfl
 |some x=>
  have hm:b∈trk h H:=List.mem_filter.mpr ⟨List.mem_range.mpr (Heap.lt_size e'),by simp[q]⟩
  have z:(hidT h H).get? b=none:=PySem.W.hideAll_none (trk h H) hm
  rw[z]at e;cases e
def allNews(g h:Heap)(L:Addr):List (Addr×Obj):=(List.range h.objs.size).filterMap fun a=>if a=L∨(g.get? a).isSome=true then none else(h.get? a).map fun o=>(a,o)
theorem mem_allNews{g h:Heap}{L a:Addr}{o:Obj}(h1:a≠L)(h2:g.get? a=none)(h3:h.get? a=some o):(a,o)∈allNews g h L:=
 List.mem_filterMap.mpr ⟨a,List.mem_range.mpr (Heap.lt_size h3),by simp[h1,h2,h3]⟩
theorem of_mem_allNews{g h:Heap}{L:Addr}{p:Addr×Obj}(hp:p∈allNews g h L):p.1≠L∧g.get? p.1=none∧h.get? p.1=some p.2:=by
 obtain⟨b,_,e⟩:=List.mem_filterMap.mp hp
 split at e
 ·cases e
 ·rename_i hn
  cases q:h.get? b with
  |none=>rw[q]at e;simp at e
  |some u=>
   rw[q]at e
   simp only[Option.map_some,Option.some.injEq]at e
   subst e
   refine⟨fun z=>hn (.inl z),?_,q⟩
   show g.get? b=none
   cases r:g.get? b with
   |none=>rfl
   |some v=>exact (hn (.inr (by simp[r]))).elim
theorem news_all{g h:Heap}{L:Addr}:News g L h (allNews g h L):=fun p hp=>let⟨a,b,c⟩:=of_mem_allNews hp;⟨c,a,b⟩
end L2
namespace L2
open PySem PySem.Spec PyProof.Rows
structure Mod(K:PySem.W.Frag)(mg:Str→Option Value)(base:Heap):Prop where
 kin:K.In base
 glob:base.Ns mainGlobals mg
 blt:∃mb,base.Ns builtinsNs mb∧∀x:Str,x≠"__name__"→mb x=bootBuiltins x
 nolimit:base.NoLimit
structure Cx where
 prog:Program
 w:World
 K:PySem.W.Frag
 mg:Str→Option Value
 base:Heap
 A:Around
 N:List Str
 s_0:Shared
 H_0:Hp
 env:Env
 outer:List Env
 stack:List Env
 ex:List Addr
 fn:Str→Bool
 calm:Bool
 pn:List (Addr×Obj)
 xe:Value→Shared→Prop
def frs(l:List Env):List Addr:=l.filterMap (·.frame)
abbrev Cx.fs(X:Cx):List Addr:=frs X.outer
def Vis(sc:Scope)(x:Str):Prop:=sc.names.lookup x=some .local∨sc.names.lookup x=some .cell∨sc.names.lookup x=some .free
def Loc(sc:Scope)(x:Str):Prop:=sc.names.lookup x=some .local∨sc.names.lookup x=some .cell
def Look(env:Env)(h:Heap)(m:Str→Option Value)(x:Str)(u:Value):Prop:=
 (env.kindOf x=some .local∧m x=some u)∨((env.kindOf x=some .cell∨env.kindOf x=some .free)∧∃c,env.cells.lookup x=some c∧h.IsCell c (some u))
structure Cx.Ok(X:Cx):Prop where
 mod:Mod X.K X.mg X.base
 kind:X.env.scope.kind=.function
 glob:X.env.globals=mainGlobals
 blt:X.env.builtins=builtinsNs
 above:X.s_0.heap.objs.size≤X.env.locals
 inj:∀x y c,X.env.cells.lookup x=some c→X.env.cells.lookup y=some c→x=y
 has:∀x,(X.env.kindOf x=some .cell∨X.env.kindOf x=some .free)→∃c,X.env.cells.lookup x=some c
 cab:∀x c,X.fn x=true→X.env.cells.lookup x=some c→X.s_0.heap.objs.size≤c
 hd:X.calm=true→X.A.handled=none
 frames:X.A.frames=some X.stack
 stk:X.stack=X.outer∨(X.stack=X.env::X.outer∧X.env.frame=some X.env.locals)
 exf:∀b∈X.ex,b≠X.env.locals∧∀x c,X.env.cells.lookup x=some c→c≠b
 bs:∀b o,X.base.get? b=some o→X.s_0.heap.get? b=some o∧X.H_0 b=none
 bsz:X.base.objs.size≤X.s_0.heap.objs.size
 noex:∀b o,X.base.get? b=some o→b∉X.ex
 exfs:∀b∈X.ex,b∉X.fs
 funs:X.s_0.heap.FunFrames X.base X.outer
 frf:∀b∈X.fs,X.H_0 b=none
structure Inv(X:Cx)(pins:List (Addr×Obj))(σ:List (Option V))(H:Hp)(s:Shared):Prop where
 ok:X.Ok
 os:s.os=X.s_0.os
 bare:AllBare s.gens
 base:Un X.fs X.ex X.H_0 H X.s_0.heap s.heap
 loc:∃m,s.heap.Ns X.env.locals m∧∀(i:Nat) (x:Str) (v:V),X.N[i]?=some x→σ[i]?=some (some v)→Vis X.env.scope x→∃u,RelV v u∧Look X.env s.heap m x u
 cell:∀x c,X.env.cells.lookup x=some c→∃v,s.heap.IsCell c v
 free:H X.env.locals=none
 mj:∀x c,X.env.cells.lookup x=some c→H c=none
 pin:∀p∈X.pn++pins,s.heap.get? p.1=some p.2∧H p.1=none∧p.1≠X.env.locals∧p.1∉X.fs∧∀v,p.2.data≠.cell v
 hok:HOk X.prog X.w H s.heap
 len:σ.length=X.N.length
section
variable{X:Cx}{pins:List (Addr×Obj)}{σ:List (Option V)}{H H':Hp}{s:Shared}{h':Heap}
theorem Cx.Ok.nofr(ok:X.Ok){b:Addr}{o:Obj}(e:X.base.get? b=some o):b∉X.fs:=fun hb=>by
 have:=(ok.funs.mem hb).1
 rw[e]at this;cases this
theorem Inv.bs(I:Inv X pins σ H s):∀b o,X.base.get? b=some o→s.heap.get? b=some o∧H b=none:=fun b o e=>
 ⟨I.base.keep b o (I.ok.bs b o e).1 (I.ok.bs b o e).2 (I.ok.nofr e) (I.ok.noex b o e),I.base.free b o (I.ok.bs b o e).1 (I.ok.bs b o e).2 (I.ok.noex b o e)⟩
theorem Inv.bk(I:Inv X pins σ H s):∀b o,X.base.get? b=some o→s.heap.get? b=some o:=fun b o e=>(I.bs b o e).1
theorem Inv.mod(I:Inv X pins σ H s):Mod X.K X.mg X.base:=I.ok.mod
theorem Inv.kIn(I:Inv X pins σ H s):X.K.In s.heap:=I.ok.mod.kin.keeps I.bk
theorem Inv.fr(I:Inv X pins σ H s):∃m,Fr X.base X.env.locals s.heap m:=
 let⟨m,hn,_⟩:=I.loc
 ⟨m,hn,I.bk,Nat.le_trans I.ok.bsz I.ok.above⟩
theorem Inv.lt(I:Inv X pins σ H s):X.env.locals<s.heap.objs.size:=let⟨_,hn,_⟩:=I.loc;hn.lt
theorem Inv.sz(I:Inv X pins σ H s):X.s_0.heap.objs.size≤s.heap.objs.size:=Nat.le_trans I.ok.above (Nat.le_of_lt I.lt)
theorem Inv.nofs(I:Inv X pins σ H s){a:Addr}(h:s.heap.objs.size≤a):a∉X.fs:=fun hb=>by
 obtain⟨_,o,ho,_⟩:=I.ok.funs.mem hb
 exact absurd (Nat.lt_of_lt_of_le (Heap.lt_size ho) (Nat.le_trans I.sz h)) (Nat.lt_irrefl _)
theorem Inv.cne(I:Inv X pins σ H s):∀x c,X.env.cells.lookup x=some c→c≠X.env.locals:=fun x c e z=>by
 obtain⟨v,o,ho,hd⟩:=I.cell x c e
 obtain⟨m,⟨o',es,ep,ho',hd',_⟩,_⟩:=I.loc
 rw[z,ho']at ho;cases ho;rw[hd']at hd;cases hd
theorem Inv.funs(I:Inv X pins σ H s):s.heap.FunFrames X.base X.outer:=by
 have all:∀(l:List Env),(∀b∈frs l,b∈X.fs)→X.s_0.heap.FunFrames X.base l→s.heap.FunFrames X.base l:=by
  intro l
  induction l with
  |nil=>intro _ _;trivial
  |cons env r ih=>
   intro hs hl
   obtain⟨hk,⟨L,o,hf,hn,ho,hd⟩,hr⟩:=hl
   have hL:L∈X.fs:=hs L (by unfold frs;rw[List.filterMap_cons,hf];exact List.mem_cons_self)
   obtain⟨sl,e⟩:=I.base.slot L o ho (I.ok.frf L hL) hL fun z=>I.ok.exfs L z hL
   exact⟨hk,⟨L,_,hf,hn,e,hd⟩,ih (fun b hb=>hs b (by unfold frs;rw[List.filterMap_cons,hf];exact List.mem_cons_of_mem _ hb)) hr⟩
 exact all X.outer (fun _ hb=>hb) I.ok.funs
theorem Inv.stack(I:Inv X pins σ H s):s.heap.FunFrames X.base X.stack:=by
 rcases I.ok.stk with e|⟨e,hf⟩
 ·rw[e];exact I.funs
 ·rw[e]
  obtain⟨m,hn,_⟩:=I.loc
  refine .cons (by rw[I.ok.kind];decide) hf hn ?_ I.funs
  exact Heap.get?_none_of_le (Nat.le_trans I.ok.bsz I.ok.above)
theorem Inv.stkSub(I:Inv X pins σ H s):∀b∈frs X.stack,b∈X.env.locals::X.fs:=fun b hb=>by
 rcases I.ok.stk with e|⟨e,hf⟩
 ·rw[e]at hb;exact List.mem_cons_of_mem _ hb
 ·rw[e]at hb
  unfold frs at hb
  rw[List.filterMap_cons,hf]at hb
  exact hb
theorem Inv.stkFree(I:Inv X pins σ H s):∀b∈frs X.stack,H b=none:=fun b hb=>by
 rcases List.mem_cons.mp (I.stkSub b hb)with e|hb
 ·rw[e];exact I.free
 ·obtain⟨_,o,ho,_⟩:=I.ok.funs.mem hb
  exact I.base.free b o ho (I.ok.frf b hb) fun z=>I.ok.exfs b z hb
theorem Inv.step{g':Array GenState}{t':Nat}{d':Drawn}{ch:List Addr}(I:Inv X pins σ H s)
  (hch:∀b∈ch,(b∈X.ex∨X.s_0.heap.objs.size≤b)∧b≠X.env.locals∧(∀x c,X.env.cells.lookup x=some c→c≠b)∧∀p∈X.pn++pins,p.1≠b)
  (keep:∀b o,b≠X.env.locals→b∉X.fs→b∉ch→s.heap.get? b=some o→H b=none→h'.get? b=some o)
  (slot:∀b o,b≠X.env.locals→b∈X.fs→b∉ch→s.heap.get? b=some o→H b=none→∃sl,h'.get? b=some { o with slots:=sl }) (free:∀b o,b∉ch→s.heap.get? b=some o→H b=none→H' b=none)
  (there:∀b o,b∉ch→s.heap.get? b=some o→∃o',h'.get? b=some o')
  (tups:∀b xs,H b=some (.tup xs)→H' b=some (.tup xs)) (frzs:∀b o u,H b=some (.d8 o u)→H' b=some (.d8 o u)) (tbls:∀b ps,H b=some (.tbl ps)→∃more,H' b=some (.tbl (ps++more)))
  (ns:∀m,s.heap.Ns X.env.locals m→h'.Ns X.env.locals m) (hok:HOk X.prog X.w H' h') (hg:AllBare g'):
  Inv X pins σ H' { s with heap:=h',gens:=g',drawn:=d',toks:=t' }:=by
 have neL:∀b o,X.s_0.heap.get? b=some o→b≠X.env.locals:=fun b o e=>Nat.ne_of_lt (Nat.lt_of_lt_of_le (Heap.lt_size e) I.ok.above)
 have neC:∀b o,X.s_0.heap.get? b=some o→b∉X.ex→b∉ch:=fun b o e hx hb=>by
  rcases (hch b hb).1 with z|z
  ·exact hx z
  ·exact absurd (Nat.lt_of_lt_of_le (Heap.lt_size e) z) (Nat.lt_irrefl _)
 have cellK:∀x c,X.env.cells.lookup x=some c→∀v,s.heap.IsCell c v→h'.IsCell c v:=fun x c e v ⟨o,ho,hd⟩=>by
  have nch:c∉ch:=fun z=>(hch c z).2.2.1 x c e rfl
  by_cases hc:c∈X.fs
  ·obtain⟨sl,q⟩:=slot c o (I.cne x c e) hc nch ho (I.mj x c e)
   exact⟨_,q,hd⟩
  ·exact⟨o,keep c o (I.cne x c e) hc nch ho (I.mj x c e),hd⟩
 refine⟨I.ok,I.os,hg,⟨fun b o e n hb hx=>?_,fun b o e n hb hx=>?_,fun b o e n hx=>?_,fun b o e hx=>?_,fun b xs e=>tups b xs (I.base.tups b xs e),fun b o xs e=>frzs b o xs (I.base.frzs b o xs e),fun b ps e=>?_⟩,?_,fun x c e=>?_,?_,fun x c e=>?_,fun p hp=>?_,hok,I.len⟩
 ·exact keep b o (neL b o e) hb (neC b o e hx) (I.base.keep b o e n hb hx) (I.base.free b o e n hx)
 ·obtain⟨sl,e1⟩:=I.base.slot b o e n hb hx
  obtain⟨sl',e2⟩:=slot b _ (neL b o e) hb (neC b o e hx) e1 (I.base.free b o e n hx)
  exact⟨sl',e2⟩
 ·obtain⟨o',e1⟩:=I.base.there b o e hx
  exact free b o' (neC b o e hx) e1 (I.base.free b o e n hx)
 ·obtain⟨o',e1⟩:=I.base.there b o e hx
  exact there b o' (neC b o e hx) e1
 ·obtain⟨m1,e1⟩:=I.base.tbls b ps e
  obtain⟨m2,e2⟩:=tbls b _ e1
  exact⟨m1++m2,by rw[e2,Array.append_assoc]⟩
 ·obtain⟨m,hn,hl⟩:=I.loc
  refine⟨m,ns m hn,fun i x v e1 e2 e3=>?_⟩
  obtain⟨u,r,l⟩:=hl i x v e1 e2 e3
  refine⟨u,r,?_⟩
  rcases l with l|⟨k,c,e,z⟩
  ·exact .inl l
  ·exact .inr ⟨k,c,e,cellK x c e _ z⟩
 ·obtain⟨v,z⟩:=I.cell x c e
  exact⟨v,cellK x c e v z⟩
 ·obtain⟨m,⟨o,_,_,ho,_⟩,_⟩:=I.loc
  exact free _ o (fun z=>(hch _ z).2.1 rfl) ho I.free
 ·obtain⟨v,o,ho,hd⟩:=I.cell x c e
  exact free c o (fun z=>(hch c z).2.2.1 x c e rfl) ho (I.mj x c e)
 ·obtain⟨e,n,ne,nf,d⟩:=I.pin p hp
  have nch:p.1∉ch:=fun z=>(hch p.1 z).2.2.2 p hp rfl
  exact⟨keep p.1 p.2 ne nf nch e n,free p.1 p.2 nch e n,ne,nf,d⟩
theorem Inv.un{t':Nat}(I:Inv X pins σ H s)(u:Un X.fs [] H H' s.heap h')(hok:HOk X.prog X.w H' h'):Inv X pins σ H' { s with heap:=h',toks:=t' }:=by
 obtain⟨m,⟨o,es,ep,ho,r⟩,_⟩:=id I.loc
 obtain⟨sl,hL⟩:=u.any ho I.free (by simp)
 exact I.step (g':=s.gens) (d':=s.drawn) (ch:=[]) (fun _ z=>nomatch z) (fun b o _ hb _ e n=>u.keep b o e n hb (by simp)) (fun b o _ hb _ e n=>u.slot b o e n hb (by simp)) (fun b o _ e n=>u.free b o e n (by simp)) (fun b o _ e=>u.there b o e (by simp)) u.tups u.frzs u.tbls (fun m' hm=>by
  obtain⟨o',es',ep',ho',r'⟩:=hm
  rw[ho]at ho';cases ho'
  exact⟨_,es',ep',hL,r'⟩) hok I.bare
theorem Inv.call{g':Array GenState}{t':Nat}{d':Drawn}{ch:List Addr}(I:Inv X pins σ H s)(u:Un (frs X.stack) ch H H' s.heap h')(hok:HOk X.prog X.w H' h')(hg:AllBare g')
  (hch:∀b∈ch,(b∈X.ex∨X.s_0.heap.objs.size≤b)∧b≠X.env.locals∧(∀x c,X.env.cells.lookup x=some c→c≠b)∧∀p∈X.pn++pins,p.1≠b):
  Inv X pins σ H' { s with heap:=h',gens:=g',drawn:=d',toks:=t' }:=by
 obtain⟨m,⟨o,es,ep,ho,r⟩,_⟩:=id I.loc
 obtain⟨sl,hL⟩:=u.any ho I.free fun z=>(hch _ z).2.1 rfl
 exact I.step (ch:=ch) hch (fun b o hL hb hc e n=>u.keep b o e n (fun z=>(List.mem_cons.mp (I.stkSub b z)).elim hL hb) hc) (fun b o _ _ hc e n=>u.any e n hc) (fun b o hc e n=>u.free b o e n hc) (fun b o hc e=>u.there b o e hc) u.tups u.frzs u.tbls (fun m' hm=>by
  obtain⟨o',es',ep',ho',r'⟩:=hm
  rw[ho]at ho';cases ho'
  exact⟨_,es',ep',hL,r'⟩) hok hg
theorem Inv.turned{t':Nat}{it:Addr}(I:Inv X pins σ H s)(k:∀b o,b≠it→s.heap.get? b=some o→h'.get? b=some o)(hn:H it=none)(hL:it≠X.env.locals)
  (h1:it∈X.ex∨X.s_0.heap.objs.size≤it) (h2:∀x c,X.env.cells.lookup x=some c→c≠it) (h3:∀p∈X.pn++pins,p.1≠it):Inv X pins σ H { s with heap:=h',toks:=t' }:=by
 have nit:∀b u,H b=some u→b≠it:=fun b u e z=>by rw[z,hn]at e;cases e
 refine I.step (g':=s.gens) (d':=s.drawn) (ch:=[it]) (fun b hb=>?_) (fun b o _ _ hc e _=>k b o (fun z=>hc (by simp[z])) e) (fun b o _ _ hc e _=>⟨o.slots,k b o (fun z=>hc (by simp[z])) e⟩) (fun _ _ _ _ n=>n)
  (fun b o hc e=>⟨o,k b o (fun z=>hc (by simp[z])) e⟩) (fun _ _ e=>e) (fun _ _ _ e=>e) (fun b ps e=>⟨#[],by rw[e];simp⟩) (fun m hm=>?_) (fun b u e=>?_) I.bare
 ·have e:b=it:=by simpa using hb
  subst e
  exact⟨h1,hL,h2,h3⟩
 ·obtain⟨o,es,ep,ho,r⟩:=hm
  exact⟨o,es,ep,k _ o (Ne.symm hL) ho,r⟩
 ·refine (I.hok b u e).stay (fun c v hc q=>k c v ?_ q) (fun _ q=>q) fun _ _ q=>q
  rcases hc with z|z
  ·rw[z];exact nit b u e
  ·exact nit c _ z
theorem Inv.tok(I:Inv X pins σ H s)(t:Nat):Inv X pins σ H { s with toks:=t }:=I.un (h':=s.heap) (t':=t) Un.refl I.hok
theorem Inv.kept{t':Nat}(I:Inv X pins σ H s)(k:∀b u,s.heap.get? b=some u→h'.get? b=some u):Inv X pins σ H { s with heap:=h',toks:=t' }:=I.un (Un.kept k) (I.hok.kept k)
theorem Inv.laid{a:Addr}{o:HO}{t':Nat}(I:Inv X pins σ H s)(k:∀b u,s.heap.get? b=some u→h'.get? b=some u)(hp:s.heap.objs.size≤a)(new:cM X.prog X.w (upd H a o) h' a o):
  Inv X pins σ (upd H a o) { s with heap:=h',toks:=t' }:=I.un (Un.laid k hp (I.hok.fresh hp)) (I.hok.laid k hp new)
theorem Inv.write{x e:Addr}{o:HO}{t':Nat}(I:Inv X pins σ H s)(mu:Mut (H x))(he:e=x∨H e=some (.own x))(k:∀b u,b≠e→s.heap.get? b=some u→h'.get? b=some u)(heo:∃u,h'.get? e=some u)
  (new:cM X.prog X.w (upd H x o) h' x o):Inv X pins σ (upd H x o) { s with heap:=h',toks:=t' }:=I.un (Un.write mu he k heo) (I.hok.write mu he k heo new)
theorem Inv.weak{σ':List (Option V)}(I:Inv X pins σ H s)(hl:σ'.length=σ.length)(w:∀(i:Nat) v,σ'[i]?=some (some v)→σ[i]?=some (some v)):Inv X pins σ' H s:=
 ⟨I.ok,I.os,I.bare,I.base,let⟨m,hn,hl'⟩:=I.loc;⟨m,hn,fun i x v e1 e2 e3=>hl' i x v e1 (w i v e2) e3⟩,I.cell,I.free,I.mj,I.pin,I.hok,hl.trans I.len⟩
theorem Inv.pins_of{pins':List (Addr×Obj)}(I:Inv X pins σ H s)(h:∀p∈pins',s.heap.get? p.1=some p.2∧H p.1=none∧p.1≠X.env.locals∧p.1∉X.fs∧∀v,p.2.data≠.cell v):Inv X pins' σ H s:=
 ⟨I.ok,I.os,I.bare,I.base,I.loc,I.cell,I.free,I.mj,fun p hp=>(List.mem_append.mp hp).elim (fun z=>I.pin p (List.mem_append_left _ z)) (h p),I.hok,I.len⟩
theorem nodup_ix{N:List Str}(hN:N.Nodup){i j:Nat}{x:Str}(a:N[i]?=some x)(b:N[j]?=some x):i=j:=by
 obtain⟨h1,e1⟩:=List.getElem?_eq_some_iff.mp a
 obtain⟨h2,e2⟩:=List.getElem?_eq_some_iff.mp b
 exact (List.getElem_inj hN).mp (e1.trans e2.symm)
theorem store_ok2{M:Model}{A:Around}{E:Value→Shared→Prop}{i:Nat}{x:Str}{v:V}{u:Value}{Q:Unit→Shared→Prop}(I:Inv X pins σ H s)(hN:X.N.Nodup)(hi:X.N[i]?=some x)(hx:Loc X.env.scope x)(r:RelV v u)
  (h:∀s',Inv X pins (σ.set i (some v)) H s'→(∃a,Heap.SameBut a s.heap s'.heap∧(a=X.env.locals∨X.env.cells.lookup x=some a))→Q () s') (hf:X.fn x=true∨X.env.scope.names.lookup x=some .local:=by first|exact .inl rfl|exact .inr rfl|assumption):wpAny M A (storeName X.env x u) Q E s:=by
 obtain⟨m,hn,hl⟩:=id I.loc
 have hcls:(X.env.scope.kind==.class||(X.env.scope.kind==.module&&X.env.locals != X.env.globals))=false:=by rw[I.ok.kind];rfl
 have hiσ:i<σ.length:=by rw[I.len];exact (List.getElem?_eq_some_iff.mp hi).1
 have cne:=I.cne
 have tracked:∀{a:Addr}{h':Heap},(∃o,s.heap.get? a=some o∧H a=none)→Heap.SameBut a s.heap h'→HOk X.prog X.w H h':=fun{a h'} ha hs b ob e=>by
  obtain⟨_,_,hfree⟩:=ha
  refine (I.hok b ob e).stay (fun c w' hc q=>(hs.2 c ?_).trans q) (fun _ q=>q) fun _ _ q=>q
  rintro rfl
  rcases hc with rfl|hc
  ·rw[hfree]at e;cases e
  ·rw[hfree]at hc;cases hc
 rcases hx with hk|hk
 ·refine wpAny_storeName_local hk hn (fun h' hn' hs=>?_) hcls
  obtain⟨oL,_,_,hoL,_⟩:=id hn
  refine h _ ⟨I.ok,I.os,I.bare,⟨fun b o e n hb hx=>?_,fun b o e n hb hx=>?_,I.base.free,fun b o e hx=>?_,I.base.tups,I.base.frzs,I.base.tbls⟩,⟨_,hn',fun j y v' e1 e2 e3=>?_⟩,fun y c e=>?_,I.free,I.mj,fun p hp=>?_,tracked ⟨oL,hoL,I.free⟩ hs,by simpa using I.len⟩ ⟨_,hs,.inl rfl⟩
  ·exact (hs.2 b (Nat.ne_of_lt (Nat.lt_of_lt_of_le (Heap.lt_size e) I.ok.above))).trans (I.base.keep b o e n hb hx)
  ·obtain⟨sl,e1⟩:=I.base.slot b o e n hb hx
   exact⟨sl,(hs.2 b (Nat.ne_of_lt (Nat.lt_of_lt_of_le (Heap.lt_size e) I.ok.above))).trans e1⟩
  ·obtain⟨o',e1⟩:=I.base.there b o e hx
   exact⟨o',(hs.2 b (Nat.ne_of_lt (Nat.lt_of_lt_of_le (Heap.lt_size e) I.ok.above))).trans e1⟩
  ·by_cases hj:j=i
   ·subst hj
    rw[hi]at e1;cases e1
    rw[List.getElem?_set_self hiσ]at e2
    cases e2
    exact⟨u,r,.inl ⟨hk,by simp⟩⟩
   ·rw[List.getElem?_set_ne (Ne.symm hj)]at e2
    obtain⟨u',r',q⟩:=hl j y v' e1 e2 e3
    refine⟨u',r',?_⟩
    rcases q with⟨k,e⟩|⟨k,c,e,z⟩
    ·refine .inl ⟨k,?_⟩
     have:y≠x:=fun e=>hj (nodup_ix hN e1 (e ▸ hi))
     simp[this,e]
    ·exact .inr ⟨k,c,e,z.sameBut hs (cne y c e)⟩
  ·obtain⟨w',z⟩:=I.cell y c e
   exact⟨w',z.sameBut hs (cne y c e)⟩
  ·obtain⟨e,n,ne,nf,d⟩:=I.pin p hp
   exact⟨(hs.2 p.1 ne).trans e,n,ne,nf,d⟩
 ·have hfn:X.fn x=true:=by
   rcases hf with z|z
   ·exact z
   ·rw[z]at hk;cases hk
  obtain⟨c,hc⟩:=I.ok.has x (.inl hk)
  obtain⟨w',z⟩:=I.cell x c hc
  refine wpAny_storeName_cell I.ok.kind hk hc z (fun h' hc' hs=>?_)
  obtain⟨oc,hoc,hocd⟩:=id z
  refine h { s with heap:=h' } ⟨I.ok,I.os,I.bare,⟨fun b o e n hb hx=>?_,fun b o e n hb hx=>?_,I.base.free,fun b o e hx=>?_,I.base.tups,I.base.frzs,I.base.tbls⟩,⟨m,hn.sameBut hs (Ne.symm (cne x c hc)),fun j y v' e1 e2 e3=>?_⟩,fun y c' e=>?_,I.free,I.mj,fun p hp=>?_,tracked ⟨oc,hoc,I.mj x c hc⟩ hs,by simpa using I.len⟩ ⟨c,hs,.inr hc⟩
  ·exact (hs.2 b (Nat.ne_of_lt (Nat.lt_of_lt_of_le (Heap.lt_size e) (I.ok.cab x c hfn hc)))).trans (I.base.keep b o e n hb hx)
  ·obtain⟨sl,e1⟩:=I.base.slot b o e n hb hx
   exact⟨sl,(hs.2 b (Nat.ne_of_lt (Nat.lt_of_lt_of_le (Heap.lt_size e) (I.ok.cab x c hfn hc)))).trans e1⟩
  ·obtain⟨o',e1⟩:=I.base.there b o e hx
   exact⟨o',(hs.2 b (Nat.ne_of_lt (Nat.lt_of_lt_of_le (Heap.lt_size e) (I.ok.cab x c hfn hc)))).trans e1⟩
  ·by_cases hj:j=i
   ·subst hj
    rw[hi]at e1;cases e1
    rw[List.getElem?_set_self hiσ]at e2
    cases e2
    exact⟨u,r,.inr ⟨.inl hk,c,hc,hc'⟩⟩
   ·rw[List.getElem?_set_ne (Ne.symm hj)]at e2
    obtain⟨u',r',q⟩:=hl j y v' e1 e2 e3
    refine⟨u',r',?_⟩
    rcases q with q|⟨k,c',e,z'⟩
    ·exact .inl q
    ·refine .inr ⟨k,c',e,z'.sameBut hs ?_⟩
     rintro rfl
     exact hj (nodup_ix hN e1 (I.ok.inj _ _ _ e hc ▸ hi))
  ·by_cases hcc:c'=c
   ·subst hcc;exact⟨_,hc'⟩
   ·obtain⟨w2,z2⟩:=I.cell y c' e
    exact⟨w2,z2.sameBut hs hcc⟩
  ·obtain⟨e,n,ne,nf,d⟩:=I.pin p hp
   refine⟨(hs.2 p.1 ?_).trans e,n,ne,nf,d⟩
   intro q
   rw[q,hoc]at e
   have q':oc=p.2:=Option.some.inj e
   exact d w' (by rw[←q'];exact hocd)
theorem store_ok{M:Model}{A:Around}{E:Value→Shared→Prop}{i:Nat}{x:Str}{v:V}{u:Value}{Q:Unit→Shared→Prop}(I:Inv X pins σ H s)(hN:X.N.Nodup)(hi:X.N[i]?=some x)(hx:Loc X.env.scope x)(r:RelV v u)
  (h:∀s',Inv X pins (σ.set i (some v)) H s'→Q () s') (hf:X.fn x=true∨X.env.scope.names.lookup x=some .local:=by first|exact .inl rfl|exact .inr rfl|assumption):wpAny M A (storeName X.env x u) Q E s:=
 store_ok2 I hN hi hx r (fun s' I' _=>h s' I') hf
theorem Inv.call'{s':Shared}{ch:List Addr}(I:Inv X pins σ H s)(ho:s'.os=s.os)(u:Un (frs X.stack) ch H H' s.heap s'.heap)(hok:HOk X.prog X.w H' s'.heap)(hg:AllBare s'.gens)
  (hch:∀b∈ch,(b∈X.ex∨X.s_0.heap.objs.size≤b)∧b≠X.env.locals∧(∀x c,X.env.cells.lookup x=some c→c≠b)∧∀p∈X.pn++pins,p.1≠b):Inv X pins σ H' s':=by
 obtain⟨h',g',d',t',o'⟩:=s'
 have e:o'=s.os:=ho
 subst e
 exact I.call (g':=g') (t':=t') (d':=d') u hok hg hch
end
abbrev XK:=Value→Option Addr→Hp→Prop
abbrev St:=List (Option V)
abbrev VK:=V→Hp→Prop
abbrev TE:=St→Hp→VK→Prop
abbrev TT:=St→Hp→(Bool→Hp→Prop)→Prop
abbrev TA:=St→Hp→(List V→Hp→Prop)→Prop
structure Ends where
 nx:St→Hp→Prop
 rt:VK
 bk:St→Hp→Prop:=fun _ _=>False
 ct:St→Hp→Prop:=fun _ _=>False
abbrev TS:=Ends→St→Hp→Prop
def EP(X:Cx)(pins:List (Addr×Obj))(σ:St)(Q:VK)(u:Value)(s':Shared):Prop:=∃v H',Inv X pins σ H' s'∧RelV v u∧Q v H'
def TP(X:Cx)(pins:List (Addr×Obj))(σ:St)(Q:Bool→Hp→Prop)(b:Bool)(s':Shared):Prop:=∃H',Inv X pins σ H' s'∧Q b H'
def AP(X:Cx)(pins:List (Addr×Obj))(σ:St)(Q:List V→Hp→Prop)(us:List Value)(s':Shared):Prop:=∃vs H',Inv X pins σ H' s'∧Vals vs us∧Q vs H'
def SP(X:Cx)(pins:List (Addr×Obj))(D:Ends)(f:Flow)(s':Shared):Prop:=
 match f with
 |.next=>∃σ' H',Inv X pins σ' H' s'∧D.nx σ' H'
 |.brk=>∃σ' H',Inv X pins σ' H' s'∧D.bk σ' H'
 |.cont=>∃σ' H',Inv X pins σ' H' s'∧D.ct σ' H'
 |.ret u=>∃v σ' H',Inv X pins σ' H' s'∧RelV v u∧D.rt v H'
def PE(X:Cx)(e:Expr)(t:TE):Prop:=
 ∀(pins:List (Addr×Obj)) (s:Shared) (σ:St) (H:Hp) (Q:VK),Inv X pins σ H s→t σ H Q→wpAny (model X.prog X.w) X.A (eval e X.env) (EP X pins σ Q) X.xe s
def PT(X:Cx)(e:Expr)(t:TT):Prop:=
 ∀(pins:List (Addr×Obj)) (s:Shared) (σ:St) (H:Hp) (Q:Bool→Hp→Prop),Inv X pins σ H s→t σ H Q→wpAny (model X.prog X.w) X.A (isTrue e X.env (eval e X.env)) (TP X pins σ Q) X.xe s
def PW(X:Cx)(e:Expr)(t:TT):Prop:=
 ∀(whole:Sem Value) (pins:List (Addr×Obj)) (s:Shared) (σ:St) (H:Hp) (Q:Bool→Hp→Prop),Inv X pins σ H s→t σ H Q→wpAny (model X.prog X.w) X.A (isTrue e X.env whole) (TP X pins σ Q) X.xe s
theorem PW.pt{X:Cx}{e:Expr}{t:TT}(h:PW X e t):PT X e t:=h _
def PA(X:Cx)(es:List Expr)(t:TA):Prop:=
 ∀(pos:Pos) (pins:List (Addr×Obj)) (s:Shared) (σ:St) (H:Hp) (Q:List V→Hp→Prop),Inv X pins σ H s→t σ H Q→wpAny (model X.prog X.w) X.A (spliced (backTo pos (starEach es X.env))) (AP X pins σ Q) X.xe s
def PS(X:Cx)(st:Stmt)(t:TS):Prop:=
 ∀(pins:List (Addr×Obj)) (s:Shared) (σ:St) (H:Hp) (D:Ends),Inv X pins σ H s→t D σ H→wpAny (model X.prog X.w) X.A (exec st X.env) (SP X pins D) X.xe s
def PSs(X:Cx)(st:List Stmt)(t:TS):Prop:=
 ∀(pins:List (Addr×Obj)) (s:Shared) (σ:St) (H:Hp) (D:Ends),Inv X pins σ H s→t D σ H→wpAny (model X.prog X.w) X.A (execs st X.env) (SP X pins D) X.xe s
theorem dw{α:Type}{t:Sem α}{Q Q':α→Shared→Prop}{M:Model}{A:Around}{E:Value→Shared→Prop}{s:Shared}(h:wpAny M A t Q E s)(hQ:∀a s,Q a s→Q' a s):wpAny M A t Q' E s:=wpAny_mono h hQ fun _ _ x=>x
end L2
namespace L2
open PySem PySem.Spec PyProof.Rows
section
variable{X:Cx}
theorem bin{a b:Expr}{ta tb:TE}(ha:PE X a ta)(hb:PE X b tb){pins:List (Addr×Obj)}{s:Shared}{σ:St}{H:Hp}{R:V→V→Hp→Prop}(I:Inv X pins σ H s)(h:ta σ H fun x H1=>tb σ H1 fun y H2=>R x y H2)
  {α:Type}{Q:α→Shared→Prop}{f:Value→Value→Sem α}
  (hf:∀v u s2 x y H2,Inv X pins σ H2 s2→RelV x v→RelV y u→R x y H2→wpAny (model X.prog X.w) X.A (f v u) Q X.xe s2):
  wpAny (model X.prog X.w) X.A (eval a X.env) (fun v s₁=>wpAny (model X.prog X.w) X.A (eval b X.env) (fun u s₂=>wpAny (model X.prog X.w) X.A (f v u) Q X.xe s₂) X.xe s₁) X.xe s:=by
 refine dw (ha pins s σ H _ I h) fun v s1 ⟨x,H1,I1,r1,q1⟩=>?_
 refine dw (hb pins s1 σ H1 _ I1 q1) fun u s2 ⟨y,H2,I2,r2,q2⟩=>?_
 exact hf v u s2 x y H2 I2 r1 r2 q2
def tVar(i:Nat):TE:=fun σ H Q=>∃v,σ[i]?=some (some v)∧Q v H
def tC(v:V):TE:=fun _ H Q=>Q v H
theorem pe_var{i:Nat}{x:Str}{pos:Pos}(hN:X.N[i]?=some x)(hv:Vis X.env.scope x)(hd:(x==("__debug__":Str))=false:=by decide)(hcd:(x==("__classdict__":Str))=false:=by decide):PE X (.Name x pos) (tVar i):=by
 intro pins s σ H Q I h
 obtain⟨v,e,h⟩:=h
 obtain⟨m,hn,hl⟩:=I.loc
 obtain⟨u,r,l⟩:=hl i x v hN e hv
 have fin:EP X pins σ Q u s:=⟨v,H,I,r,h⟩
 rcases l with⟨hk,hm⟩|⟨hk,c,hc,hcell⟩
 ·exact wpAny_Name (wpAny_loadName_local I.ok.kind hk hn hm fin) hd
 ·rcases hk with hk|hk
  ·exact wpAny_Name (wpAny_loadName_cell I.ok.kind hk hc hcell fin) hd
  ·exact wpAny_Name (wpAny_loadName_free I.ok.kind hk hc hcell fin hcd) hd
theorem aH{i j pos}:PE X (.Constant (.int i) j pos) (tC (.int i)):=fun _ _ _ H _ I h=>wpAny_Constant_int ⟨.int i,H,I.tok _,⟨_,rfl⟩,h⟩
theorem pe_bl{b j pos}:PE X (.Constant (.bool b) j pos) (tC (.bl b)):=fun _ _ _ H _ I h=>Constant_bool ⟨.bl b,H,I,rfl,h⟩
theorem pe_non{j pos}:PE X (.Constant .none j pos) (tC .non):=fun _ _ _ H _ I h=>Constant_none ⟨.non,H,I,rfl,h⟩
theorem m8{x j pos}:PE X (.Constant (.str x) j pos) (tC (.str x)):=fun _ _ _ H _ I h=>Calls.Constant_str ⟨.str x,H,I.tok _,⟨_,rfl⟩,h⟩
def Gl(X:Cx)(x:Str):Prop:=X.env.kindOf x=some .globalImplicit
theorem ld_glob{E:Value→Shared→Prop}{pins:List (Addr×Obj)}{s:Shared}{σ:St}{H:Hp}{x:Str}{u:Value}{pos:Pos}{Q:Value→Shared→Prop}(I:Inv X pins σ H s)(hg:Gl X x)(hm:X.mg x=some u)(h:Q u s)
  (hd:(x==("__debug__":Str))=false:=by decide):wpAny (model X.prog X.w) X.A (eval (.Name x pos) X.env) Q E s:=
 Calls.Name_function_global I.ok.kind hg (Calls.loadGlobal_global (by rw[I.ok.glob];exact I.mod.glob.keeps I.bk) hm h) hd
theorem oJ{E:Value→Shared→Prop}{pins:List (Addr×Obj)}{s:Shared}{σ:St}{H:Hp}{x:Str}{u:Value}{pos:Pos}{Q:Value→Shared→Prop}(I:Inv X pins σ H s)(hg:Gl X x)(hm:X.mg x=none)(hv:bootBuiltins x=some u)(h:Q u s)
  (hn:x≠"__name__":=by decide) (hd:(x==("__debug__":Str))=false:=by decide):wpAny (model X.prog X.w) X.A (eval (.Name x pos) X.env) Q E s:=by
 obtain⟨mb,h1,h2⟩:=I.mod.blt
 exact Calls.Name_function_global I.ok.kind hg (Calls.loadGlobal_builtin (by rw[I.ok.glob];exact I.mod.glob.keeps I.bk) hm (by rw[I.ok.blt];exact h1.keeps I.bk) ((h2 x hn).trans hv) h) hd
theorem pe_glob{x:Str}{v:V}{u:Value}{pos:Pos}(hg:Gl X x)(hm:X.mg x=some u)(r:RelV v u)(hd:(x==("__debug__":Str))=false:=by decide):PE X (.Name x pos) (tC v):=
 fun _ _ _ H _ I h=>ld_glob I hg hm ⟨v,H,I,r,h⟩ hd
variable{a b:Expr}{ta tb:TE}{pos:Pos}
def PC(X:Cx)(op:CmpOp)(a b:Expr)(t:TE):Prop:=
 ∀(pins:List (Addr×Obj)) (s:Shared) (σ:St) (H:Hp) (Q:VK),Inv X pins σ H s→t σ H Q→
  wpAny (model X.prog X.w) X.A (eval a X.env) (fun v s₁=>wpAny (model X.prog X.w) X.A (eval b X.env) (fun u s₂=>wpAny (model X.prog X.w) X.A (compareOp op v u) (EP X pins σ Q) X.xe s₂) X.xe s₁) X.xe s
theorem nobehind(b:Expr){op:CmpOp}(h:op≠.In)(h2:op≠.NotIn):behindInMarks op b=false:=by
 have e1:(op==CmpOp.In)=false:=by cases op <;> first|rfl|exact absurd rfl h
 have e2:(op==CmpOp.NotIn)=false:=by cases op <;> first|rfl|exact absurd rfl h2
 cases b <;> simp[behindInMarks,e1,e2]
def tIsN(ta:TE):TE:=fun σ H Q=>ta σ H fun x H1=>Q (.bl (decide (x=.non))) H1
def tNotN(ta:TE):TE:=fun σ H Q=>ta σ H fun x H1=>Q (.bl (!decide (x=.non))) H1
theorem RelV.none_iff{x:V}{v:Value}(r:RelV x v):(v==Value.none)=decide (x=.non):=by
 cases x with
 |non=>cases r;rfl
 |bl _=>cases r;rfl
 |int _=>obtain⟨t,rfl⟩:=r;rfl
 |str _=>obtain⟨t,rfl⟩:=r;rfl
 |byt _=>obtain⟨t,rfl⟩:=r;rfl
 |flt _=>obtain⟨t,rfl⟩:=r;rfl
 |ref _=>cases r;rfl
 |ty _=>cases r;rfl
theorem pc_isN{j pos'}(ha:PE X a ta):PC X .Is a (.Constant .none j pos') (tIsN ta):=by
 intro pins s σ H Q I h
 refine dw (ha pins s σ H _ I h) fun v s1 ⟨x,H1,I1,r1,q1⟩=>?_
 exact Constant_none (is_none_gen ⟨.bl _,H1,I1,by rw[r1.none_iff];rfl,q1⟩)
theorem pc_notN{j pos'}(ha:PE X a ta):PC X .IsNot a (.Constant .none j pos') (tNotN ta):=by
 intro pins s σ H Q I h
 refine dw (ha pins s σ H _ I h) fun v s1 ⟨x,H1,I1,r1,q1⟩=>?_
 exact Constant_none (isnot_none_gen ⟨.bl _,H1,I1,by rw[r1.none_iff];rfl,q1⟩)
def tB(t:TE):TT:=fun σ H Q=>t σ H fun x H1=>∃c,x=.bl c∧Q c H1
theorem pe_cmp{op:CmpOp}{t:TE}(h:PC X op a b t)(h1:behindInMarks op b=false:=by first|exact nobehind _ (by decide) (by decide)|rfl):PE X (.Compare a [op] [b] pos) t:=fun pins s σ H Q I hw=>wpAny_Compare1 (h pins s σ H Q I hw) h1
theorem pt_cmp{op:CmpOp}{t:TE}(h:PC X op a b t)(h1:behindInMarks op b=false:=by first|exact nobehind _ (by decide) (by decide)|rfl):PT X (.Compare a [op] [b] pos) (tB t):=by
 intro pins s σ H Q I hw
 refine wpAny_isTrue_Compare1 (dw (h pins s σ H _ I hw) fun v s1 h1=>dw h1 fun u s2 h2=>dw h2 fun c s3 ⟨x,H1,I1,r1,q1⟩=>?_) h1
 obtain⟨d,rfl,q⟩:=q1
 cases r1
 exact wpAny_truthy_bool ⟨H1,I1,q⟩
theorem d9{e:Expr}{t:TE}(h:PE X e t)(he:∀whole,isTrue e X.env whole=(do let v ←whole;standAt e.pos;holding [v] (truthy v)):=by intro _;rfl):PT X e (tB t):=by
 intro pins s σ H Q I hw
 refine isTrue_plain (dw (h pins s σ H _ I hw) fun v s1 ⟨x,H1,I1,r1,q1⟩=>?_) (he _)
 obtain⟨d,rfl,q⟩:=q1
 cases r1
 exact wpAny_truthy_bool ⟨H1,I1,q⟩
variable{tA tB':TT}{rest:List Expr}
def tAnd(t u:TT):TT:=fun σ H Q=>t σ H fun c H1=>if c=true then u σ H1 Q else Q false H1
def tOr(t u:TT):TT:=fun σ H Q=>t σ H fun c H1=>if c=true then Q true H1 else u σ H1 Q
def tNot(t:TT):TT:=fun σ H Q=>t σ H fun c H1=>Q (!c) H1
theorem pw_and1(ha:PT X a tA):PW X (.BoolOp .And [a] pos) tA:=by
 intro wh pins s σ H Q I h
 refine isTrue_and (dw (ha pins s σ H Q I h) fun c s1 e=>?_)
 cases c with
 |true=>exact isTrue_and_nil e
 |false=>exact e
theorem pw_or1(ha:PT X a tA):PW X (.BoolOp .Or [a] pos) tA:=by
 intro wh pins s σ H Q I h
 refine isTrue_or (dw (ha pins s σ H Q I h) fun c s1 e=>?_)
 cases c with
 |false=>exact isTrue_or_nil e
 |true=>exact e
theorem pw_and(ha:PT X a tA)(hb:PW X (.BoolOp .And (b::rest) pos) tB'):PW X (.BoolOp .And (a::b::rest) pos) (tAnd tA tB'):=by
 intro wh pins s σ H Q I h
 refine isTrue_and (dw (ha pins s σ H _ I h) fun c s1 ⟨H1,I1,q1⟩=>?_)
 cases c with
 |true=>exact hb wh pins s1 σ H1 Q I1 q1
 |false=>exact⟨H1,I1,q1⟩
theorem pw_or(ha:PT X a tA)(hb:PW X (.BoolOp .Or (b::rest) pos) tB'):PW X (.BoolOp .Or (a::b::rest) pos) (tOr tA tB'):=by
 intro wh pins s σ H Q I h
 refine isTrue_or (dw (ha pins s σ H _ I h) fun c s1 ⟨H1,I1,q1⟩=>?_)
 cases c with
 |true=>exact⟨H1,I1,q1⟩
 |false=>exact hb wh pins s1 σ H1 Q I1 q1
theorem oK(ha:PT X a tA):PT X (.UnaryOp .Not a pos) (tNot tA):=by
 intro pins s σ H Q I h
 exact isTrue_not (ha pins s σ H (fun c H1=>Q (!c) H1) I h)
def tAndV(ta tb:TE):TE:=fun σ H Q=>ta σ H fun x H1=>∃c,x=.bl c∧if c=true then tb σ H1 Q else Q (.bl false) H1
def tOrV(ta tb:TE):TE:=fun σ H Q=>ta σ H fun x H1=>∃c,x=.bl c∧if c=true then Q (.bl true) H1 else tb σ H1 Q
def tNotV(ta:TE):TE:=fun σ H Q=>ta σ H fun x H1=>∃c,x=.bl c∧Q (.bl (!c)) H1
theorem pe_one{op}{t:TE}(h:PE X a t):PE X (.BoolOp op [a] pos) t:=fun pins s σ H Q I hw=>BoolOp_one (h pins s σ H Q I hw)
theorem pe_and(ha:PE X a ta)(hb:PE X (.BoolOp .And (b::rest) pos) tb):PE X (.BoolOp .And (a::b::rest) pos) (tAndV ta tb):=by
 intro pins s σ H Q I h
 refine BoolOp_and (dw (ha pins s σ H _ I h) fun v s1 ⟨x,H1,I1,r1,q1⟩=>?_)
 obtain⟨c,rfl,q1⟩:=q1
 cases r1
 refine wpAny_truthy_bool ?_
 cases c with
 |true=>exact hb pins s1 σ H1 Q I1 q1
 |false=>exact⟨.bl false,H1,I1,rfl,q1⟩
theorem pe_or(ha:PE X a ta)(hb:PE X (.BoolOp .Or (b::rest) pos) tb):PE X (.BoolOp .Or (a::b::rest) pos) (tOrV ta tb):=by
 intro pins s σ H Q I h
 refine BoolOp_or (dw (ha pins s σ H _ I h) fun v s1 ⟨x,H1,I1,r1,q1⟩=>?_)
 obtain⟨c,rfl,q1⟩:=q1
 cases r1
 refine wpAny_truthy_bool ?_
 cases c with
 |false=>exact hb pins s1 σ H1 Q I1 q1
 |true=>exact⟨.bl true,H1,I1,rfl,q1⟩
theorem pe_not(ha:PE X a ta):PE X (.UnaryOp .Not a pos) (tNotV ta):=by
 intro pins s σ H Q I h
 refine UnaryOp_ (dw (ha pins s σ H _ I h) fun v s1 ⟨x,H1,I1,r1,q1⟩=>?_)
 obtain⟨c,rfl,q1⟩:=q1
 cases r1
 exact not_of (wpAny_truthy_bool ⟨.bl (!c),H1,I1,rfl,q1⟩)
def tIf(t:TT)(ta tb:TE):TE:=fun σ H Q=>t σ H fun c H1=>if c=true then ta σ H1 Q else tb σ H1 Q
theorem pe_ifExp{c:Expr}(hc:PT X c tA)(ha:PE X a ta)(hb:PE X b tb):PE X (.IfExp c a b pos) (tIf tA ta tb):=by
 intro pins s σ H Q I h
 refine wpAny_IfExp (dw (hc pins s σ H _ I h) fun d s1 ⟨H1,I1,q1⟩=>?_)
 cases d with
 |true=>exact ha pins s1 σ H1 Q I1 q1
 |false=>exact hb pins s1 σ H1 Q I1 q1
end
end L2
namespace L2
open PySem PySem.Spec PyProof.Rows
def bh(K:PySem.W.Frag)(H:Hp)(a:Addr)(xs:List V):Prop:=
 Rd H a (.lst xs)∨
  ∃(o:Obj) (its:Array Value) (n:Nat),K.lookup a=some o∧o.cls=.type "list"∧o.dict=none∧o.data=.seq its n∧its.size≤sizeLine∧Vals xs its.toList
def jh(K:PySem.W.Frag)(H:Hp)(a:Addr)(xs:List V):Prop:=
 Rd H a (.tup xs)∨
  ∃(o:Obj) (its:Array Value) (n:Nat),K.lookup a=some o∧o.cls=.type "tuple"∧o.data=.seq its n∧its.size≤sizeLine∧Vals xs its.toList
def absV:Value→Option V
 |.none=>some .non
 |.bool b=>some (.bl b)
 |.int i _=>some (.int i)
 |.str x _=>some (.str x)
 |.bytes b _=>some (.byt b)
 |.float b _=>some (.flt b)
 |.ref a=>some (.ref a)
 |.type n=>some (.ty n)
 |_=>none
theorem RelV.abs{x:V}{u:Value}(r:RelV x u):absV u=some x:=by
 cases x with
 |non=>cases r;rfl
 |bl _=>cases r;rfl
 |int _=>obtain⟨t,rfl⟩:=r;rfl
 |str _=>obtain⟨t,rfl⟩:=r;rfl
 |byt _=>obtain⟨t,rfl⟩:=r;rfl
 |flt _=>obtain⟨t,rfl⟩:=r;rfl
 |ref _=>cases r;rfl
 |ty _=>cases r;rfl
theorem RelV.inj{x y:V}{u:Value}(r:RelV x u)(q:RelV y u):x=y:=Option.some.inj (r.abs.symm.trans q.abs)
theorem Vals.inj:∀{xs ys:List V}{us:List Value},Vals xs us→Vals ys us→xs=ys
 |_,_,_,.nil,.nil=>rfl
 |_,_,_,.cons r t,.cons r' t'=>by rw[r.inj r',Vals.inj t t']
section
variable{X:Cx}{pins:List (Addr×Obj)}{σ:St}{H:Hp}{s:Shared}{a:Addr}{xs ys:List V}
theorem bh.of{K:PySem.W.Frag}(h:H a=some (.lst xs)):bh K H a xs:=.inl (.inl h)
theorem jh.of{K:PySem.W.Frag}(h:H a=some (.tup xs)):jh K H a xs:=.inl (.inl h)
theorem Inv.list(I:Inv X pins σ H s)(h:bh X.K H a xs):∃its:List Value,Vals xs its∧PlainL s.heap a its.toArray∧xs.length≤sizeLine:=by
 rcases h with h|⟨o,its,n,hk,hc,hd,hs,hz,r⟩
 ·obtain⟨z,its,n,r,e⟩:=h.ok I.hok
  exact⟨its,r,⟨_,n,e,rfl,rfl,rfl⟩,z⟩
 ·refine⟨its.toList,r,⟨o,n,I.kIn a o hk,hc,hd,by simpa using hs⟩,?_⟩
  have e:=r.length
  simp only[Array.length_toList]at e
  omega
theorem Inv.tuple(I:Inv X pins σ H s)(h:jh X.K H a xs):∃its:List Value,Vals xs its∧IsTup s.heap a its.toArray∧xs.length≤sizeLine:=by
 rcases h with h|⟨o,its,n,hk,hc,hs,hz,r⟩
 ·obtain⟨z,its,r,p⟩:=h.ok I.hok
  exact⟨its,r,p,z⟩
 ·refine⟨its.toList,r,⟨o,I.kIn a o hk,hc,n,by simpa using hs⟩,?_⟩
  have e:=r.length
  simp only[Array.length_toList]at e
  omega
theorem Inv.list_inj(I:Inv X pins σ H s)(h:bh X.K H a xs)(h':bh X.K H a ys):xs=ys:=by
 obtain⟨its,r,⟨o,n,e,_,_,d⟩,_⟩:=I.list h
 obtain⟨its',r',⟨o',n',e',_,_,d'⟩,_⟩:=I.list h'
 rw[e]at e';cases e'
 rw[d]at d'
 injection d' with d1 _
 have:its=its':=by simpa using congrArg Array.toList d1
 subst this
 exact r.inj r'
theorem Inv.tuple_inj(I:Inv X pins σ H s)(h:jh X.K H a xs)(h':jh X.K H a ys):xs=ys:=by
 obtain⟨its,r,⟨o,e,_,n,d⟩,_⟩:=I.tuple h
 obtain⟨its',r',⟨o',e',_,n',d'⟩,_⟩:=I.tuple h'
 rw[e]at e';cases e'
 rw[d]at d'
 injection d' with d1 _
 have:its=its':=by simpa using congrArg Array.toList d1
 subst this
 exact r.inj r'
end
abbrev Cx.wish(X:Cx)(E:Value→Shared→Prop):Cx:={ X with xe:=E }
abbrev Cx.nox(X:Cx):Cx:=X.wish fun _ _=>False
theorem Cx.Ok.wish{X:Cx}(ok:X.Ok)(E:Value→Shared→Prop):(X.wish E).Ok:=
 ⟨ok.mod,ok.kind,ok.glob,ok.blt,ok.above,ok.inj,ok.has,ok.cab,ok.hd,ok.frames,ok.stk,ok.exf,ok.bs,ok.bsz,ok.noex,ok.exfs,ok.funs,ok.frf⟩
theorem Cx.Ok.unwish{X:Cx}{E:Value→Shared→Prop}(ok:(X.wish E).Ok):X.Ok:=
 ⟨ok.mod,ok.kind,ok.glob,ok.blt,ok.above,ok.inj,ok.has,ok.cab,ok.hd,ok.frames,ok.stk,ok.exf,ok.bs,ok.bsz,ok.noex,ok.exfs,ok.funs,ok.frf⟩
section
variable{X:Cx}{pins:List (Addr×Obj)}{σ:St}{H:Hp}{s:Shared}{E:Value→Shared→Prop}
theorem Inv.wish(I:Inv X pins σ H s)(E:Value→Shared→Prop):Inv (X.wish E) pins σ H s:=⟨I.ok.wish E,I.os,I.bare,I.base,I.loc,I.cell,I.free,I.mj,I.pin,I.hok,I.len⟩
theorem Inv.unwish(I:Inv (X.wish E) pins σ H s):Inv X pins σ H s:=⟨I.ok.unwish,I.os,I.bare,I.base,I.loc,I.cell,I.free,I.mj,I.pin,I.hok,I.len⟩
theorem SP.unwish{D:Ends}{f:Flow}{s':Shared}(h:SP (X.wish E) pins D f s'):SP X pins D f s':=by
 cases f with
 |next=>obtain⟨σ',H',I,q⟩:=h;exact⟨σ',H',I.unwish,q⟩
 |brk=>obtain⟨σ',H',I,q⟩:=h;exact⟨σ',H',I.unwish,q⟩
 |cont=>obtain⟨σ',H',I,q⟩:=h;exact⟨σ',H',I.unwish,q⟩
 |ret u=>obtain⟨v,σ',H',I,r,q⟩:=h;exact⟨v,σ',H',I.unwish,r,q⟩
theorem PSs.nox{st:List Stmt}{t:TS}(h:PSs X.nox st t):PSs X st t:=fun pins s σ H D I hw=>
 wpAny_mono (h pins s σ H D (I.wish _) hw) (fun _ _ q=>q.unwish) fun _ _ z=>False.elim z
end
section
variable{X:Cx}{st:Stmt}{rest:List Stmt}{t u:TS}{e:Expr}{te:TE}{pos:Pos}
def tNext:TS:=fun D σ H=>D.nx σ H
def tSeq(t u:TS):TS:=fun D σ H=>t { D with nx:=u D } σ H
theorem aM:PSs X [] tNext:=fun _ _ σ H _ I h=>wpAny_execs_nil ⟨σ,H,I,h⟩
theorem aq(h1:PS X st t)(h2:PSs X rest u):PSs X (st::rest) (tSeq t u):=by
 intro pins s σ H D I h
 refine wpAny_execs_cons (dw (h1 pins s σ H { D with nx:=u D } I h) fun f s1 q=>?_)
 cases f with
 |next=>
  obtain⟨σ',H',I',q⟩:=q
  exact h2 pins s1 σ' H' D I' q
 |ret v=>exact q
 |brk=>exact q
 |cont=>exact q
theorem au(h1:PS X st t):PSs X [st] t:=by
 intro pins s σ H D I h
 refine wpAny_execs_cons (dw (h1 pins s σ H D I h) fun f s1 q=>?_)
 cases f with
 |next=>exact wpAny_execs_nil q
 |ret v=>exact q
 |brk=>exact q
 |cont=>exact q
theorem Inv.quiet{pins:List (Addr×Obj)}{σ:St}{H:Hp}{s:Shared}(I:Inv X pins σ H s):interactive X.env=false:=by simp[interactive,I.ok.kind]
def tDrop(te:TE):TS:=fun D σ H=>te σ H fun _ H1=>D.nx σ H1
theorem j8(he:PE X e te)(hs:swapsWith e none pos.line X.env=pure false:=by rfl):PS X (.Expr e pos) (tDrop te):=by
 intro pins s σ H D I h
 exact wpAny_Expr_any (dw (he pins s σ H _ I h) fun v s1 ⟨x,H1,I1,r1,q1⟩=>⟨σ,H1,I1,q1⟩) I.quiet hs
def tRet(te:TE):TS:=fun D σ H=>te σ H D.rt
theorem aD(he:PE X e te):PS X (.Return (some e) pos) (tRet te):=by
 intro pins s σ H D I h
 exact wpAny_Return_some (dw (he pins s σ H _ I h) fun v s1 ⟨x,H1,I1,r1,q1⟩=>⟨x,σ,H1,I1,r1,q1⟩)
def tIfS(c:TT)(t u:TS):TS:=fun D σ H=>c σ H fun b H1=>if b=true then t D σ H1 else u D σ H1
theorem aZ{c:Expr}{a b:List Stmt}{tc:TT}(hc:PT X c tc)(ha:PSs X a t)(hb:PSs X b u):PS X (.If c a b pos) (tIfS tc t u):=by
 intro pins s σ H D I h
 refine wpAny_If (dw (hc pins s σ H _ I h) fun d s1 ⟨H1,I1,q1⟩=>?_)
 cases d with
 |true=>exact ha pins s1 σ H1 D I1 q1
 |false=>exact hb pins s1 σ H1 D I1 q1
end
abbrev TG:=V→St→Hp→(St→Hp→Prop)→Prop
abbrev TGs:=List V→St→Hp→(St→Hp→Prop)→Prop
def PG(X:Cx)(target:Expr)(t:TG):Prop:=
 ∀(pins:List (Addr×Obj)) (s:Shared) (σ:St) (H:Hp) (v:V) (u:Value) (Q:St→Hp→Prop),Inv X pins σ H s→RelV v u→t v σ H Q→
  wpAny (model X.prog X.w) X.A (assign target X.env u) (fun _ s'=>∃σ' H',Inv X pins σ' H' s'∧Q σ' H') X.xe s
def PGs(X:Cx)(ts:List Expr)(t:TGs):Prop:=
 ∀(pins:List (Addr×Obj)) (s:Shared) (σ:St) (H:Hp) (vs:List V) (us:List Value) (Q:St→Hp→Prop),Inv X pins σ H s→Vals vs us→t vs σ H Q→
  wpAny (model X.prog X.w) X.A (assignInOrder ((assignEach ts X.env).map (·.2)) us) (fun _ s'=>∃σ' H',Inv X pins σ' H' s'∧Q σ' H') X.xe s
abbrev TSet:=V→V→V→Hp→(Hp→Prop)→Prop
def PSet(X:Cx)(t:TSet):Prop:=
 ∀(pins:List (Addr×Obj)) (s:Shared) (σ:St) (H:Hp) (o i v:V) (ov iv u:Value) (Q:Hp→Prop),Inv X pins σ H s→RelV o ov→RelV i iv→RelV v u→t o i v H Q→
  wpAny (model X.prog X.w) X.A (setItem ov iv u) (fun _ s'=>∃H',Inv X pins σ H' s'∧Q H') X.xe s
section
variable{X:Cx}{pos:Pos}
def gName(i:Nat):TG:=fun v σ H Q=>Q (σ.set i (some v)) H
theorem aX{i:Nat}{x:Str}(hN:X.N.Nodup)(hi:X.N[i]?=some x)(hx:Loc X.env.scope x)(hf:X.fn x=true∨X.env.scope.names.lookup x=some .local:=by first|exact .inl rfl|exact .inr rfl|assumption):PG X (.Name x pos) (gName i):=by
 intro pins s σ H v u Q I r h
 exact wpAny_assign_Name (store_ok I hN hi hx r (fun s' I'=>⟨_,H,I',h⟩) hf)
def gNil:TGs:=fun vs σ H Q=>vs=[]∧Q σ H
def gCons(t:TG)(u:TGs):TGs:=fun vs σ H Q=>∃v r,vs=v::r∧t v σ H fun σ' H'=>u r σ' H' Q
theorem pgs_nil:PGs X [] gNil:=by
 intro pins s σ H vs us Q I r h
 obtain⟨e,h⟩:=h
 subst e
 cases r
 exact assignInOrder_nil ⟨σ,H,I,h⟩
theorem gQ{e:Expr}{es:List Expr}{t:TG}{u:TGs}(h1:PG X e t)(h2:PGs X es u)
  (hs:(assignEach (e::es) X.env).map (·.2)=assign e X.env::(assignEach es X.env).map (·.2):=by rfl):PGs X (e::es) (gCons t u):=by
 intro pins s σ H vs us Q I r h
 obtain⟨v,vr,e1,h⟩:=h
 subst e1
 cases r with
 |cons r rr=>
  rw[hs]
  refine assignInOrder_cons (dw (h1 pins s σ H _ _ _ I r h) fun _ s1 ⟨σ1,H1,I1,q1⟩=>?_)
  exact h2 pins s1 σ1 H1 _ _ Q I1 rr q1
def gTup(K:PySem.W.Frag)(n:Nat)(t:TGs):TG:=fun v σ H Q=>∃a xs,v=.ref a∧jh K H a xs∧xs.length=n∧t xs σ H Q
theorem pg_tup{es:List Expr}{k:Nat}{t:TGs}{n:Nat}(hc:X.calm=true)(h:PGs X es t)
  (hn:(assignEach es X.env).length=n:=by rfl) (hst:(assignEach es X.env).findIdx? (·.1)=none:=by rfl):PG X (.Tuple es k pos) (gTup X.K n t):=by
 intro pins s σ H v u Q I r hw
 obtain⟨a,xs,e1,hq,hl,hw⟩:=hw
 subst e1
 cases r
 obtain⟨its,rv,ht,hz⟩:=I.tuple hq
 refine assign_Tuple_tuple (I.ok.hd hc) ht (by simp[hn,←hl,rv.length]) hst fun h' hx=>?_
 have I1:Inv X pins σ H { s with heap:=h' }:=I.kept (t':=s.toks) fun b o e=>hx b o (Nat.ne_of_lt (Heap.lt_size e)) e
 exact h pins _ σ H xs _ Q I1 (by simpa using rv) hw
def gSub(to ti:TE)(t:TSet):TG:=fun v σ H Q=>to σ H fun o H1=>ti σ H1 fun i H2=>t o i v H2 fun H3=>Q σ H3
theorem pg_sub{o i:Expr}{to ti:TE}{t:TSet}(ho:PE X o to)(hi:PE X i ti)(hs:PSet X t)
  (ha:∀v,assign (.Subscript o i pos) X.env v=(do
   let ov ←holding [v] (eval o X.env)
   let iv ←holding [v,ov] (eval i X.env)
   standAt pos
   holding [v,ov,iv] (setItem ov iv v)
   release [v,ov,iv] []):=by intro _;rfl):PG X (.Subscript o i pos) (gSub to ti t):=by
 intro pins s σ H v u Q I r h
 rw[ha]
 refine wpAny_bind (wpAny_holding (dw (ho pins s σ H _ I h) fun ov s1 ⟨x,H1,I1,r1,q1⟩=>?_))
 refine wpAny_bind (wpAny_holding (dw (hi pins s1 σ H1 _ I1 q1) fun iv s2 ⟨y,H2,I2,r2,q2⟩=>?_))
 refine wpAny_bind (wpAny_standAt (wpAny_bind (wpAny_holding (dw (hs pins s2 σ H2 x y v ov iv u _ I2 r1 r2 r q2) fun _ s3 ⟨H3,I3,q3⟩=>?_))))
 exact wpAny_release ⟨σ,H3,I3,q3⟩
def tAsg(te:TE)(g:TG):TS:=fun D σ H=>te σ H fun x H1=>g x σ H1 D.nx
theorem ps_asg{tg e:Expr}{te:TE}{g:TG}(he:PE X e te)(hg:PG X tg g)(hs:swapsWithSole [tg] e pos.line X.env=pure false:=by rfl)(hw:swappedStores [tg] e X.env=pure none:=by rfl)
  (h1:(assignEach [tg] X.env).map (·.2)=[assign tg X.env]:=by rfl):PS X (.Assign [tg] e pos) (tAsg te g):=by
 intro pins s σ H D I h
 refine wpAny_Assign_stores (dw (he pins s σ H _ I h) fun v s1 ⟨x,H1,I1,r1,q1⟩=>?_) hs hw
 rw[h1]
 exact dw (hg pins s1 σ H1 x v _ I1 r1 q1) fun _ s2 q=>q
theorem bw{i:Nat}{x:Str}{e:Expr}{te:TE}{pos':Pos}(hN:X.N.Nodup)(hi:X.N[i]?=some x)(hx:Loc X.env.scope x)(he:PE X e te)(hs:swapsWith e (some (.Name x pos')) pos.line X.env=pure false:=by rfl)(hf:X.fn x=true∨X.env.scope.names.lookup x=some .local:=by first|exact .inl rfl|exact .inr rfl|assumption):
  PS X (.Assign [.Name x pos'] e pos) (tAsg te (gName i)):=by
 intro pins s σ H D I h
 refine wpAny_Assign_Name (dw (he pins s σ H _ I h) fun v s1 ⟨y,H1,I1,r1,q1⟩=>?_) hs
 exact store_ok I1 hN hi hx r1 (fun s2 I2=>⟨_,H1,I2,q1⟩) hf
def tWhile(c:TT)(tb:TS):TS:=fun D σ H=>∃W:Nat→St→Hp→Prop,(∃m,W m σ H)∧∀m σ H,W m σ H→
 c σ H fun b H1=>if b=true then ∃N:St→Hp→Prop,(∀σ' H',N σ' H'→∃m',m'<m∧W m' σ' H')∧tb { D with nx:=N,ct:=N,bk:=D.nx } σ H1 else D.nx σ H1
theorem ps_while{c:Expr}{body:List Stmt}{tc:TT}{tb:TS}(hp:PassesOwn (model X.prog X.w) X.A X.env X.xe)(hc:PT X c tc)(hb:PSs X body tb):PS X (.While c body [] pos) (tWhile tc tb):=by
 intro pins s σ H D I h
 obtain⟨W,⟨m0,w0⟩,turn⟩:=h
 refine wpAny_While (codeAny_whileLoop (fun n s'=>∃σ' H',Inv X pins σ' H' s'∧W n σ' H') ?_ m0 ⟨σ,H,I,w0⟩)
 rintro n s1 ⟨σ1,H1,I1,w1⟩
 refine wpAny_passesOwn hp (dw (hc pins s1 σ1 H1 _ I1 (turn n σ1 H1 w1)) fun b s2 ⟨H2,I2,q2⟩=>?_)
 cases b with
 |true=>
  obtain⟨N,hN,q2⟩:=q2
  rw[if_pos rfl]
  refine wpAny_passesOwn hp (dw (hb pins s2 σ1 H2 _ I2 q2) fun f s3 q3=>?_)
  cases f with
  |next=>
   obtain⟨σ3,H3,I3,n3⟩:=q3
   obtain⟨m',hm,w3⟩:=hN σ3 H3 n3
   exact⟨m',hm,σ3,H3,I3,w3⟩
  |cont=>
   obtain⟨σ3,H3,I3,n3⟩:=q3
   obtain⟨m',hm,w3⟩:=hN σ3 H3 n3
   exact⟨m',hm,σ3,H3,I3,w3⟩
  |brk=>exact q3
  |ret v=>exact q3
 |false=>
  rw[if_neg Bool.false_ne_true]
  exact wpAny_execs_nil ⟨σ1,H2,I2,q2⟩
end
structure It where
 go:Nat→Hp→Prop
 yld:Nat→Hp→V→Hp→Prop
 stop:Nat→Hp→Prop
def FpOk(X:Cx)(pins:List (Addr×Obj))(H:Hp)(b:Addr):Prop:=
 H b=none∧b≠X.env.locals∧b∉X.fs∧(b∈X.ex∨X.s_0.heap.objs.size≤b)∧(∀x c,X.env.cells.lookup x=some c→c≠b)∧∀p∈X.pn++pins,p.1≠b
theorem Inv.fpOk{X:Cx}{pins:List (Addr×Obj)}{σ:St}{H H':Hp}{s:Shared}{b:Addr}(I:Inv X pins σ H s)(hb:s.heap.objs.size≤b)(hn:H' b=none):FpOk X pins H' b:=by
 refine⟨hn,Nat.ne_of_gt (Nat.lt_of_lt_of_le I.lt hb),I.nofs hb,.inr (Nat.le_trans I.sz hb),fun x c e z=>?_,fun p hp z=>?_⟩
 ·obtain⟨v,q⟩:=I.cell x c e
  exact absurd (Nat.lt_of_lt_of_le q.lt (by rw[z];exact hb)) (Nat.lt_irrefl _)
 ·exact absurd (Nat.lt_of_lt_of_le (Heap.lt_size (I.pin p hp).1) (by rw[z];exact hb)) (Nat.lt_irrefl _)
structure Turn(P:Program)(w:World)(K:PySem.W.Frag)(tg:Expr)(J:It)(fp:List Addr)(it:Addr)(tn:Nat→Heap→Prop):Prop where
 mem:it∈fp
 obj:∀i h,tn i h→∀b∈fp,∃o,h.get? b=some o∧∀v,o.data≠.cell v
 keep:∀i h h',tn i h→(∀b∈fp,∀o,h.get? b=some o→h'.get? b=some o)→tn i h'
 item:∀(X:Cx),X.prog=P→X.w=w→X.K=K→X.calm=true→∀(i:Nat) (pins:List (Addr×Obj)) (s:Shared) (σ:St) (H:Hp) (E:Value→Shared→Prop),Inv X pins σ H s→(∀b∈fp,FpOk X pins H b)→tn i s.heap→J.go i H→
  wpAny (model P w) X.A (pyNext (.ref it)) (fun r s1=>∃u,r=some u∧
   wpAny (model P w) X.A (letOwnedTupleGo tg (.ref it) u) (fun _ s2=>∃x H',Inv X pins σ H' s2∧RelV x u∧J.yld i H x H'∧tn (i+1) s2.heap∧∀b∈fp,H' b=none) E s1) E s
 done:∀(X:Cx),X.prog=P→X.w=w→X.K=K→X.calm=true→∀(i:Nat) (pins:List (Addr×Obj)) (s:Shared) (σ:St) (H:Hp) (E:Value→Shared→Prop),Inv X pins σ H s→(∀b∈fp,FpOk X pins H b)→tn i s.heap→J.stop i H→
  wpAny (model P w) X.A (pyNext (.ref it)) (fun r s1=>r=none∧Inv X pins σ H s1) E s
 self:∀(A:Around) (i:Nat) (s:Shared) (Q:Value→Shared→Prop) (E:Value→Shared→Prop),tn i s.heap→Q (.ref it) s→wpAny (model P w) A (pyIter (.ref it)) Q E s
abbrev TI:=St→Hp→(It→Hp→Prop)→Prop
def PIE(X:Cx)(pins:List (Addr×Obj))(σ:St)(tg:Expr)(R:It→Hp→Prop)(itv:Value)(s2:Shared):Prop:=
 ∃(it:Addr) (fp:List Addr) (tn:Nat→Heap→Prop) (J:It) (H':Hp),itv=.ref it∧Inv X pins σ H' s2∧Turn X.prog X.w X.K tg J fp it tn∧tn 0 s2.heap∧(∀b∈fp,FpOk X pins H' b)∧R J H'
def PI(X:Cx)(tg iter:Expr)(wi:TI):Prop:=
 ∀(pins:List (Addr×Obj)) (s:Shared) (σ:St) (H:Hp) (R:It→Hp→Prop),Inv X pins σ H s→wi σ H R→
  wpAny (model X.prog X.w) X.A (eval iter X.env) (fun v s1=>wpAny (model X.prog X.w) X.A (pyIter v) (PIE X pins σ tg R) X.xe s1) X.xe s
theorem go_of{M:Model}{A:Around}{E:Value→Shared→Prop}{s:Shared}{tg:Expr}{it:Addr}{u:Value}{o:Obj}{n:String}{vs:Array Value}{Q:Unit→Shared→Prop}(ho:s.heap.get? it=some o)(hc:o.cls=.type n)(hd:o.data=.fields vs)
  (hn:["enumerate","zip","dict_itemiterator","dict_reverseitemiterator","odict_iterator","itertools.zip_longest","itertools.pairwise"].contains n=false) (hQ:Q () s):wpAny M A (letOwnedTupleGo tg (.ref it) u) Q E s:=by
 unfold letOwnedTupleGo
 cases tg <;> first
  |exact wpAny_pure hQ
  |(cases u <;> first
    |exact wpAny_pure hQ
    |(refine wpAny_bind (wpAny_load ho ?_)
      rw[hc,hd]
      show wpAny M A (if (["enumerate","zip","dict_itemiterator","dict_reverseitemiterator","odict_iterator","itertools.zip_longest","itertools.pairwise"].contains n&&vs[0]?==some (rawInt _))=true then _ else _) Q E s
      rw[if_neg (by intro h;rw[hn,Bool.false_and]at h;cases h)]
      exact wpAny_pure hQ))
def Itl(K:PySem.W.Frag)(a:Addr):It:=
 ⟨fun i H=>∃xs x,bh K H a xs∧xs[i]?=some x,fun i H x H'=>H'=H∧∀xs,bh K H a xs→xs[i]?=some x,fun i H=>∃xs,bh K H a xs∧xs.length≤i⟩
theorem turn_list{P:Program}{w:World}{K:PySem.W.Frag}{tg:Expr}(a it:Addr):Turn P w K tg (Itl K a) [it] it (fun i h=>h.IsListIter it a i) where
 mem:=by simp
 obj:=fun i h st b hb=>by
  have e:b=it:=by simpa using hb
  subst e
  obtain⟨o,e,c,d⟩:=st
  exact⟨o,e,fun v z=>by rw[d]at z;cases z⟩
 keep:=fun i h h' st k=>st.at fun o e=>k it (by simp) o e
 item:=by
  intro X hP hw hK hc i pins s σ H E I hf st hg
  subst hP hw hK
  obtain⟨xs,x,hq,hx⟩:=hg
  obtain⟨its,rv,p,hz⟩:=I.list hq
  obtain⟨u,hu,ru⟩:=rv.get hx
  obtain⟨f0,f1,f2,f3,f4,f5⟩:=hf it (by simp)
  refine wpAny_pyNext_list_item st p.isList (x:=u) (by simpa using hu) fun h' st' sb=>?_
  have I1:Inv X pins σ H { s with heap:=h' }:=I.turned (t':=s.toks) (fun b o hb e=>(sb.2 b hb).trans e) f0 f1 f3 f4 f5
  obtain⟨o,e,c,d⟩:=id st'
  exact⟨u,rfl,go_of (s:={ s with heap:=h' }) e c d (by decide) ⟨x,H,I1,ru,⟨rfl,fun ys hy=>by rw[I.list_inj hy hq];exact hx⟩,st',fun b hb=>(hf b hb).1⟩⟩
 done:=by
  intro X hP hw hK hc i pins s σ H E I hf st hg
  subst hP hw hK
  obtain⟨xs,hq,hx⟩:=hg
  obtain⟨its,rv,p,hz⟩:=I.list hq
  obtain⟨f0,f1,f2,f3,f4,f5⟩:=hf it (by simp)
  have hl:=rv.length
  exact wpAny_pyNext_list_end (I.ok.hd hc) st p.isList (by simp;omega) fun h' eb=>⟨rfl,I.turned (t':=s.toks) (fun b o hb e=>eb b o hb e) f0 f1 f3 f4 f5⟩
 self:=fun _ _ _ _ _ st h=>wpAny_pyIter_listiter st h
end L2
namespace L2
open PySem PySem.Spec PyProof.Rows
section
variable{X:Cx}{tg:Expr}
def iList(K:PySem.W.Frag)(tl:TE):TI:=fun σ H R=>tl σ H fun x H1=>∃a,x=.ref a∧(∃xs,bh K H1 a xs)∧R (Itl K a) H1
theorem bY{l:Expr}{tl:TE}(hl:PE X l tl):PI X tg l (iList X.K tl):=by
 intro pins s σ H R I h
 refine dw (hl pins s σ H _ I h) fun v s1 ⟨x,H1,I1,r1,q1⟩=>?_
 obtain⟨a,e,⟨xs,hq⟩,q⟩:=q1
 subst e
 cases r1
 obtain⟨its,rv,p,hz⟩:=I1.list hq
 refine wpAny_pyIter_list p.isList ?_
 refine⟨s1.heap.objs.size,[s1.heap.objs.size],_,_,H1,rfl,I1.kept (t':=s1.toks) fun b o e=>Heap.get?_push_of_some _ e,turn_list a _,⟨_,Heap.get?_push_size _ rfl,rfl,rfl⟩,fun b hb=>?_,q⟩
 have e:b=s1.heap.objs.size:=by simpa using hb
 subst e
 exact I1.fpOk (Nat.le_refl _) (I1.hok.fresh (Nat.le_refl _))
def tFor(wi:TI)(g:TG)(tb:TS):TS:=fun D σ H=>wi σ H fun J H1=>∃W:Nat→Nat→St→Hp→Prop,(∃m,W 0 m σ H1)∧∀i m σ H,W i m σ H→
 (J.stop i H∧D.nx σ H)∨(J.go i H∧∃N:St→Hp→Prop,(∀σ' H',N σ' H'→∃m',m'<m∧W (i+1) m' σ' H')∧∀x H',J.yld i H x H'→g x σ H' fun σ2 H2=>tb { D with nx:=N,ct:=N,bk:=D.nx } σ2 H2)
def pinsAt(fp:List Addr)(h:Heap):List (Addr×Obj):=fp.filterMap fun b=>(h.get? b).map fun o=>(b,o)
theorem mem_pinsAt{fp:List Addr}{h:Heap}{b:Addr}{o:Obj}(hb:b∈fp)(e:h.get? b=some o):(b,o)∈pinsAt fp h:=List.mem_filterMap.mpr ⟨b,hb,by rw[e];rfl⟩
theorem of_pinsAt{fp:List Addr}{h:Heap}{p:Addr×Obj}(hp:p∈pinsAt fp h):p.1∈fp∧h.get? p.1=some p.2:=by
 obtain⟨b,hb,e⟩:=List.mem_filterMap.mp hp
 cases q:h.get? b with
 |none=>rw[q]at e;cases e
 |some o=>
  rw[q]at e
  have e':(b,o)=p:=Option.some.inj e
  subst e'
  exact⟨hb,q⟩
theorem Inv.pinned{pins:List (Addr×Obj)}{σ:St}{H:Hp}{s:Shared}{fp:List Addr}(I:Inv X pins σ H s)(hf:∀b∈fp,FpOk X pins H b)(ho:∀b∈fp,∃o,s.heap.get? b=some o∧∀v,o.data≠.cell v):Inv X (pins++pinsAt fp s.heap) σ H s:=
 I.pins_of fun p hp=>(List.mem_append.mp hp).elim (fun z=>I.pin p (List.mem_append_right _ z)) fun z=>by
  obtain⟨hb,e⟩:=of_pinsAt z
  obtain⟨f0,f1,f2,_⟩:=hf p.1 hb
  obtain⟨o,e',d⟩:=ho p.1 hb
  rw[e]at e';cases e'
  exact⟨e,f0,f1,f2,d⟩
theorem Inv.unpinned{pins pl:List (Addr×Obj)}{σ:St}{H:Hp}{s:Shared}(I:Inv X (pins++pl) σ H s):Inv X pins σ H s:=I.pins_of fun p hp=>I.pin p (List.mem_append_right _ (List.mem_append_left _ hp))
theorem ps_for{iter:Expr}{body:List Stmt}{wi:TI}{g:TG}{tb:TS}{pos:Pos}(hp:PassesOwn (model X.prog X.w) X.A X.env X.xe)(hc:X.calm=true)(hi:PI X tg iter wi)(hg:PG X tg g)(hb:PSs X body tb)
  (hs:∀x,foldedSetIterable iter X.env x=pure x:=by intro _;rfl):PS X (.For tg iter body [] pos) (tFor wi g tb):=by
 intro pins s σ H D I h
 refine wpAny_For (dw (hi pins s σ H _ I h) fun v s1 h1=>dw h1 fun itv s2 h2=>?_) hs
 obtain⟨it,fp,tn,J,H2,e,I2,T,st2,f2,W,⟨m0,w0⟩,turn⟩:=h2
 subst e
 have stat:∀{H':Hp},(∀b∈fp,H' b=none)→∀b∈fp,FpOk X pins H' b:=fun hn b hb=>⟨hn b hb,(f2 b hb).2⟩
 refine codeAny_forLoop_any (fun n s'=>∃i σ' H',Inv X pins σ' H' s'∧tn i s'.heap∧(∀b∈fp,H' b=none)∧W i n σ' H') ?_ m0 ⟨0,σ,H2,I2,st2,fun b hb=>(f2 b hb).1,w0⟩
 rintro n s3 ⟨i,σ3,H3,I3,st3,fr3,w3⟩
 rcases turn i n σ3 H3 w3 with⟨stop,qn⟩|⟨go,N,hN,step⟩
 ·refine wpAny_passesOwn hp (dw (T.done X rfl rfl rfl hc i pins s3 σ3 H3 X.xe I3 (stat fr3) st3 stop) fun r s4 ⟨hr,I4⟩=>?_)
  subst hr
  exact wpAny_execs_nil ⟨σ3,H3,I4,qn⟩
 ·refine wpAny_passesOwn hp (dw (T.item X rfl rfl rfl hc i pins s3 σ3 H3 X.xe I3 (stat fr3) st3 go) fun r s4 ⟨u,hr,h4⟩=>?_)
  subst hr
  refine wpAny_passesOwn hp (dw h4 fun _ s5 ⟨x,H5,I5,r5,y5,st5,fr5⟩=>?_)
  have I5':=I5.pinned (stat fr5) (T.obj _ _ st5)
  refine wpAny_passesOwn hp (dw (hg _ s5 σ3 H5 x u _ I5' r5 (step x H5 y5)) fun _ s6 ⟨σ6,H6,I6,q6⟩=>?_)
  refine wpAny_passesOwn hp (dw (hb _ s6 σ6 H6 _ I6 q6) fun f s7 q7=>?_)
  have again:∀{σ7:St}{H7:Hp},Inv X (pins++pinsAt fp s5.heap) σ7 H7 s7→N σ7 H7→∃m,m<n∧∃i σ' H',Inv X pins σ' H' s7∧tn i s7.heap∧(∀b∈fp,H' b=none)∧W i m σ' H':=fun{σ7 H7} I7 n7=>by
   obtain⟨m',hm,w7⟩:=hN σ7 H7 n7
   refine⟨m',hm,i+1,σ7,H7,I7.unpinned,T.keep _ _ _ st5 fun b hb o e=>(I7.pin (b,o) (List.mem_append_right _ (List.mem_append_right _ (mem_pinsAt hb e)))).1,fun b hb=>?_,w7⟩
   obtain⟨o,e,d⟩:=T.obj _ _ st5 b hb
   exact (I7.pin (b,o) (List.mem_append_right _ (List.mem_append_right _ (mem_pinsAt hb e)))).2.1
  cases f with
  |next=>obtain⟨σ7,H7,I7,n7⟩:=q7;exact again I7 n7
  |cont=>obtain⟨σ7,H7,I7,n7⟩:=q7;exact again I7 n7
  |brk=>obtain⟨σ7,H7,I7,q7⟩:=q7;exact⟨σ7,H7,I7.unpinned,q7⟩
  |ret v=>obtain⟨x7,σ7,H7,I7,r7,q7⟩:=q7;exact⟨x7,σ7,H7,I7.unpinned,r7,q7⟩
end
theorem for_list{K:PySem.W.Frag}{a:Addr}{xs:List V}{g:TG}{tb:TS}{D:Ends}{σ:St}{H:Hp}(Pv:Nat→St→Hp→Prop)(h0:Pv 0 σ H)(hl:∀i σ H,i≤xs.length→Pv i σ H→bh K H a xs)
  (hs:∀i x σ H,xs[i]?=some x→Pv i σ H→g x σ H fun σ2 H2=>tb { D with nx:=Pv (i+1),ct:=Pv (i+1),bk:=D.nx } σ2 H2) (hd:∀σ H,Pv xs.length σ H→D.nx σ H):
  ∃W:Nat→Nat→St→Hp→Prop,(∃m,W 0 m σ H)∧∀i m σ H,W i m σ H→
   ((Itl K a).stop i H∧D.nx σ H)∨((Itl K a).go i H∧∃N:St→Hp→Prop,(∀σ' H',N σ' H'→∃m',m'<m∧W (i+1) m' σ' H')∧∀x H',(Itl K a).yld i H x H'→g x σ H' fun σ2 H2=>tb { D with nx:=N,ct:=N,bk:=D.nx } σ2 H2):=by
 refine⟨fun i m σ H=>m=xs.length - i∧i≤xs.length∧Pv i σ H,⟨xs.length,by simp,Nat.zero_le _,h0⟩,?_⟩
 rintro i m σ H ⟨rfl,hi,p⟩
 have q:=hl i σ H hi p
 by_cases hlt:i<xs.length
 ·refine .inr ⟨⟨xs,xs[i],q,by simp[hlt]⟩,Pv (i+1),fun σ' H' p'=>⟨xs.length - (i+1),by omega,rfl,hlt,p'⟩,fun x H' y=>?_⟩
  obtain⟨e,y⟩:=y
  subst e
  exact hs i x σ _ (y xs q) p
 ·have e:i=xs.length:=by omega
  subst e
  exact .inl ⟨⟨xs,q,Nat.le_refl _⟩,hd σ H p⟩
end L2
namespace L2
open PySem PySem.Spec PyProof.Rows
abbrev R2:=V→V→Hp→VK→Prop
def OpR(X:Cx)(f:Value→Value→Sem Value)(r:R2):Prop:=
 ∀(pins:List (Addr×Obj)) (s:Shared) (σ:St) (H:Hp) (x y:V) (v u:Value) (Q:VK),Inv X pins σ H s→RelV x v→RelV y u→r x y H Q→
  wpAny (model X.prog X.w) X.A (f v u) (EP X pins σ Q) X.xe s
def UnR(X:Cx)(f:Value→Sem Value)(r:V→Hp→VK→Prop):Prop:=
 ∀(pins:List (Addr×Obj)) (s:Shared) (σ:St) (H:Hp) (x:V) (v:Value) (Q:VK),Inv X pins σ H s→RelV x v→r x H Q→
  wpAny (model X.prog X.w) X.A (f v) (EP X pins σ Q) X.xe s
def lF(X:Cx)(f:Value)(r:List V→Hp→VK→Prop):Prop:=
 ∀(pins:List (Addr×Obj)) (s:Shared) (σ:St) (H:Hp) (xs:List V) (us:List Value) (Q:VK),Inv X pins σ H s→Vals xs us→r xs H Q→
  wpAny (model X.prog X.w) X.A (call f us) (EP X pins σ Q) X.xe s
def tOp(r:R2)(ta tb:TE):TE:=fun σ H Q=>ta σ H fun x H1=>tb σ H1 fun y H2=>r x y H2 Q
def tUn(r:V→Hp→VK→Prop)(ta:TE):TE:=fun σ H Q=>ta σ H fun x H1=>r x H1 Q
def rI(C:Int→Int→Prop)(g:Int→Int→V):R2:=fun x y H Q=>∃i j,x=.int i∧y=.int j∧C i j∧Q (g i j) H
def rI0(g:Int→Int→V):R2:=fun x y H Q=>∃i j,x=.int i∧y=.int j∧Q (g i j) H
def rU(g:Int→V):V→Hp→VK→Prop:=fun x H Q=>∃i,x=.int i∧Q (g i) H
section
variable{X:Cx}{a b c:Expr}{ta tb tc:TE}{pos:Pos}
theorem binT(ha:PE X a ta)(hb:PE X b tb){pins:List (Addr×Obj)}{s:Shared}{σ:St}{H:Hp}{R:V→V→Hp→Prop}(I:Inv X pins σ H s)
  (h:ta σ H fun x H1=>tb σ H1 fun y H2=>R x y H2) {Q:Value→Shared→Prop}{f:Value→Value→Sem Value}
  (hf:∀v u s2 x y H2,Inv X pins σ H2 s2→RelV x v→RelV y u→R x y H2→wpAny (model X.prog X.w) X.A (f v u) Q X.xe s2):
  wpAny (model X.prog X.w) X.A (eval a X.env) (fun v s₁=>wpAny (model X.prog X.w) X.A (eval b X.env) (fun u s₂=>wpAny (model X.prog X.w) X.A (f v u) Q X.xe s₂) X.xe s₁) X.xe s:=by
 refine dw (ha pins s σ H _ I h) fun v s1 ⟨x,H1,I1,r1,q1⟩=>?_
 refine dw (hb pins s1 σ H1 _ I1 q1) fun u s2 ⟨y,H2,I2,r2,q2⟩=>?_
 exact hf v u s2 x y H2 I2 r1 r2 q2
theorem bR{op:Operator}{r:R2}(ho:OpR X (binaryOp op) r)(ha:PE X a ta)(hb:PE X b tb):PE X (.BinOp a op b pos) (tOp r ta tb):=by
 intro pins s σ H Q I h
 exact wpAny_BinOp (binT ha hb I h fun v u s2 x y H2 I2 rx ry q=>ho pins s2 σ H2 x y v u Q I2 rx ry q)
theorem nJ{op:UnaryOp}{r:V→Hp→VK→Prop}(ho:UnR X (unaryOp op) r)(ha:PE X a ta):PE X (.UnaryOp op a pos) (tUn r ta):=by
 intro pins s σ H Q I h
 exact UnaryOp_ (dw (ha pins s σ H _ I h) fun v s1 ⟨x,H1,I1,r1,q1⟩=>ho pins s1 σ H1 x v Q I1 r1 q1)
theorem opI{f:Value→Value→Sem Value}{C:Int→Int→Prop}{g:Int→Int→Int}
  (rule:∀(i j:Int) (t u:Tok) (s:Shared) (Q:Value→Shared→Prop) (E:Value→Shared→Prop),C i j→Q (.int (g i j) s.toks) { s with toks:=s.toks+1 }→wpAny (model X.prog X.w) X.A (f (.int i t) (.int j u)) Q E s):
  OpR X f (rI C fun i j=>.int (g i j)):=by
 intro pins s σ H x y v u Q I rx ry h
 obtain⟨i,j,rfl,rfl,hc,q⟩:=h
 obtain⟨t,rfl⟩:=rx
 obtain⟨t',rfl⟩:=ry
 exact rule i j t t' s _ _ hc ⟨.int (g i j),H,I.tok _,⟨_,rfl⟩,q⟩
theorem opI0{f:Value→Value→Sem Value}{g:Int→Int→Int}
  (rule:∀(i j:Int) (t u:Tok) (s:Shared) (Q:Value→Shared→Prop) (E:Value→Shared→Prop),Q (.int (g i j) s.toks) { s with toks:=s.toks+1 }→wpAny (model X.prog X.w) X.A (f (.int i t) (.int j u)) Q E s):
  OpR X f (rI0 fun i j=>.int (g i j)):=by
 intro pins s σ H x y v u Q I rx ry h
 obtain⟨i,j,rfl,rfl,q⟩:=h
 obtain⟨t,rfl⟩:=rx
 obtain⟨t',rfl⟩:=ry
 exact rule i j t t' s _ _ ⟨.int (g i j),H,I.tok _,⟨_,rfl⟩,q⟩
theorem opB0{f:Value→Value→Sem Value}{g:Int→Int→Bool}
  (rule:∀(i j:Int) (t u:Tok) (s:Shared) (Q:Value→Shared→Prop) (E:Value→Shared→Prop),Q (.bool (g i j)) s→wpAny (model X.prog X.w) X.A (f (.int i t) (.int j u)) Q E s):
  OpR X f (rI0 fun i j=>.bl (g i j)):=by
 intro pins s σ H x y v u Q I rx ry h
 obtain⟨i,j,rfl,rfl,q⟩:=h
 obtain⟨t,rfl⟩:=rx
 obtain⟨t',rfl⟩:=ry
 exact rule i j t t' s _ _ ⟨.bl (g i j),H,I,rfl,q⟩
def CMul(i j:Int):Prop:=(-(2 ^ 64)<i∧i<2 ^ 64)∨(-(2 ^ 64)<j∧j<2 ^ 64)
theorem CMul.ok{i j:Int}(h:CMul i j):IntMulOk i j:=by
 rcases h with⟨h1,h2⟩|⟨h1,h2⟩
 ·exact .of_left (intBits_le_64 h1 h2)
 ·exact .of_right (intBits_le_64 h1 h2)
theorem jT:OpR X (binaryOp .Add) (rI0 fun i j=>.int (i+j)):=opI0 fun _ _ _ _ _ _ _ q=>add_int q
theorem lG:OpR X (binaryOp .Sub) (rI0 fun i j=>.int (i - j)):=opI0 fun _ _ _ _ _ _ _ q=>sub_int q
theorem op_mul:OpR X (binaryOp .Mult) (rI CMul fun i j=>.int (i*j)):=opI fun _ _ _ _ _ _ _ hc q=>mul_int q hc.ok
theorem op_mod:OpR X (binaryOp .Mod) (rI (fun _ j=>0<j) fun i j=>.int (i%j)):=opI fun i j _ _ _ _ _ hc q=>by
 have h1:(0:Int)<j:=hc
 exact mod_int' (by omega) (by rw[Int.fmod_eq_emod_of_nonneg i (by omega)];exact q)
theorem unI{f:Value→Sem Value}{g:Int→Int}
  (rule:∀(i:Int) (t:Tok) (s:Shared) (Q:Value→Shared→Prop) (E:Value→Shared→Prop),Q (.int (g i) s.toks) { s with toks:=s.toks+1 }→wpAny (model X.prog X.w) X.A (f (.int i t)) Q E s):
  UnR X f (rU fun i=>.int (g i)):=by
 intro pins s σ H x v Q I rx h
 obtain⟨i,rfl,q⟩:=h
 obtain⟨t,rfl⟩:=rx
 exact rule i t s _ _ ⟨.int (g i),H,I.tok _,⟨_,rfl⟩,q⟩
theorem jk:UnR X (unaryOp .USub) (rU fun i=>.int (-i)):=unI fun _ _ _ _ _ q=>neg_int q
end
def scal:V→V→Bool
 |.non,.non=>true|.non,.int _=>true|.int _,.non=>true|.non,.bl _=>true|.bl _,.non=>true|.non,.str _=>true|.str _,.non=>true
 |.int _,.int _=>true|.bl _,.bl _=>true|.str _,.str _=>true|.byt _,.byt _=>true
 |.int _,.str _=>true|.str _,.int _=>true|.bl _,.str _=>true|.str _,.bl _=>true
 |_,_=>false
def rEq:R2:=fun x y H Q=>scal x y=true∧Q (.bl (decide (x=y))) H
def rNe:R2:=fun x y H Q=>scal x y=true∧Q (.bl (!decide (x=y))) H
theorem dec_int{i j:Int}:decide (V.int i=V.int j)=(i==j):=by
 rw[Bool.eq_iff_iff]
 simp
theorem dec_bl{i j:Bool}:decide (V.bl i=V.bl j)=(i==j):=by
 rw[Bool.eq_iff_iff]
 simp
theorem dec_str{i j:Str}:decide (V.str i=V.str j)=(i==j):=by
 rw[Bool.eq_iff_iff]
 simp
theorem dec_byt{i j:Array UInt8}:decide (V.byt i=V.byt j)=(i.toList==j.toList):=by
 rw[Bool.eq_iff_iff]
 cases i
 cases j
 simp
section
variable{X:Cx}{a b c:Expr}{ta tb tc:TE}{pos:Pos}
theorem cF{pins:List (Addr×Obj)}{σ:St}{H:Hp}{s:Shared}{Q:VK}{k k':Bool}(I:Inv X pins σ H s)(q:Q (.bl k) H)(e:k=k'):EP X pins σ Q (.bool k') s:=by
 subst e
 exact⟨.bl k,H,I,rfl,q⟩
theorem bT:OpR X (compareOp .Eq) rEq:=by
 intro pins s σ H x y v u Q I rx ry h
 obtain⟨hs,q⟩:=h
 cases x with
 |non=>
  cases rx
  cases y with
  |non=>cases ry;exact PySem.EqNone.eq_none_none (cF I q (by simp))
  |bl j=>cases ry;exact PySem.EqNone.eq_none_bool (cF I q (by simp))
  |int j=>obtain⟨t',rfl⟩:=ry;exact PySem.EqNone.eq_none_int (cF I q (by simp))
  |str j=>obtain⟨t',rfl⟩:=ry;exact PySem.EqNone.eq_none_str (cF I q (by simp))
  |_=>exact absurd (show false=true from hs) Bool.false_ne_true
 |bl i=>
  cases rx
  cases y with
  |non=>cases ry;exact PySem.EqNone.eq_bool_none (cF I q (by simp))
  |bl j=>cases ry;exact eq_bool (cF I q dec_bl)
  |str j=>obtain⟨t',rfl⟩:=ry;exact PySem.EqMixed.eq_bool_str (cF I q (by simp))
  |_=>exact absurd (show false=true from hs) Bool.false_ne_true
 |int i=>
  obtain⟨t,rfl⟩:=rx
  cases y with
  |non=>cases ry;exact PySem.EqNone.eq_int_none (cF I q (by simp))
  |int j=>obtain⟨t',rfl⟩:=ry;exact eq_int (cF I q dec_int)
  |str j=>obtain⟨t',rfl⟩:=ry;exact PySem.EqMixed.eq_int_str (cF I q (by simp))
  |_=>exact absurd (show false=true from hs) Bool.false_ne_true
 |str i=>
  obtain⟨t,rfl⟩:=rx
  cases y with
  |non=>cases ry;exact PySem.EqNone.eq_str_none (cF I q (by simp))
  |bl j=>cases ry;exact PySem.EqMixed.eq_str_bool (cF I q (by simp))
  |int j=>obtain⟨t',rfl⟩:=ry;exact PySem.EqMixed.eq_str_int (cF I q (by simp))
  |str j=>obtain⟨t',rfl⟩:=ry;exact eq_str (cF I q dec_str)
  |_=>exact absurd (show false=true from hs) Bool.false_ne_true
 |byt i=>
  obtain⟨t,rfl⟩:=rx
  cases y with
  |byt j=>obtain⟨t',rfl⟩:=ry;exact PySem.W.eq_bytes (cF I q dec_byt)
  |_=>exact absurd (show false=true from hs) Bool.false_ne_true
 |_=>cases y <;> exact absurd (show false=true from hs) Bool.false_ne_true
theorem op_ne:OpR X (compareOp .NotEq) rNe:=by
 intro pins s σ H x y v u Q I rx ry h
 obtain⟨hs,q⟩:=h
 cases x with
 |non=>
  cases rx
  cases y with
  |non=>cases ry;exact PySem.EqNone.ne_none_none (cF I q (by simp))
  |bl j=>cases ry;exact PySem.EqNone.ne_none_bool (cF I q (by simp))
  |int j=>obtain⟨t',rfl⟩:=ry;exact PySem.EqNone.ne_none_int (cF I q (by simp))
  |str j=>obtain⟨t',rfl⟩:=ry;exact PySem.EqNone.ne_none_str (cF I q (by simp))
  |_=>exact absurd (show false=true from hs) Bool.false_ne_true
 |bl i=>
  cases rx
  cases y with
  |non=>cases ry;exact PySem.EqNone.ne_bool_none (cF I q (by simp))
  |bl j=>cases ry;exact ne_bool (cF I q (congrArg not dec_bl))
  |str j=>obtain⟨t',rfl⟩:=ry;exact PySem.EqMixed.ne_bool_str (cF I q (by simp))
  |_=>exact absurd (show false=true from hs) Bool.false_ne_true
 |int i=>
  obtain⟨t,rfl⟩:=rx
  cases y with
  |non=>cases ry;exact PySem.EqNone.ne_int_none (cF I q (by simp))
  |int j=>obtain⟨t',rfl⟩:=ry;exact ne_int (cF I q (congrArg not dec_int))
  |str j=>obtain⟨t',rfl⟩:=ry;exact PySem.EqMixed.ne_int_str (cF I q (by simp))
  |_=>exact absurd (show false=true from hs) Bool.false_ne_true
 |str i=>
  obtain⟨t,rfl⟩:=rx
  cases y with
  |non=>cases ry;exact PySem.EqNone.ne_str_none (cF I q (by simp))
  |bl j=>cases ry;exact PySem.EqMixed.ne_str_bool (cF I q (by simp))
  |int j=>obtain⟨t',rfl⟩:=ry;exact PySem.EqMixed.ne_str_int (cF I q (by simp))
  |str j=>obtain⟨t',rfl⟩:=ry;exact ne_str (cF I q (congrArg not dec_str))
  |_=>exact absurd (show false=true from hs) Bool.false_ne_true
 |byt i=>
  obtain⟨t,rfl⟩:=rx
  cases y with
  |byt j=>obtain⟨t',rfl⟩:=ry;exact PySem.W.ne_bytes (cF I q (congrArg not dec_byt))
  |_=>exact absurd (show false=true from hs) Bool.false_ne_true
 |_=>cases y <;> exact absurd (show false=true from hs) Bool.false_ne_true
theorem op_lt:OpR X (compareOp .Lt) (rI0 fun i j=>.bl (decide (i<j))):=opB0 fun _ _ _ _ _ _ _ q=>lt_int q
theorem op_le:OpR X (compareOp .LtE) (rI0 fun i j=>.bl (decide (i≤j))):=opB0 fun _ _ _ _ _ _ _ q=>le_int q
theorem op_gt:OpR X (compareOp .Gt) (rI0 fun i j=>.bl (decide (j<i))):=opB0 fun _ _ _ _ _ _ _ q=>gt_int q
theorem op_ge:OpR X (compareOp .GtE) (rI0 fun i j=>.bl (decide (j≤i))):=opB0 fun _ _ _ _ _ _ _ q=>ge_int q
theorem aV(b:Expr){op:CmpOp}(h:op≠.In:=by decide)(h2:op≠.NotIn:=by decide):behindInMarks op b=false:=by
 have e1:(op==CmpOp.In)=false:=by cases op <;> first|rfl|exact absurd rfl h
 have e2:(op==CmpOp.NotIn)=false:=by cases op <;> first|rfl|exact absurd rfl h2
 cases b <;> simp[behindInMarks,e1,e2]
theorem oR{op:CmpOp}{r:R2}(ho:OpR X (compareOp op) r)(ha:PE X a ta)(hb:PE X b tb)(hm:behindInMarks op b=false):PE X (.Compare a [op] [b] pos) (tOp r ta tb):=by
 intro pins s σ H Q I h
 exact wpAny_Compare1 (binT ha hb I h fun v u s2 x y H2 I2 rx ry q=>ho pins s2 σ H2 x y v u Q I2 rx ry q) hm
def tTest(t:TE):TT:=fun σ H Q=>t σ H fun x H'=>∃k,x=.bl k∧Q k H'
theorem aO{op:CmpOp}{r:R2}(ho:OpR X (compareOp op) r)(ha:PE X a ta)(hb:PE X b tb)(hm:behindInMarks op b=false):PT X (.Compare a [op] [b] pos) (tTest (tOp r ta tb)):=by
 intro pins s σ H Q I h
 refine wpAny_isTrue_Compare1 (dw (ha pins s σ H _ I h) fun v s1 ⟨x,H1,I1,r1,q1⟩=>dw (hb pins s1 σ H1 _ I1 q1) fun u s2 ⟨y,H2,I2,r2,q2⟩=>
  dw (ho pins s2 σ H2 x y v u _ I2 r1 r2 q2) fun c s3 ⟨z,H3,I3,r3,k,e,q3⟩=>?_) hm
 subst e
 cases r3
 exact wpAny_truthy_bool ⟨H3,I3,q3⟩
def tChain(r r':R2)(ta tb tc:TE):TE:=fun σ H Q=>ta σ H fun x H1=>tb σ H1 fun y H2=>r x y H2 fun z H3=>∃k,z=.bl k∧
 (if k=true then tc σ H3 fun w' H4=>r' y w' H4 Q else Q (.bl false) H3)
theorem pe_chain{op op':CmpOp}{r r':R2}(ho:OpR X (compareOp op) r)(ho':OpR X (compareOp op') r')(ha:PE X a ta)(hb:PE X b tb)(hc:PE X c tc)
  (hm:lastMarks [op,op'] [b,c]=false:=by with_unfolding_all rfl):PE X (.Compare a [op,op'] [b,c] pos) (tChain r r' ta tb tc):=by
 intro pins s σ H Q I h
 refine Compare_chain (dw (ha pins s σ H _ I h) fun v s1 ⟨x,H1,I1,r1,q1⟩=>chain_link (dw (hb pins s1 σ H1 _ I1 q1) fun u s2 ⟨y,H2,I2,r2,q2⟩=>
  dw (ho pins s2 σ H2 x y v u _ I2 r1 r2 q2) fun d s3 ⟨z,H3,I3,r3,k,e,q3⟩=>?_)) hm
 subst e
 cases r3
 refine wpAny_truthy_bool ?_
 cases k with
 |false=>exact ite_ff ⟨.bl false,H3,I3,rfl,q3⟩
 |true=>exact ite_tt (chain_last (dw (hc pins s3 σ H3 _ I3 q3) fun w' s4 ⟨z',H4,I4,r4,q4⟩=>ho' pins s4 σ H4 y z' u w' Q I4 r2 r4 q4))
theorem line63:(sizeLine:Nat)<2 ^ 63:=by rw[sizeLine_eq];decide
theorem vals1{x:V}{us:List Value}(r:Vals [x] us):∃u,us=[u]∧RelV x u:=by
 cases r with
 |cons r1 r2=>cases r2;exact⟨_,rfl,r1⟩
theorem vals2{x y:V}{us:List Value}(r:Vals [x,y] us):∃u w',us=[u,w']∧RelV x u∧RelV y w':=by
 cases r with
 |cons r1 r2=>
  cases r2 with
  |cons r3 r4=>cases r4;exact⟨_,_,rfl,r1,r3⟩
theorem call_max2(hc:X.calm=true):lF X (.builtin "max") (fun xs H Q=>∃i j,xs=[.int i,.int j]∧Q (.int (if j>i then j else i)) H):=by
 intro pins s σ H xs us Q I r h
 obtain⟨i,j,rfl,q⟩:=h
 obtain⟨u,w',rfl,⟨t,rfl⟩,⟨t',rfl⟩⟩:=vals2 r
 refine max_two_ints (I.ok.hd hc) fun h' tk k=>⟨_,H,I.kept k,?_,q⟩
 by_cases hj:j>i
 ·rw[if_pos hj,if_pos hj];exact⟨_,rfl⟩
 ·rw[if_neg hj,if_neg hj];exact⟨_,rfl⟩
theorem call_min2(hc:X.calm=true):lF X (.builtin "min") (fun xs H Q=>∃i j,xs=[.int i,.int j]∧Q (.int (if j<i then j else i)) H):=by
 intro pins s σ H xs us Q I r h
 obtain⟨i,j,rfl,q⟩:=h
 obtain⟨u,w',rfl,⟨t,rfl⟩,⟨t',rfl⟩⟩:=vals2 r
 refine min_two_ints (I.ok.hd hc) fun h' tk k=>⟨_,H,I.kept k,?_,q⟩
 by_cases hj:j<i
 ·rw[if_pos hj,if_pos hj];exact⟨_,rfl⟩
 ·rw[if_neg hj,if_neg hj];exact⟨_,rfl⟩
end
end L2
namespace L2
open PySem PySem.Spec PyProof.Rows
structure ObjM(h:Heap)(x dx C:Addr)(mA:Str→Option Value):Prop where
 obj:h.get? x=some (PySem.W.instObj C dx)
 ns:h.Ns1 dx mA
 ne:dx≠x
theorem lookIn_ns{h:Heap}{dx:Addr}{mA:Str→Option Value}(n:h.Ns1 dx mA):∃od,h.get? dx=some od∧∀name,PySem.W.lookIn name od=some (mA name):=by
 obtain⟨o,es,ep,ho,hd,hk,_,hm⟩:=n
 refine⟨o,ho,fun name=>?_⟩
 have e:=hm name
 unfold nsFind findBy at e
 rw[←Array.find?_toList]at e
 unfold PySem.W.lookIn
 rw[hd]
 dsimp only
 split
 ·rename_i y q
  rw[q]at e
  exact congrArg some e
 ·rename_i q
  rw[q]at e
  have a:es.toList.any (·.refKey)=false:=by
   rw[List.any_eq_false]
   intro y hy
   obtain⟨z,t,hkey⟩:=hk y (Array.mem_toList_iff.mp hy)
   simp[DictEntry.refKey,hkey]
  have a':¬es.toList.any (·.refKey)=true:=by rw[a];exact Bool.false_ne_true
  rw[if_neg a']
  exact congrArg some e
theorem ObjM.look{h:Heap}{x dx C:Addr}{mA:Str→Option Value}(I:ObjM h x dx C mA):∃od,PySem.W.InstAt h x (PySem.W.instObj C dx) C (some od)∧∀name,PySem.W.lookIn name od=some (mA name):=
 let⟨od,ho,hl⟩:=lookIn_ns I.ns
 ⟨od,⟨I.obj,rfl,rfl,ho⟩,hl⟩
section
variable{prog:Program}{w:World}{A:Around}{E:Value→Shared→Prop}{s:Shared}{K:PySem.W.Frag}{x dx C f:Addr}{mA:Str→Option Value}{name:Str}{v:Value}
theorem get_map{expr:Bool}{Q:Value→Shared→Prop}(X:K.In s.heap)(I:ObjM s.heap x dx C mA)(hg:PySem.W.plainGet K C name=true)(hh:PySem.W.hasDictIn K C=true)
  (ha:PySem.W.findIn K (.ref C) name=some none) (hv:mA name=some v) (hv':PySem.W.handedIn v=true) (h:Q v { s with toks:=s.toks+1 }):
  wpAny (model prog w) A (getAttr (.ref x) name expr) Q E s:=by
 obtain⟨od,J,hl⟩:=I.look
 exact PySem.W.get_value X J (PySem.W.plainGet_of hg).1 (PySem.W.findObj_own hh ha rfl (by rw[hl,hv])) hv' h
theorem set_map{ns:List Str}{Q:Unit→Shared→Prop}(X:K.In s.heap)(I:ObjM s.heap x dx C mA)
  (hs:PySem.W.findIn K (.ref C) "__setattr__"=some (some (.builtin "object.__setattr__"))) (hp:PySem.W.plainOver K C=true) (ht:PySem.W.takerIn K C name=some none) (hh:PySem.W.hasDictIn K C=true)
  (hw:PySem.Within mA ns) (hsz:ns.length≤sizeLine)
  (h:∀h',ObjM h' x dx C (fun y=>if y=name then some v else mA y)→Heap.SameBut dx s.heap h'→Q () { s with heap:=h',toks:=s.toks+2 }):
  wpAny (model prog w) A (setAttr (.ref x) name v) Q E s:=by
 obtain⟨od,J,hl⟩:=I.look
 refine PySem.W.set_plain X J hs (PySem.W.osa_open (s:={ s with toks:=s.toks+1 }) (r:=none) X J hp ht fun b=>?_)
 obtain⟨cd,hc,hd'⟩:=PySem.W.any_some hh
 have hx:s.heap.get? x=some ⟨.ref C,some dx,.plain,#[]⟩:=I.obj
 refine wpAny_bind (wpAny_pure (wpAny_bind (wpAny_bind (wpAny_loadPart hx (wpAny_bind (PySem.W.Looks.here (s:={ s with toks:=s.toks+1 }) (PySem.W.looks_clsIn X hc) ?_))))))
 rw[hd']
 refine wpAny_pure (a:=some dx) (wpAny_bind (wpAny_pure (wpAny_bind ?_)))
 refine wpAny_nsSet1 (s:={ s with toks:=s.toks+1 }) I.ns fun h' hn2 hs2=>?_
 obtain⟨oD,esD,epD,hoD,hdD,hcD⟩:=hn2.count (PySem.Within.cons name v hw)
 refine wpAny_bind (wpAny_lookBehind hoD (by rw[hdD];exact pastItsLine_dict (Nat.le_trans hcD (by rw[List.length_cons];omega))) ?_)
 exact wpAny_pure (h _ ⟨(hs2.2 _ (Ne.symm I.ne)).trans I.obj,hn2,I.ne⟩ hs2)
theorem make_map{R:Result→Shared→Prop}{vs:List Value}{kw:List (Str×Value)}(X:K.In s.heap)(hm:PySem.W.makesIn K C=true)
  (hi:PySem.W.findIn K (.ref C) "__init__"=some (some (.ref f))) (hf:PySem.W.typeIn K (.ref f)=some (.type "function"))
  (h:codeAny (model prog w) (A.under (.builtin "type.__call__" ⟨.ref C::vs,kw⟩)) (.call (.ref f) ⟨.ref (s.heap.objs.size+1)::vs,kw⟩) (PySem.W.InitBack (s.heap.objs.size+1) R)
   { s with heap:=(s.heap.push PySem.W.emptyDict).push (PySem.W.instObj C s.heap.objs.size) }):
  codeAny (model prog w) A (.call (.ref C) ⟨vs,kw⟩) R s:=by
 obtain⟨hh,g,d,t,os⟩:=s
 exact PySem.W.make_core (PySem.W.makes_of X hm) (PySem.W.looks_findIn X hi) (fun self=>PySem.W.bind_fn X self hf) (.inl rfl) h
end
def aN(f:Str)(v:V):List (Str×V)→List (Str×V)
 |[]=>[(f,v)]
 |(g,x)::r=>if g=f then(g,v)::r else(g,x)::aN f v r
theorem lookup_putF(f g:Str)(v:V):∀fs:List (Str×V),(aN f v fs).lookup g=if g=f then some v else fs.lookup g
 |[]=>by
  show List.lookup g [(f,v)]=_
  by_cases h:g=f
  ·have hb:(g==f)=true:=beq_iff_eq.mpr h
   simp only[List.lookup,hb,if_pos h]
  ·have hb:(g==f)=false:=beq_eq_false_iff_ne.mpr h
   simp only[List.lookup,hb,if_neg h]
 |(k,x)::r=>by
  have ih:=lookup_putF f g v r
  rw[show aN f v ((k,x)::r)=(if k=f then(k,v)::r else(k,x)::aN f v r)from rfl]
  by_cases hk:k=f
  ·rw[if_pos hk]
   by_cases h:g=k
   ·have hb:(g==k)=true:=beq_iff_eq.mpr h
    simp only[List.lookup,hb,if_pos (h.trans hk)]
   ·have hb:(g==k)=false:=beq_eq_false_iff_ne.mpr h
    simp only[List.lookup,hb,if_neg (fun e:g=f=>h (e.trans hk.symm))]
  ·rw[if_neg hk]
   by_cases h:g=k
   ·have hb:(g==k)=true:=beq_iff_eq.mpr h
    simp only[List.lookup,hb,if_neg (fun e:g=f=>hk (h.symm.trans e))]
   ·have hb:(g==k)=false:=beq_eq_false_iff_ne.mpr h
    simp only[List.lookup,hb]
    exact ih
theorem keys_putF(f:Str)(v:V):∀fs:List (Str×V),f∈(aN f v fs).map (·.1)∧∀g,g∈fs.map (·.1)→g∈(aN f v fs).map (·.1)
 |[]=>⟨by simp[aN],fun g h=>by simp at h⟩
 |(k,x)::r=>by
  obtain⟨i1,i2⟩:=keys_putF f v r
  rw[show aN f v ((k,x)::r)=(if k=f then(k,v)::r else(k,x)::aN f v r)from rfl]
  by_cases hk:k=f
  ·rw[if_pos hk]
   subst hk
   exact⟨by simp,fun g h=>by simpa using h⟩
  ·rw[if_neg hk]
   refine⟨?_,fun g h=>?_⟩
   ·rw[List.map_cons]
    exact List.mem_cons_of_mem _ i1
   ·rw[List.map_cons]at h ⊢
    rcases List.mem_cons.mp h with e|e
    ·exact List.mem_cons.mpr (.inl e)
    ·exact List.mem_cons_of_mem _ (i2 g e)
theorem length_putF(f:Str)(v:V):∀fs:List (Str×V),(aN f v fs).length≤fs.length+1
 |[]=>by simp[aN]
 |(k,x)::r=>by
  have ih:=length_putF f v r
  rw[show aN f v ((k,x)::r)=(if k=f then(k,v)::r else(k,x)::aN f v r)from rfl]
  by_cases hk:k=f
  ·rw[if_pos hk,List.length_cons,List.length_cons];omega
  ·rw[if_neg hk,List.length_cons,List.length_cons];omega
theorem RelO.some_of{v:V}{o:Option Value}(r:RelO (some v) o):∃u,o=some u∧RelV v u:=by
 cases o with
 |none=>exact (show False from r).elim
 |some u=>exact⟨u,rfl,r⟩
theorem handed_of{v:V}{u:Value}(r:RelV v u):PySem.W.handedIn u=true:=by
 cases v with
 |non=>cases (show u=Value.none from r);rfl
 |bl b=>cases (show u=Value.bool b from r);rfl
 |int i=>obtain⟨t,e⟩:=(show ∃t,u=Value.int i t from r);cases e;rfl
 |str x=>obtain⟨t,e⟩:=(show ∃t,u=Value.str x t from r);cases e;rfl
 |byt b=>obtain⟨t,e⟩:=(show ∃t,u=Value.bytes b t from r);cases e;rfl
 |flt b=>obtain⟨t,e⟩:=(show ∃t,u=Value.float b t from r);cases e;rfl
 |ref a=>cases (show u=Value.ref a from r);rfl
 |ty n=>cases (show u=Value.type n from r);rfl
section
variable{P:Program}{w:World}{H H':Hp}{h h':Heap}{a C dx:Addr}{fs fs':List (Str×V)}
theorem ins_get(hok:HOk P w H h)(e:H a=some (.ins C dx fs)):∃mA,ObjM h a dx C mA∧(∀f,RelO (fs.lookup f) (mA f))∧PySem.Within mA (fs.map (·.1))∧fs.length≤1000∧H dx=some (.own a):=by
 obtain⟨d,z,ne,ob,mA,n,r,q⟩:=(show cM P w H h a (.ins C dx fs)from hok a _ e)
 exact⟨mA,⟨ob,n,ne⟩,r,q,z,d⟩
end
structure Cls(K:PySem.W.Frag)(C:Addr):Prop where
 pg:PySem.W.plainGet K C Str.empty=true
 hd:PySem.W.hasDictIn K C=true
 po:PySem.W.plainOver K C=true
 sa:PySem.W.findIn K (.ref C) "__setattr__"=some (some (.builtin "object.__setattr__"))
theorem Cls.get{K:PySem.W.Frag}{C:Addr}(c:Cls K C)(f:Str):PySem.W.plainGet K C f=true:=c.pg
def jl(K:PySem.W.Frag)(C:Addr)(f:Str):Prop:=PySem.W.findIn K (.ref C) f=some none
theorem jl.taker{K:PySem.W.Frag}{C:Addr}{f:Str}(n:jl K C f):PySem.W.takerIn K C f=some none:=by
 unfold PySem.W.takerIn
 rw[show PySem.W.findIn K (.ref C) f=some none from n]
 rfl
section
variable{X:Cx}{pins:List (Addr×Obj)}{σ:St}{H:Hp}{s:Shared}{a C dx:Addr}{fs:List (Str×V)}{f:Str}{v:V}{A:Around}{E:Value→Shared→Prop}
theorem getattr_ok{b:Bool}{Q:Value→Shared→Prop}(I:Inv X pins σ H s)(e:H a=some (.ins C dx fs))(c:Cls X.K C)(n:jl X.K C f)(l:fs.lookup f=some v)
  (h:∀u s',Inv X pins σ H s'→RelV v u→Q u s'):wpAny (model X.prog X.w) A (getAttr (.ref a) f b) Q E s:=by
 obtain⟨mA,O,r,_,_,_⟩:=ins_get I.hok e
 obtain⟨u,hu,ru⟩:=RelO.some_of (v:=v) (o:=mA f) (by rw[←l];exact r f)
 exact get_map I.kIn O (c.get f) c.hd n hu (handed_of ru) (h u _ (I.tok _) ru)
theorem setattr_ok{y:V}{u:Value}{Q:Unit→Shared→Prop}(I:Inv X pins σ H s)(e:H a=some (.ins C dx fs))(c:Cls X.K C)(n:jl X.K C f)(hl:fs.length<1000)(ry:RelV y u)
  (h:∀s',Inv X pins σ (upd H a (.ins C dx (aN f y fs))) s'→Q () s'):wpAny (model X.prog X.w) A (setAttr (.ref a) f u) Q E s:=by
 obtain⟨mA,O,r,wi,_,ho⟩:=ins_get I.hok e
 have hz:(fs.map (·.1)).length≤sizeLine:=by rw[List.length_map,sizeLine_eq];omega
 refine set_map I.kIn O c.sa c.po n.taker c.hd wi hz fun h' O' sb=>h _ ?_
 have hd:∃o,h'.get? dx=some o:=let⟨o,_,_,e',_⟩:=O'.ns;⟨o,e'⟩
 refine I.write (x:=a) (e:=dx) (by rw[e];exact True.intro) (.inr ho) (fun b q hb z=>(sb.2 b hb).trans z) hd ?_
 refine⟨by rw[aB O.ne];exact ho,?_,O.ne,O'.obj,_,O'.ns,fun g=>?_,fun g hg=>?_⟩
 ·have:=length_putF f y fs;omega
 ·show RelO ((aN f y fs).lookup g) (if g=f then some u else mA g)
  rw[lookup_putF]
  by_cases q:g=f
  ·rw[if_pos q,if_pos q];exact ry
  ·rw[if_neg q,if_neg q];exact r g
 ·by_cases q:g=f
  ·rw[q];exact (keys_putF f y fs).1
  ·refine (keys_putF f y fs).2 g (wi g fun z=>hg ?_)
   show(if g=f then some u else mA g)=none
   rw[if_neg q];exact z
theorem Inv.made(I:Inv X pins σ H s):Inv X pins σ (upd (upd H s.heap.objs.size (.own (s.heap.objs.size+1))) (s.heap.objs.size+1) (.ins C s.heap.objs.size []))
  { s with heap:=(s.heap.push PySem.W.emptyDict).push (PySem.W.instObj C s.heap.objs.size) }:=by
 have e1:(s.heap.push PySem.W.emptyDict).get? s.heap.objs.size=some PySem.W.emptyDict:=Heap.get?_push_size s.heap rfl
 have e2:((s.heap.push PySem.W.emptyDict).push (PySem.W.instObj C s.heap.objs.size)).get? (s.heap.objs.size+1)=some (PySem.W.instObj C s.heap.objs.size):=by
  have:=Heap.get?_push_size (s.heap.push PySem.W.emptyDict) (o:=PySem.W.instObj C s.heap.objs.size) rfl
  rwa [Heap.size_push]at this
 have e3:(s.heap.push PySem.W.emptyDict).Ns s.heap.objs.size (fun _=>none):=⟨PySem.W.emptyDict,#[],_,e1,rfl,(fun e he=>absurd he (by simp)),fun _=>rfl⟩
 have I1:=I.laid (a:=s.heap.objs.size) (o:=.own (s.heap.objs.size+1)) (h':=s.heap.push PySem.W.emptyDict) (t':=s.toks) (fun b u q=>Heap.get?_push_of_some _ q) (Nat.le_refl _) ⟨_,e1⟩
 refine I1.laid (a:=s.heap.objs.size+1) (o:=.ins C s.heap.objs.size []) (t':=s.toks) (fun b u q=>Heap.get?_push_of_some _ q) (Nat.le_of_eq (Heap.size_push _ _)) ?_
 have ne:s.heap.objs.size≠s.heap.objs.size+1:=Nat.ne_of_lt (Nat.lt_succ_self _)
 refine⟨by rw[aB ne,ao],Nat.zero_le _,ne,e2,fun _=>none,(Heap.Ns1.of_empty e3).at fun o q=>Heap.get?_push_of_some _ q,fun _=>True.intro,fun y hy=>absurd rfl hy⟩
theorem attr_of{prog:Program}{w:World}{env:Env}{e:Expr}{f:Str}{pos:Pos}{s:Shared}{Q:Value→Shared→Prop}(hb:attributeBase e f env (eval e env)=eval e env)
  (h:wpAny (model prog w) A (eval e env) (fun o s₁=>wpAny (model prog w) A (getAttr o f true) Q E s₁) E s):wpAny (model prog w) A (eval (.Attribute e f pos) env) Q E s:=
 Attribute_any_ h (by rw[arm_eval_Attribute,hb])
end
def tFld(K:PySem.W.Frag)(ta:TE)(f:Str):TE:=fun σ H Q=>ta σ H fun x H1=>∃a C dx fs v,x=.ref a∧H1 a=some (.ins C dx fs)∧Cls K C∧jl K C f∧fs.lookup f=some v∧Q v H1
def sFld(K:PySem.W.Frag)(ta tv:TE)(f:Str):TS:=fun D σ H=>tv σ H fun y H1=>ta σ H1 fun x H2=>∃a C dx fs,x=.ref a∧H2 a=some (.ins C dx fs)∧Cls K C∧jl K C f∧fs.length<1000∧
 D.nx σ (upd H2 a (.ins C dx (aN f y fs)))
section
variable{X:Cx}{o e value:Expr}{f:Str}{pos pos' tpos:Pos}{ta tv:TE}
theorem aJ(he:PE X e ta)(hb:attributeBase e f X.env (eval e X.env)=eval e X.env):PE X (.Attribute e f pos) (tFld X.K ta f):=by
 intro pins s σ H Q I h
 refine attr_of hb (dw (he pins s σ H _ I h) fun u s1 ⟨x,H1,I1,rx,a,C,dx,fs,v,ex,ea,c,n,l,q⟩=>?_)
 subst ex
 obtain rfl:u=Value.ref a:=rx
 exact getattr_ok I1 ea c n l fun u' s2 I2 ru=>⟨v,H1,I2,ru,q⟩
theorem cG(ha:PE X o ta)(hv:PE X value tv)(hs:swapsWith value (some (.Attribute o f pos')) pos.line X.env=pure false):PS X (.Assign [.Attribute o f pos'] value pos) (sFld X.K ta tv f):=by
 intro pins s σ H D I h
 refine plainObj_wpAny_Assign_Attribute (dw (hv pins s σ H _ I h) fun u s1 ⟨y,H1,I1,ry,q⟩=>dw (ha pins s1 σ H1 _ I1 q) fun ov s2 ⟨x,H2,I2,rx,a,C,dx,fs,ex,ea,c,n,l,q2⟩=>?_) hs
 subst ex
 obtain rfl:ov=Value.ref a:=rx
 exact setattr_ok I2 ea c n l ry fun s3 I3=>⟨σ,_,I3,q2⟩
end
end L2
namespace L2
open PySem PySem.Spec PyProof.Rows
structure fV(k:Nat)(A:Around):Prop where
 hd:A.handled=none
 dp:A.depth+3*k+5<recursionLimit
 un:A.units+16*k+200<cLine
theorem fV.mono{j k:Nat}{A:Around}(r:fV k A)(h:j≤k):fV j A:=⟨r.hd,by have:=r.dp;omega,by have:=r.un;omega⟩
theorem fV.deeper{k:Nat}{A:Around}(r:fV (k+1) A)(env:Env):fV k (A.deeper env):=
 ⟨r.hd,by have:=r.dp;show A.depth+1+3*k+5<_;omega,by have:=r.un;show A.units+3+16*k+200<_;omega⟩
theorem fV.in1{k:Nat}{A:Around}(r:fV (k+1) A):fV k A.in1:=
 ⟨r.hd,by have:=r.dp;show A.depth+3*k+5<_;omega,by have:=r.un;show A.units+1+16*k+200<_;omega⟩
theorem make_depth{A:Around}{C:Addr}{us:List Value}{kw:List (Str×Value)}:(A.under (.builtin "type.__call__" ⟨.ref C::us,kw⟩)).depth=A.depth+1:=by
 first|rfl|simp[Around.under,Code.weight,Code.isCreation,Code.isGuard,Code.isCaller,Code.frames,Code.isFrame,guardIds]
theorem make_units{A:Around}{C:Addr}{us:List Value}{kw:List (Str×Value)}:(A.under (.builtin "type.__call__" ⟨.ref C::us,kw⟩)).units=A.units+1:=by
 first|rfl|simp[Around.under,Code.cUnits,Code.frames,Code.isFrame]
theorem fV.make{k:Nat}{A:Around}(r:fV (k+1) A)(C:Addr)(us:List Value)(kw:List (Str×Value)):fV k (A.under (.builtin "type.__call__" ⟨.ref C::us,kw⟩)):=
 ⟨r.hd,by have:=r.dp;rw[make_depth];omega,by have:=r.un;rw[make_units];omega⟩
theorem fV.depth{k:Nat}{A:Around}(r:fV k A):A.depth<recursionLimit:=by have:=r.dp;omega
theorem fV.units{k:Nat}{A:Around}(r:fV k A):A.units+64<cLine:=by have:=r.un;omega
def tNil:TA:=fun _ H Q=>Q [] H
def tCons(ta:TE)(tr:TA):TA:=fun σ H Q=>ta σ H fun x H1=>tr σ H1 fun xs H2=>Q (x::xs) H2
section
variable{X:Cx}{e:Expr}{es:List Expr}{te:TE}{t:TA}{pos:Pos}
theorem ak:PA X [] tNil:=fun _ _ _ _ H Q I h=>Calls.spliced_nil ⟨[],H,I,.nil,h⟩
theorem aj(ha:PE X e te)(hr:PA X es t)(hs:starEach (e::es) X.env=(false,eval e X.env)::starEach es X.env:=by rfl):PA X (e::es) (tCons te t):=by
 intro pos pins s σ H Q I h
 rw[hs]
 show wpAny _ _ (spliced ((false,eval e X.env)::backTo pos (starEach es X.env))) _ _ s
 refine Calls.spliced_cons (dw (ha pins s σ H _ I h) fun u s1 ⟨x,H1,I1,r1,q1⟩=>?_)
 exact dw (hr pos pins s1 σ H1 _ I1 q1) fun us s2 ⟨xs,H2,I2,r2,q2⟩=>⟨x::xs,H2,I2,.cons r1 r2,q2⟩
def tTup(t:TA):TE:=fun σ H Q=>t σ H fun xs H1=>xs.length≤sizeLine∧∀p,H1 p=none→Q (.ref p) (upd H1 p (.tup xs))
def tLst(t:TA):TE:=fun σ H Q=>t σ H fun xs H1=>xs.length≤sizeLine∧∀p,H1 p=none→Q (.ref p) (upd H1 p (.lst xs))
theorem m9{x1}(h:PA X es t):PE X (.Tuple es x1 pos) (tTup t):=by
 intro pins s σ H Q I hq
 refine wpAny_Tuple_spliced (dw (h pos pins s σ H _ I hq) fun us s1 ⟨xs,H1,I1,r,z,q⟩=>⟨by rw[←r.length];exact z,?_⟩)
 have hf:H1 s1.heap.objs.size=none:=I1.hok.fresh (Nat.le_refl _)
 refine⟨.ref s1.heap.objs.size,upd H1 s1.heap.objs.size (.tup xs),I1.laid (t':=s1.toks) (fun b u e=>Heap.get?_push_of_some _ e) (Nat.le_refl _) ?_,rfl,q _ hf⟩
 exact⟨z,us,r,⟨_,Heap.get?_push_size _ rfl,rfl,_,rfl⟩⟩
theorem aW(h:PA X es t):PE X (.List es pos) (tLst t):=by
 intro pins s σ H Q I hq
 refine wpAny_List_spliced (dw (h pos pins s σ H _ I hq) fun us s1 ⟨xs,H1,I1,r,z,q⟩=>⟨by rw[←r.length];exact z,?_⟩)
 have hf:H1 s1.heap.objs.size=none:=I1.hok.fresh (Nat.le_refl _)
 refine⟨.ref s1.heap.objs.size,upd H1 s1.heap.objs.size (.lst xs),I1.laid (t':=s1.toks) (fun b u e=>Heap.get?_push_of_some _ e) (Nat.le_refl _) ?_,rfl,q _ hf⟩
 exact⟨z,us,0,r,Heap.get?_push_size _ rfl⟩
end
abbrev Sp:=List V→Hp→VK→XK→Prop
abbrev CXT:=List Env→Hp→Shared→XK→Value→Shared→Prop
structure Env0(P:Program)(w:World)(K:PySem.W.Frag)(mg:Str→Option Value)(base:Heap)(A:Around)(outer:List Env)(s:Shared)(H:Hp):Prop where
 frames:A.frames=some outer
 mod:Mod K mg base
 bs:∀b o,base.get? b=some o→s.heap.get? b=some o∧H b=none
 bsz:base.objs.size≤s.heap.objs.size
 funs:s.heap.FunFrames base outer
 frf:∀b∈frs outer,H b=none
 hok:HOk P w H s.heap
 bare:AllBare s.gens
def CE(outer:List Env)(P:Program)(w:World)(H:Hp)(s:Shared)(Q:VK)(u:Value)(s':Shared):Prop:=
 ∃v H',s'.os=s.os∧AllBare s'.gens∧Un (frs outer) [] H H' s.heap s'.heap∧HOk P w H' s'.heap∧RelV v u∧Q v H'
def CR(CX:CXT)(outer:List Env)(P:Program)(w:World)(H:Hp)(s:Shared)(Q:VK)(E:XK)(r:Result)(s':Shared):Prop:=
 match r with
 |.ok (.ret u)=>CE outer P w H s Q u s'
 |.ok _=>False
 |.error e=>CX outer H s E e s'
structure FnOk(P:Program)(w:World)(K:PySem.W.Frag)(mg:Str→Option Value)(base:Heap)(CX:CXT)(k:Nat)(f:Addr)(fd:FuncData)(ps:List Str)(sp:Sp):Prop where
 len:∀vs H Q E,sp vs H Q E→vs.length=ps.length
 run:∀(A:Around) (outer:List Env) (s:Shared) (H:Hp) (args:Args) (us:List Value) (vs:List V) (Q:VK) (E:XK),fV k A→Env0 P w K mg base A outer s H→BindsTo s fd args (ps.zip us)→Vals vs us→sp vs H Q E→
  codeAny (model P w) A (.call (.ref f) args) (CR CX outer P w H s Q E) s
theorem FnOk.mono{P:Program}{w:World}{K:PySem.W.Frag}{mg:Str→Option Value}{base:Heap}{CX:CXT}{j k:Nat}{f:Addr}{fd:FuncData}{ps:List Str}{sp:Sp}(F:FnOk P w K mg base CX j f fd ps sp)(h:j≤k):
  FnOk P w K mg base CX k f fd ps sp:=⟨F.len,fun A outer s H args us vs Q E hr=>F.run A outer s H args us vs Q E (hr.mono h)⟩
theorem Env0.make{P:Program}{w:World}{K:PySem.W.Frag}{mg:Str→Option Value}{base:Heap}{A:Around}{outer:List Env}{s:Shared}{H:Hp}(e:Env0 P w K mg base A outer s H)(C:Addr)(us:List Value)(kw:List (Str×Value)):
  Env0 P w K mg base (A.under (.builtin "type.__call__" ⟨.ref C::us,kw⟩)) outer s H:=⟨by first|exact e.frames|(simpa[Around.under,Code.envs,Code.isFrame,pushEnvs]using e.frames),e.mod,e.bs,e.bsz,e.funs,e.frf,e.hok,e.bare⟩
theorem Env0.in1{P:Program}{w:World}{K:PySem.W.Frag}{mg:Str→Option Value}{base:Heap}{A:Around}{outer:List Env}{s:Shared}{H:Hp}(e:Env0 P w K mg base A outer s H):
  Env0 P w K mg base A.in1 outer s H:=⟨e.frames,e.mod,e.bs,e.bsz,e.funs,e.frf,e.hok,e.bare⟩
section
variable{X:Cx}{pins:List (Addr×Obj)}{σ:St}{H:Hp}{s s':Shared}
theorem Inv.env0(I:Inv X pins σ H s):Env0 X.prog X.w X.K X.mg X.base X.A X.stack s H:=
 ⟨I.ok.frames,I.ok.mod,I.bs,Nat.le_trans I.ok.bsz I.sz,I.stack,I.stkFree,I.hok,I.bare⟩
theorem Inv.after{Q:VK}{u:Value}(I:Inv X pins σ H s)(h:CE X.stack X.prog X.w H s Q u s'):EP X pins σ Q u s':=by
 obtain⟨v,H',os,bare,un,hok,r,q⟩:=h
 obtain⟨hh,g,d,t,os'⟩:=s'
 obtain rfl:os'=s.os:=os
 exact⟨v,H',I.call (h':=hh) (g':=g) (d':=d) (t':=t) (ch:=[]) un hok bare (fun b z=>absurd z (by simp)),r,q⟩
end
def tCall(sp:Sp)(dvs:List V)(E:XK)(t:TA):TE:=fun σ H Q=>t σ H fun vs H1=>sp (vs++dvs) H1 Q E
def tMake(C:Addr)(sp:Sp)(dvs:List V)(E:XK)(t:TA):TE:=fun σ H Q=>t σ H fun vs H1=>∀x dx,H1 x=none→H1 dx=none→dx≠x→
 sp (.ref x::(vs++dvs)) (upd (upd H1 dx (.own x)) x (.ins C dx [])) (fun v H2=>v=.non∧Q (.ref x) H2) E
def Binds(K:PySem.W.Frag)(fd:FuncData)(ps:List Str)(ds:List Value):Prop:=
 ∀(s:Shared) (us:List Value),K.In s.heap→(us++ds).length=ps.length→BindsTo s fd ⟨us,[]⟩ (ps.zip (us++ds))
theorem Binds.all{K:PySem.W.Frag}{fd:FuncData}{ps:List Str}(h:∀us:List Value,us.length=ps.length→bindArgs fd ⟨us,[]⟩=pure (ps.zip us)):Binds K fd ps []:=fun s us _ hl=>by
 rw[List.append_nil]at hl ⊢
 exact .of_eq (h us hl)
def Passes(CX:CXT)(X:Cx)(E:XK):Prop:=∀(pins:List (Addr×Obj)) (σ:St) (H:Hp) (s:Shared) (e:Value) (s':Shared),Inv X pins σ H s→CX X.stack H s E e s'→X.xe e s'
section
variable{X:Cx}{CX:CXT}{k:Nat}{f C:Addr}{fd:FuncData}{ps:List Str}{sp:Sp}{dvs:List V}{ds:List Value}{E:XK}{x m:Str}{p pos apos:Pos}{e o:Expr}{es:List Expr}{ta:TE}{t:TA}
theorem run_fn{pins:List (Addr×Obj)}{σ:St}{H:Hp}{s:Shared}{Q:VK}{us:List Value}{vs:List V}(F:FnOk X.prog X.w X.K X.mg X.base CX k f fd ps sp)(hr:fV k X.A)(hb:Binds X.K fd ps ds)(hd:Vals dvs ds)(hx:Passes CX X E)
  (I:Inv X pins σ H s) (r:Vals vs us) (h:sp (vs++dvs) H Q E):wpAny (model X.prog X.w) X.A (call (.ref f) us) (EP X pins σ Q) X.xe s:=by
 have r2:Vals (vs++dvs) (us++ds):=r.append hd
 have hl:(us++ds).length=ps.length:=by rw[←r2.length];exact F.len _ _ _ _ h
 refine wpAny_call (codeAny_mono (F.run X.A X.stack s H ⟨us,[]⟩ (us++ds) (vs++dvs) Q E hr I.env0 (hb s us I.kIn hl) r2 h) fun r s' hq=>?_)
 cases r with
 |error e=>exact hx pins σ H s e s' I hq
 |ok fl=>
  cases fl with
  |ret u=>exact I.after hq
  |next=>exact False.elim hq
  |brk=>exact False.elim hq
  |cont=>exact False.elim hq
theorem pe_call(F:FnOk X.prog X.w X.K X.mg X.base CX k f fd ps sp)(hr:fV k X.A)(hg:Gl X x)(hm:X.mg x=some (.ref f))(hk:PySem.W.keepIn X.K (.ref f)=true)(hb:Binds X.K fd ps ds)(hd:Vals dvs ds)(hx:Passes CX X E)
  (ha:PA X (e::es) t) (hdb:(x==("__debug__":Str))=false:=by decide) (he:starEach (e::es) X.env=(false,eval e X.env)::starEach es X.env:=by rfl) (hpl:(backTo pos (starEach es X.env)).any (·.1)=false:=by rfl):
  PE X (.Call (.Name x p) (e::es) [] pos) (tCall sp dvs E t):=by
 intro pins s σ H Q I h
 refine wpAny_Call_Name_kw (ld_glob I hg hm ?_ hdb)
 refine PySem.W.callWith_K (h₀:=X.base) I.ok.mod.kin hk (dw (ha pos pins s σ H _ I h) fun us s1 ⟨vs,H1,I1,r,q⟩=>⟨I1.kIn,?_⟩) he hpl
 exact run_fn F hr hb hd hx I1 r q
theorem pe_call0(F:FnOk X.prog X.w X.K X.mg X.base CX k f fd ps sp)(hr:fV k X.A)(hg:Gl X x)(hm:X.mg x=some (.ref f))(hk:PySem.W.keepIn X.K (.ref f)=true)(hb:Binds X.K fd ps ds)(hd:Vals dvs ds)(hx:Passes CX X E)
  (hdb:(x==("__debug__":Str))=false:=by decide):PE X (.Call (.Name x p) [] [] pos) (tCall sp dvs E tNil):=by
 intro pins s σ H Q I h
 refine wpAny_Call_Name_kw (ld_glob I hg hm ?_ hdb)
 exact PySem.W.callWith_K0 I.kIn hk (run_fn (us:=[]) F hr hb hd hx I .nil h)
structure Mk(K:PySem.W.Frag)(C f:Addr):Prop where
 makes:PySem.W.makesIn K C=true
 init:PySem.W.findIn K (.ref C) "__init__"=some (some (.ref f))
 fn:PySem.W.isFn K (.ref f)=true
 kp:PySem.W.keepIn K (.ref C)=true
theorem run_make{pins:List (Addr×Obj)}{σ:St}{H:Hp}{s:Shared}{Q:VK}{us:List Value}{vs:List V}(M:Mk X.K C f)(F:FnOk X.prog X.w X.K X.mg X.base CX k f fd ps sp)(hr:fV (k+1) X.A)(hb:Binds X.K fd ps ds)(hd:Vals dvs ds)
  (hx:Passes CX X E) (I:Inv X pins σ H s) (r:Vals vs us)
  (h:∀x dx,H x=none→H dx=none→dx≠x→sp (.ref x::(vs++dvs)) (upd (upd H dx (.own x)) x (.ins C dx [])) (fun v H2=>v=.non∧Q (.ref x) H2) E):
  wpAny (model X.prog X.w) X.A (call (.ref C) us) (EP X pins σ Q) X.xe s:=by
 have hq:=h (s.heap.objs.size+1) s.heap.objs.size (I.hok.fresh (Nat.le_succ _)) (I.hok.fresh (Nat.le_refl _)) (Nat.ne_of_lt (Nat.lt_succ_self _))
 have I2:=Inv.made (C:=C) I
 have r2:Vals (V.ref (s.heap.objs.size+1)::(vs++dvs)) (Value.ref (s.heap.objs.size+1)::(us++ds)):=.cons rfl (r.append hd)
 have hl:(Value.ref (s.heap.objs.size+1)::us++ds).length=ps.length:=by
  have e:=r2.length
  rw[F.len _ _ _ _ hq]at e
  exact e.symm
 refine wpAny_call (make_map (f:=f) I.kIn M.makes M.init (beq_iff_eq.mp M.fn) (codeAny_mono (F.run _ X.stack _ _ ⟨Value.ref (s.heap.objs.size+1)::us,[]⟩ (Value.ref (s.heap.objs.size+1)::(us++ds)) _ _ E (hr.make C us [])
  (I2.env0.make C us []) (hb _ (Value.ref (s.heap.objs.size+1)::us) I2.kIn hl) r2 hq) fun r s' hq'=>?_))
 cases r with
 |error e=>exact hx pins σ _ _ e s' I2 hq'
 |ok fl=>
  cases fl with
  |ret u=>
   obtain⟨v,H',I3,rv,ev,q3⟩:=I2.after hq'
   subst ev
   exact⟨rv,⟨V.ref (s.heap.objs.size+1),H',I3,rfl,q3⟩⟩
  |next=>exact False.elim hq'
  |brk=>exact False.elim hq'
  |cont=>exact False.elim hq'
theorem pe_make(M:Mk X.K C f)(F:FnOk X.prog X.w X.K X.mg X.base CX k f fd ps sp)(hr:fV (k+1) X.A)(hg:Gl X x)(hm:X.mg x=some (.ref C))(hb:Binds X.K fd ps ds)(hd:Vals dvs ds)(hx:Passes CX X E)
  (ha:PA X (e::es) t) (hdb:(x==("__debug__":Str))=false:=by decide) (he:starEach (e::es) X.env=(false,eval e X.env)::starEach es X.env:=by rfl) (hpl:(backTo pos (starEach es X.env)).any (·.1)=false:=by rfl):
  PE X (.Call (.Name x p) (e::es) [] pos) (tMake C sp dvs E t):=by
 intro pins s σ H Q I h
 refine wpAny_Call_Name_kw (ld_glob I hg hm ?_ hdb)
 refine PySem.W.callWith_K (h₀:=X.base) I.ok.mod.kin M.kp (dw (ha pos pins s σ H _ I h) fun us s1 ⟨vs,H1,I1,r,q⟩=>⟨I1.kIn,?_⟩) he hpl
 exact run_make M F hr hb hd hx I1 r q
theorem pe_make0(M:Mk X.K C f)(F:FnOk X.prog X.w X.K X.mg X.base CX k f fd ps sp)(hr:fV (k+1) X.A)(hg:Gl X x)(hm:X.mg x=some (.ref C))(hb:Binds X.K fd ps ds)(hd:Vals dvs ds)(hx:Passes CX X E)
  (hdb:(x==("__debug__":Str))=false:=by decide):PE X (.Call (.Name x p) [] [] pos) (tMake C sp dvs E tNil):=by
 intro pins s σ H Q I h
 refine wpAny_Call_Name_kw (ld_glob I hg hm ?_ hdb)
 exact PySem.W.callWith_K0 I.kIn M.kp (run_make (us:=[]) M F hr hb hd hx I .nil h)
end
structure oU(N P:List Str)(sc:Scope):Prop where
 kind:sc.kind=.function
 co:sc.isCoroutine=false
 gen:sc.isGenerator=false
 nd:N.Nodup
 pre:N.take P.length=P
 par:∀x∈P,sc.names.lookup x=some .local∨sc.names.lookup x=some .cell
 nofree:∀y∈sc.names,y.2≠.free
theorem bindL_out{kindOf:Str→Option NameKind}{x:Str}:∀{binds:List (Str×Value)}{m:Str→Option Value},(∀v,(x,v)∉binds)→bindL kindOf binds m x=m x
 |[],_,_=>rfl
 |(n,v)::r,m,h=>by
  unfold bindL
  rw[bindL_out fun w hw=>h w (List.mem_cons_of_mem _ hw)]
  split
  ·have:x≠n:=by rintro rfl;exact h v List.mem_cons_self
   simp[this]
  ·rfl
theorem bindC_out{kindOf:Str→Option NameKind}{x:Str}:∀{binds:List (Str×Value)}{m:Str→Option Value},(∀v,(x,v)∉binds)→bindC kindOf binds m x=m x
 |[],_,_=>rfl
 |(n,v)::r,m,h=>by
  unfold bindC
  rw[bindC_out fun w hw=>h w (List.mem_cons_of_mem _ hw)]
  split
  ·rfl
  ·have:x≠n:=by rintro rfl;exact h v List.mem_cons_self
   simp[this]
theorem bindL_get{kindOf:Str→Option NameKind}{x:Str}{v:Value}:∀{P:List Str}{vs:List Value}{i:Nat}{m:Str→Option Value},P.Nodup→P[i]?=some x→vs[i]?=some v→kindOf x=some .local→
  bindL kindOf (P.zip vs) m x=some v
 |[],_,_,_,_,h,_,_=>by simp at h
 |_::_,[],_,_,_,_,h,_=>by simp at h
 |p::P,w::vs,0,m,nd,h1,h2,hk=>by
  simp at h1 h2;subst h1;subst h2
  show bindL kindOf ((p,w)::P.zip vs) m p=_
  unfold bindL
  rw[bindL_out fun v hv=>(List.nodup_cons.mp nd).1 (List.of_mem_zip hv).1,if_pos hk]
  simp
 |p::P,w::vs,i+1,m,nd,h1,h2,hk=>by
  show bindL kindOf ((p,w)::P.zip vs) m x=_
  unfold bindL
  exact bindL_get (i:=i) (List.nodup_cons.mp nd).2 (by simpa using h1) (by simpa using h2) hk
theorem bindC_get{kindOf:Str→Option NameKind}{x:Str}{v:Value}:∀{P:List Str}{vs:List Value}{i:Nat}{m:Str→Option Value},P.Nodup→P[i]?=some x→vs[i]?=some v→kindOf x≠some .local→
  bindC kindOf (P.zip vs) m x=some v
 |[],_,_,_,_,h,_,_=>by simp at h
 |_::_,[],_,_,_,_,h,_=>by simp at h
 |p::P,w::vs,0,m,nd,h1,h2,hk=>by
  simp at h1 h2;subst h1;subst h2
  show bindC kindOf ((p,w)::P.zip vs) m p=_
  unfold bindC
  rw[bindC_out fun v hv=>(List.nodup_cons.mp nd).1 (List.of_mem_zip hv).1,if_neg hk]
  simp
 |p::P,w::vs,i+1,m,nd,h1,h2,hk=>by
  show bindC kindOf ((p,w)::P.zip vs) m x=_
  unfold bindC
  exact bindC_get (i:=i) (List.nodup_cons.mp nd).2 (by simpa using h1) (by simpa using h2) hk
def start(N:List Str)(vs:List V):St:=vs.map some++List.replicate (N.length - vs.length) none
def cxOf(CX:CXT)(P:Program)(w:World)(K:PySem.W.Frag)(mg:Str→Option Value)(base:Heap)(N:List Str)(qual:Str)(scope:Scope)(f:Addr)(cd:Value)(A:Around)(outer:List Env)(s:Shared)(H:Hp)(E:XK):Cx where
 prog:=P
 w:=w
 K:=K
 mg:=mg
 base:=base
 A:=A.deeper (envOfC qual scope s.heap.objs.size f cd)
 N:=N
 s_0:=s
 H_0:=H
 env:=envOfC qual scope s.heap.objs.size f cd
 outer:=outer
 stack:=envOfC qual scope s.heap.objs.size f cd::outer
 ex:=[]
 calm:=true
 fn:=fun _=>true
 pn:=[]
 xe:=fun e s'=>wpAny (model P w) (A.deeper (envOfC qual scope s.heap.objs.size f cd)) (leaving (envOfC qual scope s.heap.objs.size f cd) e) (fun _ s''=>CX outer H s E e s'') (fun e' s''=>CX outer H s E e' s'') s'
theorem cell_has{sc:Scope}{n:Nat}{x:Str}(h:sc.names.lookup x=some .cell):∃c,(cellsFrom n sc.names []).lookup x=some c:=by
 have q:=PySem.W.cellsFrom_some sc.names n [] (.inl h)
 exact Option.isSome_iff_exists.mp q
theorem inv_start{CX:CXT}{P:Program}{w:World}{K:PySem.W.Frag}{mg:Str→Option Value}{base:Heap}{N ps:List Str}{qual:Str}{scope:Scope}{f:Addr}{cd:Value}{A:Around}{outer:List Env}{s s1:Shared}{H:Hp}{E:XK}{us:List Value}{vs:List V}
  (S:oU N ps scope) (hd:A.handled=none) (e0:Env0 P w K mg base A outer s H) (hl:vs.length=ps.length) (r:Vals vs us)
  (x:InCallC s s.heap.objs.size (bindL (envOfC qual scope s.heap.objs.size f cd).kindOf (ps.zip us) fun _=>none) (cellsFrom (s.heap.objs.size+1) scope.names []) (bindC (envOfC qual scope s.heap.objs.size f cd).kindOf (ps.zip us) fun _=>none) s1):
  Inv (cxOf CX P w K mg base N qual scope f cd A outer s H E) [] (start N vs) H s1:=by
 have hpl:ps.length≤N.length:=by have:=congrArg List.length S.pre;rw[List.length_take]at this;omega
 obtain⟨h1,tk,rfl,hk⟩:=x.done
 have noA:∀b:Addr,b∉(cxOf CX P w K mg base N qual scope f cd A outer s H E).ex:=fun b z=>absurd (show b∈([]:List Addr)from z) (by simp)
 refine⟨⟨e0.mod,S.kind,rfl,rfl,Nat.le_refl _,fun y z c h1 h2=>?_,fun y hy=>?_,fun y c _ h=>?_,fun _=>hd,Around.frames_deeper e0.frames,.inr ⟨rfl,rfl⟩,fun b z=>absurd z (noA b),e0.bs,e0.bsz,fun b _ _=>noA b,fun b z=>absurd z (noA b),e0.funs,e0.frf⟩,
  rfl,e0.bare,Un.kept hk,⟨_,x.toInCall.ns,fun i y v h1 h2 h3=>?_⟩,fun y c h=>⟨_,x.cell y c h⟩,e0.hok.fresh (Nat.le_refl _),fun y c h=>?_,fun p hp=>absurd (show p∈([]:List (Addr×Obj))from hp) (by simp),e0.hok.kept hk,?_⟩
 ·exact name_of_addr x.apart (PySem.mem_of_lookup h1) (PySem.mem_of_lookup h2)
 ·have hy:scope.names.lookup y=some .cell∨scope.names.lookup y=some .free:=hy
  rcases hy with hy|hy
  ·exact cell_has hy
  ·exact absurd rfl (S.nofree _ (PySem.mem_of_lookup hy))
 ·exact Nat.le_of_lt (x.above y c (PySem.mem_of_lookup h))
 ·have hi:i<vs.length:=by
   unfold start at h2
   by_cases hi:i<vs.length
   ·exact hi
   ·rw[List.getElem?_append_right (by simpa using hi)]at h2
    rw[List.getElem?_replicate]at h2
    split at h2 <;> cases h2
  have ha:vs[i]?=some v:=by
   unfold start at h2
   rw[List.getElem?_append_left (by simpa using hi),List.getElem?_map]at h2
   cases e:vs[i]? with
   |none=>rw[e]at h2;cases h2
   |some a=>rw[e]at h2;cases h2;rfl
  obtain⟨u,hu,rv⟩:=r.get ha
  have hp:ps[i]?=some y:=by
   rw[←S.pre,List.getElem?_take_of_lt (by omega)];exact h1
  have ndP:ps.Nodup:=by rw[←S.pre];exact S.nd.sublist (List.take_sublist _ _)
  refine⟨u,rv,?_⟩
  rcases S.par y (List.mem_of_getElem? hp)with k|k
  ·exact .inl ⟨k,bindL_get ndP hp hu k⟩
  ·obtain⟨c,e⟩:=cell_has (n:=s.heap.objs.size+1) k
   refine .inr ⟨.inl k,c,e,?_⟩
   have q:=x.cell y c e
   rw[bindC_get ndP hp hu (by show scope.names.lookup y≠_;rw[k];decide)]at q
   exact q
 ·exact e0.hok.fresh (Nat.le_of_lt (x.above y c (PySem.mem_of_lookup h)))
 ·unfold start
  show _=N.length
  rw[List.length_append,List.length_map,List.length_replicate]
  omega
theorem fn_of{CX:CXT}{P:Program}{w:World}{K:PySem.W.Frag}{mg:Str→Option Value}{base:Heap}{k:Nat}{f:Addr}{name qual:Str}{params:Arguments}{body:List Stmt}{scope:Scope}{dV kV doc pm cdv ct oc:Value}{an od:Option Addr}
  {osl:Array (Option Value)}{N ps:List Str}{sp:Sp} (lk:K.lookup f=some ⟨oc,od,.func (PySem.W.fnOf name qual params body scope dV kV doc pm an cdv ct),osl⟩) (hcd:PySem.W.codeIn K cdv qual=true) (S:oU N ps scope)
  (len:∀vs H Q E,sp vs H Q E→vs.length=ps.length)
  (hbody:∀(A:Around) (outer:List Env) (s:Shared) (H:Hp) (vs:List V) (Q:VK) (E:XK),fV k (A.deeper (envOfC qual scope s.heap.objs.size f cdv))→sp vs H Q E→
   ∃t,PSs (cxOf CX P w K mg base N qual scope f cdv A outer s H E) body t∧t { nx:=fun _ H'=>Q .non H',rt:=Q } (start N vs) H):
  FnOk P w K mg base CX (k+1) f (PySem.W.fnOf name qual params body scope dV kV doc pm an cdv ct) ps sp:=by
 refine⟨len,fun A outer s H args us vs Q E hr e0 hb r hsp=>?_⟩
 have hl:=len _ _ _ _ hsp
 have KX:K.In s.heap:=e0.mod.kin.keeps fun b o e=>(e0.bs b o e).1
 have lim:s.heap.NoLimit:=e0.mod.nolimit.keeps fun b o e=>(e0.bs b o e).1
 have hkind:∀y∈ps.zip us,scope.names.lookup y.1=some .local∨(scope.names.lookup y.1=some .cell∧((cellsFrom (s.heap.objs.size+1) scope.names []).lookup y.1).isSome=true):=fun⟨n,v⟩ hy=>by
  rcases S.par n (List.of_mem_zip hy).1 with q|q
  ·exact .inl q
  ·exact .inr ⟨q,PySem.W.cellsFrom_some _ _ _ (.inl q)⟩
 refine codeAny_call_function hr.depth (KX _ _ lk) rfl S.co S.gen rfl (PySem.W.codeRec_of KX hcd) (hb _ _ _ _ ?_)
 refine wpAny_newFunctionEnv_cells S.kind hkind fun env he s1 x=>?_
 subst he
 refine⟨lim.keeps x.toInCall.keep,codeAny_func ?_⟩
 obtain⟨t,ht,hq⟩:=hbody A outer s H vs Q E (hr.deeper _) hsp
 have I:Inv (cxOf CX P w K mg base N qual scope f cdv A outer s H E) [] (start N vs) H s1:=inv_start S hr.hd e0 hl r x
 refine wpAny_mono (ht [] s1 (start N vs) H _ I hq) (fun fl s' hs=>?_) fun e s' hs=>hs
 have fin:∀{σ':St}{H':Hp}{v:V}{u:Value},Inv (cxOf CX P w K mg base N qual scope f cdv A outer s H E) [] σ' H' s'→RelV v u→Q v H'→CE outer P w H s Q u s':=
  fun{σ' H' v u} J rv q=>⟨v,H',J.os,J.bare,J.base,J.hok,rv,q⟩
 cases fl with
 |ret u=>
  obtain⟨v,σ',H',J,rv,q⟩:=hs
  exact fin J rv q
 |next=>
  obtain⟨σ',H',J,q⟩:=hs
  exact fin (v:=V.non) (u:=Value.none) J rfl q
 |brk=>
  obtain⟨_,_,_,q⟩:=hs
  exact False.elim q
 |cont=>
  obtain⟨_,_,_,q⟩:=hs
  exact False.elim q
end L2
namespace L2
open PySem PySem.Spec PyProof.Rows
section
variable{X:Cx}{x:Str}{p pos:Pos}{e:Expr}{es:List Expr}{t:TA}{id T:String}{r:List V→Hp→VK→Prop}
def tCB(r:List V→Hp→VK→Prop)(t:TA):TE:=fun σ H Q=>t σ H fun vs H1=>r vs H1 Q
theorem aU(hc:lF X (.builtin id) r)(hg:Gl X x)(hm:X.mg x=none)(hv:bootBuiltins x=some (.builtin id))(ha:PA X (e::es) t)(hn:x≠"__name__":=by decide)(hdb:(x==("__debug__":Str))=false:=by decide)
  (he:starEach (e::es) X.env=(false,eval e X.env)::starEach es X.env:=by rfl) (hpl:(backTo pos (starEach es X.env)).any (·.1)=false:=by rfl):PE X (.Call (.Name x p) (e::es) [] pos) (tCB r t):=by
 intro pins s σ H Q I h
 refine wpAny_Call_Name_kw (oJ I hg hm hv ?_ hn hdb)
 exact PyProof.Rows.callWith_builtin1 (dw (ha pos pins s σ H _ I h) fun us s1 ⟨vs,H1,I1,r1,q1⟩=>hc pins s1 σ H1 vs us Q I1 r1 q1) he hpl
theorem pe_callTy(hc:lF X (.type T) r)(hg:Gl X x)(hm:X.mg x=none)(hv:bootBuiltins x=some (.type T))(ha:PA X (e::es) t)(hn:x≠"__name__":=by decide)(hdb:(x==("__debug__":Str))=false:=by decide)
  (he:starEach (e::es) X.env=(false,eval e X.env)::starEach es X.env:=by rfl) (hpl:(backTo pos (starEach es X.env)).any (·.1)=false:=by rfl):PE X (.Call (.Name x p) (e::es) [] pos) (tCB r t):=by
 intro pins s σ H Q I h
 refine wpAny_Call_Name_kw (oJ I hg hm hv ?_ hn hdb)
 exact PyProof.Rows.callWith_type1 (dw (ha pos pins s σ H _ I h) fun us s1 ⟨vs,H1,I1,r1,q1⟩=>hc pins s1 σ H1 vs us Q I1 r1 q1) he hpl
end
end L2
namespace HT
open PySem PyProof.Rows
section
open PySem.SeqAt
open PySem.AutoSeq1 (wpAny_loadPart')
open PySem.MeetsSeq PySem.MeetsSeq2 PySem.MeetsSeq3
end
section
variable{prog:Program}{w:World}{A:Around}{E:Value→Shared→Prop}{s:Shared}
theorem cat_tup{t b:Addr}{vs ws:List Value}{Q:Value→Shared→Prop}(ht:IsTup s.heap t vs.toArray)(hb:IsTup s.heap b ws.toArray)(hv:vs≠[])
  (h1:ws=[]→Q (.ref t) s) (h2:ws≠[]→Q (.ref s.heap.objs.size) { s with heap:=s.heap.push { cls:=.type "tuple",data:=.seq (vs++ws).toArray } })
  (hsz:vs.length+ws.length≤sizeLine):wpAny (model prog w) A (binaryOp .Add (.ref t) (.ref b)) Q E s:=by
 obtain⟨⟨cls,dd,data,sl⟩,ho,hc,n,hd⟩:=id ht
 obtain⟨⟨cls2,dd2,data2,sl2⟩,ho2,hc2,n2,hd2⟩:=id hb
 simp only at hc hd hc2 hd2
 subst hc hd hc2 hd2
 have e:vs.toArray++ws.toArray=(vs++ws).toArray:=by simp
 by_cases hw:ws=[]
 ·exact concat_meets ⟨_,ho,rfl⟩ ⟨_,ho2,rfl⟩ noFill_tuple_add seq_tuple_add PySem.F.slot_tuple_add PySem.F.entry_tuple_add (PySem.F.args_tuple_add_2 _ _)
   (tuple_addW1 t b vs.toArray ws.toArray n n2 dd dd2 sl sl2 (by simpa using hv) (by simp[hw])) ⟨ho,ho2,h1 hw⟩
 ·refine concat_meets ⟨_,ho,rfl⟩ ⟨_,ho2,rfl⟩ noFill_tuple_add seq_tuple_add PySem.F.slot_tuple_add PySem.F.entry_tuple_add (PySem.F.args_tuple_add_2 _ _)
   (tuple_addW2 t b vs.toArray ws.toArray n n2 dd dd2 sl sl2 (by simpa using hv) (by simpa using hw) (by rw[List.size_toArray,List.size_toArray];exact hsz)) ⟨ho,ho2,?_⟩
  rw[e]
  exact h2 hw
def sIx(n d:Nat):Option Int→Nat
 |none=>d
 |some v=>if v<0 then(v+(n:Int)).toNat else min v.toNat n
theorem sIx_none(n d:Nat):sIx n d none=d:=rfl
theorem sIx_nat(n d k:Nat):sIx n d (some (k:Int))=min k n:=by
 show(if (k:Int)<0 then((k:Int)+(n:Int)).toNat else min (k:Int).toNat n)=min k n
 rw[if_neg (by omega),Int.toNat_natCast]
end
end HT
namespace L2
open PySem PySem.Spec PyProof.Rows
abbrev TO:=St→Hp→(Option Int→Hp→Prop)→Prop
def PO(X:Cx)(e:Option Expr)(t:TO):Prop:=
 ∀(pins:List (Addr×Obj)) (s:Shared) (σ:St) (H:Hp) (Q:Option Int→Hp→Prop),Inv X pins σ H s→t σ H Q→
  wpAny (model X.prog X.w) X.A (evalPart e X.env) (fun u s'=>∃o H',Inv X pins σ H' s'∧IsPart u o∧Q o H') X.xe s
def tNoPart:TO:=fun _ H Q=>Q none H
def tPart(t:TE):TO:=fun σ H Q=>t σ H fun x H1=>∃i,x=.int i∧Q (some i) H1
theorem intsAre_of{ns:List Int}:∀{us:List Value},Vals (ns.map V.int) us→IntsAre us ns:=by
 induction ns with
 |nil=>intro us r;rw[List.map_nil]at r;cases r;exact .nil
 |cons n ns ih=>
  intro us r
  rw[List.map_cons]at r
  cases r with
  |cons r1 r2=>
   obtain⟨t,e⟩:=r1
   subst e
   exact .cons n t (ih r2)
section
variable{X:Cx}{e:Expr}{te:TE}{lo hi:Option Expr}{tl th:TO}{pos p2:Pos}
theorem po_none:PO X none tNoPart:=by
 intro pins s σ H Q I h
 rw[evalPart_none]
 exact wpAny_pure ⟨none,H,I,.none,h⟩
theorem po_some(h:PE X e te):PO X (some e) (tPart te):=by
 intro pins s σ H Q I hw
 rw[evalPart_some]
 refine dw (h pins s σ H _ I hw) fun u s1 ⟨x,H1,I1,r1,q1⟩=>?_
 obtain⟨i,rfl,q⟩:=q1
 obtain⟨t,rfl⟩:=r1
 exact⟨some i,H1,I1,.int i t,q⟩
def SlR(X:Cx)(r:V→Option Int→Option Int→Hp→VK→Prop):Prop:=
 ∀(pins:List (Addr×Obj)) (s:Shared) (σ:St) (H:Hp) (x:V) (v vl vu:Value) (lo hi:Option Int) (sl:Addr) (Q:VK),Inv X pins σ H s→RelV x v→s.heap.IsSliceOf sl vl vu .none→IsPart vl lo→IsPart vu hi→r x lo hi H Q→
  ∃T id,typeLookup (.type T) "__getitem__"=pure (some (.builtin id))∧s.TypeIs v T∧wpAny (model X.prog X.w) X.A (getItem v (.ref sl)) (EP X pins σ Q) X.xe s
def tSl(r:V→Option Int→Option Int→Hp→VK→Prop)(te:TE)(tl th:TO):TE:=fun σ H Q=>te σ H fun x H1=>tl σ H1 fun l H2=>th σ H2 fun u H3=>r x l u H3 Q
theorem pe_slice{r:V→Option Int→Option Int→Hp→VK→Prop}(hr:SlR X r)(he:PE X e te)(hl:PO X lo tl)(hu:PO X hi th):PE X (.Subscript e (.Slice lo hi none p2) pos) (tSl r te tl th):=by
 intro pins s σ H Q I h
 refine Subscript_ (dw (he pins s σ H _ I h) fun v s1 ⟨x,H1,I1,r1,q1⟩=>?_)
 refine wpAny_Slice (dw (hl pins s1 σ H1 _ I1 q1) fun vl s2 ⟨l,H2,I2,pl,q2⟩=>dw (hu pins s2 σ H2 _ I2 q2) fun vu s3 ⟨u,H3,I3,pu,q3⟩=>?_)
 rw[evalPart_none]
 refine wpAny_pure ?_
 have I4:Inv X pins σ H3 { s3 with heap:=s3.heap.push { cls:=.type "slice",data:=.fields #[vl,vu,.none] } }:=I3.kept (t':=s3.toks) fun b ob q=>Heap.get?_push_of_some _ q
 obtain⟨T,id,hT,ht,hg⟩:=hr pins { s3 with heap:=s3.heap.push { cls:=.type "slice",data:=.fields #[vl,vu,.none] } } σ H3 x v vl vu l u s3.heap.objs.size Q I4 r1 (Heap.IsSliceOf.new ..) pl pu q3
 show wpAny (model X.prog X.w) X.A (subscriptTail e (.Slice lo hi none p2) v (.ref s3.heap.objs.size)) (EP X pins σ Q) X.xe { s3 with heap:=s3.heap.push { cls:=.type "slice",data:=.fields #[vl,vu,.none] } }
 exact tail_any (ops:=[.ref s3.heap.objs.size,v]) ht hT hg (by with_unfolding_all rfl)
def cutV(xs:List V)(lo hi:Option Int):List V:=(xs.drop (HT.sIx xs.length 0 lo)).take (HT.sIx xs.length xs.length hi - HT.sIx xs.length 0 lo)
theorem cutV_length(xs:List V)(lo hi:Option Int):(cutV xs lo hi).length≤xs.length:=by
 unfold cutV
 rw[List.length_take,List.length_drop]
 omega
def rCatT(K:PySem.W.Frag):R2:=fun x y H Q=>∃a b xs ys,x=.ref a∧y=.ref b∧jh K H a xs∧jh K H b ys∧xs≠[]∧xs.length+ys.length≤sizeLine∧
 (ys=[]→Q (.ref a) H)∧(ys≠[]→∀p,H p=none→Q (.ref p) (upd H p (.tup (xs++ys))))
theorem Vals.nil_iff{xs:List V}{us:List Value}(r:Vals xs us):us=[]↔xs=[]:=by
 cases r with
 |nil=>simp
 |cons _ _=>simp
theorem op_catT:OpR X (binaryOp .Add) (rCatT X.K):=by
 intro pins s σ H x y v u Q I rx ry h
 obtain⟨a,b,xs,ys,rfl,rfl,ha,hb,hx,hz,q1,q2⟩:=h
 cases rx
 cases ry
 obtain⟨its,r1,p1,_⟩:=I.tuple ha
 obtain⟨its2,r2,p2,_⟩:=I.tuple hb
 refine HT.cat_tup p1 p2 (fun z=>hx (r1.nil_iff.mp z)) (fun z=>⟨.ref a,H,I,rfl,q1 (r2.nil_iff.mp z)⟩) (fun z=>?_) (by rw[←r1.length,←r2.length];exact hz)
 refine⟨.ref s.heap.objs.size,_,I.laid (t':=s.toks) (o:=.tup (xs++ys)) (fun b ob q=>Heap.get?_push_of_some _ q) (Nat.le_refl _) ?_,rfl,q2 (fun w=>z (r2.nil_iff.mpr w)) _ (I.hok.fresh (Nat.le_refl _))⟩
 exact⟨by rw[List.length_append];exact hz,_,r1.append r2,IsTup.new _ _⟩
end
end L2
namespace L2
open PySem PySem.Spec PyProof.Rows
def ixN(n:Nat)(i:Int):Option Nat:=if 0≤i then(if i<n then some i.toNat else none)else if -(n:Int)≤i then some (i+n).toNat else none
def atI{α:Type}(xs:List α)(i:Int):Option α:=(ixN xs.length i).bind fun j=>xs[j]?
theorem ixN_seq{n:Nat}{i:Int}{j:Nat}(h:ixN n i=some j):seqIndex? i n=some j∧j<n∧-(n:Int)≤i∧i<n:=by
 unfold ixN at h
 by_cases h0:0≤i
 ·rw[if_pos h0]at h
  by_cases h1:i<n
  ·rw[if_pos h1]at h
   have e:i.toNat=j:=Option.some.inj h
   exact⟨by rw[seqIndex_of h0 h1,e],by omega,by omega,h1⟩
  ·rw[if_neg h1]at h;cases h
 ·rw[if_neg h0]at h
  by_cases h1:-(n:Int)≤i
  ·rw[if_pos h1]at h
   have e:(i+n).toNat=j:=Option.some.inj h
   exact⟨by rw[seqIndex_neg (by omega) h1,e],by omega,h1,by omega⟩
  ·rw[if_neg h1]at h;cases h
theorem atI_get{α:Type}{xs:List α}{i:Int}{v:α}(h:atI xs i=some v):∃j,seqIndex? i xs.length=some j∧xs[j]?=some v∧j<xs.length∧-(xs.length:Int)≤i∧i<xs.length:=by
 unfold atI at h
 cases e:ixN xs.length i with
 |none=>rw[e]at h;cases h
 |some j=>
  rw[e]at h
  obtain⟨h1,h2,h3,h4⟩:=ixN_seq e
  exact⟨j,h1,h,h2,h3,h4⟩
theorem mC{α:Type}{xs:List α}{j:Nat}{v:α}(h:xs[j]?=some v):atI xs (j:Int)=some v:=by
 have hj:j<xs.length:=(List.getElem?_eq_some_iff.mp h).1
 have e:ixN xs.length (j:Int)=some j:=by
  unfold ixN
  rw[if_pos (by omega),if_pos (by omega)];simp
 unfold atI;rw[e];exact h
def PlainIx(b:Expr):Prop:=∀o i,subscripted b false o i=operate [o,i] (getItem o i)
def IxR(X:Cx)(r:R2):Prop:=
 ∀(value slice:Expr) (pins:List (Addr×Obj)) (s:Shared) (σ:St) (H:Hp) (x y:V) (v u:Value) (Q:VK),Inv X pins σ H s→RelV x v→RelV y u→r x y H Q→
  subscripted slice false v u=operate [v,u] (getItem v u)→wpAny (model X.prog X.w) X.A (subscriptTail value slice v u) (EP X pins σ Q) X.xe s
def MtR(X:Cx)(id:String)(r:V→List V→Hp→VK→Prop):Prop:=
 ∀(pins:List (Addr×Obj)) (s:Shared) (σ:St) (H:Hp) (x:V) (xs:List V) (v:Value) (us:List Value) (Q:VK),Inv X pins σ H s→RelV x v→Vals xs us→r x xs H Q→
  wpAny (model X.prog X.w) X.A (call (.builtin id) (v::us)) (EP X pins σ Q) X.xe s
section
variable{X:Cx}{a b:Expr}{ta tb:TE}{pos:Pos}
theorem bU{r:R2}(hr:IxR X r)(ha:PE X a ta)(hb:PE X b tb)(hs:PlainIx b):PE X (.Subscript a b pos) (tOp r ta tb):=by
 intro pins s σ H Q I h
 exact Subscript_ (binT ha hb I h fun v u s2 x y H2 I2 rx ry q=>hr a b pins s2 σ H2 x y v u Q I2 rx ry q (hs _ _))
def rIxL(K:PySem.W.Frag):R2:=fun x y H Q=>∃p xs i v,x=.ref p∧y=.int i∧bh K H p xs∧atI xs i=some v∧Q v H
def rIxT(K:PySem.W.Frag):R2:=fun x y H Q=>∃p xs i v,x=.ref p∧y=.int i∧jh K H p xs∧atI xs i=some v∧Q v H
theorem bf:IxR X (rIxL X.K):=by
 intro value slice pins s σ H x y v u Q I rx ry h hs
 obtain⟨p,xs,i,z,rfl,rfl,hq,he,q⟩:=h
 cases rx
 obtain⟨t,rfl⟩:=ry
 obtain⟨its,r,pl,hz⟩:=I.list hq
 obtain⟨j,h1,h2,h3,h4,h5⟩:=atI_get he
 obtain⟨w,ew,rw'⟩:=r.get h2
 have hl:=r.length
 have hn:=line63
 have fin:EP X pins σ Q w s:=⟨z,H,I,rw',q⟩
 by_cases h0:0≤i
 ·have hj:i.toNat=j:=by
   rw[seqIndex_of h0 h5]at h1
   exact Option.some.inj h1
  exact item_listR pl.isList h0 (by omega) (by rw[hj];simpa using ew) fin hs
 ·have hj:(i+(its.toArray.size:Int)).toNat=j:=by
   rw[seqIndex_neg (by omega) h4]at h1
   rw[List.size_toArray,←hl]
   exact Option.some.inj h1
  exact subscriptTail_builtinR (x:=w) pl.isList.typeIs slot_list_getitem.lookup
   (wpAny_getItem_list_neg (Q:=fun r s'=>r=w∧EP X pins σ Q r s') pl.isList (by omega) (by rw[List.size_toArray] <;> omega) (by omega) (by rw[hj];simpa using ew) ⟨rfl,fin⟩) hs
theorem ix_tup:IxR X (rIxT X.K):=by
 intro value slice pins s σ H x y v u Q I rx ry h hs
 obtain⟨p,xs,i,z,rfl,rfl,hq,he,q⟩:=h
 cases rx
 obtain⟨t,rfl⟩:=ry
 obtain⟨its,r,pl,hz⟩:=I.tuple hq
 obtain⟨j,h1,h2,h3,h4,h5⟩:=atI_get he
 obtain⟨w,ew,rw'⟩:=r.get h2
 have hl:=r.length
 have hn:=line63
 have fin:EP X pins σ Q w s:=⟨z,H,I,rw',q⟩
 exact subscriptTail_builtinR (x:=w) pl.typeIs slot_tuple_getitem.lookup
  (getItem_tuple (j:=j) (Q:=fun r s'=>r=w∧EP X pins σ Q r s') pl (by omega) (by omega) (by rw[List.size_toArray,←hl];exact h1) (by simpa using ew) ⟨rfl,fin⟩) hs
theorem mapSeq_set(its:List Value)(n j:Nat)(u:Value):Obj.mapSeq (·.setIfInBounds j u) { cls:=.type "list",data:=.seq its.toArray n }={ cls:=.type "list",data:=.seq (its.set j u).toArray n }:=by
 simp[Obj.mapSeq]
theorem Inv.lst{pins:List (Addr×Obj)}{σ:St}{H:Hp}{s:Shared}{p:Addr}{xs:List V}(I:Inv X pins σ H s)(h:H p=some (.lst xs)):
  ∃(its:List Value) (n:Nat),Vals xs its∧s.heap.get? p=some { cls:=.type "list",data:=.seq its.toArray n }∧xs.length≤sizeLine:=by
 obtain⟨z,its,n,r,e⟩:=I.hok p _ h
 exact⟨its,n,r,e,z⟩
theorem Inv.lstUpd{pins:List (Addr×Obj)}{σ:St}{H:Hp}{s:Shared}{p:Addr}{xs ys:List V}{its its':List Value}{n n':Nat}{f:Obj→Obj}(I:Inv X pins σ H s)(h:H p=some (.lst xs))
  (ho:s.heap.get? p=some { cls:=.type "list",data:=.seq its.toArray n }) (hf:f { cls:=.type "list",data:=.seq its.toArray n }={ cls:=.type "list",data:=.seq its'.toArray n' }) (r:Vals ys its') (hz:ys.length≤sizeLine) (t:Nat):
  Inv X pins σ (upd H p (.lst ys)) { s with heap:=s.heap.update p f,toks:=t }:=by
 have e:(s.heap.update p f).get? p=some { cls:=.type "list",data:=.seq its'.toArray n' }:=by
  rw[Heap.get?_update_self f ho (by rw[hf] <;> rfl),hf]
 refine I.write (x:=p) (e:=p) (by rw[h];trivial) (.inl rfl) (fun b u hb q=>(Heap.get?_update_other _ _ (Ne.symm hb)).trans q) ⟨_,e⟩ ?_
 exact⟨hz,its',n',r,e⟩
def rSetL:V→V→V→Hp→(Hp→Prop)→Prop:=fun o i v H Q=>∃p xs k j,o=.ref p∧i=.int k∧H p=some (.lst xs)∧ixN xs.length k=some j∧Q (upd H p (.lst (xs.set j v)))
theorem set_list:PSet X rSetL:=by
 intro pins s σ H o i v ov iv u Q I ro ri rv h
 obtain⟨p,xs,k,j,rfl,rfl,hp,hj,q⟩:=h
 cases ro
 obtain⟨t,rfl⟩:=ri
 obtain⟨its,n,r,ho,hz⟩:=I.lst hp
 obtain⟨h1,h2,h3,h4⟩:=ixN_seq hj
 have hl:=r.length
 have hn:=line63
 have I':Inv X pins σ (upd H p (.lst (xs.set j v))) { s with heap:=s.heap.update p (Obj.mapSeq (·.setIfInBounds j u)) }:=
  I.lstUpd hp ho (mapSeq_set its n j u) (r.set rv j) (by rw[List.length_set];exact hz) s.toks
 by_cases h0:0≤k
 ·have hk:k.toNat=j:=by
   rw[seqIndex_of h0 h4]at h1
   exact Option.some.inj h1
  exact PySem.W.ki_setAt ho h0 (by omega) (by rw[List.size_toArray,←hl];exact h4) (by rw[hk];exact⟨_,I',q⟩)
 ·have hk:(k+(its.toArray.size:Int)).toNat=j:=by
   rw[seqIndex_neg (by omega) h3]at h1
   rw[List.size_toArray,←hl]
   exact Option.some.inj h1
  exact PySem.W.ki_setBack ho (by omega) (by rw[List.size_toArray,←hl];exact h3) (by omega) (by rw[hk];exact⟨_,I',q⟩)
theorem slice_bounds(lo hi:Option Int)(n:Nat):(sliceBounds lo hi none n).1=((HT.sIx n 0 lo:Nat):Int)∧(sliceBounds lo hi none n).2.1=((HT.sIx n n hi:Nat):Int)∧(sliceBounds lo hi none n).2.2=1:=by
 refine⟨?_,?_,rfl⟩
 ·cases lo with
  |none=>simp[sliceBounds,HT.sIx]
  |some i=>
   simp only[sliceBounds,HT.sIx,Option.getD_none,show(1:Int)>0 by decide,if_true]
   by_cases h:i<0
   ·simp only[h,if_true] <;> omega
   ·simp only[h,if_false] <;> omega
 ·cases hi with
  |none=>simp[sliceBounds,HT.sIx]
  |some i=>
   simp only[sliceBounds,HT.sIx,Option.getD_none,show(1:Int)>0 by decide,if_true]
   by_cases h:i<0
   ·simp only[h,if_true] <;> omega
   ·simp only[h,if_false] <;> omega
theorem slicePick_cut(its:List Value)(lo hi:Option Int):slicePick its.toArray lo hi none=((its.drop (HT.sIx its.length 0 lo)).take (HT.sIx its.length its.length hi - HT.sIx its.length 0 lo)).toArray:=by
 obtain⟨h1,h2,h3⟩:=slice_bounds lo hi its.toArray.size
 unfold slicePick
 rw[h1,h2,h3]
 simp only[sliceRange_one,pick_run,List.size_toArray] <;> rfl
def rSlL(K:PySem.W.Frag):V→Option Int→Option Int→Hp→VK→Prop:=fun x lo hi H Q=>∃a xs,x=.ref a∧bh K H a xs∧∀p,H p=none→Q (.ref p) (upd H p (.lst (cutV xs lo hi)))
theorem sl_list:SlR X (rSlL X.K):=by
 intro pins s σ H x v vl vu lo hi sl Q I rx hs pl pu h
 obtain⟨a,xs,rfl,hx,q⟩:=h
 cases rx
 obtain⟨its,r,ht,hz⟩:=I.list hx
 have hlen:=r.length
 refine⟨"list",_,slot_list_getitem.lookup,ht.isList.typeIs,?_⟩
 refine wpAny_getItem_list_slice ht.isList hs pl pu .none (by simp) ?_ (by rw[List.size_toArray] <;> omega)
 rw[slicePick_cut,←hlen]
 refine⟨.ref s.heap.objs.size,_,I.laid (t':=s.toks) (o:=.lst (cutV xs lo hi)) (fun b ob q=>Heap.get?_push_of_some _ q) (Nat.le_refl _) ?_,rfl,q _ (I.hok.fresh (Nat.le_refl _))⟩
 exact⟨Nat.le_trans (cutV_length xs lo hi) hz,_,0,(r.drop (HT.sIx xs.length 0 lo)).take (HT.sIx xs.length xs.length hi - HT.sIx xs.length 0 lo),Heap.get?_push_size _ rfl⟩
def flatV:V→Bool
 |.non=>true
 |.bl _=>true
 |.int _=>true
 |.str _=>true
 |_=>false
def eqV:V→V→Bool
 |.non,.non=>true
 |.bl a,.bl b=>a==b
 |.bl a,.int b=>(if a then 1 else 0)==b
 |.int a,.bl b=>a==(if b then 1 else 0)
 |.int a,.int b=>a==b
 |.str a,.str b=>a==b
 |_,_=>false
theorem eqAt_V{A:Around}{s:Shared}{y x:V}{u v:Value}(ry:RelV y u)(rx:RelV x v)(fy:flatV y=true)(fx:flatV x=true):SeqAt.EqAt A s u v (eqV y x):=by
 cases y with
 |non=>
  cases ry
  cases x with
  |non=>cases rx;exact SeqAt.EqAt.same _
  |bl b=>cases rx;exact SeqAt.EqAt.none_bool b
  |int b=>obtain⟨t,rfl⟩:=rx;exact SeqAt.EqAt.none_int b t
  |str b=>obtain⟨t,rfl⟩:=rx;exact SeqAt.EqAt.none_str b t
  |_=>exact absurd (show false=true from fx) Bool.false_ne_true
 |bl a=>
  cases ry
  cases x with
  |non=>cases rx;exact SeqAt.EqAt.bool_none a
  |bl b=>cases rx;exact SeqAt.EqAt.bool_bool a b
  |int b=>obtain⟨t,rfl⟩:=rx;exact SeqAt.EqAt.bool_int a b t
  |str b=>obtain⟨t,rfl⟩:=rx;exact SeqAt.EqAt.bool_str a b t
  |_=>exact absurd (show false=true from fx) Bool.false_ne_true
 |int a=>
  obtain⟨t',rfl⟩:=ry
  cases x with
  |non=>cases rx;exact SeqAt.EqAt.int_none a t'
  |bl b=>cases rx;exact SeqAt.EqAt.int_bool a t' b
  |int b=>obtain⟨t,rfl⟩:=rx;exact SeqAt.EqAt.int_int a t' b t
  |str b=>obtain⟨t,rfl⟩:=rx;exact SeqAt.EqAt.int_str a t' b t
  |_=>exact absurd (show false=true from fx) Bool.false_ne_true
 |str a=>
  obtain⟨t',rfl⟩:=ry
  cases x with
  |non=>cases rx;exact SeqAt.EqAt.str_none a t'
  |bl b=>cases rx;exact SeqAt.EqAt.str_bool a t' b
  |int b=>obtain⟨t,rfl⟩:=rx;exact SeqAt.EqAt.str_int a t' b t
  |str b=>obtain⟨t,rfl⟩:=rx;exact SeqAt.EqAt.str_str a t' b t
  |_=>exact absurd (show false=true from fx) Bool.false_ne_true
 |_=>exact absurd (show false=true from fy) Bool.false_ne_true
def eqU(x:V)(u:Value):Bool:=match u with
 |.none=>eqV .non x
 |.bool b=>eqV (.bl b) x
 |.int i _=>eqV (.int i) x
 |.str z _=>eqV (.str z) x
 |_=>false
theorem eqU_of{x y:V}{u:Value}(r:RelV y u)(f:flatV y=true):eqU x u=eqV y x:=by
 cases y with
 |non=>cases r;rfl
 |bl b=>cases r;rfl
 |int i=>obtain⟨t,rfl⟩:=r;rfl
 |str z=>obtain⟨t,rfl⟩:=r;rfl
 |_=>exact absurd (show false=true from f) Bool.false_ne_true
theorem any_eqU{x:V}:∀{xs:List V}{us:List Value},Vals xs us→xs.all flatV=true→us.any (eqU x)=xs.any fun y=>eqV y x
 |_,_,.nil,_=>rfl
 |y::xs,u::us,.cons r t,f=>by
  rw[List.all_cons,Bool.and_eq_true]at f
  rw[List.any_cons,List.any_cons,eqU_of r f.1,any_eqU t f.2]
theorem mem_eqAt{A:Around}{s:Shared}{x:V}{v:Value}(rx:RelV x v)(fx:flatV x=true):∀{xs:List V}{us:List Value},Vals xs us→xs.all flatV=true→∀u∈us,SeqAt.EqAt A s u v (eqU x u)
 |_,_,.nil,_=>fun u hu=>by cases hu
 |y::xs,u::us,.cons r t,f=>fun u' hu=>by
  rw[List.all_cons,Bool.and_eq_true]at f
  rcases List.mem_cons.mp hu with rfl|hu
  ·rw[eqU_of r f.1];exact eqAt_V r rx f.1 fx
  ·exact mem_eqAt rx fx t f.2 u' hu
def inV(x:V)(xs:List V):Bool:=xs.any fun y=>eqV y x
def rIn(K:PySem.W.Frag)(neg:Bool):R2:=fun x y H Q=>∃p xs,y=.ref p∧(bh K H p xs∨jh K H p xs)∧flatV x=true∧xs.all flatV=true∧Q (.bl (if neg then !inV x xs else inV x xs)) H
theorem op_notIn_seq:OpR X (compareOp .NotIn) (rIn X.K true):=by
 intro pins s σ H x y v u Q I rx ry h
 obtain⟨p,xs,rfl,hq,fx,fs,q⟩:=h
 cases ry
 rcases hq with hq|hq
 ·obtain⟨its,r,pl,hz⟩:=I.list hq
  refine SeqAt.notIn_listAt (eqU x) pl.isList (fun w hw=>mem_eqAt rx fx r fs w (by simpa using hw)) ⟨.bl _,H,I,rfl,?_⟩
  rw[show its.toArray.any (eqU x)=its.any (eqU x)by simp,any_eqU r fs]
  exact q
 ·obtain⟨its,r,pl,hz⟩:=I.tuple hq
  refine SeqAt.notIn_tupleAt (eqU x) pl (fun w hw=>mem_eqAt rx fx r fs w (by simpa using hw)) ⟨.bl _,H,I,rfl,?_⟩
  rw[show its.toArray.any (eqU x)=its.any (eqU x)by simp,any_eqU r fs]
  exact q
theorem bL:lF X (.builtin "len") (fun xs H Q=>∃p ys,xs=[.ref p]∧(bh X.K H p ys∨jh X.K H p ys)∧Q (.int ys.length) H):=by
 intro pins s σ H xs us Q I r h
 obtain⟨p,ys,rfl,hq,q⟩:=h
 obtain⟨u,rfl,rx⟩:=vals1 r
 cases rx
 have hn:=line63
 rcases hq with hq|hq
 ·obtain⟨its,r',pl,hz⟩:=I.list hq
  have hlen:=r'.length
  exact Calls.call_len_list pl.isList (by simp only[List.size_toArray] <;> omega) ⟨.int ys.length,H,I.tok _,⟨s.toks+1,by rw[List.size_toArray,hlen]⟩,q⟩
 ·obtain⟨its,r',pl,hz⟩:=I.tuple hq
  have hlen:=r'.length
  exact len_tuple pl (by simp only[List.size_toArray] <;> omega) ⟨.int ys.length,H,I.tok _,⟨s.toks+1,by rw[List.size_toArray,hlen]⟩,q⟩
def tyV(K:PySem.W.Frag)(T:String)(x:V)(H:Hp):Prop:=match x with
 |.str _=>T="str"
 |.int _=>T="int"
 |.ref p=>(T="list"∧∃xs,bh K H p xs)∨(T="tuple"∧∃o,K.lookup p=some o∧o.cls=.type "tuple"∧o.dict=none)∨
   (T="dict"∧((∃kvs,H p=some (.dK kvs))∨∃kvs,H p=some (.dT kvs)))∨(T="set"∧∃S n,H p=some (.set S n))
 |_=>False
theorem tyV_is{pins:List (Addr×Obj)}{σ:St}{H:Hp}{s:Shared}{T:String}{x:V}{v:Value}(I:Inv X pins σ H s)(r:RelV x v)(ty:tyV X.K T x H):
  s.TypeIs v T∧∀a,v=.ref a→∃ob,s.heap.get? a=some ob∧ob.dict=none:=by
 cases x with
 |str z=>
  obtain⟨t,rfl⟩:=r
  cases (show T="str" from ty)
  exact⟨typeIs_str s z t,fun _ e=>nomatch e⟩
 |int i=>
  obtain⟨t,rfl⟩:=r
  cases (show T="int" from ty)
  exact⟨typeIs_int s i t,fun _ e=>nomatch e⟩
 |ref p=>
  cases r
  rcases ty with⟨rfl,xs,hq⟩|⟨rfl,o,hk,hc,hd⟩|⟨rfl,hk⟩|⟨rfl,S,n,hk⟩
  ·obtain⟨its,_,pl,_⟩:=I.list hq
   refine⟨pl.isList.typeIs,fun a e=>?_⟩
   cases e
   obtain⟨o,n,e,c,hd,_⟩:=pl
   exact⟨o,e,hd⟩
  ·refine⟨⟨o,I.kIn p o hk,hc⟩,fun a e=>?_⟩
   cases e
   exact⟨o,I.kIn _ o hk,hd⟩
  ·have z:∃o,s.heap.get? p=some o∧o.ExactDict:=by
    rcases hk with⟨kvs,hk⟩|⟨kvs,hk⟩
    ·obtain⟨_,_,_,_,o,_,_,e,ex,_⟩:=I.hok p _ hk
     exact⟨o,e,ex⟩
    ·obtain⟨_,_,_,_,o,_,_,e,ex,_⟩:=I.hok p _ hk
     exact⟨o,e,ex⟩
   obtain⟨o,e,ex⟩:=z
   refine⟨⟨o,e,ex.1⟩,fun a e2=>?_⟩
   cases e2
   exact⟨o,e,ex.2.1⟩
  ·obtain⟨o,_,_,_,e,ex,_⟩:=I.hok p _ hk
   refine⟨⟨o,e,ex.1⟩,fun a e2=>?_⟩
   cases e2
   exact⟨o,e,ex.2.1⟩
 |_=>exact False.elim ty
def tBM(K:PySem.W.Frag)(T:String)(r:V→List V→Hp→VK→Prop)(to:TE)(t:TA):TE:=fun σ H Q=>to σ H fun x H1=>tyV K T x H1∧t σ H1 fun xs H2=>r x xs H2 Q
variable{o e:Expr}{es:List Expr}{to:TE}{t:TA}{name:Str}{apos cpos:Pos}{T id:String}{r:V→List V→Hp→VK→Prop}
theorem pe_bm(pa:PlainAttrs T)(slot:Slot T name id)(hty:typeOf (.builtin id)=pure (.type "method_descriptor"))(hm:MtR X id r)(ho:PE X o to)(ha:PA X (e::es) t)
  (hbase:attributeBase o name X.env (eval o X.env)=eval o X.env:=by rfl)
  (hfew:((backTo cpos (starEach (e::es) X.env)).all (fun x=>!x.1)&&(backToKw cpos (keywordEach [] X.env)).all (fun x=>x.1.isSome)
   && decide ((e::es).length+([]:List Keyword).length+(if ([]:List Keyword).isEmpty then 0 else 1)<30))=true:=by rfl)
  (hline:(apos.endLine==cpos.line)=true:=by rfl) (hs:starEach (e::es) X.env=(false,eval e X.env)::starEach es X.env:=by rfl) (hplain:(backTo cpos (starEach es X.env)).any (·.1)=false:=by rfl):
  PE X (.Call (.Attribute o name apos) (e::es) [] cpos) (tBM X.K T r to t):=by
 intro pins s σ H Q I h
 refine wpAny_Call_method_late hbase hfew hline rfl (dw (ho pins s σ H _ I h) fun v s1 ⟨x,H1,I1,r1,ty,q1⟩=>?_)
 obtain⟨h1,h2⟩:=tyV_is I1 r1 ty
 refine⟨T,id,pa,slot,hty,h1,h2,?_⟩
 have hA:=ha cpos pins s1 σ H1 _ I1 q1
 rw[hs]at hA ⊢
 refine Calls.callWith_builtin (by show(false||(backTo cpos (starEach es X.env)).any (·.1))=false;rw[hplain] <;> rfl) (Calls.evalArgs_plain ?_)
 exact dw hA fun us s2 ⟨vs,H2,I2,r2,q2⟩=>hm pins s2 σ H2 x vs v us Q I2 r1 r2 q2
end
end L2
namespace L2
open PySem PySem.Spec PyProof.Rows
def MtM(X:Cx)(id:String)(r:V→List V→Hp→VK→Prop):Prop:=
 ∀(pins:List (Addr×Obj)) (s:Shared) (σ:St) (H:Hp) (x:V) (xs:List V) (v:Value) (us:List Value) (Q:VK),Inv X pins σ H s→RelV x v→Vals xs us→r x xs H Q→
  wpAny (model X.prog X.w) X.A (call (.builtin id) (v::us)) (EP X pins σ Q) X.xe s
theorem Vals.one:∀{x:V}{us:List Value},Vals [x] us→∃u,us=[u]∧RelV x u
 |_,_,.cons r .nil=>⟨_,rfl,r⟩
theorem Vals.rep{xs:List V}{us:List Value}(h:Vals xs us):∀k:Nat,Vals (List.replicate k xs).flatten (List.replicate k us).flatten
 |0=>.nil
 |k+1=>by
  rw[List.replicate_succ,List.replicate_succ,List.flatten_cons,List.flatten_cons]
  exact Vals.append h (Vals.rep h k)
theorem foldl_rep(its:List Value):∀(k:Nat) (acc:List Value),
  List.foldl (fun x1 x2=>x1++x2) acc.toArray (List.replicate k its.toArray)=(acc++(List.replicate k its).flatten).toArray
 |0,acc=>by simp
 |k+1,acc=>by
  have e:acc.toArray++its.toArray=(acc++its).toArray:=by simp
  have e2:(acc++its)++(List.replicate k its).flatten=acc++(List.replicate (k+1) its).flatten:=by
   rw[List.replicate_succ,List.flatten_cons,List.append_assoc]
  rw[←e2,←foldl_rep its k (acc++its),←e,List.replicate_succ,List.foldl_cons]
section
variable{X:Cx}{pins:List (Addr×Obj)}{σ:St}{H:Hp}{s:Shared}{l b:Addr}{xs ys zs:List V}
theorem Inv.lset{its its':List Value}{n:Nat}{f:Array Value→Array Value}{t':Nat}(I:Inv X pins σ H s)(hH:H l=some (.lst xs))
  (e:s.heap.get? l=some { cls:=.type "list",data:=.seq its.toArray n }) (hf:f its.toArray=its'.toArray) (hv:Vals ys its') (hz:ys.length≤sizeLine):
  Inv X pins σ (upd H l (.lst ys)) { s with heap:=s.heap.update l (Obj.mapSeq f),toks:=t' }:=by
 have q:=PySem.IsL.update e f
 rw[hf]at q
 refine I.write (x:=l) (e:=l) (by rw[hH];exact trivial) (.inl rfl) (fun b' u hb hu=>(Heap.get?_update_other s.heap (Obj.mapSeq f) (Ne.symm hb)).trans hu) ⟨_,q⟩ ?_
 exact⟨hz,its',_,hv,q⟩
theorem Inv.lnew{its:List Value}{t':Nat}(I:Inv X pins σ H s)(hv:Vals ys its)(hz:ys.length≤sizeLine):
  Inv X pins σ (upd H s.heap.objs.size (.lst ys)) { s with heap:=s.heap.push { cls:=.type "list",data:=.seq its.toArray },toks:=t' }:=
 I.laid (fun _ _ q=>Heap.get?_push_of_some _ q) (Nat.le_refl _) ⟨hz,its,0,hv,Heap.get?_push_size _ rfl⟩
theorem Inv.fresh(I:Inv X pins σ H s):H s.heap.objs.size=none:=I.hok.fresh (Nat.le_refl _)
theorem Inv.lstM(I:Inv X pins σ H s)(hH:H l=some (.lst xs)):xs.length≤sizeLine∧∃(its:List Value) (n:Nat),Vals xs its∧xs.length=its.length∧s.heap.get? l=some { cls:=.type "list",data:=.seq its.toArray n }:=by
 obtain⟨z,its,n,r,e⟩:=I.hok l _ hH
 exact⟨z,its,n,r,r.length,e⟩
theorem notLongL{n:Nat}(h:n≤sizeLine):Builtin.List.listTooLong n=false:=by
 unfold Builtin.List.listTooLong
 exact decide_eq_false (by omega)
end
section
variable{X:Cx}
def rAppend:V→List V→Hp→VK→Prop:=fun x vs H Q=>∃l xs y,x=.ref l∧vs=[y]∧H l=some (.lst xs)∧xs.length<sizeLine∧Q .non (upd H l (.lst (xs++[y])))
theorem mt_append:MtM X "list.append" rAppend:=by
 intro pins s σ H x vs v us Q I rx rv h
 obtain⟨l,xs,y,rfl,rfl,hH,hz,q⟩:=h
 cases rx
 obtain⟨u,rfl,ru⟩:=rv.one
 obtain⟨z,its,n,r,hl,e⟩:=I.lstM hH
 refine call_meets F.slot_list_append ⟨_,e,rfl⟩ F.entry_list_append (F.args_list_append_2 _ _) (PySem.list_append l its.toArray n u (by rw[List.size_toArray];omega)) ⟨e,?_⟩
 refine⟨.non,_,I.lset (its':=its++[u]) hH e (by simp) (r.append (.cons ru .nil)) ?_,rfl,q⟩
 rw[List.length_append,List.length_singleton]
 omega
def rExtend:V→List V→Hp→VK→Prop:=fun x vs H Q=>∃l b xs zs,x=.ref l∧vs=[.ref b]∧H l=some (.lst xs)∧H b=some (.lst zs)∧xs.length+zs.length≤sizeLine∧Q .non (upd H l (.lst (xs++zs)))
theorem mt_extend:MtM X "list.extend" rExtend:=by
 intro pins s σ H x vs v us Q I rx rv h
 obtain⟨l,b,xs,zs,rfl,rfl,hH,hB,hz,q⟩:=h
 cases rx
 obtain⟨u,rfl,ru⟩:=rv.one
 cases ru
 obtain⟨z,its,n,r,hl,e⟩:=I.lstM hH
 obtain⟨z2,its2,n2,r2,hl2,e2⟩:=I.lstM hB
 have hsz:its.toArray.size+its2.toArray.size≤sizeLine:=by rw[List.size_toArray,List.size_toArray];omega
 have hlong:¬(!its.toArray.isEmpty&&Builtin.List.listTooLong (its.toArray.size+its2.toArray.size))=true:=by
  rw[notLongL hsz,Bool.and_false]
  exact Bool.false_ne_true
 refine call_meets F.slot_list_extend ⟨_,e,rfl⟩ F.entry_list_extend (F.args_list_extend_2 _ _)
  (AutoSeq1.list_extend_list_list_0 l its.toArray n b its2.toArray n2 hlong (by rw[List.size_toArray];omega) (by omega)) ⟨e,e2,?_⟩
 refine⟨.non,_,I.lset (its':=its++its2) hH e (by simp) (r.append r2) ?_,rfl,q⟩
 rw[List.length_append]
 omega
def rCat:R2:=fun x y H Q=>∃l b xs zs,x=.ref l∧y=.ref b∧H l=some (.lst xs)∧H b=some (.lst zs)∧xs.length+zs.length≤sizeLine∧∀p,H p=none→Q (.ref p) (upd H p (.lst (xs++zs)))
theorem op_cat:OpR X (binaryOp .Add) rCat:=by
 intro pins s σ H x y v u Q I rx ry h
 obtain⟨l,b,xs,zs,rfl,rfl,hH,hB,hz,q⟩:=h
 cases rx
 cases ry
 obtain⟨z,its,n,r,hl,e⟩:=I.lstM hH
 obtain⟨z2,its2,n2,r2,hl2,e2⟩:=I.lstM hB
 refine PySem.P.add_list e e2 ?_ (by rw[List.size_toArray,List.size_toArray];omega)
 have ea:its.toArray++its2.toArray=(its++its2).toArray:=by simp
 rw[ea]
 exact⟨.ref _,_,I.lnew (t':=s.toks) (r.append r2) (by rw[List.length_append];omega),rfl,q _ I.fresh⟩
def rRep:R2:=fun x y H Q=>∃l k xs,x=.ref l∧y=.int k∧H l=some (.lst xs)∧-(2 ^ 63)≤k∧k<2 ^ 63∧xs.length*k.toNat≤sizeLine∧
 ∀p,H p=none→Q (.ref p) (upd H p (.lst (List.replicate k.toNat xs).flatten))
theorem len_rep{α:Type}(xs:List α)(k:Nat):(List.replicate k xs).flatten.length=k*xs.length:=by
 induction k with
 |zero=>simp
 |succ k ih=>rw[List.replicate_succ,List.flatten_cons,List.length_append,ih,Nat.succ_mul,Nat.add_comm]
theorem op_rep:OpR X (binaryOp .Mult) rRep:=by
 intro pins s σ H x y v u Q I rx ry h
 obtain⟨l,k,xs,rfl,rfl,hH,h1,h2,hz,q⟩:=h
 cases rx
 obtain⟨t,rfl⟩:=ry
 obtain⟨z,its,n,r,hl,e⟩:=I.lstM hH
 have hlen:its.toArray.size*k.toNat≤sizeLine:=by rw[List.size_toArray,←hl];exact hz
 have hcap:¬its.toArray.size*k.toNat>(2 ^ 63 - 1)/8:=by
  have:(sizeLine:Nat)≤(2 ^ 63 - 1)/8:=by decide
  omega
 have hfit:¬(!Builtin.List.listFitsIndex k)=true:=by
  rw[fitsIndex_both h1 h2]
  exact Bool.false_ne_true
 have hlong:¬Builtin.List.listTooLong (its.toArray.size*k.toNat)=true:=by
  rw[notLongL hlen]
  exact Bool.false_ne_true
 have hnew:List.foldl (fun x1 x2=>x1++x2) #[] (List.replicate (if its.toArray.isEmpty=true then 0 else k.toNat) its.toArray)=(List.replicate k.toNat its).flatten.toArray:=by
  have f0:∀m:Nat,List.foldl (fun x1 x2=>x1++x2) #[] (List.replicate m its.toArray)=(List.replicate m its).flatten.toArray:=fun m=>by
   have:=foldl_rep its m []
   rw[List.nil_append]at this
   exact this
  rw[f0]
  cases its with
  |nil=>simp
  |cons a r'=>rw[if_neg (by simp)]
 refine wpAny_binaryOp_repeat_ref (T:="list") (U:="int") (by decide) ⟨_,e,rfl⟩ (fun s'=>typeIs_int s' k t) noFill_list_mul F.fills_int_mul F.slot_int_rmul repeat_list F.slot_int_index.lookup
  (call_meets F.slot_int_rmul (typeIs_int s k t) F.entry_int_rmul (F.args_int_rmul_2 _ _) (int___rmul___int_list k t l its.toArray n)
   ⟨e,rfl,⟨_,e,rfl⟩,call_meets F.slot_list_mul ⟨_,e,rfl⟩ F.entry_list_mul (F.args_list_mul_2 _ _) (AutoListH.list___mul___list_int_3 l its.toArray n k t hfit hcap hlong) ⟨e,?_⟩⟩)
 rw[hnew]
 exact⟨.ref _,_,I.lnew (t':=s.toks) (r.rep k.toNat) (by rw[len_rep,Nat.mul_comm];exact hz),rfl,q _ I.fresh⟩
end
section
variable{prog:Program}{w:World}{A:Around}{E:Value→Shared→Prop}{s:Shared}
set_option maxRecDepth 100000 in
end
end L2
namespace L2
open PySem PySem.Spec PyProof.Rows
theorem Vals.ints:∀{ns:List Int}{us:List Value},Vals (ns.map V.int) us→IntsAre us ns
 |[],us,h=>by
  rw[List.map_nil]at h
  cases h
  exact IntsAre.nil
 |n::ns,us,h=>by
  rw[List.map_cons]at h
  cases h with
  |cons r t=>
   obtain⟨k,rfl⟩:=r
   exact IntsAre.cons n k (Vals.ints t)
theorem vals_of_ints:∀{us:List Value}{ns:List Int},IntsAre us ns→Vals (ns.map V.int) us
 |_,_,.nil=>by rw[List.map_nil];exact Paired.nil
 |_,_,.cons n t h=>by rw[List.map_cons];exact Paired.cons (show RelV (V.int n) (Value.int n t)from⟨t,rfl⟩) (vals_of_ints h)
theorem Vals.ref1{a:Addr}{us:List Value}(r:Vals [V.ref a] us):us=[Value.ref a]:=by
 cases r with
 |cons r t=>
  cases t
  cases r
  rfl
section
variable{X:Cx}
def rSorted(K:PySem.W.Frag):List V→Hp→VK→Prop:=fun vs H Q=>∃(a:Addr) (ns:List Int),vs=[V.ref a]∧bh K H a (ns.map V.int)∧ns.length<64∧
 ∀(ns':List Int) (p:Addr),ns'.Perm ns→ns'.Pairwise (·≤·)→H p=none→Q (.ref p) (upd H p (.lst (ns'.map V.int)))
theorem small64{n:Nat}(h:n<64):n≤sizeLine:=by rw[sizeLine_eq];omega
theorem cr_sorted:lF X (.builtin "sorted") (rSorted X.K):=by
 intro pins s σ H vs us Q I r h
 obtain⟨a,ns,rfl,hs,h64,q⟩:=h
 obtain⟨its,rv,hl,_⟩:=I.list hs
 rw[Vals.ref1 r]
 have hi:=rv.ints
 refine PyProof.Rows.sorted_ints hl.isList hi (by rw[hi.length];exact h64) fun out ns' h1 h2 h3=>?_
 obtain⟨ep,he'⟩:=PyProof.Rows.sortedAll_at s.heap its out
 have hlen:(ns'.map V.int).length≤sizeLine:=by rw[List.length_map,h2.length_eq];exact small64 h64
 exact⟨.ref _,upd H (s.heap.objs.size+1) (.lst (ns'.map V.int)),I.laid (t':=s.toks) (fun _ _=>PyProof.Rows.sortedAll_old) (Nat.le_succ _) ⟨hlen,out.toList,ep,vals_of_ints h1,he'⟩,rfl,q ns' _ h2 h3 (I.hok.fresh (Nat.le_succ _))⟩
end
mutual
inductive Dp(K:PySem.W.Frag)(H:Hp):V→PyData→Prop
 |non:Dp K H .non .none
 |bl (b:Bool):Dp K H (.bl b) (.bool b)
 |int (i:Int):Dp K H (.int i) (.int i)
 |str (x:Str):Dp K H (.str x) (.str x)
 |lst {a:Addr}{xs:List V}{ds:List PyData}:bh K H a xs→DpAll K H xs ds→Dp K H (.ref a) (.list ds)
 |tup {a:Addr}{xs:List V}{ds:List PyData}:jh K H a xs→DpAll K H xs ds→Dp K H (.ref a) (.tuple ds)
inductive DpAll(K:PySem.W.Frag)(H:Hp):List V→List PyData→Prop
 |nil:DpAll K H [] []
 |cons {v:V}{vs:List V}{d:PyData}{ds:List PyData}:Dp K H v d→DpAll K H vs ds→DpAll K H (v::vs) (d::ds)
end
section
variable{X:Cx}{pins:List (Addr×Obj)}{σ:St}{H:Hp}{s:Shared}
mutual
theorem Dp.reads(I:Inv X pins σ H s):∀(d:PyData) (v:V) (u:Value),Dp X.K H v d→RelV v u→∃as,Reads s.heap u d as
 |.none,_,_,h,r=>by
  cases h
  cases r
  exact⟨_,Reads.none⟩
 |.bool b,_,_,h,r=>by
  cases h
  cases r
  exact⟨_,Reads.bool b⟩
 |.int i,_,_,h,r=>by
  cases h
  obtain⟨t,rfl⟩:=r
  exact⟨_,Reads.int i t⟩
 |.str x,_,_,h,r=>by
  cases h
  obtain⟨t,rfl⟩:=r
  exact⟨_,Reads.str x t⟩
 |.list ds,_,_,h,r=>by
  cases h with
  |lst hs ha=>
   cases r
   obtain⟨its,rv,⟨o,n,ho,hc,_,hd⟩,_⟩:=I.list hs
   obtain⟨as,hr⟩:=Dp.readsAll I ds _ its ha rv
   exact⟨_,Reads.list ho hc hd hr⟩
 |.tuple ds,_,_,h,r=>by
  cases h with
  |tup hs ha=>
   cases r
   obtain⟨its,rv,⟨o,ho,hc,n,hd⟩,_⟩:=I.tuple hs
   obtain⟨as,hr⟩:=Dp.readsAll I ds _ its ha rv
   exact⟨_,Reads.tuple ho hc hd hr⟩
 |.dict _,_,_,h,_=>by cases h
theorem Dp.readsAll(I:Inv X pins σ H s):∀(ds:List PyData) (vs:List V) (us:List Value),DpAll X.K H vs ds→Vals vs us→∃as,ReadsAll s.heap us ds as
 |[],_,_,h,r=>by
  cases h
  cases r
  exact⟨_,ReadsAll.nil⟩
 |d::ds,_,_,h,r=>by
  cases h with
  |cons h1 h2=>
   cases r with
   |cons r1 r2=>
    obtain⟨as,q1⟩:=Dp.reads I d _ _ h1 r1
    obtain⟨bs,q2⟩:=Dp.readsAll I ds _ _ h2 r2
    exact⟨_,ReadsAll.cons q1 q2⟩
end
end
section
variable{X:Cx}
def rEqD(K:PySem.W.Frag):R2:=fun x y H Q=>∃d e,Dp K H x d∧Dp K H y e∧SeqAt.shaped d=true∧SeqAt.shaped e=true∧Q (.bl (PyData.eqv d e)) H
theorem op_eqD(hu:X.A.units+64<cLine):OpR X (compareOp .Eq) (rEqD X.K):=by
 intro pins s σ H x y v u Q I rx ry h
 obtain⟨d,e,hd,he,sd,se,q⟩:=h
 obtain⟨as,r1⟩:=Dp.reads I d x v hd rx
 obtain⟨bs,r2⟩:=Dp.reads I e y u he ry
 exact SeqAt.compareEq_shaped r1 r2 sd se hu ⟨.bl _,H,I,rfl,q⟩
end
end L2
namespace L2
open PySem PySem.Spec PyProof.Rows
abbrev CellAt(h:Heap)(c:Addr)(v:Option Value):Prop:=h.IsCell c v
def relS(scope sc:Scope):Scope:=
 { scope with names:=scope.names.map fun(n,k)=>if (k==.free&&sc.kind==.function&&sc.names.lookup n==some .cell)then(n,.cell)else(n,k) }
def bC(cells:List (Str×Addr)):List (Str×NameKind)→List (Str×Addr)→List (Str×Addr)
 |[],acc=>acc
 |(n,k)::r,acc=>if k==.free then bC cells r ((n,(cells.lookup n).getD 0)::acc)else bC cells r acc
theorem closure_loop(env:Env)(f:Str×NameKind→List (Str×Addr)→Sem (ForInStep (List (Str×Addr))))
  (hf:∀n k c,f (n,k) c=if k==.free then(do let a ←cellOf env n;pure (.yield ((n,a)::c)))else pure (.yield c)):
  ∀(names:List (Str×NameKind)) (acc:List (Str×Addr)),(∀y∈names,y.2=.free→∃c,env.cells.lookup y.1=some c)→forIn names acc f=pure (bC env.cells names acc)
 |[],acc,_=>by rw[List.forIn_nil];rfl
 |(n,k)::r,acc,h=>by
  rw[List.forIn_cons,hf]
  have ih:=fun acc=>closure_loop env f hf r acc fun y hy=>h y (List.mem_cons_of_mem _ hy)
  unfold bC
  by_cases hk:(k==NameKind.free)=true
  ·rw[if_pos hk,if_pos hk]
   obtain⟨c,hc⟩:=h (n,k) List.mem_cons_self (by simpa using hk)
   have e:cellOf env n=pure c:=by unfold cellOf;rw[hc]
   rw[e]
   have e2:(env.cells.lookup n).getD 0=c:=by rw[hc];rfl
   rw[e2]
   exact ih _
  ·rw[if_neg hk,if_neg hk]
   exact ih _
theorem closure_ok{scope:Scope}{env:Env}(h:∀y∈scope.names,y.2=.free→∃c,env.cells.lookup y.1=some c):closureFor scope env=pure (bC env.cells scope.names []):=by
 simp only[closureFor]
 rw[closure_loop env _ (fun n k c=>rfl) scope.names [] h]
 rfl
theorem mem_lookup{α:Type}:∀{l:List (Str×α)}{n:Str}{c:α},(n,c)∈l→∃c',l.lookup n=some c'
 |(k,v)::r,n,c,h=>by
  rw[List.lookup_cons]
  cases hb:n==k with
  |true=>exact⟨_,rfl⟩
  |false=>
   rcases List.mem_cons.mp h with e|h
   ·cases e;simp at hb
   ·exact mem_lookup h
theorem mH{cells:List (Str×Addr)}:∀{names:List (Str×NameKind)}{acc:List (Str×Addr)}{n:Str}{c:Addr},(n,c)∈bC cells names acc→(n,c)∈acc∨((n,.free)∈names∧c=(cells.lookup n).getD 0)
 |[],_,_,_,h=>.inl h
 |(m,k)::r,acc,n,c,h=>by
  unfold bC at h
  split at h
  ·rename_i hk
   have hk:k=.free:=by simpa using hk
   rcases mH h with h|⟨h1,h2⟩
   ·rcases List.mem_cons.mp h with e|h
    ·cases e;exact .inr ⟨hk ▸ List.mem_cons_self,rfl⟩
    ·exact .inl h
   ·exact .inr ⟨List.mem_cons_of_mem _ h1,h2⟩
  ·rcases mH h with h|⟨h1,h2⟩
   ·exact .inl h
   ·exact .inr ⟨List.mem_cons_of_mem _ h1,h2⟩
theorem cloFrom_acc{cells:List (Str×Addr)}:∀{names:List (Str×NameKind)}{acc:List (Str×Addr)}{p:Str×Addr},p∈acc→p∈bC cells names acc
 |[],_,_,h=>h
 |(m,k)::r,acc,p,h=>by
  unfold bC
  split
  ·exact cloFrom_acc (List.mem_cons_of_mem _ h)
  ·exact cloFrom_acc h
theorem cloFrom_has{cells:List (Str×Addr)}:∀{names:List (Str×NameKind)}{acc:List (Str×Addr)}{n:Str},(n,.free)∈names→(n,(cells.lookup n).getD 0)∈bC cells names acc
 |(m,k)::r,acc,n,h=>by
  unfold bC
  rcases List.mem_cons.mp h with e|h
  ·cases e
   exact cloFrom_acc List.mem_cons_self
  ·split
   ·exact cloFrom_has h
   ·exact cloFrom_has h
theorem nZ:∀{names:List (Str×NameKind)}{h:Heap}{acc:List (Str×Addr)}{x:Str}{c:Addr},(x,c)∈cellsFrom h.objs.size names acc→
  (x,c)∈acc∨((x,.cell)∈names∧h.objs.size≤c∧CellAt (pushCells h names) c none)
 |[],_,_,_,_,h=>.inl h
 |(n,k)::r,h,acc,x,c,hm=>by
  unfold cellsFrom at hm
  unfold pushCells
  split at hm
  ·rename_i hk
   rw[if_pos hk]
   have hk:k=.cell:=by simpa using hk
   rw[←Heap.size_push h { cls:=.type "cell",data:=.cell none }]at hm
   rcases nZ hm with hm|⟨h1,h2,h3⟩
   ·rcases List.mem_cons.mp hm with e|hm
    ·cases e
     exact .inr ⟨hk ▸ List.mem_cons_self,Nat.le_refl _,_,pushCells_keeps r _ _ _ (Heap.get?_push_size _ rfl),rfl⟩
    ·exact .inl hm
   ·rw[Heap.size_push]at h2
    exact .inr ⟨List.mem_cons_of_mem _ h1,Nat.le_of_succ_le h2,h3⟩
  ·rename_i hk
   rw[if_neg hk]
   rcases nZ hm with hm|⟨h1,h2,h3⟩
   ·exact .inl hm
   ·exact .inr ⟨List.mem_cons_of_mem _ h1,h2,h3⟩
theorem cells_acc:∀{names:List (Str×NameKind)}{n:Nat}{acc:List (Str×Addr)}{p:Str×Addr},p∈acc→p∈cellsFrom n names acc
 |[],_,_,_,h=>h
 |(m,k)::r,n,acc,p,h=>by
  unfold cellsFrom
  split
  ·exact cells_acc (List.mem_cons_of_mem _ h)
  ·exact cells_acc h
theorem cells_has:∀{names:List (Str×NameKind)}{n:Nat}{acc:List (Str×Addr)}{x:Str},(x,.cell)∈names→∃c,(x,c)∈cellsFrom n names acc
 |(m,k)::r,n,acc,x,h=>by
  unfold cellsFrom
  rcases List.mem_cons.mp h with e|h
  ·cases e
   exact⟨n,cells_acc List.mem_cons_self⟩
  ·split
   ·exact cells_has h
   ·exact cells_has h
theorem cells_inj:∀{names:List (Str×NameKind)}{h:Heap}{acc:List (Str×Addr)}{x y:Str}{c:Addr},(∀p∈acc,p.2<h.objs.size)→(∀x y c,(x,c)∈acc→(y,c)∈acc→x=y)→
  (x,c)∈cellsFrom h.objs.size names acc→(y,c)∈cellsFrom h.objs.size names acc→x=y
 |[],_,_,_,_,_,_,hi,h1,h2=>hi _ _ _ h1 h2
 |(n,k)::r,h,acc,x,y,c,hl,hi,h1,h2=>by
  unfold cellsFrom at h1 h2
  split at h1
  ·rename_i hk
   rw[if_pos hk]at h2
   rw[←Heap.size_push h { cls:=.type "cell",data:=.cell none }]at h1 h2
   refine cells_inj (h:=h.push _) (fun p hp=>?_) (fun x y c a b=>?_) h1 h2
   ·rw[Heap.size_push]
    rcases List.mem_cons.mp hp with rfl|hp
    ·exact Nat.lt_succ_self _
    ·exact Nat.lt_succ_of_lt (hl p hp)
   ·rcases List.mem_cons.mp a with e|a <;> rcases List.mem_cons.mp b with e'|b
    ·cases e;cases e';rfl
    ·cases e;exact absurd (hl _ b) (Nat.lt_irrefl _)
    ·cases e';exact absurd (hl _ a) (Nat.lt_irrefl _)
    ·exact hi _ _ _ a b
  ·rename_i hk
   rw[if_neg hk]at h2
   exact cells_inj hl hi h1 h2
theorem newEnv_comp{M:Model}{A:Around}{E:Value→Shared→Prop}{s:Shared}{scope:Scope}{globals:Addr}{closure:List (Str×Addr)}{qual:Str}{func:Option Addr}{code:Value}{around:Env}{builtins:Addr}{Q:Env→Shared→Prop}
  (h:Q (newEnv scope s.heap.objs.size globals (cellsFrom (s.heap.objs.size+1) scope.names closure) qual func code (some around) builtins)
   { s with heap:=pushCells (s.heap.push { cls:=.type "dict",data:=.dict #[] }) scope.names }):
  wpAny M A (newFunctionEnv scope globals closure [] qual func code (some around) builtins) Q E s:=by
 simp only[newFunctionEnv,Option.isSome_some,if_true]
 refine wpAny_bind (wpAny_alloc ?_)
 refine wpAny_bind (wpAny_layCells _ (fun n k c=>rfl) scope.names closure _ _ ?_)
 rw[show({ s with heap:=s.heap.push { cls:=.type "dict",data:=.dict #[] } }:Shared).heap.objs.size=s.heap.objs.size+1 from Heap.size_push ..]
 rw[List.forIn_nil]
 exact wpAny_bind (wpAny_pure (wpAny_pure h))
theorem lookup_relS{sc:Scope}:∀{names:List (Str×NameKind)}{x:Str}{k:NameKind},
  (names.map fun(n,k)=>if (k==NameKind.free&&sc.kind==.function&&sc.names.lookup n==some .cell)then(n,NameKind.cell)else(n,k)).lookup x=some k→
  ∃k',names.lookup x=some k'∧(k=k'∨(k'=.free∧k=.cell))
 |[],_,_,h=>by simp at h
 |(n,k₀)::r,x,k,h=>by
  have ih:=@lookup_relS sc r x k
  have h':List.lookup x ((if (k₀==NameKind.free&&sc.kind==.function&&sc.names.lookup n==some .cell)=true then(n,NameKind.cell)else(n,k₀))::(r.map _))=some k:=h
  cases hx:x==n with
  |true=>
   simp only[List.lookup_cons,hx]
   by_cases hc:(k₀==NameKind.free&&sc.kind==.function&&sc.names.lookup n==some .cell)=true
   ·rw[if_pos hc]at h'
    simp only[List.lookup_cons,hx]at h'
    cases h'
    simp only[Bool.and_eq_true,beq_iff_eq]at hc
    exact⟨k₀,rfl,.inr ⟨hc.1.1,rfl⟩⟩
   ·rw[if_neg hc]at h'
    simp only[List.lookup_cons,hx]at h'
    cases h'
    exact⟨_,rfl,.inl rfl⟩
  |false=>
   simp only[List.lookup_cons,hx]
   by_cases hc:(k₀==NameKind.free&&sc.kind==.function&&sc.names.lookup n==some .cell)=true
   ·rw[if_pos hc]at h'
    simp only[List.lookup_cons,hx]at h'
    exact ih h'
   ·rw[if_neg hc]at h'
    simp only[List.lookup_cons,hx]at h'
    exact ih h'
structure cV(N:List Str)(sc scope:Scope)(own:List (Str×Nat)):Prop where
 kind:scope.kind=.function
 uniq:∀y∈scope.names,scope.names.lookup y.1=some y.2
 ix:∀p∈own,N[p.2]?=some p.1
 free:∀y∈scope.names,y.2=.free→sc.names.lookup y.1=some .cell∨sc.names.lookup y.1=some .free
 own:∀y∈scope.names,y.2=.local∨y.2=.cell→y.1∈own.map (·.1)∨y.1∉N
def wipe(σ:St):List Nat→St
 |[]=>σ
 |v::vs=>(wipe σ vs).set v none
theorem wipe_length(σ:St):∀vs:List Nat,(wipe σ vs).length=σ.length
 |[]=>rfl
 |v::vs=>by unfold wipe;rw[List.length_set,wipe_length σ vs]
theorem wipe_some{σ:St}{i:Nat}{x:V}:∀{vs:List Nat},(wipe σ vs)[i]?=some (some x)→σ[i]?=some (some x)∧i∉vs
 |[],h=>⟨h,by simp⟩
 |v::vs,h=>by
  unfold wipe at h
  by_cases hi:v=i
  ·subst hi
   by_cases hv:v<(wipe σ vs).length
   ·rw[List.getElem?_set_self hv]at h;cases h
   ·rw[List.getElem?_eq_none (by simpa using hv)]at h;cases h
  ·rw[List.getElem?_set_ne hi]at h
   obtain⟨h1,h2⟩:=wipe_some h
   exact⟨h1,by simp only[List.mem_cons,not_or];exact⟨fun e=>hi e.symm,h2⟩⟩
abbrev Cx.blk(X:Cx)(s:Shared)(H:Hp)(scope:Scope)(cenv:Env)(fp:List Addr):Cx:={ X with s_0:=s,H_0:=H,env:=cenv,outer:=X.stack,ex:=fp,fn:=fun x=>scope.names.lookup x==some .cell,pn:=[],xe:=fun _ _=>False }
section
variable{X:Cx}{pins:List (Addr×Obj)}{σ:St}{H:Hp}{s:Shared}
theorem block_start{scope:Scope}{own:List (Str×Nat)}{fp:List Addr}(I:Inv X pins σ H s)(ok:cV X.N X.env.scope scope own)(hN:X.N.Nodup)(hfp:∀b∈fp,FpOk X pins H b∧b<s.heap.objs.size):
  Inv (X.blk s H scope (compEnvC scope (cellsFrom (s.heap.objs.size+1) scope.names (bC X.env.cells scope.names [])) s.heap.objs.size X.env) fp) [] (wipe σ (own.map (·.2))) H { s with heap:=pushCells (s.heap.push { cls:=.type "dict",data:=.dict #[] }) scope.names }:=by
 have hfree:∀y∈scope.names,y.2=.free→∃c,X.env.cells.lookup y.1=some c:=fun y hy e=>by
  rcases ok.free y hy e with k|k
  ·exact I.ok.has _ (.inl k)
  ·exact I.ok.has _ (.inr k)
 generalize hcenv:compEnvC scope (cellsFrom (s.heap.objs.size+1) scope.names (bC X.env.cells scope.names [])) s.heap.objs.size X.env=cenv
 have kp:∀b o,s.heap.get? b=some o→(pushCells (s.heap.push { cls:=.type "dict",data:=.dict #[] }) scope.names).get? b=some o:=fun b o e=>pushCells_keeps _ _ _ _ (Heap.get?_push_of_some _ e)
 have hL:cenv.locals=s.heap.objs.size:=by rw[←hcenv];rfl
 have hcl:cenv.cells=cellsFrom (s.heap.objs.size+1) scope.names (bC X.env.cells scope.names []):=by rw[←hcenv];rfl
 have hsc:cenv.scope=relS scope X.env.scope:=by rw[←hcenv];rfl
 rw[←Heap.size_push s.heap { cls:=.type "dict",data:=.dict #[] }]at hcl
 have cm:∀{y c},(y,c)∈bC X.env.cells scope.names []→X.env.cells.lookup y=some c∧c<s.heap.objs.size:=fun{y c} hm=>by
  rcases mH hm with hm|⟨h1,rfl⟩
  ·cases hm
  ·obtain⟨c,hc⟩:=hfree _ h1 rfl
   rw[hc]
   obtain⟨w,z⟩:=I.cell _ _ hc
   exact⟨rfl,z.lt⟩
 have mem:∀{y c},cenv.cells.lookup y=some c→(X.env.cells.lookup y=some c∧c<s.heap.objs.size)∨(s.heap.objs.size+1≤c∧CellAt (pushCells (s.heap.push { cls:=.type "dict",data:=.dict #[] }) scope.names) c none):=fun{y c} e=>by
  rw[hcl]at e
  rcases nZ (PySem.mem_of_lookup e)with hm|⟨_,h2,h3⟩
  ·exact .inl (cm hm)
  ·rw[Heap.size_push]at h2;exact .inr ⟨h2,h3⟩
 have look:∀{y},scope.names.lookup y=some .free→∃c,cenv.cells.lookup y=some c∧X.env.cells.lookup y=some c:=fun{y} hl=>by
  have hy:(y,NameKind.free)∈scope.names:=PySem.mem_of_lookup hl
  obtain⟨c',e'⟩:=mem_lookup (cells_acc (names:=scope.names) (n:=(s.heap.push { cls:=.type "dict",data:=.dict #[] }).objs.size) (cloFrom_has (cells:=X.env.cells) (acc:=[]) hy))
  rw[←hcl]at e'
  refine⟨c',e',?_⟩
  rw[hcl]at e'
  rcases nZ (PySem.mem_of_lookup e')with hm|⟨h1,_,_⟩
  ·exact (cm hm).1
  ·have:=ok.uniq _ h1
   rw[hl]at this;cases this
 have okB:(X.blk s H scope cenv fp).Ok:=by
  refine⟨I.ok.mod,by show cenv.scope.kind=_;rw[hsc];exact ok.kind,by show cenv.globals=_;rw[←hcenv];exact I.ok.glob,by show cenv.builtins=_;rw[←hcenv];exact I.ok.blt,by show s.heap.objs.size≤cenv.locals;rw[hL];exact Nat.le_refl _,
   fun y z c e1 e2=>?_,fun y hy=>?_,fun y c z e=>?_,I.ok.hd,I.ok.frames,.inl rfl,fun b hb=>⟨?_,fun y c e z=>?_⟩,I.bs,Nat.le_trans I.ok.bsz I.sz,fun b o e hb=>?_,fun b hb z=>?_,I.stack,I.stkFree⟩
  ·have e1:cenv.cells.lookup y=some c:=e1
   have e2:cenv.cells.lookup z=some c:=e2
   rw[hcl]at e1 e2
   refine cells_inj (fun p hp=>?_) (fun y z c a b=>I.ok.inj y z c (cm a).1 (cm b).1) (PySem.mem_of_lookup e1) (PySem.mem_of_lookup e2)
   rw[Heap.size_push]
   exact Nat.lt_succ_of_lt (cm (y:=p.1) (c:=p.2) hp).2
  ·show ∃c,cenv.cells.lookup y=some c
   have key:∀k,cenv.kindOf y=some k→(k=.cell∨k=.free)→∃c,cenv.cells.lookup y=some c:=fun k hk hk'=>by
    unfold Env.kindOf at hk
    rw[hsc]at hk
    obtain⟨k',e,r⟩:=lookup_relS hk
    have:k'=.cell∨k'=.free:=by
     rcases r with rfl|⟨rfl,_⟩
     ·exact hk'
     ·exact .inr rfl
    rcases this with rfl|rfl
    ·obtain⟨c,hm⟩:=cells_has (n:=(s.heap.push { cls:=.type "dict",data:=.dict #[] }).objs.size) (acc:=bC X.env.cells scope.names []) (PySem.mem_of_lookup e)
     obtain⟨c',e'⟩:=mem_lookup hm
     exact⟨c',by rw[hcl];exact e'⟩
    ·obtain⟨c,h1,_⟩:=look e
     exact⟨c,h1⟩
   rcases hy with hy|hy
   ·exact key _ hy (.inl rfl)
   ·exact key _ hy (.inr rfl)
  ·have z:(scope.names.lookup y==some NameKind.cell)=true:=z
   have z:scope.names.lookup y=some .cell:=by simpa using z
   have e:cenv.cells.lookup y=some c:=e
   rw[hcl]at e
   rcases nZ (PySem.mem_of_lookup e)with hm|⟨_,h2,_⟩
   ·rcases mH hm with hm|⟨h1,_⟩
    ·cases hm
    ·have q:=ok.uniq _ h1
     rw[z]at q;cases q
   ·rw[Heap.size_push]at h2
    exact Nat.le_of_succ_le h2
  ·show b≠cenv.locals
   rw[hL];exact Nat.ne_of_lt (hfp b hb).2
  ·have e:cenv.cells.lookup y=some c:=e
   rcases mem e with⟨h1,_⟩|⟨h1,_⟩
   ·exact (hfp b hb).1.2.2.2.2.1 y c h1 z
   ·have h2:s.heap.objs.size+1≤b:=by rw[←z];exact h1
    exact absurd (Nat.lt_of_lt_of_le (hfp b hb).2 (Nat.le_of_succ_le h2)) (Nat.lt_irrefl _)
  ·rcases (hfp b hb).1.2.2.2.1 with z|z
   ·exact I.ok.noex b o e z
   ·exact absurd (Nat.lt_of_lt_of_le (Heap.lt_size e) (Nat.le_trans I.ok.bsz z)) (Nat.lt_irrefl _)
  ·rcases List.mem_cons.mp (I.stkSub b z)with z|z
   ·exact (hfp b hb).1.2.1 z
   ·exact (hfp b hb).1.2.2.1 z
 refine⟨okB,rfl,I.bare,Un.kept kp,⟨fun _=>none,?_,fun i y av e1 e2 e3=>?_⟩,fun y c e=>?_,?_,fun y c e=>?_,fun p hp=>?_,I.hok.kept kp,by rw[wipe_length];exact I.len⟩
 ·show Heap.Ns _ cenv.locals _
  rw[hL]
  exact Heap.Ns.keeps (Heap.Ns.new ..) fun b o e=>pushCells_keeps _ _ _ _ e
 ·obtain⟨e2,hne⟩:=wipe_some e2
  have hfr:scope.names.lookup y=some .free∧(cenv.kindOf y=some .cell∨cenv.kindOf y=some .free):=by
   have key:∀k,cenv.scope.names.lookup y=some k→k=.local∨k=.cell∨k=.free→scope.names.lookup y=some .free∧(cenv.kindOf y=some .cell∨cenv.kindOf y=some .free):=fun k hk hk'=>by
    have hk0:=hk
    rw[hsc]at hk
    obtain⟨k',e,r⟩:=lookup_relS hk
    have no:¬(k'=.local∨k'=.cell):=fun hh=>by
     rcases ok.own _ (PySem.mem_of_lookup e) hh with e'|e'
     ·obtain⟨p,hp,hpy⟩:=List.mem_map.mp e'
      have e3:=ok.ix p hp
      have:p.1=y:=hpy
      rw[this]at e3
      exact hne (List.mem_map.mpr ⟨p,hp,nodup_ix hN e3 e1⟩)
     ·exact e' (List.mem_of_getElem? e1)
    rcases r with rfl|⟨rfl,rfl⟩
    ·rcases hk' with rfl|rfl|rfl
     ·exact absurd (.inl rfl) no
     ·exact absurd (.inr rfl) no
     ·exact⟨e,.inr hk0⟩
    ·exact⟨e,.inl hk0⟩
   have e3:Vis cenv.scope y:=e3
   rcases e3 with e3|e3|e3
   ·exact key _ e3 (.inl rfl)
   ·exact key _ e3 (.inr (.inl rfl))
   ·exact key _ e3 (.inr (.inr rfl))
  obtain⟨m,hn,hl⟩:=I.loc
  have hvis:Vis X.env.scope y:=(ok.free _ (PySem.mem_of_lookup hfr.1) rfl).elim (fun k=>.inr (.inl k)) (fun k=>.inr (.inr k))
  obtain⟨w,r,q⟩:=hl i y av e1 e2 hvis
  refine⟨w,r,.inr ⟨hfr.2,?_⟩⟩
  obtain⟨c,h1,h2⟩:=look hfr.1
  rcases q with⟨k,_⟩|⟨_,c',e',z⟩
  ·have k:X.env.scope.names.lookup y=some .local:=k
   rcases ok.free _ (PySem.mem_of_lookup hfr.1) rfl with k'|k' <;> rw[show X.env.scope.names.lookup y=_ from k']at k <;> cases k
  ·rw[h2]at e';cases e'
   exact⟨c,h1,z.keeps kp⟩
 ·have e:cenv.cells.lookup y=some c:=e
  rcases mem e with⟨h1,_⟩|⟨_,z⟩
  ·obtain⟨w,z⟩:=I.cell y c h1
   exact⟨w,z.keeps kp⟩
  ·exact⟨_,z⟩
 ·show H cenv.locals=none
  rw[hL];exact I.hok.fresh (Nat.le_refl _)
 ·have e:cenv.cells.lookup y=some c:=e
  rcases mem e with⟨h1,_⟩|⟨h1,_⟩
  ·exact I.mj y c h1
  ·exact I.hok.fresh (Nat.le_of_succ_le h1)
 ·exact absurd (show p∈([]:List (Addr×Obj))++[] from hp) (by simp)
theorem app_ok{E:Value→Shared→Prop}{D:Addr}{xs:List V}{y:V}{v:Value}{Q:Value→Shared→Prop}(I:Inv X pins σ H s)(hD:H D=some (.lst xs))(hz:xs.length<sizeLine)(r:RelV y v)
  (h:∀s',Inv X pins σ (upd H D (.lst (xs++[y]))) s'→Q .none s'):wpAny (model X.prog X.w) X.A (call (.builtin "list.append") [.ref D,v]) Q E s:=by
 obtain⟨hz',its,n,ri,e⟩:=I.hok D _ hD
 have hl:=ri.length
 refine append_at (hsz:=by rw[List.size_toArray];omega) e fun h' sb ho'=>?_
 refine h { s with heap:=h' } (I.write (t':=s.toks) (by rw[hD];trivial) (.inl rfl) (fun b u hb q=>(sb.2 b hb).trans q) ⟨_,ho'⟩ ⟨by rw[List.length_append];exact hz,its++[v],n+1,ri.append (.cons r .nil),?_⟩)
 rw[ho']
 simp
def PTs(X:Cx)(ifs:List Expr)(t:TT):Prop:=
 ∀(pins:List (Addr×Obj)) (s:Shared) (σ:St) (H:Hp) (Q:Bool→Hp→Prop),Inv X pins σ H s→t σ H Q→
  wpAny (model X.prog X.w) X.A (forIn ifs true fun c r=>if r=true then do let ok ←isTrue c X.env (eval c X.env);pure (ForInStep.yield ok)else pure (ForInStep.yield r)) (TP X pins σ Q) X.xe s
def tYes:TT:=fun _ H Q=>Q true H
theorem dD:PTs X [] tYes:=fun _ _ _ H _ I h=>wpAny_tests_nil ⟨H,I,h⟩
theorem f9{c:Expr}{t:TT}(h:PT X c t):PTs X [c] t:=fun pins s σ H Q I hw=>wpAny_tests_one (h pins s σ H Q I hw)
end
theorem thnF{α:Type}{t:Sem α}{Q Q':α→Shared→Prop}{M:Model}{A:Around}{E:Value→Shared→Prop}{s:Shared}(h:wpAny M A t Q (fun _ _=>False) s)(hQ:∀a s,Q a s→Q' a s):wpAny M A t Q' E s:=wpAny_mono h hQ fun _ _ z=>False.elim z
theorem compLoop_any{prog:Program}{w:World}{A:Around}{R:Result→Shared→Prop}{s:Shared}{elt target iter:Expr}{ifs:List Expr}{scope:Scope}{pos:Pos}{it acc:Value}{env:Env}(I:Nat→Shared→Prop)
  (turn:∀n s,I n s→wpAny (model prog w) A (pyNext it) (fun r s₁=>match r with
   |none=>R (.ok .next) s₁
   |some v=>wpAny (model prog w) A (letOwnedTupleGo target it v) (fun _ s₁'=>wpAny (model prog w) A (assign target env v) (fun _ s₂=>
     wpAny (model prog w) A (forIn ifs true fun c r=>if r=true then do let ok ←isTrue c env (eval c env);pure (ForInStep.yield ok)else pure (ForInStep.yield r)) (fun ok s₃=>
      if ok=true then wpAny (model prog w) A (eval elt env) (fun x s₄=>
       wpAny (model prog w) A (call (.builtin "list.append") [acc,x]) (fun _ s₅=>∃m,m<n∧I m s₅) (notedBy (model prog w) A env fun e s'=>R (.error e) s') s₄) (notedBy (model prog w) A env fun e s'=>R (.error e) s') s₃
      else ∃m,m<n∧I m s₃) (notedBy (model prog w) A env fun e s'=>R (.error e) s') s₂) (notedBy (model prog w) A env fun e s'=>R (.error e) s') s₁') (notedBy (model prog w) A env fun e s'=>R (.error e) s') s₁) (notedBy (model prog w) A env fun e s'=>R (.error e) s') s)
  (n:Nat) (h:I n s):
  codeAny (model prog w) A (.compLoop (.ListComp elt [⟨target,iter,ifs,0⟩] scope pos) 0 it acc env) R s:=by
 refine codeAny_loop rfl I (fun n s hI=>?_) n h
 show wpAny _ A ((compTurn (.ListComp elt [⟨target,iter,ifs,0⟩] scope pos) 0 it acc env).onRaise (fun x=>do noteFrame x env;theTreesLotGoes x)) _ _ s
 refine wpAny_noted ?_
 rw[compTurn_list]
 refine wpAny_bind (wpAny_standAt (wpAny_bind (wpAny_mono (turn n s hI) (fun r s₁ h₁=>?_) fun _ _ h'=>h')))
 cases r with
 |none=>exact wpAny_pure h₁
 |some v=>
  refine wpAny_bind (wpAny_mono h₁ (fun _ s₁' h₁'=>?_) fun _ _ h'=>h')
  refine wpAny_bind (wpAny_mono h₁' (fun _ s₂ h₂=>wpAny_bind (wpAny_mono h₂ (fun ok s₃ h₃=>?_) fun _ _ h'=>h')) fun _ _ h'=>h')
  cases ok with
  |false=>exact wpAny_pure ⟨rfl,h₃⟩
  |true=>
   exact wpAny_bind (wpAny_bind (wpAny_mono h₃ (fun x s₄ h₄=>wpAny_bind (wpAny_mono h₄ (fun _ s₅ h₅=>wpAny_pure (wpAny_pure ⟨rfl,h₅⟩)) fun _ _ h'=>h')) fun _ _ h'=>h'))
section
variable{X:Cx}
def tLc(wi:TI)(g:TG)(tt:TT)(te:TE)(vs:List Nat):TE:=fun σ H Q=>wi σ H fun J H1=>∀D,H1 D=none→∃W:Nat→Nat→Hp→Prop,(∃m,W 0 m (upd H1 D (.lst [])))∧∀i m H,W i m H→
 (J.stop i H∧Q (.ref D) H)∨(J.go i H∧∃Nx:Hp→Prop,(∀H',Nx H'→∃m',m'<m∧W (i+1) m' H')∧∀x H',J.yld i H x H'→g x (wipe σ vs) H' fun σ2 H2=>wipe σ2 vs=wipe σ vs∧tt σ2 H2 fun b H3=>
  if b=true then te σ2 H3 fun y H4=>∃acc,H4 D=some (.lst acc)∧acc.length<sizeLine∧Nx (upd H4 D (.lst (acc++[y])))else Nx H3)
theorem lc_core{pins:List (Addr×Obj)}{s:Shared}{σ:St}{H:Hp}{Q:VK}{elt tg iter:Expr}{ifs:List Expr}{scope:Scope}{own:List (Str×Nat)}{pos pos':Pos}{wi:TI}{g:TG}{tt:TT}{te:TE}{use:Option (Value→Sem Unit)}{Qf:Value→Shared→Prop}
  (hc:X.calm=true) (hN:X.N.Nodup) (I:Inv X pins σ H s) (hi:PI X tg iter wi) (ok:cV X.N X.env.scope scope own)
  (hg:∀(s:Shared) (H:Hp) (C:Addr) (cl:List (Str×Addr)) (fp:List Addr),PG (X.blk s H scope (compEnvC scope cl C X.env) fp) tg g) (ht:∀(s:Shared) (H:Hp) (C:Addr) (cl:List (Str×Addr)) (fp:List Addr),PTs (X.blk s H scope (compEnvC scope cl C X.env) fp) ifs tt)
  (he:∀(s:Shared) (H:Hp) (C:Addr) (cl:List (Str×Addr)) (fp:List Addr),PE (X.blk s H scope (compEnvC scope cl C X.env) fp) elt te) (hs:∀x,foldedSetIterable iter X.env x=pure x)
  (h:tLc wi g tt te (own.map (·.2)) σ H Q)
  (hRR:∀D C s' m H',Inv X pins σ H' s'→Q (.ref D) H'→s'.heap.Ns C m→FpOk X pins H' C→compPost (model X.prog X.w) X.A X.xe use Qf (.ref D) C (.ok .next) s'):
  wpAny (model X.prog X.w) X.A (comprehension (.ListComp elt [⟨tg,iter,ifs,0⟩] scope pos) scope X.env pos' (newList []) false (eval iter X.env) use) Qf X.xe s:=by
 have hfree:∀y∈scope.names,y.2=.free→∃c,X.env.cells.lookup y.1=some c:=fun y hy e=>by
  rcases ok.free y hy e with k|k
  ·exact I.ok.has _ (.inl k)
  ·exact I.ok.has _ (.inr k)
 refine wpAny_comprehension_free (use:=use) rfl hs (closure_ok hfree) ok.kind (fun y hy e=>by rw[ok.uniq y hy,e])
  (dw (hi pins s σ H _ I h) fun xv s1 hx=>dw hx fun itv s2 h2=>?_)
 obtain⟨it,fp,tn,J,H2,e,I2,T,st2,f2,q⟩:=h2
 subst e
 refine wpAny_newObj_type (newEnv_comp ?_) (by show 0≤sizeLine;decide)
 generalize hD:s2.heap.objs.size=D
 have hDn:H2 D=none:=I2.hok.fresh (Nat.le_of_eq hD)
 obtain⟨W,⟨m0,w0⟩,turn⟩:=q D hDn
 generalize hs3:({ s2 with heap:=s2.heap.push { cls:=.type "list",data:=.seq ([]:List Value).toArray } }:Shared)=s3
 have I3:Inv X pins σ (upd H2 D (.lst [])) s3:=by
  rw[←hs3]
  refine I2.laid (t':=s2.toks) (fun b o e=>Heap.get?_push_of_some _ e) (Nat.le_of_eq hD) ⟨Nat.zero_le _,[],0,.nil,?_⟩
  rw[←hD]
  exact Heap.get?_push_size _ rfl
 have h3:s3.heap=s2.heap.push { cls:=.type "list",data:=.seq ([]:List Value).toArray }:=by rw[←hs3]
 have sz:∀b∈fp,b<s2.heap.objs.size:=fun b hb=>by
  obtain⟨o,e,_⟩:=T.obj _ _ st2 b hb
  exact Heap.lt_size e
 have f3:∀b∈fp,FpOk X pins (upd H2 D (.lst [])) b∧b<s3.heap.objs.size:=fun b hb=>by
  have hlt:=sz b hb
  refine⟨⟨?_,(f2 b hb).2⟩,by rw[h3,Heap.size_push];exact Nat.lt_succ_of_lt hlt⟩
  rw[aB (by rw[←hD];exact Nat.ne_of_lt hlt)]
  exact (f2 b hb).1
 have st3:tn 0 s3.heap:=T.keep _ _ _ st2 fun b _ o e=>by rw[h3];exact Heap.get?_push_of_some _ e
 have I4:=block_start I3 ok hN f3
 have pg:=hg s3 (upd H2 D (.lst [])) s3.heap.objs.size (cellsFrom (s3.heap.objs.size+1) scope.names (bC X.env.cells scope.names [])) fp
 have pt:=ht s3 (upd H2 D (.lst [])) s3.heap.objs.size (cellsFrom (s3.heap.objs.size+1) scope.names (bC X.env.cells scope.names [])) fp
 have pe:=he s3 (upd H2 D (.lst [])) s3.heap.objs.size (cellsFrom (s3.heap.objs.size+1) scope.names (bC X.env.cells scope.names [])) fp
 show codeAny _ _ (.compStart (.ListComp elt [⟨tg,iter,ifs,0⟩] scope pos) 0 (.ref it) (.ref D) (compEnvC scope (cellsFrom (s3.heap.objs.size+1) scope.names (bC X.env.cells scope.names [])) s3.heap.objs.size X.env)) (compPost (model X.prog X.w) X.A X.xe use Qf (.ref D) s3.heap.objs.size) { s3 with heap:=pushCells (s3.heap.push { cls:=.type "dict",data:=.dict #[] }) scope.names }
 have nfp:∀b∈fp,(upd H2 D (.lst [])) b=none:=fun b hb=>(f3 b hb).1.1
 generalize hce:compEnvC scope (cellsFrom (s3.heap.objs.size+1) scope.names (bC X.env.cells scope.names [])) s3.heap.objs.size X.env=ce at I4 pg pt pe ⊢
 have cL:ce.locals=s3.heap.objs.size:=by subst hce;rfl
 generalize hH3:upd H2 D (.lst [])=H3 at I3 I4 pg pt pe w0 nfp f3
 generalize hs4:({ s3 with heap:=pushCells (s3.heap.push { cls:=.type "dict",data:=.dict #[] }) scope.names }:Shared)=s4 at I4 ⊢
 have st4:tn 0 s4.heap:=T.keep _ _ _ st3 fun b _ o e=>by rw[←hs4];exact pushCells_keeps _ _ _ _ (Heap.get?_push_of_some _ e)
 have stat:∀{σ':St}{H':Hp}{s':Shared},Inv (X.blk s3 H3 scope ce fp) [] σ' H' s'→(∀b∈fp,H' b=none)→∀b∈fp,FpOk (X.blk s3 H3 scope ce fp) [] H' b:=fun{σ' H' s'} I' hn b hb=>
  ⟨hn b hb,(I'.ok.exf b hb).1,I'.ok.exfs b hb,.inl hb,fun x c e=>(I'.ok.exf b hb).2 x c e,fun p hp=>absurd (show p∈([]:List (Addr×Obj))++[] from hp) (by simp)⟩
 have loop:codeAny (model X.prog X.w) X.A (.compLoop (.ListComp elt [⟨tg,iter,ifs,0⟩] scope pos) 0 (.ref it) (.ref D) ce) (compPost (model X.prog X.w) X.A X.xe use Qf (.ref D) s3.heap.objs.size) s4:=by
  refine compLoop_any (fun n s'=>∃i H',Inv (X.blk s3 H3 scope ce fp) [] (wipe σ (own.map (·.2))) H' s'∧tn i s'.heap∧(∀b∈fp,H' b=none)∧W i n H') ?_ m0 ⟨0,H3,I4,st4,nfp,w0⟩
  rintro n s5 ⟨i,H5,I5,st5,n5,w5⟩
  rcases turn i n H5 w5 with⟨stop,qq⟩|⟨go,Nx,hNx,step⟩
  ·have td:=T.done (X.blk s3 H3 scope ce fp) rfl rfl rfl hc i [] s5 _ H5 (fun _ _=>False) I5 (stat I5 n5) st5 stop
   refine thnF td fun r s6 ⟨hr,I6⟩=>?_
   subst hr
   have I7:Inv X pins σ H5 s6:=I3.call' (ch:=fp) I6.os I6.base I6.hok I6.bare fun b hb=>⟨(f3 b hb).1.2.2.2.1,(f3 b hb).1.2.1,(f3 b hb).1.2.2.2.2.1,(f3 b hb).1.2.2.2.2.2⟩
   have nC:H5 s3.heap.objs.size=none:=by
    have z:H5 ce.locals=none:=I6.free
    rw[cL]at z
    exact z
   obtain⟨m,hn,_⟩:=I6.loc
   have hn:s6.heap.Ns ce.locals m:=hn
   rw[cL]at hn
   exact hRR D s3.heap.objs.size s6 m H5 I7 qq hn (I3.fpOk (Nat.le_refl _) nC)
  ·have ti:=T.item (X.blk s3 H3 scope ce fp) rfl rfl rfl hc i [] s5 _ H5 (fun _ _=>False) I5 (stat I5 n5) st5 go
   refine thnF ti fun r s6 ⟨u,hr,h6⟩=>?_
   subst hr
   refine thnF h6 fun _ s7 ⟨x,H7,I7,r7,y7,st7,n7⟩=>?_
   have I7':=I7.pinned (stat I7 n7) (T.obj _ _ st7)
   refine thnF (pg _ s7 _ H7 x u _ I7' r7 (step x H7 y7)) fun _ s8 ⟨σ8,H8,I8,hw8,q8⟩=>?_
   refine thnF (pt _ s8 σ8 H8 _ I8 q8) fun b s9 ⟨H9,I9,q9⟩=>?_
   have fin:∀{s':Shared}{H':Hp},Inv (X.blk s3 H3 scope ce fp) ([]++pinsAt fp s7.heap) σ8 H' s'→Nx H'→∃m,m<n∧∃i H',Inv (X.blk s3 H3 scope ce fp) [] (wipe σ (own.map (·.2))) H' s'∧tn i s'.heap∧(∀b∈fp,H' b=none)∧W i m H':=fun{s' H'} I' nx=>by
    obtain⟨m',hm,w'⟩:=hNx H' nx
    have pin':∀b∈fp,∀o,s7.heap.get? b=some o→s'.heap.get? b=some o∧H' b=none:=fun b hb o e=>
     let z:=I'.pin (b,o) (List.mem_append_right _ (List.mem_append_right _ (mem_pinsAt hb e)))
     ⟨z.1,z.2.1⟩
    have hl:(wipe σ (own.map (·.2))).length=σ8.length:=by rw[←hw8,wipe_length]
    refine⟨m',hm,i+1,H',(I'.unpinned (pins:=[])).weak hl (fun j v e=>?_),T.keep _ _ _ st7 fun b hb o e=>(pin' b hb o e).1,fun b hb=>?_,w'⟩
    ·rw[←hw8]at e
     exact (wipe_some e).1
    ·obtain⟨o,e,_⟩:=T.obj _ _ st7 b hb
     exact (pin' b hb o e).2
   cases b with
   |false=>
    simp only[Bool.false_eq_true,if_false]at q9 ⊢
    exact fin I9 q9
   |true=>
    simp only[if_true]at q9 ⊢
    refine thnF (pe _ s9 σ8 H9 _ I9 q9) fun z s10 ⟨yv,H10,I10,r10,acc,hD10,hz10,nx⟩=>?_
    exact app_ok (X:=X.blk s3 H3 scope ce fp) I10 hD10 hz10 r10 fun s11 I11=>fin I11 nx
 exact codeAny_compStart_list loop (T.self X.A 0 _ _ _ st4 loop)
theorem fG{elt tg iter:Expr}{ifs:List Expr}{scope:Scope}{own:List (Str×Nat)}{pos:Pos}{wi:TI}{g:TG}{tt:TT}{te:TE}(hc:X.calm=true)(hN:X.N.Nodup)(hi:PI X tg iter wi)(ok:cV X.N X.env.scope scope own)
  (hg:∀(s:Shared) (H:Hp) (C:Addr) (cl:List (Str×Addr)) (fp:List Addr),PG (X.blk s H scope (compEnvC scope cl C X.env) fp) tg g) (ht:∀(s:Shared) (H:Hp) (C:Addr) (cl:List (Str×Addr)) (fp:List Addr),PTs (X.blk s H scope (compEnvC scope cl C X.env) fp) ifs tt)
  (he:∀(s:Shared) (H:Hp) (C:Addr) (cl:List (Str×Addr)) (fp:List Addr),PE (X.blk s H scope (compEnvC scope cl C X.env) fp) elt te) (hs:∀x,foldedSetIterable iter X.env x=pure x:=by intro _;rfl):
  PE X (.ListComp elt [⟨tg,iter,ifs,0⟩] scope pos) (tLc wi g tt te (own.map (·.2))):=by
 intro pins s σ H Q I h
 rw[eval_ListComp]
 refine lc_core hc hN I hi ok hg ht he hs h fun D C s' m H' I' q hn f=>⟨m,hn,fun h'' sb=>?_⟩
 obtain⟨f0,f1,f2,f3,f4,f5⟩:=f
 exact⟨.ref D,H',I'.turned (t':=s'.toks) (fun b o hb e=>(sb.2 b hb).trans e) f0 f1 f3 f4 f5,rfl,q⟩
theorem lH{i:Nat}{y:Str}{py:Pos}{elt tg iter:Expr}{ifs:List Expr}{scope:Scope}{own:List (Str×Nat)}{pos spos:Pos}{wi:TI}{g:TG}{tt:TT}{te:TE}(hc:X.calm=true)(hN:X.N.Nodup)(hy:X.N[i]?=some y)(hyl:X.env.scope.names.lookup y=some .local)
  (hsw:swapsWith (.ListComp elt [⟨tg,iter,ifs,0⟩] scope pos) (some (.Name y py)) spos.line X.env=pure true) (hi:PI X tg iter wi) (ok:cV X.N X.env.scope scope own)
  (hg:∀(s:Shared) (H:Hp) (C:Addr) (cl:List (Str×Addr)) (fp:List Addr),PG (X.blk s H scope (compEnvC scope cl C X.env) fp) tg g) (ht:∀(s:Shared) (H:Hp) (C:Addr) (cl:List (Str×Addr)) (fp:List Addr),PTs (X.blk s H scope (compEnvC scope cl C X.env) fp) ifs tt)
  (he:∀(s:Shared) (H:Hp) (C:Addr) (cl:List (Str×Addr)) (fp:List Addr),PE (X.blk s H scope (compEnvC scope cl C X.env) fp) elt te) (hs:∀x,foldedSetIterable iter X.env x=pure x:=by intro _;rfl):
  PS X (.Assign [.Name y py] (.ListComp elt [⟨tg,iter,ifs,0⟩] scope pos) spos) (tAsg (tLc wi g tt te (own.map (·.2))) (gName i)):=by
 intro pins s σ H D I h
 rw[exec_Assign_Name_used _ _ _ _ hsw]
 refine wpAny_bind (wpAny_standAt (wpAny_bind ?_))
 show wpAny _ X.A (do let _ ←comprehension (.ListComp elt [⟨tg,iter,ifs,0⟩] scope pos) scope X.env (firstIterPos [⟨tg,iter,ifs,0⟩] pos) (newList []) false (eval iter X.env) (some (assign (.Name y py) X.env))) _ _ s
 have h:tLc wi g tt te (own.map (·.2)) σ H (fun x H1=>gName i x σ H1 D.nx):=h
 refine wpAny_bind (dw (lc_core (Qf:=fun _ s'=>SP X pins D .next s') hc hN I hi ok hg ht he hs h fun L C s' m H' I' q hn f=>?_) fun _ s' hq=>wpAny_pure (wpAny_pure hq))
 show wpAny _ _ (assign (.Name y py) X.env (.ref L)) _ _ _
 refine wpAny_assign_Name (store_ok2 (v:=V.ref L) I' hN hy (.inl hyl) rfl (fun s2 I2 ⟨a,sb,ha⟩=>?_) (.inr hyl))
 obtain⟨f0,f1,f2,f3,f4,f5⟩:=f
 have haC:C≠a:=by
  rcases ha with z|z
  ·rw[z];exact f1
  ·exact fun e=>f4 y a z e.symm
 refine⟨m,hn.sameBut sb haC,fun h3 sb3=>?_⟩
 exact⟨_,H',I2.turned (t':=s2.toks) (fun b o hb e=>(sb3.2 b hb).trans e) f0 f1 f3 f4 f5,q⟩
end
theorem lc_list{K:PySem.W.Frag}{a:Addr}{xs:List V}{g:TG}{tt:TT}{te:TE}{vs:List Nat}{σ:St}{H1:Hp}{D:Addr}{Qd:Hp→Prop}(Pv:Nat→Hp→Prop)(h0:Pv 0 (upd H1 D (.lst [])))(hl:∀i H,i≤xs.length→Pv i H→bh K H a xs)
  (hs:∀i x H,xs[i]?=some x→Pv i H→g x (wipe σ vs) H fun σ2 H2=>wipe σ2 vs=wipe σ vs∧tt σ2 H2 fun b H3=>
   if b=true then te σ2 H3 fun y H4=>∃acc,H4 D=some (.lst acc)∧acc.length<sizeLine∧Pv (i+1) (upd H4 D (.lst (acc++[y])))else Pv (i+1) H3) (hd:∀H,Pv xs.length H→Qd H):
  ∃W:Nat→Nat→Hp→Prop,(∃m,W 0 m (upd H1 D (.lst [])))∧∀i m H,W i m H→
   ((Itl K a).stop i H∧Qd H)∨((Itl K a).go i H∧∃Nx:Hp→Prop,(∀H',Nx H'→∃m',m'<m∧W (i+1) m' H')∧∀x H',(Itl K a).yld i H x H'→g x (wipe σ vs) H' fun σ2 H2=>wipe σ2 vs=wipe σ vs∧tt σ2 H2 fun b H3=>
    if b=true then te σ2 H3 fun y H4=>∃acc,H4 D=some (.lst acc)∧acc.length<sizeLine∧Nx (upd H4 D (.lst (acc++[y])))else Nx H3):=by
 refine⟨fun i m H=>m=xs.length - i∧i≤xs.length∧Pv i H,⟨xs.length,by simp,Nat.zero_le _,h0⟩,?_⟩
 rintro i m H ⟨rfl,hi,p⟩
 have q:=hl i H hi p
 by_cases hlt:i<xs.length
 ·refine .inr ⟨⟨xs,xs[i],q,by simp[hlt]⟩,Pv (i+1),fun H' p'=>⟨xs.length - (i+1),by omega,rfl,hlt,p'⟩,fun x H' y=>?_⟩
  obtain⟨e,y⟩:=y
  subst e
  exact hs i x _ (y xs q) p
 ·have e:i=xs.length:=by omega
  subst e
  exact .inl ⟨⟨xs,q,Nat.le_refl _⟩,hd H p⟩
end L2
namespace L2
open PySem PySem.Spec PyProof.Rows
section
variable{κ:Type}[DecidableEq κ]
def cW(kvs:List (κ×V))(k:κ):Option V:=(kvs.find? fun kv=>decide (kv.1=k)).map (·.2)
def putK(kvs:List (κ×V))(k:κ)(v:V):List (κ×V):=
 if (kvs.any fun kv=>decide (kv.1=k))=true then kvs.map (fun kv=>if kv.1=k then(kv.1,v)else kv)else kvs++[(k,v)]
def mq(kvs:List (κ×V))(k:κ):List (κ×V):=kvs.filter fun kv=>decide (kv.1≠k)
theorem nO{p:κ×V}{r:List (κ×V)}{k:κ}(e:p.1=k):cW (p::r) k=some p.2:=by simp[cW,List.find?_cons,e]
theorem iM{p:κ×V}{r:List (κ×V)}{k:κ}(e:¬p.1=k):cW (p::r) k=cW r k:=by simp[cW,List.find?_cons,e]
theorem valV_any(k:κ):∀kvs:List (κ×V),(kvs.any fun kv=>decide (kv.1=k))=(cW kvs k).isSome
 |[]=>rfl
 |p::r=>by
  rw[List.any_cons]
  by_cases e:p.1=k
  ·simp only[nO e,decide_eq_true e,Bool.true_or,Option.isSome_some]
  ·rw[iM e,decide_eq_false e,Bool.false_or];exact valV_any k r
theorem length_putK(kvs:List (κ×V))(k:κ)(v:V):(putK kvs k v).length≤kvs.length+1:=by
 unfold putK
 split
 ·rw[List.length_map];omega
 ·rw[List.length_append,List.length_cons,List.length_nil];omega
theorem RelO.lu{o:Option V}{u:Option Value}(r:RelO o u):o.isSome=u.isSome:=by
 cases o with
 |none=>cases u with
  |none=>rfl
  |some _=>exact (show False from r).elim
 |some _=>cases u with
  |none=>exact (show False from r).elim
  |some _=>rfl
theorem RelO.getD{o:Option V}{u:Option Value}{d:V}{d':Value}(r:RelO o u)(rd:RelV d d'):RelV (o.getD d) (u.getD d'):=by
 cases o with
 |none=>cases u with
  |none=>exact rd
  |some _=>exact (show False from r).elim
 |some _=>cases u with
  |none=>exact (show False from r).elim
  |some _=>exact r
theorem KV.val{kvs:List (κ×V)}{vs:List (κ×Value)}(r:KV kvs vs)(k:κ):RelO (cW kvs k) (valueAt vs k):=by
 unfold KV at r
 induction r with
 |nil=>exact True.intro
 |@cons p q ps qs h t ih=>
  obtain⟨h1,h2⟩:=h
  by_cases e:p.1=k
  ·have e':q.1=k:=h1.symm.trans e
   have b:valueAt (q::qs) k=some q.2:=by simp[valueAt,List.find?_cons,e']
   rw[nO e,b];exact h2
  ·have e':¬q.1=k:=fun z=>e (h1.trans z)
   have b:valueAt (q::qs) k=valueAt qs k:=by simp[valueAt,List.find?_cons,e']
   rw[iM e,b];exact ih
theorem KV.any{kvs:List (κ×V)}{vs:List (κ×Value)}(r:KV kvs vs)(k:κ):(kvs.any fun kv=>decide (kv.1=k))=vs.any fun kv=>decide (kv.1=k):=by
 unfold KV at r
 induction r with
 |nil=>rfl
 |cons h t ih=>rw[List.any_cons,List.any_cons,ih,h.1]
theorem KV.repl{kvs:List (κ×V)}{vs:List (κ×Value)}(r:KV kvs vs)(k:κ){y:V}{u:Value}(ry:RelV y u):
  KV (kvs.map fun kv=>if kv.1=k then(kv.1,y)else kv) (vs.map fun kv=>if kv.1=k then(kv.1,u)else kv):=by
 unfold KV at r ⊢
 induction r with
 |nil=>exact .nil
 |@cons p q ps qs h t ih=>
  rw[List.map_cons,List.map_cons]
  refine .cons ?_ ih
  obtain⟨h1,h2⟩:=h
  by_cases e:p.1=k
  ·rw[if_pos e,if_pos (h1.symm.trans e)];exact⟨h1,ry⟩
  ·rw[if_neg e,if_neg (fun z=>e (h1.trans z))];exact⟨h1,h2⟩
theorem KV.put{kvs:List (κ×V)}{vs:List (κ×Value)}(r:KV kvs vs)(k:κ){y:V}{u:Value}(ry:RelV y u):KV (putK kvs k y) (stored vs k u):=by
 unfold putK stored
 rw[r.any k]
 by_cases e:(vs.any fun kv=>decide (kv.1=k))=true
 ·rw[if_pos e,if_pos e];exact r.repl k ry
 ·rw[if_neg e,if_neg e];exact Paired.snoc r ⟨rfl,ry⟩
theorem KV.drop{kvs:List (κ×V)}{vs:List (κ×Value)}(r:KV kvs vs)(k:κ):KV (mq kvs k) (without vs k):=by
 unfold KV at r ⊢
 unfold mq without
 induction r with
 |nil=>exact .nil
 |@cons p q ps qs h t ih=>
  obtain⟨h1,h2⟩:=h
  rw[List.filter_cons,List.filter_cons]
  by_cases e:p.1=k
  ·have a:¬decide (p.1≠k)=true:=by simp[e]
   have b:¬decide (q.1≠k)=true:=by simp[h1.symm.trans e]
   rw[if_neg a,if_neg b];exact ih
  ·have e':¬q.1=k:=fun z=>e (h1.trans z)
   have a:decide (p.1≠k)=true:=by simp[e]
   have b:decide (q.1≠k)=true:=by simp[e']
   rw[if_pos a,if_pos b];exact .cons ⟨h1,h2⟩ ih
theorem KV.length{kvs:List (κ×V)}{vs:List (κ×Value)}(r:KV kvs vs):kvs.length=vs.length:=Paired.length r
theorem dropK_le(kvs:List (κ×V))(k:κ):(mq kvs k).length≤kvs.length:=List.length_filter_le _ _
end
theorem kV_is{P:Program}{w:World}{k:Key}{u:Value}(r:RelV (kV k) u):(bK P w).is k u=true:=by
 cases k with
 |inl i=>obtain⟨t,e⟩:=(show ∃t,u=Value.int i t from r);subst e;exact mixKind_int P w i t
 |inr x=>obtain⟨t,e⟩:=(show ∃t,u=Value.str x t from r);subst e;exact mixKind_str P w x t
theorem items_are{P:Program}{w:World}:∀{ks:List Key}{us:List Value},Vals (ks.map kV) us→ItemsAre (bK P w) ks us
 |[],_,r=>by rw[List.map_nil]at r;cases r;exact .nil
 |k::ks,_,r=>by
  rw[List.map_cons]at r
  cases r with
  |cons h t=>exact .cons (kV_is h) (items_are t)
abbrev KT(H:Hp):List (List Key×V)→List (List Key×Addr×Value)→Prop:=Paired fun p q=>p.1=q.1∧H q.2.1=some (.tup (p.1.map kV))∧RelV p.2 q.2.2
theorem KT.val{H:Hp}{kvs:List (List Key×V)}{xs:List (List Key×Addr×Value)}(r:KT H kvs xs)(k:List Key):RelO (cW kvs k) ((atKey xs k).map (·.2)):=by
 induction r with
 |nil=>exact True.intro
 |@cons p q ps qs h t ih=>
  obtain⟨h1,_,h2⟩:=h
  by_cases e:p.1=k
  ·have e':q.1=k:=h1.symm.trans e
   have b:atKey (q::qs) k=some q.2:=by simp[atKey,List.find?_cons,e']
   rw[nO e,b];exact h2
  ·have e':¬q.1=k:=fun z=>e (h1.trans z)
   have b:atKey (q::qs) k=atKey qs k:=by simp[atKey,List.find?_cons,e']
   rw[iM e,b];exact ih
theorem KT.repl{H:Hp}{kvs:List (List Key×V)}{xs:List (List Key×Addr×Value)}(r:KT H kvs xs)(k:List Key){y:V}{u:Value}(ry:RelV y u):
  KT H (kvs.map fun kv=>if kv.1=k then(kv.1,y)else kv) (xs.map (putAt k u)):=by
 induction r with
 |nil=>exact .nil
 |@cons p q ps qs h t ih=>
  rw[List.map_cons,List.map_cons]
  refine .cons ?_ ih
  obtain⟨h1,h2,h3⟩:=h
  unfold putAt
  by_cases e:p.1=k
  ·rw[if_pos e,if_pos (h1.symm.trans e)];exact⟨h1,h2,ry⟩
  ·rw[if_neg e,if_neg (fun z=>e (h1.trans z))];exact⟨h1,h2,h3⟩
theorem KT.put{H:Hp}{kvs:List (List Key×V)}{xs:List (List Key×Addr×Value)}(r:KT H kvs xs)(k:List Key){b:Addr}{y:V}{u:Value}(hb:H b=some (.tup (k.map kV)))(ry:RelV y u):
  KT H (putK kvs k y) (storedH xs k b u):=by
 have e:(kvs.any fun kv=>decide (kv.1=k))=(atKey xs k).isSome:=by
  rw[valV_any,(r.val k).lu,Option.isSome_map]
 unfold putK storedH
 rw[e]
 by_cases q:(atKey xs k).isSome=true
 ·rw[if_pos q,if_pos q];exact r.repl k ry
 ·rw[if_neg q,if_neg q];exact Paired.snoc r ⟨rfl,hb,ry⟩
theorem KT.keeps{H H':Hp}{kvs:List (List Key×V)}{xs:List (List Key×Addr×Value)}(r:KT H kvs xs)(ht:∀b ys,H b=some (.tup ys)→H' b=some (.tup ys)):KT H' kvs xs:=
 Paired.mapP r fun _ _ z=>⟨z.1,ht _ _ z.2.1,z.2.2⟩
section
variable{P:Program}{w:World}{H:Hp}{h:Heap}{a:Addr}
theorem rd_of{u:HO}(ok:HOk P w H h)(e:Rd H a u):cM P w H h a u:=e.ok ok
theorem dk_rd{kvs:List (Key×V)}(ok:HOk P w H h)(e:Rd H a (.dK kvs)):kvs.length≤sizeLine∧(a==sysModules)=false∧∃vs,KV kvs vs∧h.DictOf (bK P w) a vs:=
 show cM P w H h a (.dK kvs)from rd_of ok e
theorem dk_of{kvs:List (Key×V)}(ok:HOk P w H h)(e:H a=some (.dK kvs)):kvs.length≤sizeLine∧(a==sysModules)=false∧∃vs,KV kvs vs∧h.DictOf (bK P w) a vs:=dk_rd ok (.inl e)
theorem key_of{ks:List Key}(ok:HOk P w H h)(e:H a=some (.tup (ks.map kV))):(tupleKind (bK P w)).is h ks a:=by
 obtain⟨_,its,r,o,h1,h2,n,h3⟩:=(show cM P w H h a (.tup (ks.map kV))from ok a _ e)
 exact⟨o,its.toArray,n,h1,h2,h3,by simpa using items_are r⟩
theorem dt_rd{kvs:List (List Key×V)}(ok:HOk P w H h)(e:Rd H a (.dT kvs)):kvs.length≤sizeLine∧(a==sysModules)=false∧
  ∃xs,KT H kvs xs∧h.DictOfH (tupleKind (bK P w)) a xs:=by
 obtain⟨z,y,xs,r,o,es,ep,h1,h2,h3,h4,h5⟩:=(show cM P w H h a (.dT kvs)from rd_of ok e)
 refine⟨z,y,xs,r,o,es,ep,h1,h2,h3,h4,fun x hx=>?_,h5⟩
 have all:∀{l:List (List Key×V)}{m:List (List Key×Addr×Value)},KT H l m→∀x∈m,(tupleKind (bK P w)).is h x.1 x.2.1:=by
  intro l m q
  induction q with
  |nil=>intro x hx;exact nomatch hx
  |@cons p q ps qs hq t ih=>
   intro x hx
   rcases List.mem_cons.mp hx with e|hx
   ·subst e
    exact key_of ok (by rw[←hq.1];exact hq.2.1)
   ·exact ih x hx
 exact all r x hx
theorem dt_of{kvs:List (List Key×V)}(ok:HOk P w H h)(e:H a=some (.dT kvs)):kvs.length≤sizeLine∧(a==sysModules)=false∧
  ∃xs,KT H kvs xs∧h.DictOfH (tupleKind (bK P w)) a xs:=dt_rd ok (.inl e)
end
def iI(H:Hp)(a:Addr)(y:V)(r:Option V):Prop:=
 (∃kvs k,Rd H a (.dK kvs)∧y=kV k∧r=cW kvs k)∨∃kvs k b,Rd H a (.dT kvs)∧y=.ref b∧H b=some (.tup (k.map kV))∧r=cW kvs k
def DPut(H:Hp)(a:Addr)(y v:V)(H':Hp):Prop:=
 (∃kvs k,H a=some (.dK kvs)∧y=kV k∧kvs.length<sizeLine∧H'=upd H a (.dK (putK kvs k v)))∨
 ∃kvs k b,H a=some (.dT kvs)∧y=.ref b∧H b=some (.tup (k.map kV))∧kvs.length<sizeLine∧H'=upd H a (.dT (putK kvs k v))
theorem iI.k{H:Hp}{a:Addr}{kvs:List (Key×V)}{k:Key}(e:H a=some (.dK kvs)):iI H a (kV k) (cW kvs k):=.inl ⟨kvs,k,.inl e,rfl,rfl⟩
theorem iI.t{H:Hp}{a b:Addr}{kvs:List (List Key×V)}{k:List Key}(e:H a=some (.dT kvs))(eb:H b=some (.tup (k.map kV))):iI H a (.ref b) (cW kvs k):=.inr ⟨kvs,k,b,.inl e,rfl,eb,rfl⟩
theorem DPut.k{H:Hp}{a:Addr}{kvs:List (Key×V)}{k:Key}{v:V}(e:H a=some (.dK kvs))(hl:kvs.length<sizeLine):DPut H a (kV k) v (upd H a (.dK (putK kvs k v))):=.inl ⟨kvs,k,e,rfl,hl,rfl⟩
theorem DPut.t{H:Hp}{a b:Addr}{kvs:List (List Key×V)}{k:List Key}{v:V}(e:H a=some (.dT kvs))(eb:H b=some (.tup (k.map kV)))(hl:kvs.length<sizeLine):
  DPut H a (.ref b) v (upd H a (.dT (putK kvs k v))):=.inr ⟨kvs,k,b,e,rfl,eb,hl,rfl⟩
section
variable{X:Cx}{pins:List (Addr×Obj)}{σ:St}{H:Hp}{s:Shared}{a:Addr}{y v:V}{u r:Value}{o:Option V}{A:Around}{E:Value→Shared→Prop}
theorem Inv.big(I:Inv X pins σ H s):sysModules<s.heap.objs.size:=by
 have h:mainGlobals<s.heap.objs.size:=(I.mod.glob.keeps I.bk).lt
 exact Nat.lt_trans (by decide) h
theorem d_getItem{Q:Value→Shared→Prop}(hu:A.units+1<cLine)(I:Inv X pins σ H s)(g:iI H a y (some v))(ry:RelV y u)(h:∀w' s',Inv X pins σ H s'→RelV v w'→Q w' s'):
  wpAny (model X.prog X.w) A (getItem (.ref a) u) Q E s:=by
 rcases g with⟨kvs,k,e,ey,l⟩|⟨kvs,k,b,e,ey,eb,l⟩
 ·subst ey
  obtain⟨z,hd,vs,rel,dd⟩:=dk_rd I.hok e
  obtain⟨w',hw,rw'⟩:=RelO.some_of (v:=v) (o:=valueAt vs k) (by rw[l];exact rel.val k)
  exact wpAny_getItem_of (kV_is ry) dd.mapOf hw (h w' _ (I.tok _) rw')
 ·subst ey
  cases (show u=Value.ref b from ry)
  obtain⟨z,hd,xs,rel,dd⟩:=dt_rd I.hok e
  obtain⟨w',hw,rw'⟩:=RelO.some_of (v:=v) (o:=(atKey xs k).map (·.2)) (by rw[l];exact rel.val k)
  obtain⟨p,hp,hp2⟩:=Option.map_eq_some_iff.mp hw
  refine wpAny_getItem_heap (tupleKind_room_in1 hu) (key_of I.hok eb) dd hp ?_
  rw[hp2]
  exact h w' _ (I.tok _) rw'
theorem d_in{Q:Value→Shared→Prop}(hu:A.units+1<cLine)(I:Inv X pins σ H s)(g:iI H a y o)(ry:RelV y u)(h:∀s',Inv X pins σ H s'→Q (.bool o.isSome) s'):
  wpAny (model X.prog X.w) A (compareOp .In u (.ref a)) Q E s:=by
 rcases g with⟨kvs,k,e,ey,l⟩|⟨kvs,k,b,e,ey,eb,l⟩
 ·subst ey
  obtain⟨z,hd,vs,rel,dd⟩:=dk_rd I.hok e
  refine wpAny_in_of (kV_is ry) hd dd.mapOf ?_
  rw[←(rel.val k).lu,←l]
  exact h _ (I.tok _)
 ·subst ey
  cases (show u=Value.ref b from ry)
  obtain⟨z,hd,xs,rel,dd⟩:=dt_rd I.hok e
  refine wpAny_in_heap (tupleKind_room_in1 hu) (key_of I.hok eb) hd dd ?_
  have q:=(rel.val k).lu
  rw[Option.isSome_map]at q
  rw[←q,←l]
  exact h _ (I.tok _)
theorem d_notIn{Q:Value→Shared→Prop}(hu:A.units+1<cLine)(I:Inv X pins σ H s)(g:iI H a y o)(ry:RelV y u)(h:∀s',Inv X pins σ H s'→Q (.bool (!o.isSome)) s'):
  wpAny (model X.prog X.w) A (compareOp .NotIn u (.ref a)) Q E s:=by
 rcases g with⟨kvs,k,e,ey,l⟩|⟨kvs,k,b,e,ey,eb,l⟩
 ·subst ey
  obtain⟨z,hd,vs,rel,dd⟩:=dk_rd I.hok e
  refine wpAny_notIn_of (kV_is ry) hd dd.mapOf ?_
  rw[←(rel.val k).lu,←l]
  exact h _ (I.tok _)
 ·subst ey
  cases (show u=Value.ref b from ry)
  obtain⟨z,hd,xs,rel,dd⟩:=dt_rd I.hok e
  refine wpAny_notIn_heap (tupleKind_room_in1 hu) (key_of I.hok eb) hd dd ?_
  have q:=(rel.val k).lu
  rw[Option.isSome_map]at q
  rw[←q,←l]
  exact h _ (I.tok _)
theorem d_write{h':Heap}{t':Nat}{ob:HO}(I:Inv X pins σ H s)(mu:Mut (H a))(hs:Heap.SameBut a s.heap h')(he:∃q,h'.get? a=some q)(new:cM X.prog X.w (upd H a ob) h' a ob):
  Inv X pins σ (upd H a ob) { s with heap:=h',toks:=t' }:=
 I.write (x:=a) (e:=a) mu (.inl rfl) (fun b q hb z=>(hs.2 b hb).trans z) he new
theorem dk_new{P:Program}{w:World}{H':Hp}{h':Heap}{kvs:List (Key×V)}{vs:List (Key×Value)}(z:kvs.length≤sizeLine)(hd:(a==sysModules)=false)(rel:KV kvs vs)(dd:h'.DictOf (bK P w) a vs):
  cM P w H' h' a (.dK kvs):=⟨z,hd,vs,rel,dd⟩
theorem d_setItem{H':Hp}{Q:Unit→Shared→Prop}(hu:A.units+1<cLine)(I:Inv X pins σ H s)(g:DPut H a y v H')(ry:RelV y u)(rv:RelV v r)(h:∀s',Inv X pins σ H' s'→Q () s'):
  wpAny (model X.prog X.w) A (setItem (.ref a) u r) Q E s:=by
 rcases g with⟨kvs,k,e,ey,l,eH⟩|⟨kvs,k,b,e,ey,eb,l,eH⟩
 ·subst ey eH
  obtain⟨z,hd,vs,rel,dd⟩:=dk_of I.hok e
  have hz:vs.length≤sizeLine:=by rw[←rel.length];exact z
  have hl:(putK kvs k v).length≤sizeLine:=by have:=length_putK kvs k v;omega
  refine wpAny_setItem_pairs (hsz:=hz) (kV_is ry) dd fun h' dd' hs=>h _ ?_
  have he:∃q,h'.get? a=some q:=let⟨q,_,_,hq,_⟩:=dd';⟨q,hq⟩
  exact d_write I (by rw[e];exact True.intro) hs he (dk_new hl hd (rel.put k rv) dd')
 ·subst ey eH
  cases (show u=Value.ref b from ry)
  obtain⟨z,hd,xs,rel,dd⟩:=dt_of I.hok e
  have hz:xs.length≤sizeLine:=by rw[←Paired.length rel];exact z
  have hl:(putK kvs k v).length≤sizeLine:=by have:=length_putK kvs k v;omega
  refine wpAny_setItem_heap (hsz:=hz) (tupleKind_room_in1 hu) (key_of I.hok eb) dd fun h' dd' hs=>h _ ?_
  obtain⟨q,es,ep,hq,h2,h3,h4,_,h5⟩:=dd'
  refine d_write I (by rw[e];exact True.intro) hs ⟨q,hq⟩ ⟨hl,hd,_,(rel.put k eb rv).keeps fun c ys ec=>?_,q,es,ep,hq,h2,h3,h4,h5⟩
  rw[aB (bI ec e (fun z=>nomatch z))]
  exact ec
end
section
variable{X:Cx}{pins:List (Addr×Obj)}{σ:St}{H:Hp}{s:Shared}{a:Addr}{kvs:List (Key×V)}{k:Key}{u:Value}{A:Around}{E:Value→Shared→Prop}
theorem d_delItem{Q:Unit→Shared→Prop}(I:Inv X pins σ H s)(e:H a=some (.dK kvs))(ry:RelV (kV k) u)(l:(cW kvs k).isSome=true)(h:∀s',Inv X pins σ (upd H a (.dK (mq kvs k))) s'→Q () s'):
  wpAny (model X.prog X.w) A (delItem (.ref a) u) Q E s:=by
 obtain⟨z,hd,vs,rel,dd⟩:=dk_of I.hok e
 refine wpAny_delItem_slot dd.typeIs (by decide) PySem.F.slot_dict_delitem
  (call_meetsIn PySem.F.slot_dict_delitem dd.typeIs PySem.F.entry_dict_delitem (PySem.F.args_dict_delitem_2 _ _) (meets_dict_delitem_pairs (bK X.prog X.w) a (kV_is ry)) ⟨vs,dd,by rw[←rel.length];exact z,by rw[←(rel.val k).lu];exact l,fun h' dd' hs=>h _ ?_⟩)
 have he:∃q,h'.get? a=some q:=let⟨q,_,_,hq,_⟩:=dd';⟨q,hq⟩
 exact d_write I (by rw[e];exact True.intro) hs he (dk_new (Nat.le_trans (dropK_le kvs k) z) hd (rel.drop k) dd')
theorem d_pop{v:V}{more:List Value}{Q:Value→Shared→Prop}(I:Inv X pins σ H s)(e:H a=some (.dK kvs))(ry:RelV (kV k) u)(l:cW kvs k=some v)(hm:more=[]∨∃x,more=[x])
  (h:∀w' s',Inv X pins σ (upd H a (.dK (mq kvs k))) s'→RelV v w'→Q w' s'):wpAny (model X.prog X.w) A (call (.builtin "dict.pop") (.ref a::u::more)) Q E s:=by
 obtain⟨z,hd,vs,rel,dd⟩:=dk_of I.hok e
 obtain⟨w',hw,rw'⟩:=RelO.some_of (v:=v) (o:=valueAt vs k) (by rw[←l];exact rel.val k)
 have hp:(keyPart u).isSome=true:=by
  cases k with
  |inl i=>obtain⟨t,q⟩:=(show ∃t,u=Value.int i t from ry);subst q;rfl
  |inr x=>obtain⟨t,q⟩:=(show ∃t,u=Value.str x t from ry);subst q;rfl
 have ha:argsOk "dict.pop" ⟨.ref a::u::more,[]⟩:=by
  rcases hm with q|⟨x,q⟩
  ·subst q;exact PySem.F.args_dict_pop_2 _ _
  ·subst q;exact PySem.F.args_dict_pop_3 _ _ _
 refine call_meetsIn PySem.F.slot_dict_pop dd.typeIs PySem.F.entry_dict_pop ha (meets_dict_pop_there (bK X.prog X.w) a (kV_is ry) more hm hp)
  ⟨vs,w',dd,by rw[←rel.length];exact z,hw,fun h' dd' hs=>h w' _ ?_ rw'⟩
 have he:∃q,h'.get? a=some q:=let⟨q,_,_,hq,_⟩:=dd';⟨q,hq⟩
 exact d_write I (by rw[e];exact True.intro) hs he (dk_new (Nat.le_trans (dropK_le kvs k) z) hd (rel.drop k) dd')
theorem d_len{Q:Value→Shared→Prop}(I:Inv X pins σ H s)(e:Rd H a (.dK kvs))(h:∀t s',Inv X pins σ H s'→Q (.int kvs.length t) s'):wpAny (model X.prog X.w) A (call (.builtin "len") [.ref a]) Q E s:=by
 obtain⟨z,hd,vs,rel,dd⟩:=dk_rd I.hok e
 refine call_len_dict hd dd (by rw[←rel.length];rw[sizeLine_eq]at z;omega) ?_
 rw[←rel.length]
 exact h _ _ (I.tok _)
end
def NoSl(i:Expr):Prop:=∀ov iv,subscripted i false ov iv=operate [ov,iv] (getItem ov iv)
theorem subD_of{prog:Program}{w:World}{A:Around}{E:Value→Shared→Prop}{s:Shared}{env:Env}{value slice:Expr}{pos:Pos}{T id:String}{Q:Value→Shared→Prop}
  (hl:typeLookup (.type T) "__getitem__"=pure (some (.builtin id))) (hs:NoSl slice)
  (h:wpAny (model prog w) A (eval value env) (fun o s₁=>wpAny (model prog w) A (eval slice env) (fun i s₂=>s₂.TypeIs o T∧wpAny (model prog w) A (getItem o i) Q E s₂) E s₁) E s):
  wpAny (model prog w) A (eval (.Subscript value slice pos) env) Q E s:=by
 refine Subscript_ (wpAny_mono h (fun o s₁ h₁=>wpAny_mono h₁ (fun i s₂ h₂=>?_) fun _ _ x=>x) fun _ _ x=>x)
 obtain⟨hT,h₂⟩:=h₂
 unfold subscriptTail
 refine wpAny_bind ?_
 rw[getitemInPython_of_ne hT.not_modules]
 refine wpAny_bind (wpAny_specialOf hT hl ?_)
 have fin:wpAny (model prog w) A (subscripted slice false o i) (fun r s₃=>wpAny (model prog w) A (letTemporaryGo value o r>>=fun _=>pure r) Q E s₃) E s₂:=by
  rw[hs o i]
  exact wpAny_operating (wpAny_mono h₂ (fun r s₃ h₃=>wpAny_bind (wpAny_letTemporaryGo (wpAny_pure h₃))) fun _ _ x=>x)
 first
  |exact wpAny_pure (wpAny_bind fin)
  |exact wpAny_bind (wpAny_pure (wpAny_bind fin))
  |exact wpAny_bind fin
theorem dict_typeIs{X:Cx}{pins:List (Addr×Obj)}{σ:St}{H:Hp}{s:Shared}{a:Addr}{y:V}{o:Option V}(I:Inv X pins σ H s)(g:iI H a y o):s.TypeIs (.ref a) "dict":=by
 rcases g with⟨kvs,k,e,_,_⟩|⟨kvs,k,b,e,_,_,_⟩
 ·obtain⟨_,_,vs,_,dd⟩:=dk_rd I.hok e
  exact dd.typeIs
 ·obtain⟨_,_,xs,_,dd⟩:=dt_rd I.hok e
  exact dd.typeIs
def tDGet(td ty:TE):TE:=fun σ H Q=>td σ H fun x H1=>ty σ H1 fun y H2=>∃a v,x=.ref a∧iI H2 a y (some v)∧Q v H2
def tDIn(ty td:TE):TE:=fun σ H Q=>ty σ H fun y H1=>td σ H1 fun x H2=>∃a o,x=.ref a∧iI H2 a y o∧Q (.bl o.isSome) H2
def tDNotIn(ty td:TE):TE:=fun σ H Q=>ty σ H fun y H1=>td σ H1 fun x H2=>∃a o,x=.ref a∧iI H2 a y o∧Q (.bl (!o.isSome)) H2
def sDPut(td ty tv:TE):TS:=fun D σ H=>tv σ H fun v H1=>td σ H1 fun x H2=>ty σ H2 fun y H3=>∃a H4,x=.ref a∧DPut H3 a y v H4∧D.nx σ H4
section
variable{X:Cx}{o i e value:Expr}{pos pos' tpos:Pos}{td ty tv:TE}
theorem pe_dget(hu:X.A.units+1<cLine)(ho:PE X o td)(hi:PE X i ty)(hs:NoSl i):PE X (.Subscript o i pos) (tDGet td ty):=by
 intro pins s σ H Q I h
 refine subD_of PySem.F.slot_dict_getitem.lookup hs (dw (ho pins s σ H _ I h) fun u s1 ⟨x,H1,I1,rx,q1⟩=>dw (hi pins s1 σ H1 _ I1 q1) fun iv s2 ⟨y,H2,I2,ry,a,v,ex,g,q2⟩=>?_)
 subst ex
 obtain rfl:u=Value.ref a:=rx
 exact⟨dict_typeIs I2 g,d_getItem hu I2 g ry fun w' s3 I3 rw'=>⟨v,H2,I3,rw',q2⟩⟩
theorem pc_din(hu:X.A.units+1<cLine)(hi:PE X i ty)(ho:PE X o td):PC X .In i o (tDIn ty td):=by
 intro pins s σ H Q I h
 refine dw (hi pins s σ H _ I h) fun iv s1 ⟨y,H1,I1,ry,q1⟩=>dw (ho pins s1 σ H1 _ I1 q1) fun u s2 ⟨x,H2,I2,rx,a,ov,ex,g,q2⟩=>?_
 subst ex
 obtain rfl:u=Value.ref a:=rx
 exact d_in hu I2 g ry fun s3 I3=>⟨.bl ov.isSome,H2,I3,rfl,q2⟩
theorem pc_dnotin(hu:X.A.units+1<cLine)(hi:PE X i ty)(ho:PE X o td):PC X .NotIn i o (tDNotIn ty td):=by
 intro pins s σ H Q I h
 refine dw (hi pins s σ H _ I h) fun iv s1 ⟨y,H1,I1,ry,q1⟩=>dw (ho pins s1 σ H1 _ I1 q1) fun u s2 ⟨x,H2,I2,rx,a,ov,ex,g,q2⟩=>?_
 subst ex
 obtain rfl:u=Value.ref a:=rx
 exact d_notIn hu I2 g ry fun s3 I3=>⟨.bl (!ov.isSome),H2,I3,rfl,q2⟩
theorem ps_dput(hu:X.A.units+1<cLine)(ho:PE X o td)(hi:PE X i ty)(hv:PE X value tv)(hs:swapsWith value (some (.Subscript o i pos')) pos.line X.env=pure false):
  PS X (.Assign [.Subscript o i pos'] value pos) (sDPut td ty tv):=by
 intro pins s σ H D I h
 refine wpAny_Assign_Subscript (dw (hv pins s σ H _ I h) fun r s1 ⟨v,H1,I1,rv,q1⟩=>dw (ho pins s1 σ H1 _ I1 q1) fun u s2 ⟨x,H2,I2,rx,q2⟩=>dw (hi pins s2 σ H2 _ I2 q2) fun iv s3 ⟨y,H3,I3,ry,a,H4,ex,g,q3⟩=>?_) hs
 subst ex
 obtain rfl:u=Value.ref a:=rx
 exact d_setItem hu I3 g ry rv fun s4 I4=>⟨σ,H4,I4,q3⟩
end
theorem dk_empty{P:Program}{w:World}{H:Hp}(h:Heap)(hb:sysModules<h.objs.size):cM P w H (h.push { cls:=.type "dict",data:=.dict #[] }) h.objs.size (.dK []):=
 ⟨Nat.zero_le _,beq_eq_false_iff_ne.mpr (Ne.symm (Nat.ne_of_lt hb)),[],.nil,Heap.DictOf.new h⟩
theorem dt_empty{P:Program}{w:World}{H:Hp}(h:Heap)(hb:sysModules<h.objs.size):cM P w H (h.push { cls:=.type "dict",data:=.dict #[] }) h.objs.size (.dT []):=
 ⟨Nat.zero_le _,beq_eq_false_iff_ne.mpr (Ne.symm (Nat.ne_of_lt hb)),[],.nil,_,#[],0,Heap.get?_push_size _ rfl,⟨rfl,rfl,rfl⟩,rfl,rfl,List.nodup_nil⟩
def tDNewK:TE:=fun _ H Q=>∀p,H p=none→Q (.ref p) (upd H p (.dK []))
def tDNewT:TE:=fun _ H Q=>∀p,H p=none→Q (.ref p) (upd H p (.dT []))
section
variable{X:Cx}{pos:Pos}
theorem pe_dnewK:PE X (.Dict [] [] pos) tDNewK:=fun pins s σ H Q I h=>
 wpAny_Dict_empty ⟨.ref s.heap.objs.size,_,I.laid (a:=s.heap.objs.size) (o:=.dK []) (t':=s.toks) (fun _ _ q=>Heap.get?_push_of_some _ q) (Nat.le_refl _) (dk_empty s.heap I.big),rfl,h _ (I.hok.fresh (Nat.le_refl _))⟩
theorem pe_dnewT:PE X (.Dict [] [] pos) tDNewT:=fun pins s σ H Q I h=>
 wpAny_Dict_empty ⟨.ref s.heap.objs.size,_,I.laid (a:=s.heap.objs.size) (o:=.dT []) (t':=s.toks) (fun _ _ q=>Heap.get?_push_of_some _ q) (Nat.le_refl _) (dt_empty s.heap I.big),rfl,h _ (I.hok.fresh (Nat.le_refl _))⟩
end
structure M1(X:Cx)(o:Expr)(m:Str)(apos:Pos)(e:Expr)(cpos:Pos):Prop where
 base:attributeBase o m X.env (eval o X.env)=eval o X.env
 few:((backTo cpos (starEach [e] X.env)).all (fun x=>!x.1)&&(backToKw cpos (keywordEach [] X.env)).all (fun x=>x.1.isSome)
  && decide (([e]:List Expr).length+([]:List Keyword).length+(if ([]:List Keyword).isEmpty then 0 else 1)<30))=true
 line:(apos.endLine==cpos.line)=true
 trees:backTo cpos (starEach [e] X.env)=[(false,eval e X.env)]
structure M2(X:Cx)(o:Expr)(m:Str)(apos:Pos)(e f:Expr)(cpos:Pos):Prop where
 base:attributeBase o m X.env (eval o X.env)=eval o X.env
 few:((backTo cpos (starEach [e,f] X.env)).all (fun x=>!x.1)&&(backToKw cpos (keywordEach [] X.env)).all (fun x=>x.1.isSome)
  && decide (([e,f]:List Expr).length+([]:List Keyword).length+(if ([]:List Keyword).isEmpty then 0 else 1)<30))=true
 line:(apos.endLine==cpos.line)=true
 trees:backTo cpos (starEach [e,f] X.env)=[(false,eval e X.env),(false,eval f X.env)]
def IsD(H:Hp)(a:Addr):Prop:=(∃kvs,Rd H a (.dK kvs))∨∃kvs,Rd H a (.dT kvs)
theorem isD_at{X:Cx}{pins:List (Addr×Obj)}{σ:St}{H:Hp}{s:Shared}{a:Addr}(I:Inv X pins σ H s)(d:IsD H a):
  s.TypeIs (.ref a) "dict"∧(∀b,Value.ref a=.ref b→∃ob,s.heap.get? b=some ob∧ob.dict=none)∧(a==sysModules)=false:=by
 rcases d with⟨kvs,e⟩|⟨kvs,e⟩
 ·obtain⟨_,hd,vs,_,dd⟩:=dk_rd I.hok e
  refine⟨dd.typeIs,fun b q=>?_,hd⟩
  cases q
  obtain⟨ob,_,_,h1,h2,_⟩:=dd
  exact⟨ob,h1,h2.2.1⟩
 ·obtain⟨_,hd,xs,_,dd⟩:=dt_rd I.hok e
  refine⟨dd.typeIs,fun b q=>?_,hd⟩
  cases q
  obtain⟨ob,_,_,h1,h2,_⟩:=dd
  exact⟨ob,h1,h2.2.1⟩
section
variable{X:Cx}{pins:List (Addr×Obj)}{σ:St}{H:Hp}{s:Shared}{a:Addr}{y d:V}{u r:Value}{o:Option V}{A:Around}{E:Value→Shared→Prop}
theorem d_get2{Q:Value→Shared→Prop}(hu:A.units+1<cLine)(I:Inv X pins σ H s)(g:iI H a y o)(ry:RelV y u)(rd:RelV d r)(h:∀w' s',Inv X pins σ H s'→RelV (o.getD d) w'→Q w' s'):
  wpAny (model X.prog X.w) A (call (.builtin "dict.get") [.ref a,u,r]) Q E s:=by
 rcases g with⟨kvs,k,e,ey,l⟩|⟨kvs,k,b,e,ey,eb,l⟩
 ·subst ey
  obtain⟨z,hd,vs,rel,dd⟩:=dk_rd I.hok e
  refine call_meetsIn PySem.F.slot_dict_get dd.typeIs PySem.F.entry_dict_get (PySem.F.args_dict_get_3 _ _ _) (meets_dict_get_default (bK X.prog X.w) a (kV_is ry) hd r) ⟨_,dd.mapOf,h _ _ (I.tok _) ?_⟩
  rw[l]
  exact (rel.val k).getD rd
 ·subst ey
  cases (show u=Value.ref b from ry)
  obtain⟨z,hd,xs,rel,dd⟩:=dt_rd I.hok e
  refine call_meetsIn PySem.F.slot_dict_get dd.typeIs PySem.F.entry_dict_get (PySem.F.args_dict_get_3 _ _ _) (meetsH_dict_get_default (tupleKind (bK X.prog X.w)) a b hd r) ⟨tupleKind_room_in1 hu,k,xs,key_of I.hok eb,dd,h _ _ (I.tok _) ?_⟩
  rw[l]
  exact (rel.val k).getD rd
end
def tDGet2(td ty tx:TE):TE:=fun σ H Q=>td σ H fun x H1=>∃a,x=.ref a∧IsD H1 a∧ty σ H1 fun y H2=>tx σ H2 fun z H3=>∃o,iI H3 a y o∧Q (o.getD z) H3
def tDPop1(td ty:TE):TE:=fun σ H Q=>td σ H fun x H1=>∃a,x=.ref a∧IsD H1 a∧ty σ H1 fun y H2=>∃kvs k v,H2 a=some (.dK kvs)∧y=kV k∧cW kvs k=some v∧Q v (upd H2 a (.dK (mq kvs k)))
section
variable{X:Cx}{o e f:Expr}{apos cpos:Pos}{td ty tx:TE}
theorem pe_dget2(hu:X.A.units+1<cLine)(ho:PE X o td)(he:PE X e ty)(hf:PE X f tx)(m:M2 X o "get" apos e f cpos):PE X (.Call (.Attribute o "get" apos) [e,f] [] cpos) (tDGet2 td ty tx):=by
 intro pins s σ H Q I h
 refine wpAny_Call_method m.base m.few m.line PySem.F.plainAttrs_dict PySem.F.slot_dict_get PySem.F.type_dict_get (dw (ho pins s σ H _ I h) fun u s1 ⟨x,H1,I1,rx,a,ex,d,q1⟩=>?_)
 subst ex
 obtain rfl:u=Value.ref a:=rx
 obtain⟨t1,t2,_⟩:=isD_at I1 d
 refine⟨t1,t2,?_⟩
 rw[m.trees]
 refine Calls.callWith_builtin rfl (Calls.evalArgs_plain (Calls.spliced_cons (dw (he pins s1 σ H1 _ I1 q1) fun iv s2 ⟨y,H2,I2,ry,q2⟩=>
  Calls.spliced_cons (dw (hf pins s2 σ H2 _ I2 q2) fun fv s3 ⟨z,H3,I3,rz,ov,g,q3⟩=>Calls.spliced_nil ?_))))
 exact d_get2 hu I3 g ry rz fun w' s4 I4 rw'=>⟨_,H3,I4,rw',q3⟩
theorem pe_dpop1(ho:PE X o td)(he:PE X e ty)(m:M1 X o "pop" apos e cpos):PE X (.Call (.Attribute o "pop" apos) [e] [] cpos) (tDPop1 td ty):=by
 intro pins s σ H Q I h
 refine wpAny_Call_method m.base m.few m.line PySem.F.plainAttrs_dict PySem.F.slot_dict_pop PySem.F.type_dict_pop (dw (ho pins s σ H _ I h) fun u s1 ⟨x,H1,I1,rx,a,ex,d,q1⟩=>?_)
 subst ex
 obtain rfl:u=Value.ref a:=rx
 obtain⟨t1,t2,_⟩:=isD_at I1 d
 refine⟨t1,t2,?_⟩
 rw[m.trees]
 refine Calls.callWith_builtin rfl (Calls.evalArgs_plain (Calls.spliced_cons (dw (he pins s1 σ H1 _ I1 q1) fun iv s2 ⟨y,H2,I2,ry,kvs,k,v,ea,ey,l,q2⟩=>Calls.spliced_nil ?_)))
 subst ey
 exact d_pop I2 ea ry l (.inl rfl) fun w' s3 I3 rw'=>⟨v,_,I3,rw',q2⟩
end
end L2
namespace L2
open PySem PySem.Spec PyProof.Rows
section
variable{X:Cx}{pins:List (Addr×Obj)}{σ:St}{H:Hp}{s:Shared}{h':Heap}
theorem Inv.turnedL{t':Nat}{ch:List Addr}(I:Inv X pins σ H s)(k:∀b o,b∉ch→s.heap.get? b=some o→h'.get? b=some o)(hf:∀b∈ch,FpOk X pins H b):Inv X pins σ H { s with heap:=h',toks:=t' }:=by
 have nit:∀b u,H b=some u→b∉ch:=fun b u e z=>by
  have q:=(hf b z).1
  rw[q]at e;cases e
 refine I.step (g':=s.gens) (d':=s.drawn) (ch:=ch) (fun b hb=>⟨(hf b hb).2.2.2.1,(hf b hb).2.1,(hf b hb).2.2.2.2.1,(hf b hb).2.2.2.2.2⟩) (fun b o _ _ hc e _=>k b o hc e) (fun b o _ _ hc e _=>⟨o.slots,k b o hc e⟩)
  (fun _ _ _ _ n=>n) (fun b o hc e=>⟨o,k b o hc e⟩) (fun _ _ e=>e) (fun _ _ _ e=>e) (fun b ps e=>⟨#[],by rw[e];simp⟩) (fun m hm=>?_) (fun b u e=>?_) I.bare
 ·obtain⟨o,es,ep,ho,r⟩:=hm
  exact⟨o,es,ep,k _ o (fun z=>(hf _ z).2.1 rfl) ho,r⟩
 ·refine (I.hok b u e).stay (fun c v hc q=>k c v ?_ q) (fun _ q=>q) fun _ _ q=>q
  rcases hc with z|z
  ·rw[z];exact nit b u e
  ·exact nit c _ z
theorem Inv.turnedNew{t':Nat}{ch:List Addr}{T:Addr}{ob:HO}(I:Inv X pins σ H s)(k:∀b o,b∉ch→s.heap.get? b=some o→h'.get? b=some o)(hf:∀b∈ch,FpOk X pins H b)(hT:s.heap.objs.size≤T)
  (new:cM X.prog X.w (upd H T ob) h' T ob):Inv X pins σ (upd H T ob) { s with heap:=h',toks:=t' }:=by
 have hn:H T=none:=I.hok.fresh hT
 have nit:∀b u,H b=some u→b∉ch:=fun b u e z=>by
  have q:=(hf b z).1
  rw[q]at e;cases e
 refine I.step (g':=s.gens) (d':=s.drawn) (ch:=ch) (fun b hb=>⟨(hf b hb).2.2.2.1,(hf b hb).2.1,(hf b hb).2.2.2.2.1,(hf b hb).2.2.2.2.2⟩) (fun b o _ _ hc e _=>k b o hc e) (fun b o _ _ hc e _=>⟨o.slots,k b o hc e⟩)
  (fun b o _ e n=>?_) (fun b o hc e=>⟨o,k b o hc e⟩) (fun b xs e=>?_) (fun b o u e=>?_) (fun b ps e=>⟨#[],?_⟩) (fun m hm=>?_) (fun b u e=>?_) I.bare
 ·rw[aB (Nat.ne_of_lt (Nat.lt_of_lt_of_le (Heap.lt_size e) hT))];exact n
 ·rw[aB (aL e hn)];exact e
 ·rw[aB (aL e hn)];exact e
 ·rw[aB (aL e hn),e];simp
 ·obtain⟨o,es,ep,ho,r⟩:=hm
  exact⟨o,es,ep,k _ o (fun z=>(hf _ z).2.1 rfl) ho,r⟩
 ·by_cases hb:b=T
  ·subst hb
   rw[ao]at e
   cases e
   exact new
  ·rw[aB hb]at e
   refine (I.hok b u e).stay (fun c v hc q=>k c v ?_ q) (fun c q=>by rw[aB (aL q hn)];exact q) fun c xs q=>by rw[aB (aL q hn)];exact q
   rcases hc with z|z
   ·rw[z];exact nit b u e
   ·exact nit c _ z
theorem Inv.lock{d:Addr}{u:HO}(I:Inv X pins σ H s)(h:H d=some u)(mu:Mut (some u)):∃od,Inv X pins σ (upd H d (.d8 od u)) s:=by
 have x:=I.hok d u h
 have ex:∃od,s.heap.get? d=some od:=by
  cases u with
  |lst xs=>obtain⟨_,_,_,_,e⟩:=x;exact⟨_,e⟩
  |dK kvs=>obtain⟨_,_,_,_,o,_,_,e,_⟩:=x;exact⟨o,e⟩
  |dT kvs=>obtain⟨_,_,_,_,o,_,_,e,_⟩:=x;exact⟨o,e⟩
  |set S n=>obtain⟨o,_,_,_,e,_⟩:=x;exact⟨o,e⟩
  |ins C dx fs=>obtain⟨_,_,_,e,_⟩:=x;exact⟨_,e⟩
  |ext φ=>obtain⟨_,⟨_,e⟩,_⟩:=x;exact⟨_,e⟩
  |_=>exact False.elim mu
 obtain⟨od,e⟩:=ex
 have new:cM X.prog X.w (upd H d (.d8 od u)) s.heap d (.d8 od u):=by
  refine⟨e,x.stay (fun b v _ q=>q) (fun b q=>?_) fun b xs q=>?_⟩
  ·rw[aB (fun z=>by rw[z,h]at q;cases q;exact mu)];exact q
  ·rw[aB (fun z=>by rw[z,h]at q;cases q;exact mu)];exact q
 exact⟨od,I.write (x:=d) (e:=d) (t':=s.toks) (h':=s.heap) (by rw[h];exact mu) (.inl rfl) (fun b v _ q=>q) ⟨od,e⟩ new⟩
theorem Inv.nofrz{d:Addr}{u:HO}(I:Inv X pins σ H s)(h:H d=some u)(mu:Mut (some u)):∀o' u',X.H_0 d≠some (.d8 o' u'):=fun o' u' e=>by
 have q:=I.base.frzs d o' u' e
 rw[h]at q
 cases q
 exact mu
theorem Inv.unlock{d:Addr}{od:Obj}{u:HO}(I:Inv X pins σ H s)(h:H d=some (.d8 od u))(hn:∀o' u',X.H_0 d≠some (.d8 o' u')):Inv X pins σ (upd H d u) s:=by
 have neH:∀b o,H b=some o→(∀o' u',o≠.d8 o' u')→b≠d:=fun b o e hne z=>by
  rw[z,h]at e
  cases e
  exact hne _ _ rfl
 have neN:∀b,H b=none→b≠d:=fun b e z=>by rw[z,h]at e;cases e
 refine⟨I.ok,I.os,I.bare,⟨I.base.keep,I.base.slot,fun b o e n hx=>?_,I.base.there,fun b xs e=>?_,fun b o x e=>?_,fun b ps e=>?_⟩,I.loc,I.cell,?_,fun x c e=>?_,fun p hp=>?_,fun b o e=>?_,I.len⟩
 ·rw[aB (neN b (I.base.free b o e n hx))];exact I.base.free b o e n hx
 ·have q:=I.base.tups b xs e
  rw[aB (neH b _ q (fun _ _ z=>nomatch z))];exact q
 ·have q:=I.base.frzs b o x e
  rw[aB (fun z=>by rw[z]at e;exact hn _ _ e)];exact q
 ·obtain⟨m,q⟩:=I.base.tbls b ps e
  exact⟨m,by rw[aB (neH b _ q (fun _ _ z=>nomatch z))];exact q⟩
 ·rw[aB (neN _ I.free)];exact I.free
 ·rw[aB (neN c (I.mj x c e))];exact I.mj x c e
 ·obtain⟨e,n,r⟩:=I.pin p hp
  exact⟨e,by rw[aB (neN _ n)];exact n,r⟩
 ·by_cases hb:b=d
  ·rw[hb,ao]at e
   cases e
   rw[hb]
   obtain⟨_,x⟩:=I.hok d _ h
   exact x.stay (fun c v _ q=>q) (fun c q=>by rw[aB (neH c _ q (fun _ _ z=>nomatch z))];exact q) fun c xs q=>by rw[aB (neH c _ q (fun _ _ z=>nomatch z))];exact q
  ·rw[aB hb]at e
   exact (I.hok b o e).stay (fun c v _ q=>q) (fun c q=>by rw[aB (neH c _ q (fun _ _ z=>nomatch z))];exact q) fun c xs q=>by rw[aB (neH c _ q (fun _ _ z=>nomatch z))];exact q
end
def tLock(t:TS):TS:=fun D σ H=>∃d u,H d=some u∧Mut (some u)∧∀od,t ⟨fun σ' H'=>H' d=some (.d8 od u)∧D.nx σ' (upd H' d u),fun v H'=>H' d=some (.d8 od u)∧D.rt v (upd H' d u),fun σ' H'=>H' d=some (.d8 od u)∧D.bk σ' (upd H' d u),fun σ' H'=>H' d=some (.d8 od u)∧D.ct σ' (upd H' d u)⟩ σ (upd H d (.d8 od u))
def tLockE(t:TE):TE:=fun σ H Q=>∃d u,H d=some u∧Mut (some u)∧∀od,t σ (upd H d (.d8 od u)) fun v H'=>H' d=some (.d8 od u)∧Q v (upd H' d u)
section
variable{X:Cx}
theorem ps_lock{st:Stmt}{t:TS}(h:PS X st t):PS X st (tLock t):=by
 intro pins s σ H D I hw
 obtain⟨d,u,hd,mu,hw⟩:=hw
 obtain⟨od,I1⟩:=I.lock hd mu
 refine dw (h pins s σ _ _ I1 (hw od)) fun f s1 q=>?_
 cases f with
 |next=>obtain⟨σ',H',I2,e,q⟩:=q;exact⟨σ',_,I2.unlock e (I.nofrz hd mu),q⟩
 |brk=>obtain⟨σ',H',I2,e,q⟩:=q;exact⟨σ',_,I2.unlock e (I.nofrz hd mu),q⟩
 |cont=>obtain⟨σ',H',I2,e,q⟩:=q;exact⟨σ',_,I2.unlock e (I.nofrz hd mu),q⟩
 |ret v=>obtain⟨x,σ',H',I2,r,e,q⟩:=q;exact⟨x,σ',_,I2.unlock e (I.nofrz hd mu),r,q⟩
theorem pe_lock{e:Expr}{t:TE}(h:PE X e t):PE X e (tLockE t):=by
 intro pins s σ H Q I hw
 obtain⟨d,u,hd,mu,hw⟩:=hw
 obtain⟨od,I1⟩:=I.lock hd mu
 refine dw (h pins s σ _ _ I1 (hw od)) fun v s1 ⟨x,H1,I2,r,e2,q⟩=>?_
 exact⟨x,_,I2.unlock e2 (I.nofrz hd mu),r,q⟩
theorem pi_one{tg:Expr}{pins:List (Addr×Obj)}{σ:St}{H:Hp}{s:Shared}{R:It→Hp→Prop}{J:It}{tn:Nat→Heap→Prop}{tk:Nat}(I:Inv X pins σ H s)(o:Obj)
  (T:Turn X.prog X.w X.K tg J [s.heap.objs.size] s.heap.objs.size tn) (st:tn 0 (s.heap.push o)) (q:R J H):PIE X pins σ tg R (.ref s.heap.objs.size) { s with heap:=s.heap.push o,toks:=tk }:=by
 refine⟨s.heap.objs.size,[s.heap.objs.size],tn,J,H,rfl,I.kept fun b ob e=>Heap.get?_push_of_some _ e,T,st,fun b hb=>?_,q⟩
 have e:b=s.heap.objs.size:=by simpa using hb
 subst e
 exact I.fpOk (Nat.le_refl _) (I.hok.fresh (Nat.le_refl _))
end
section
variable{prog:Program}{w:World}{A:Around}{E:Value→Shared→Prop}{s:Shared}
theorem iter_keys{d:Addr}{o:Obj}{es:Array DictEntry}{ep:Nat}{Q:Value→Shared→Prop}(hd:(d==sysModules)=false)(ho:s.heap.get? d=some o)(hc:o.ExactDict)(hdat:o.data=.dict es ep)
  (hQ:Q (.ref s.heap.objs.size) { s with heap:=s.heap.push { cls:=.type "dict_keyiterator",data:=.fields #[.ref d,.int 0 0,.int es.size 0,.int ep 0] } }):
  wpAny (model prog w) A (pyIter (.ref d)) Q E s:=by
 have hT:s.TypeIs (.ref d) "dict":=⟨o,ho,hc.1⟩
 refine wpAny_pyIter_slot hT F.slot_dict_iter (wpAny_call_entry F.slot_dict_iter hT F.entry_dict_iter ?_ (F.args_dict_iter_1 _))
 unfold Builtin.«dict.__iter__»
 refine wpAny_bind ?_
 unfold Builtin.Dict.dictSlotNone
 refine wpAny_bind (wpAny_notOrdered_dict hT ?_)
 show wpAny _ _ (pure (Value.ref d)) _ _ s
 refine wpAny_pure ?_
 show wpAny _ _ (Builtin.Dict.showsAll d>>=_) _ _ s
 unfold Builtin.Dict.showsAll
 rw[if_neg (by rw[hd];exact Bool.false_ne_true)]
 refine wpAny_bind (wpAny_pure ?_)
 refine wpAny_bind (wpAny_dictEntries ho hdat ?_)
 refine wpAny_bind (wpAny_dictEpoch ho hdat ?_)
 refine wpAny_bind (wpAny_newObj_type (wpAny_pure ⟨_,rfl,"dict_keyiterator",_,⟨_,Heap.get?_push_size _ rfl,rfl⟩,F.slot_dict_keyiterator_next.lookup,?_⟩))
 simpa[rawInt]using hQ
theorem next_key_item{it d:Addr}{i n ep:Nat}{od:Obj}{es:Array DictEntry}{en:DictEntry}{Q:Option Value→Shared→Prop}(hit:s.heap.IsKeyIter it d i n ep)(hod:s.heap.get? d=some od)(hdd:od.data=.dict es ep)
  (hsz:es.size=n) (hx:es[i]?=some en) (hQ:∀h',h'.IsKeyIter it d (i+1) n ep→Heap.SameBut it s.heap h'→Q (some en.key) { s with heap:=h' }):wpAny (model prog w) A (pyNext (.ref it)) Q E s:=by
 obtain⟨o,ho,hc,hd⟩:=id hit
 unfold pyNext
 refine wpAny_bind (wpAny_attempt (wpAny_callSpecial?_slot (name:=Str.ofString "__next__") hit.typeIs F.slot_dict_keyiterator_next
  (wpAny_call_entry F.slot_dict_keyiterator_next hit.typeIs F.entry_dict_keyiterator_next ?_ (F.args_dict_keyiterator_next_1 _))))
 refine wpAny_bind (wpAny_pure ?_)
 refine wpAny_bind ?_
 refine wpAny_bind ?_
 first|refine wpAny_bind (wpAny_typeNameOfWhole_keyiter hit.typeIs (wpAny_pure ?_))|refine wpAny_bind (wpAny_typeNameOf_keyiter hit.typeIs (wpAny_pure ?_))
 refine wpAny_bind (wpAny_fieldsOf ho hd ?_)
 have hown:Builtin.Dict_items.ownsTuple "dict_keyiterator"=false:=by decide
 simp only[hown,Bool.false_eq_true,if_false]
 show wpAny _ _ (if (Value.ref d==Value.none)=true then _ else _) _ _ s
 rw[if_neg (show ¬((Value.ref d==Value.none)=true)from Bool.false_ne_true)]
 refine wpAny_bind (wpAny_pure ?_)
 refine wpAny_bind (wpAny_dictEntries hod hdd ?_)
 rw[if_neg (by rw[hsz];simp)]
 refine wpAny_bind (wpAny_pure ?_)
 refine wpAny_bind (wpAny_dictEpoch hod hdd ?_)
 rw[if_neg (by simp)]
 refine wpAny_pure ?_
 obtain⟨hlt',hen⟩:=Array.getElem?_eq_some_iff.mp hx
 simp only[show ¬((i:Int)<0)from by omega,if_false,Int.toNat_natCast,Array.getElem?_eq_getElem hlt']
 refine wpAny_bind ?_
 first|refine wpAny_bind (wpAny_typeNameOfWhole_keyiter hit.typeIs (wpAny_pure ?_))|refine wpAny_bind (wpAny_typeNameOf_keyiter hit.typeIs (wpAny_pure ?_))
 refine wpAny_bind (wpAny_isOneOf_keyiter hit.typeIs ?_)
 show wpAny _ _ (setField (.ref it) 1 (rawInt ((i:Int)+1))>>=_) _ _ s
 refine wpAny_bind (wpAny_setField ho hd (by simp) ?_)
 have hit':(s.heap.update it (Obj.mapFields (·.setIfInBounds 1 (rawInt ((i:Int)+1))))).IsKeyIter it d (i+1) n ep:=
  ⟨_,Heap.get?_update_self _ ho (Obj.isFreed_of_fields (Obj.data_mapFields hd _)),(Obj.cls_mapFields ..).trans hc,by rw[Obj.data_mapFields hd];simp[rawInt]⟩
 refine wpAny_bind (wpAny_holding ?_)
 refine wpAny_bind (wpAny_isOneOf_keyiter (s:={ s with heap:=s.heap.update it (Obj.mapFields (·.setIfInBounds 1 (rawInt ((i:Int)+1)))) }) hit'.typeIs ?_)
 show wpAny _ _ (pure es[i].key) _ _ _
 rw[hen]
 exact wpAny_pure (wpAny_pure ⟨_,rfl,wpAny_pure (hQ _ hit' (Heap.SameBut.update ..))⟩)
theorem next_key_end{it d:Addr}{i n ep:Nat}{od:Obj}{es:Array DictEntry}{Q:Option Value→Shared→Prop}(hh:A.handled=none)(hit:s.heap.IsKeyIter it d i n ep)(hod:s.heap.get? d=some od)(hdd:od.data=.dict es ep)
  (hsz:es.size=n) (hge:n≤i) (hQ:∀h',Heap.ExtBut it s.heap h'→Q none { s with heap:=h' }):wpAny (model prog w) A (pyNext (.ref it)) Q E s:=by
 obtain⟨o,ho,hc,hd⟩:=id hit
 unfold pyNext
 refine wpAny_bind (wpAny_attempt (wpAny_callSpecial?_slot (name:=Str.ofString "__next__") hit.typeIs F.slot_dict_keyiterator_next
  (wpAny_call_entry F.slot_dict_keyiterator_next hit.typeIs F.entry_dict_keyiterator_next ?_ (F.args_dict_keyiterator_next_1 _))))
 refine wpAny_bind (wpAny_pure ?_)
 refine wpAny_bind ?_
 refine wpAny_bind ?_
 first|refine wpAny_bind (wpAny_typeNameOfWhole_keyiter hit.typeIs (wpAny_pure ?_))|refine wpAny_bind (wpAny_typeNameOf_keyiter hit.typeIs (wpAny_pure ?_))
 refine wpAny_bind (wpAny_fieldsOf ho hd ?_)
 have hown:Builtin.Dict_items.ownsTuple "dict_keyiterator"=false:=by decide
 simp only[hown,Bool.false_eq_true,if_false]
 show wpAny _ _ (if (Value.ref d==Value.none)=true then _ else _) _ _ s
 rw[if_neg (show ¬((Value.ref d==Value.none)=true)from Bool.false_ne_true)]
 refine wpAny_bind (wpAny_pure ?_)
 refine wpAny_bind (wpAny_dictEntries hod hdd ?_)
 rw[if_neg (by rw[hsz];simp)]
 refine wpAny_bind (wpAny_pure ?_)
 refine wpAny_bind (wpAny_dictEpoch hod hdd ?_)
 rw[if_neg (by simp)]
 refine wpAny_pure ?_
 have hge':es.size≤i:=by rw[hsz];exact hge
 simp only[show ¬((i:Int)<0)from by omega,if_false,Int.toNat_natCast,Array.getElem?_eq_none hge']
 refine wpAny_bind ?_
 first|refine wpAny_bind (wpAny_typeNameOfWhole_keyiter hit.typeIs (wpAny_pure ?_))|refine wpAny_bind (wpAny_typeNameOf_keyiter hit.typeIs (wpAny_pure ?_))
 show wpAny _ _ (setField (.ref it) 0 .none>>=_) _ _ s
 refine wpAny_bind (wpAny_setField ho hd (by simp) ?_)
 show wpAny _ _ (newExc (.type "StopIteration") []>>=_) _ _ _
 refine wpAny_bind ?_
 simp only[newExc,newTuple]
 refine wpAny_bind (wpAny_newObj_type ?_ (by size_fits))
 refine wpAny_bind (m:=firstArgMember _ _) (wpAny_of_eq (a:=Value.none) (by first|rfl|(simp only[firstArgMember];rfl)) ?_)
 refine wpAny_newObj_type ?_ (by size_fits)
 simp only[raiseNew]
 refine wpAny_bind (wpAny_handled ?_)
 rw[show A.in1.handled=none from hh]
 refine wpAny_bind (wpAny_pure (wpAny_throw ?_))
 refine wpAny_bind (wpAny_isInstance (T:="StopIteration") (b:=true) ⟨_,Heap.get?_push_size _ rfl,rfl⟩ isSubtype_stop ?_)
 exact wpAny_pure (hQ _ (((Heap.SameBut.update ..).extBut.push _).push _))
end
theorem kv_get{κ:Type}{kvs:List (κ×V)}{vs:List (κ×Value)}(h:KV kvs vs):∀{i:Nat}{k:κ}{v:V},kvs[i]?=some (k,v)→∃u,vs[i]?=some (k,u)∧RelV v u:=by
 unfold KV at h
 induction h with
 |nil=>intro i k v e;simp at e
 |@cons a b l₁ l₂ r t ih=>
  intro i k v e
  cases i with
  |zero=>
   simp only[List.getElem?_cons_zero,Option.some.injEq]at e
   subst e
   refine⟨b.2,?_,r.2⟩
   simp only[List.getElem?_cons_zero]
   exact congrArg some (Prod.ext r.1.symm rfl)
  |succ j=>
   simp only[List.getElem?_cons_succ]at e ⊢
   exact ih e
theorem paired_get{α β:Type}{G:α→β→Prop}{l₁:List α}{l₂:List β}(h:Paired G l₁ l₂):∀{i:Nat}{a:α},l₁[i]?=some a→∃b,l₂[i]?=some b∧G a b:=by
 induction h with
 |nil=>intro i a e;simp at e
 |@cons a b l₁ l₂ r t ih=>
  intro i a' e
  cases i with
  |zero=>
   simp only[List.getElem?_cons_zero,Option.some.injEq]at e
   subst e
   exact⟨b,rfl,r⟩
  |succ j=>
   simp only[List.getElem?_cons_succ]at e ⊢
   exact ih e
theorem relV_key{k:Key}{u:Value}(h:keyIs k u=true):RelV (kV k) u:=by
 rcases cY h with⟨i,t,rfl,rfl⟩|⟨x,t,rfl,rfl⟩
 ·exact⟨t,rfl⟩
 ·exact⟨t,rfl⟩
section
variable{X:Cx}{pins:List (Addr×Obj)}{σ:St}{H:Hp}{s:Shared}{d:Addr}{o:Obj}
theorem Inv.frzK{kvs:List (Key×V)}(I:Inv X pins σ H s)(h:H d=some (.d8 o (.dK kvs))):
  (d==sysModules)=false∧s.heap.get? d=some o∧o.ExactDict∧∃(es:Array DictEntry) (ep:Nat) (vs:List (Key×Value)),o.data=.dict es ep∧es.size=kvs.length∧KV kvs vs∧s.heap.DictAt (bK X.prog X.w) d vs ep:=by
 obtain⟨hd,z,hs,vs,kv,o',es,ep,ho,hx,hdt,r⟩:=I.hok d _ h
 rw[hd]at ho
 cases ho
 refine⟨hs,hd,hx,es,ep,vs,hdt,?_,kv,o,es,hd,hx,hdt,r⟩
 have l1:=r.2.1.length
 have l2:kvs.length=vs.length:=Paired.length kv
 rw[Array.length_toList]at l1
 omega
theorem Inv.frzT{kvs:List (List Key×V)}(I:Inv X pins σ H s)(h:H d=some (.d8 o (.dT kvs))):
  (d==sysModules)=false∧s.heap.get? d=some o∧o.ExactDict∧∃(es:Array DictEntry) (ep:Nat),o.data=.dict es ep∧es.size=kvs.length∧
   ∀(i:Nat) (k:List Key) (v:V),kvs[i]?=some (k,v)→∃(en:DictEntry) (q:Addr),es[i]?=some en∧en.key=.ref q∧H q=some (.tup (k.map kV)):=by
 obtain⟨hd,z,hs,xs,pr,o',es,ep,ho,hx,hdt,he,_⟩:=I.hok d _ h
 rw[hd]at ho
 cases ho
 refine⟨hs,hd,hx,es,ep,hdt,?_,fun i k v e=>?_⟩
 ·have l1:es.size=xs.length:=size_of_entries he
  have l2:kvs.length=xs.length:=Paired.length pr
  omega
 ·obtain⟨b,hb,e1,e2,_⟩:=paired_get pr e
  have q:=entry_at he i
  rw[hb]at q
  exact⟨_,b.2.1,q,rfl,e2⟩
end
def Itk(d:Addr)(o:Obj)(kvs:List (Key×V)):It:=
 ⟨fun i H=>H d=some (.d8 o (.dK kvs))∧i<kvs.length,fun i H x H'=>H'=H∧∃k v,kvs[i]?=some (k,v)∧x=kV k,fun i H=>H d=some (.d8 o (.dK kvs))∧kvs.length≤i⟩
def Itkt(d:Addr)(o:Obj)(kvs:List (List Key×V)):It:=
 ⟨fun i H=>H d=some (.d8 o (.dT kvs))∧i<kvs.length,fun i H x H'=>H'=H∧∃(k:List Key) (v:V) (q:Addr),kvs[i]?=some (k,v)∧x=.ref q∧H q=some (.tup (k.map kV)),fun i H=>H d=some (.d8 o (.dT kvs))∧kvs.length≤i⟩
def Itd(d:Addr)(o:Obj)(kvs:List (Key×V)):It:=
 ⟨fun i H=>H d=some (.d8 o (.dK kvs))∧i<kvs.length,fun i H x H'=>H'=H∧∃k,kvs[i]?=some (k,x),fun i H=>H d=some (.d8 o (.dK kvs))∧kvs.length≤i⟩
def Iti(d:Addr)(o:Obj)(kvs:List (Key×V)):It:=
 ⟨fun i H=>H d=some (.d8 o (.dK kvs))∧i<kvs.length,fun i H x H'=>∃T k v,kvs[i]?=some (k,v)∧x=.ref T∧H T=none∧H'=upd H T (.tup [kV k,v]),fun i H=>H d=some (.d8 o (.dK kvs))∧kvs.length≤i⟩
theorem mD{o:Obj}{es es':Array DictEntry}{ep ep':Nat}(h:o.data=.dict es ep)(h':o.data=.dict es' ep'):es'=es∧ep'=ep:=by
 rw[h]at h'
 cases h'
 exact⟨rfl,rfl⟩
section
variable{P:Program}{w:World}{K:PySem.W.Frag}{tg:Expr}{d:Addr}{o:Obj}{es:Array DictEntry}{ep:Nat}
theorem turn_keys{kvs:List (Key×V)}(it:Addr)(hod:o.data=.dict es ep):Turn P w K tg (Itk d o kvs) [it] it (fun i h=>h.IsKeyIter it d i kvs.length ep) where
 mem:=by simp
 obj:=fun i h st b hb=>by
  have e:b=it:=by simpa using hb
  subst e
  obtain⟨oi,e,c,dd⟩:=st
  exact⟨oi,e,fun v z=>by rw[dd]at z;cases z⟩
 keep:=fun i h h' st k=>st.at fun oi e=>k it (by simp) oi e
 item:=by
  intro X hP hw hK hc i pins s σ H E I hf st hg
  subst hP hw hK
  obtain⟨hd,hi⟩:=hg
  obtain⟨f0,f1,f2,f3,f4,f5⟩:=hf it (by simp)
  obtain⟨hs,hgd,hx,es',ep',vs,hdt,hsz,kv,hm⟩:=I.frzK hd
  obtain⟨rfl,rfl⟩:=mD hod hdt
  obtain⟨⟨k,v⟩,hkv⟩:∃p,kvs[i]?=some p:=⟨kvs[i],List.getElem?_eq_getElem hi⟩
  obtain⟨u,hu,ru⟩:=kv_get kv hkv
  have hl:kvs.length=vs.length:=Paired.length kv
  rw[hl]at st
  refine wpAny_pyNext_dict_item st hm hu fun key h' hkey st' sb=>?_
  have I1:Inv X pins σ H { s with heap:=h' }:=I.turned (t':=s.toks) (fun b ob hb e=>(sb.2 b hb).trans e) f0 f1 f3 f4 f5
  obtain⟨oi,e,c,dd⟩:=id st'
  refine⟨key,rfl,go_of (s:={ s with heap:=h' }) e c dd (by decide) ⟨kV k,H,I1,relV_key (show keyIs k key=true from hkey),⟨rfl,k,v,hkv,rfl⟩,?_,fun b hb=>(hf b hb).1⟩⟩
  show h'.IsKeyIter it d (i+1) kvs.length _
  rw[hl]
  exact st'
 done:=by
  intro X hP hw hK hc i pins s σ H E I hf st hg
  subst hP hw hK
  obtain⟨hd,hi⟩:=hg
  obtain⟨f0,f1,f2,f3,f4,f5⟩:=hf it (by simp)
  obtain⟨hs,hgd,hx,es',ep',vs,hdt,hsz,kv,hm⟩:=I.frzK hd
  obtain⟨rfl,rfl⟩:=mD hod hdt
  exact next_key_end (I.ok.hd hc) st hgd hdt hsz hi fun h' eb=>⟨rfl,I.turned (t':=s.toks) (fun b ob hb e=>eb b ob hb e) f0 f1 f3 f4 f5⟩
 self:=fun A i s Q E st h=>wpAny_pyIter_keyiter st h
theorem turn_keysT{kvs:List (List Key×V)}(it:Addr)(hod:o.data=.dict es ep):Turn P w K tg (Itkt d o kvs) [it] it (fun i h=>h.IsKeyIter it d i kvs.length ep) where
 mem:=by simp
 obj:=fun i h st b hb=>by
  have e:b=it:=by simpa using hb
  subst e
  obtain⟨oi,e,c,dd⟩:=st
  exact⟨oi,e,fun v z=>by rw[dd]at z;cases z⟩
 keep:=fun i h h' st k=>st.at fun oi e=>k it (by simp) oi e
 item:=by
  intro X hP hw hK hc i pins s σ H E I hf st hg
  subst hP hw hK
  obtain⟨hd,hi⟩:=hg
  obtain⟨f0,f1,f2,f3,f4,f5⟩:=hf it (by simp)
  obtain⟨hs,hgd,hx,es',ep',hdt,hsz,ent⟩:=I.frzT hd
  obtain⟨rfl,rfl⟩:=mD hod hdt
  obtain⟨⟨k,v⟩,hkv⟩:∃p,kvs[i]?=some p:=⟨kvs[i],List.getElem?_eq_getElem hi⟩
  obtain⟨en,q,hen,hkey,hq⟩:=ent i k v hkv
  refine next_key_item st hgd hdt hsz hen fun h' st' sb=>?_
  have I1:Inv X pins σ H { s with heap:=h' }:=I.turned (t':=s.toks) (fun b ob hb e=>(sb.2 b hb).trans e) f0 f1 f3 f4 f5
  obtain⟨oi,e,c,dd⟩:=id st'
  exact⟨en.key,rfl,go_of (s:={ s with heap:=h' }) e c dd (by decide) ⟨.ref q,H,I1,hkey,⟨rfl,k,v,q,hkv,rfl,hq⟩,st',fun b hb=>(hf b hb).1⟩⟩
 done:=by
  intro X hP hw hK hc i pins s σ H E I hf st hg
  subst hP hw hK
  obtain⟨hd,hi⟩:=hg
  obtain⟨f0,f1,f2,f3,f4,f5⟩:=hf it (by simp)
  obtain⟨hs,hgd,hx,es',ep',hdt,hsz,ent⟩:=I.frzT hd
  obtain⟨rfl,rfl⟩:=mD hod hdt
  exact next_key_end (I.ok.hd hc) st hgd hdt hsz hi fun h' eb=>⟨rfl,I.turned (t':=s.toks) (fun b ob hb e=>eb b ob hb e) f0 f1 f3 f4 f5⟩
 self:=fun A i s Q E st h=>by
  refine wpAny_pyIter_slot st.typeIs F.slot_dict_keyiterator_iter (wpAny_call_entry F.slot_dict_keyiterator_iter st.typeIs F.entry_dict_keyiterator_iter ?_ (F.args_dict_keyiterator_iter_1 _))
  show wpAny _ _ (ret (.ref it)) _ _ s
  exact wpAny_pure ⟨_,rfl,"dict_keyiterator",_,st.typeIs,F.slot_dict_keyiterator_next.lookup,h⟩
theorem turn_vals{kvs:List (Key×V)}(it:Addr)(hod:o.data=.dict es ep):Turn P w K tg (Itd d o kvs) [it] it (fun i h=>h.IsValIter it d i kvs.length ep) where
 mem:=by simp
 obj:=fun i h st b hb=>by
  have e:b=it:=by simpa using hb
  subst e
  obtain⟨oi,e,c,dd⟩:=st
  exact⟨oi,e,fun v z=>by rw[dd]at z;cases z⟩
 keep:=fun i h h' st k=>st.at fun oi e=>k it (by simp) oi e
 item:=by
  intro X hP hw hK hc i pins s σ H E I hf st hg
  subst hP hw hK
  obtain⟨hd,hi⟩:=hg
  obtain⟨f0,f1,f2,f3,f4,f5⟩:=hf it (by simp)
  obtain⟨hs,hgd,hx,es',ep',vs,hdt,hsz,kv,hm⟩:=I.frzK hd
  obtain⟨rfl,rfl⟩:=mD hod hdt
  obtain⟨⟨k,v⟩,hkv⟩:∃p,kvs[i]?=some p:=⟨kvs[i],List.getElem?_eq_getElem hi⟩
  obtain⟨u,hu,ru⟩:=kv_get kv hkv
  have hl:kvs.length=vs.length:=Paired.length kv
  rw[hl]at st
  refine wpAny_pyNext_values_item st hm hu fun h' st' sb=>?_
  have I1:Inv X pins σ H { s with heap:=h' }:=I.turned (t':=s.toks) (fun b ob hb e=>(sb.2 b hb).trans e) f0 f1 f3 f4 f5
  obtain⟨oi,e,c,dd⟩:=id st'
  refine⟨u,rfl,go_of (s:={ s with heap:=h' }) e c dd (by decide) ⟨v,H,I1,ru,⟨rfl,k,hkv⟩,?_,fun b hb=>(hf b hb).1⟩⟩
  show h'.IsValIter it d (i+1) kvs.length _
  rw[hl]
  exact st'
 done:=by
  intro X hP hw hK hc i pins s σ H E I hf st hg
  subst hP hw hK
  obtain⟨hd,hi⟩:=hg
  obtain⟨f0,f1,f2,f3,f4,f5⟩:=hf it (by simp)
  obtain⟨hs,hgd,hx,es',ep',vs,hdt,hsz,kv,hm⟩:=I.frzK hd
  obtain⟨rfl,rfl⟩:=mD hod hdt
  have hl:kvs.length=vs.length:=Paired.length kv
  rw[hl]at st
  exact wpAny_pyNext_values_end (I.ok.hd hc) st hm (List.getElem?_eq_none (by omega)) fun h' eb=>⟨rfl,I.turned (t':=s.toks) (fun b ob hb e=>eb b ob hb e) f0 f1 f3 f4 f5⟩
 self:=fun A i s Q E st h=>wpAny_pyIter_valiter st h
theorem turn_items{kvs:List (Key×V)}{elts:List Expr}{kk:Nat}{tpos:Pos}(it:Addr)(hod:o.data=.dict es ep):
  Turn P w K (.Tuple elts kk tpos) (Iti d o kvs) [it] it (fun i h=>∃ok ov,IsItemIter h it d i kvs.length ep ok ov) where
 mem:=by simp
 obj:=fun i h st b hb=>by
  have e:b=it:=by simpa using hb
  subst e
  obtain⟨ok,ov,e⟩:=st
  exact⟨_,e,fun v z=>nomatch z⟩
 keep:=fun i h h' st k=>let⟨ok,ov,e⟩:=st;⟨ok,ov,k it (by simp) _ e⟩
 item:=by
  intro X hP hw hK hc i pins s σ H E I hf st hg
  subst hP hw hK
  obtain⟨hd,hi⟩:=hg
  obtain⟨hs,hgd,hx,es',ep',vs,hdt,hsz,kv,hm⟩:=I.frzK hd
  obtain⟨rfl,rfl⟩:=mD hod hdt
  obtain⟨⟨k,v⟩,hkv⟩:∃p,kvs[i]?=some p:=⟨kvs[i],List.getElem?_eq_getElem hi⟩
  obtain⟨u,hu,ru⟩:=kv_get kv hkv
  have hl:kvs.length=vs.length:=Paired.length kv
  obtain⟨ok,ov,he⟩:=st
  rw[hl]at he
  have hlt:it<s.heap.objs.size:=Heap.lt_size he
  refine wpAny_pyNext_items_item he hm hu fun key h' hkey ho hT hz hk=>?_
  refine⟨_,rfl,wpAny_letOwnedTupleGo_items (s:={ s with heap:=h' }) ho fun h'' he' sb=>?_⟩
  have hT2:h''.get? s.heap.objs.size=some { cls:=.type "tuple",data:=.seq #[key,u] }:=(sb.2 _ (Nat.ne_of_gt hlt)).trans hT
  have new:cM X.prog X.w (upd H s.heap.objs.size (.tup [kV k,v])) h'' s.heap.objs.size (.tup [kV k,v]):=
   ⟨by show 2≤sizeLine;decide,[key,u],.cons (relV_key (show keyIs k key=true from hkey)) (.cons ru .nil),⟨_,hT2,rfl,_,rfl⟩⟩
  have I1:Inv X pins σ (upd H s.heap.objs.size (.tup [kV k,v])) { s with heap:=h'' }:=
   I.turnedNew (t':=s.toks) (ch:=[it]) (fun b ob hb e=>(sb.2 b (by simpa using hb)).trans (hk b ob (by simpa using hb) e)) hf (Nat.le_refl _) new
  refine⟨.ref s.heap.objs.size,_,I1,rfl,⟨_,k,v,hkv,rfl,I.hok.fresh (Nat.le_refl _),rfl⟩,⟨key,u,?_⟩,fun b hb=>?_⟩
  ·rw[hl];exact he'
  ·have e:b=it:=by simpa using hb
   rw[e,aB (Nat.ne_of_lt hlt)]
   exact (hf it (by simp)).1
 done:=by
  intro X hP hw hK hc i pins s σ H E I hf st hg
  subst hP hw hK
  obtain⟨hd,hi⟩:=hg
  obtain⟨f0,f1,f2,f3,f4,f5⟩:=hf it (by simp)
  obtain⟨hs,hgd,hx,es',ep',vs,hdt,hsz,kv,hm⟩:=I.frzK hd
  obtain⟨rfl,rfl⟩:=mD hod hdt
  have hl:kvs.length=vs.length:=Paired.length kv
  obtain⟨ok,ov,he⟩:=st
  rw[hl]at he
  exact wpAny_pyNext_items_end (I.ok.hd hc) he hm (List.getElem?_eq_none (by omega)) fun h' eb=>⟨rfl,I.turned (t':=s.toks) (fun b ob hb e=>eb b ob hb e) f0 f1 f3 f4 f5⟩
 self:=fun A i s Q E st h=>let⟨_,_,e⟩:=st;PySem.W.kcp_self e h
end
def iKeys(td:TE):TI:=fun σ H R=>td σ H fun x H1=>∃d o,x=.ref d∧((∃kvs,H1 d=some (.d8 o (.dK kvs))∧R (Itk d o kvs) H1)∨∃kvs,H1 d=some (.d8 o (.dT kvs))∧R (Itkt d o kvs) H1)
def iVals(td:TE):TI:=fun σ H R=>td σ H fun x H1=>∃d o kvs,x=.ref d∧H1 d=some (.d8 o (.dK kvs))∧R (Itd d o kvs) H1
def iItems(td:TE):TI:=fun σ H R=>td σ H fun x H1=>∃d o kvs,x=.ref d∧H1 d=some (.d8 o (.dK kvs))∧R (Iti d o kvs) H1
section
variable{X:Cx}{tg e:Expr}{td:TE}{apos cpos:Pos}
theorem pi_keys(he:PE X e td):PI X tg e (iKeys td):=by
 intro pins s σ H R I h
 refine dw (he pins s σ H _ I h) fun u s1 ⟨x,H1,I1,rx,d,o,ex,q⟩=>?_
 subst ex
 obtain rfl:u=Value.ref d:=rx
 rcases q with⟨kvs,hd,q⟩|⟨kvs,hd,q⟩
 ·obtain⟨hs,hgd,hx,es,ep,vs,hdt,hsz,kv,hm⟩:=I1.frzK hd
  refine iter_keys hs hgd hx hdt (pi_one (tk:=s1.toks) I1 _ (turn_keys _ hdt) ⟨_,Heap.get?_push_size _ rfl,rfl,?_⟩ q)
  rw[hsz] <;> rfl
 ·obtain⟨hs,hgd,hx,es,ep,hdt,hsz,ent⟩:=I1.frzT hd
  refine iter_keys hs hgd hx hdt (pi_one (tk:=s1.toks) I1 _ (turn_keysT _ hdt) ⟨_,Heap.get?_push_size _ rfl,rfl,?_⟩ q)
  rw[hsz] <;> rfl
theorem pi_values(he:PE X e td)(hbase:attributeBase e "values" X.env (eval e X.env)=eval e X.env:=by rfl)(hline:(apos.endLine==cpos.line)=true:=by rfl):PI X tg (.Call (.Attribute e "values" apos) [] [] cpos) (iVals td):=by
 intro pins s σ H R I h
 refine wpAny_Call_method (T:="dict") (id:="dict.values") hbase rfl hline F.plainAttrs_dict F.slot_dict_values F.type_dict_values (dw (he pins s σ H _ I h) fun u s1 ⟨x,H1,I1,rx,d,o,kvs,ex,hd,q⟩=>?_)
 subst ex
 obtain rfl:u=Value.ref d:=rx
 obtain⟨hs,hgd,hx,es,ep,vs,hdt,hsz,kv,hm⟩:=I1.frzK hd
 have hl:kvs.length=vs.length:=Paired.length kv
 refine⟨hm.dictOf.typeIs,hm.dictOf.mapOf.noDict,?_⟩
 have I2:Inv X pins σ H1 { s1 with heap:=s1.heap.push { cls:=.type "dict_values",data:=.fields #[.ref d] } }:=I1.kept (t':=s1.toks) fun b ob q=>Heap.get?_push_of_some _ q
 have fin:wpAny (model X.prog X.w) X.A (pyIter (.ref s1.heap.objs.size)) (PIE X pins σ tg R) X.xe { s1 with heap:=s1.heap.push { cls:=.type "dict_values",data:=.fields #[.ref d] } }:=by
  refine wpAny_pyIter_values (d:=d) (knd:=bK X.prog X.w) ⟨_,Heap.get?_push_size _ rfl,rfl,rfl⟩ (hm.push _) (pi_one (tk:=s1.toks) I2 _ (turn_vals _ hdt) ⟨_,Heap.get?_push_size _ rfl,rfl,?_⟩ q)
  rw[hl] <;> rfl
 show wpAny _ _ (callWith cpos (.builtin "dict.values") [.ref d] [] []) _ X.xe s1
 exact method_meetsIn F.slot_dict_values F.entry_dict_values rfl (PySem.evalArgs_none ⟨rfl,hm.dictOf.typeIs,F.args_dict_values_1 _,_,meets_dict_values (bK X.prog X.w) d hs,⟨vs,hm.dictOf⟩,fin⟩)
theorem pi_items{elts:List Expr}{kk:Nat}{tpos:Pos}(he:PE X e td)(hbase:attributeBase e "items" X.env (eval e X.env)=eval e X.env:=by rfl)(hline:(apos.endLine==cpos.line)=true:=by rfl):
  PI X (.Tuple elts kk tpos) (.Call (.Attribute e "items" apos) [] [] cpos) (iItems td):=by
 intro pins s σ H R I h
 refine wpAny_Call_method (T:="dict") (id:="dict.items") hbase rfl hline F.plainAttrs_dict F.slot_dict_items F.type_dict_items (dw (he pins s σ H _ I h) fun u s1 ⟨x,H1,I1,rx,d,o,kvs,ex,hd,q⟩=>?_)
 subst ex
 obtain rfl:u=Value.ref d:=rx
 obtain⟨hs,hgd,hx,es,ep,vs,hdt,hsz,kv,hm⟩:=I1.frzK hd
 have hl:kvs.length=vs.length:=Paired.length kv
 refine⟨hm.dictOf.typeIs,hm.dictOf.mapOf.noDict,?_⟩
 have I2:Inv X pins σ H1 { s1 with heap:=s1.heap.push { cls:=.type "dict_items",data:=.fields #[.ref d] } }:=I1.kept (t':=s1.toks) fun b ob q=>Heap.get?_push_of_some _ q
 have fin:wpAny (model X.prog X.w) X.A (pyIter (.ref s1.heap.objs.size)) (PIE X pins σ (.Tuple elts kk tpos) R) X.xe { s1 with heap:=s1.heap.push { cls:=.type "dict_items",data:=.fields #[.ref d] } }:=by
  refine wpAny_pyIter_items (d:=d) (knd:=bK X.prog X.w) ⟨_,Heap.get?_push_size _ rfl,rfl,rfl⟩ (hm.push _) (pi_one (tk:=s1.toks) I2 _ (turn_items _ hdt) ⟨.none,.none,?_⟩ q)
  rw[hl]
  exact Heap.get?_push_size _ rfl
 show wpAny _ _ (callWith cpos (.builtin "dict.items") [.ref d] [] []) _ X.xe s1
 exact method_meetsIn F.slot_dict_items F.entry_dict_items rfl (PySem.evalArgs_none ⟨rfl,hm.dictOf.typeIs,F.args_dict_items_1 _,_,meets_dict_items (bK X.prog X.w) d hs,⟨vs,hm.dictOf⟩,fin⟩)
end
def Ite(K:PySem.W.Frag)(a:Addr):It:=
 ⟨fun i H=>∃(xs:List V) (x:V),bh K H a xs∧xs[i]?=some x,fun i H v H'=>∃T x,v=.ref T∧H T=none∧H'=upd H T (.tup [.int (i:Nat),x])∧∀xs,bh K H a xs→xs[i]?=some x,fun i H=>∃xs:List V,bh K H a xs∧xs.length≤i⟩
theorem turn_enum{P:Program}{w:World}{K:PySem.W.Frag}{elts:List Expr}{kk:Nat}{tpos:Pos}(a e it:Addr):
  Turn P w K (.Tuple elts kk tpos) (Ite K a) [e,it] e (fun i h=>(∃old,IsEnum h e it ((i:Nat):Int) old)∧h.IsListIter it a i∧e≠it) where
 mem:=by simp
 obj:=fun i h st b hb=>by
  obtain⟨⟨old,he⟩,⟨o,ho,hc,hd⟩,_⟩:=st
  have e':b=e∨b=it:=by simpa using hb
  rcases e' with z|z
  ·rw[z];exact⟨_,he,fun v q=>nomatch q⟩
  ·rw[z];exact⟨o,ho,fun v q=>by rw[hd]at q;cases q⟩
 keep:=fun i h h' st k=>let⟨⟨old,he⟩,hi,hne⟩:=st;⟨⟨old,k e (by simp) _ he⟩,hi.at fun o q=>k it (by simp) o q,hne⟩
 item:=by
  intro X hP hw hK hc i pins s σ H E I hf st hg
  subst hP hw hK
  obtain⟨⟨old,he⟩,hit,hne⟩:=st
  obtain⟨xs,x,hq,hx⟩:=hg
  obtain⟨its,rv,p,hz⟩:=I.list hq
  obtain⟨u,hu,ru⟩:=rv.get hx
  have hel:e<s.heap.objs.size:=Heap.lt_size he
  have hil:it<s.heap.objs.size:=by obtain⟨_,q,_⟩:=hit;exact Heap.lt_size q
  refine wpAny_pyNext_enum_item he hit p.isList (x:=u) (by simpa using hu) hne fun h' ho hit' hT hsz hk=>?_
  refine⟨_,rfl,wpAny_letOwnedTupleGo_enum (s:={ s with heap:=h',toks:=s.toks+1 }) ho fun h'' he' sb=>?_⟩
  have hT2:h''.get? s.heap.objs.size=some { cls:=.type "tuple",data:=.seq #[.int i s.toks,u] }:=(sb.2 _ (Nat.ne_of_gt hel)).trans hT
  have new:cM X.prog X.w (upd H s.heap.objs.size (.tup [.int (i:Nat),x])) h'' s.heap.objs.size (.tup [.int (i:Nat),x]):=
   ⟨by show 2≤sizeLine;decide,[.int i s.toks,u],.cons ⟨_,rfl⟩ (.cons ru .nil),⟨_,hT2,rfl,_,rfl⟩⟩
  have I1:Inv X pins σ (upd H s.heap.objs.size (.tup [.int (i:Nat),x])) { s with heap:=h'',toks:=s.toks+1 }:=
   I.turnedNew (ch:=[e,it]) (fun b ob hb q=>(sb.2 b (fun z=>hb (by simp[z]))).trans (hk b ob (fun z=>hb (by simp[z])) (fun z=>hb (by simp[z])) q)) hf (Nat.le_refl _) new
  refine⟨.ref s.heap.objs.size,_,I1,rfl,⟨_,x,rfl,I.hok.fresh (Nat.le_refl _),rfl,fun ys hy=>by rw[I.list_inj hy hq];exact hx⟩,⟨⟨u,?_⟩,hit'.at fun o q=>(sb.2 it (Ne.symm hne)).trans q,hne⟩,fun b hb=>?_⟩
  ·have e1:((i+1:Nat):Int)=(i:Int)+1:=by omega
   rw[e1];exact he'
  ·have hb':b<s.heap.objs.size:=by
    have e':b=e∨b=it:=by simpa using hb
    rcases e' with z|z
    ·rw[z];exact hel
    ·rw[z];exact hil
   rw[aB (Nat.ne_of_lt hb')]
   exact (hf b hb).1
 done:=by
  intro X hP hw hK hc i pins s σ H E I hf st hg
  subst hP hw hK
  obtain⟨⟨old,he⟩,hit,hne⟩:=st
  obtain⟨xs,hq,hx⟩:=hg
  obtain⟨its,rv,p,hz⟩:=I.list hq
  obtain⟨f0,f1,f2,f3,f4,f5⟩:=hf it (by simp)
  have hl:=rv.length
  exact wpAny_pyNext_enum_end (I.ok.hd hc) he hit p.isList (by simp;omega) fun h' eb=>⟨rfl,I.turned (t':=s.toks) (fun b o hb q=>eb b o hb q) f0 f1 f3 f4 f5⟩
 self:=fun A i s Q E st h=>let⟨⟨_,he⟩,_⟩:=st;wpAny_pyIter_enum he h
def iEnum(K:PySem.W.Frag)(ta:TA):TI:=fun σ H R=>ta σ H fun vs H1=>∃a xs,vs=[.ref a]∧bh K H1 a xs∧R (Ite K a) H1
theorem pi_enum{X:Cx}{e:Expr}{ta:TA}{p pos tpos:Pos}{elts:List Expr}{kk:Nat}(hg:Gl X "enumerate")(hm:X.mg "enumerate"=none)(ha:PA X [e] ta)(hs:starEach [e] X.env=[(false,eval e X.env)]:=by rfl):
  PI X (.Tuple elts kk tpos) (.Call (.Name "enumerate" p) [e] [] pos) (iEnum X.K ta):=by
 intro pins s σ H R I h
 refine Call_ (oJ I hg hm boot_enumerate (PyProof.Rows.callWith_type1 (dw (ha pos pins s σ H _ I h) fun us s1 ⟨vs,H1,I1,r1,q1⟩=>?_) hs rfl))
 obtain⟨a,xs,ex,hq,q⟩:=q1
 subst ex
 cases r1 with
 |cons r rr=>
  cases rr
  cases r
  obtain⟨its,rv,p',hz⟩:=I1.list hq
  refine call_enumerate_list p'.isList fun h' he hit hsz hk=>wpAny_pyIter_enum he ?_
  have I2:Inv X pins σ H1 { s1 with heap:=h' }:=I1.kept (t':=s1.toks) hk
  refine⟨s1.heap.objs.size+1,[s1.heap.objs.size+1,s1.heap.objs.size],_,_,H1,rfl,I2,turn_enum a (s1.heap.objs.size+1) s1.heap.objs.size,⟨⟨.none,he⟩,hit,Nat.succ_ne_self _⟩,fun b hb=>?_,q⟩
  have e':b=s1.heap.objs.size+1∨b=s1.heap.objs.size:=by simpa using hb
  have hle:s1.heap.objs.size≤b:=by
   rcases e' with z|z
   ·rw[z];exact Nat.le_add_right _ _
   ·rw[z];exact Nat.le_refl _
  exact I1.fpOk hle (I1.hok.fresh hle)
theorem boot_zip5:bootBuiltins "zip"=some (.type "zip"):=by decide +kernel
end L2
namespace L2
open PySem PySem.Spec PyProof.Rows
theorem vals_ints:∀{vs:List Value}{ns:List Int},IntsAre vs ns→Vals (ns.map V.int) vs
 |_,_,.nil=>.nil
 |_,_,.cons n t h=>.cons ⟨t,rfl⟩ (vals_ints h)
end L2
namespace L2
open PySem PySem.Spec PyProof.Rows
def inClass(s:Stmt)(j:Nat):Stmt:=match s with
 |.ClassDef _ _ _ body _ _ _ _ _ _ _=>body.getD j (.Pass ⟨0,0,0,0⟩)
 |_=>.Pass ⟨0,0,0,0⟩
def gb(s:Stmt):Arguments:=match s with
 |.FunctionDef _ a _ _ _ _ _ _ _ _=>a
 |_=>{ posonlyargs:=[],args:=[],vararg:=none,kwonlyargs:=[],kw_defaults:=[],kwarg:=none,defaults:=[] }
def dO(s:Stmt):List Stmt:=match s with
 |.FunctionDef _ _ b _ _ _ _ _ _ _=>b
 |_=>[]
def aG(s:Stmt):Scope:=match s with
 |.FunctionDef _ _ _ _ _ _ sc _ _ _=>sc
 |_=>{ kind:=.function,names:=[],isGenerator:=false,isCoroutine:=false }
abbrev CX0:CXT:=fun _ _ _ _ _ _=>False
abbrev E0:XK:=fun _ _ _=>False
theorem pass0{X:Cx}:Passes CX0 X E0:=fun _ _ _ _ _ _ _ h=>h.elim
structure Fun(K:PySem.W.Frag)(x qual:Str)(st:Stmt)(f:Addr)(fd:FuncData):Prop where
 ex:∃(oc:Value) (od:Option Addr) (kV doc pm:Value) (an:Option Addr) (cdv ct:Value) (osl:Array (Option Value)),
  fd=PySem.W.fnOf x qual (gb st) (dO st) (aG st) .none kV doc pm an cdv ct∧K.lookup f=some ⟨oc,od,.func fd,osl⟩∧PySem.W.codeIn K cdv qual=true
 kp:PySem.W.keepIn K (.ref f)=true
section
variable{P:Program}{w:World}{K:PySem.W.Frag}{mg:Str→Option Value}{base:Heap}
theorem Fun.ok{x qual:Str}{st:Stmt}{f:Addr}{fd:FuncData}{N ps:List Str}{k:Nat}{sp:Sp}(F:Fun K x qual st f fd)(S:oU N ps (aG st))(len:∀vs H Q E,sp vs H Q E→vs.length=ps.length)
  (hbody:∀(cdv:Value) (A:Around) (outer:List Env) (s:Shared) (H:Hp) (vs:List V) (Q:VK) (E:XK),fV k (A.deeper (envOfC qual (aG st) s.heap.objs.size f cdv))→sp vs H Q E→
   ∃t,PSs (cxOf CX0 P w K mg base N qual (aG st) f cdv A outer s H E).nox (dO st) t∧t { nx:=fun _ H'=>Q .non H',rt:=Q } (start N vs) H):FnOk P w K mg base CX0 (k+1) f fd ps sp:=by
 obtain⟨oc,od,kV,doc,pm,an,cdv,ct,osl,rfl,lk,hcd⟩:=F.ex
 refine fn_of lk hcd S len fun A outer s H vs Q E hr hsp=>?_
 obtain⟨t,h,q⟩:=hbody cdv A outer s H vs Q E hr hsp
 exact⟨t,h.nox,q⟩
theorem Fun.binds{x qual:Str}{st:Stmt}{f:Addr}{fd:FuncData}{ps:List Str}(F:Fun K x qual st f fd)
  (h:∀(kV doc pm:Value) (an:Option Addr) (cdv ct:Value) (us:List Value),us.length=ps.length→bindArgs (PySem.W.fnOf x qual (gb st) (dO st) (aG st) .none kV doc pm an cdv ct) ⟨us,[]⟩=pure (ps.zip us)):Binds K fd ps []:=by
 obtain⟨oc,od,kV,doc,pm,an,cdv,ct,osl,rfl,lk,hcd⟩:=F.ex
 exact .all (h kV doc pm an cdv ct)
theorem fun_mk{x qual:Str}{st:Stmt}{f:Addr}{oc:Value}{od an:Option Addr}{osl:Array (Option Value)}{kV doc pm cdv ct:Value}(l:K.lookup f=some ⟨oc,od,.func (PySem.W.fnOf x qual (gb st) (dO st) (aG st) .none kV doc pm an cdv ct),osl⟩)
  (c:PySem.W.codeIn K cdv qual=true) (k:PySem.W.keepIn K (.ref f)=true):Fun K x qual st f (PySem.W.fnOf x qual (gb st) (dO st) (aG st) .none kV doc pm an cdv ct):=⟨⟨oc,od,kV,doc,pm,an,cdv,ct,osl,rfl,l,c⟩,k⟩
end
theorem nM{A:Around}{k:Nat}(hr:fV k A):A.units+1<cLine:=Nat.lt_of_le_of_lt (Nat.add_le_add_left (by decide:1≤64) _) hr.units
section
variable{X:Cx}
theorem pv(i:Nat){x:Str}{pos:Pos}(hN:X.N[i]?=some x:=by rfl)(hv:Vis X.env.scope x:=by first|exact Or.inl rfl|exact Or.inr (Or.inl rfl)|exact Or.inr (Or.inr rfl))(hd:(x==("__debug__":Str))=false:=by decide)
  (hcd:(x==("__classdict__":Str))=false:=by decide):PE X (.Name x pos) (tVar i):=pe_var hN hv hd hcd
end
theorem iteF{A B:Prop}(h:B):if false=true then A else B:=by
 rw[if_neg Bool.false_ne_true]
 exact h
theorem iteT{A B:Prop}(h:A):if true=true then A else B:=by
 rw[if_pos rfl]
 exact h
theorem aP{c A B:Prop}[Decidable c](h1:c→A)(h2:¬c→B):if c then A else B:=by
 by_cases h:c
 ·rw[if_pos h]
  exact h1 h
 ·rw[if_neg h]
  exact h2 h
end L2
namespace L2
open PySem PySem.Spec PyProof.Rows
section
variable{X:Cx}
theorem aK{x:Str}{i:Int}{pos:Pos}(hg:Gl X x)(hm:∃t,X.mg x=some (.int i t))(hd:(x==("__debug__":Str))=false:=by decide):PE X (.Name x pos) (tC (.int i)):=by
 obtain⟨t,hm⟩:=hm
 exact pe_glob hg hm ⟨t,rfl⟩ hd
def CDivB(i j:Int):Prop:=0<j∧j<2 ^ 64
theorem op_fdivB:OpR X (binaryOp .FloorDiv) (rI CDivB fun i j=>.int (i/j)):=opI fun i j _ _ _ _ _ hc q=>by
 have h1:(0:Int)<j:=hc.1
 have h2:j<2 ^ 64:=hc.2
 refine floordiv_int (by omega) (by rw[Int.fdiv_eq_ediv_of_nonneg i (by omega)];exact q) (.inl (PyProof.noPylong_of_log2 ?_))
 have h3:j.natAbs≠0:=by omega
 have h4:j.natAbs.log2<64:=(Nat.log2_lt h3).mpr (by omega)
 omega
theorem boot_sum:bootBuiltins "sum"=some (.builtin "sum"):=by decide +kernel
theorem boot_all:bootBuiltins "all"=some (.builtin "all"):=by decide +kernel
theorem boot_max:bootBuiltins "max"=some (.builtin "max"):=by decide +kernel
theorem boot_min:bootBuiltins "min"=some (.builtin "min"):=by decide +kernel
theorem boot_list:bootBuiltins "list"=some (.type "list"):=by decide +kernel
theorem cC(hc:X.calm=true):lF X (.builtin "sum") (fun xs H Q=>∃(a:Addr) (ns:List Int),xs=[V.ref a]∧bh X.K H a (ns.map V.int)∧Q (.int ns.sum) H):=by
 intro pins s σ H xs us Q I r h
 obtain⟨a,ns,rfl,hq,q⟩:=h
 obtain⟨u,rfl,ru⟩:=vals1 r
 cases ru
 obtain⟨its,rv,pl,hz⟩:=I.list hq
 have hi:IntsAre its ns:=intsAre_of rv
 obtain⟨ys,e⟩:=hi.allInts.items
 refine PySem.sum_intListG (xs:=ys) (I.ok.hd hc) (by rw[←e];exact pl.isList) fun h' tk t' hk=>⟨.int ns.sum,H,I.kept hk,⟨t',?_⟩,q⟩
 have e2:ys.toList.map (·.1)=ns:=by rw[←nums_intItems,←e];exact hi.numsOf
 rw[preSum_eq,List.take_of_length_le (by simp),e2]
theorem iter_list{M:Model}{A:Around}{E:Value→Shared→Prop}{s:Shared}{prog:Program}{w:World}{l:Addr}{items:Array Value}{Q:Value→Shared→Prop}(hl:s.heap.IsList l items)
  (h:∀s₂:Shared,s₂={ s with heap:=s.heap.push { cls:=.type "list_iterator",data:=.fields #[.ref l,.int 0 0] } }→
   (s₂.heap.IsListIter s.heap.objs.size l 0∧s₂.heap.IsList l items)→(∀b∈[s.heap.objs.size,l],b<s₂.heap.objs.size)→l≠s.heap.objs.size→Q (.ref s.heap.objs.size) s₂):
  wpAny (model prog w) A (pyIter (.ref l)) Q E s:=by
 have hlt:l<s.heap.objs.size:=by obtain⟨_,e,_⟩:=hl;exact Heap.lt_size e
 refine wpAny_pyIter_list hl (h _ rfl ⟨⟨_,Heap.get?_push_size _ rfl,rfl,rfl⟩,hl.push _⟩ (fun b hb=>?_) (Nat.ne_of_lt hlt))
 show b<(s.heap.push _).objs.size
 rw[Heap.size_push]
 have e:b=s.heap.objs.size∨b=l:=by simpa using hb
 rcases e with e|e
 ·rw[e];exact Nat.lt_succ_self _
 ·rw[e];exact Nat.lt_succ_of_lt hlt
theorem all_bools(bs:List Bool):((List.range bs.length).all fun i=>bs.getD i false)=bs.all id:=by
 rw[Bool.eq_iff_iff,List.all_eq_true,List.all_eq_true]
 constructor
 ·intro h b hb
  obtain⟨i,hi,e⟩:=List.getElem_of_mem hb
  have:=h i (List.mem_range.mpr hi)
  rw[List.getD_eq_getElem?_getD,List.getElem?_eq_getElem hi]at this
  rw[←e]
  exact this
 ·intro h i hi
  have hi':=List.mem_range.mp hi
  rw[List.getD_eq_getElem?_getD,List.getElem?_eq_getElem hi']
  exact h _ (List.getElem_mem hi')
theorem call_allL(hc:X.calm=true):lF X (.builtin "all") (fun xs H Q=>∃(a:Addr) (bs:List Bool),xs=[V.ref a]∧bh X.K H a (bs.map V.bl)∧Q (.bl (bs.all id)) H):=by
 intro pins s σ H xs us Q I r h
 obtain⟨a,bs,rfl,hq,q⟩:=h
 obtain⟨u,rfl,ru⟩:=vals1 r
 cases ru
 obtain⟨its,rv,pl,hz⟩:=I.list hq
 have hlen:bs.length=its.length:=by
  have:=rv.length
  rw[List.length_map]at this
  exact this
 refine PySem.call_all_walk (iter_list (M:=model X.prog X.w) pl.isList fun s2 e st hfp hne=>?_)
 subst e
 refine⟨_,_,_,_,_,_,fun i=>bs.getD i false,rfl,Walks.list (A:=X.A.in1) (I.ok.hd hc) _ a hne its.toArray,st,?_,fun h' tk hk=>?_⟩
 ·intro i v s' Q' E' hP hQ
  have hv:its[i]?=some v:=by simpa using hP
  have hi:i<bs.length:=by
   have:=(List.getElem?_eq_some_iff.mp hv).1
   omega
  obtain⟨w',e1,e2⟩:=rv.get (i:=i) (x:=.bl (bs.getD i false)) (by rw[List.getElem?_map,List.getD_eq_getElem?_getD,List.getElem?_eq_getElem hi];rfl)
  rw[hv]at e1
  cases e1
  cases e2
  exact wpAny_truthy_bool hQ
 ·have e:its.toArray.size=bs.length:=by simp[hlen]
  rw[e,all_bools]
  exact⟨.bl _,H,I.kept (h':=h') (t':=tk) (fun b o hb=>hk b o (by simp;exact Nat.ne_of_lt (Heap.lt_size hb)) (Heap.get?_push_of_some _ hb)),rfl,q⟩
theorem argBest_val{val:Nat→Int}{p:Int→Int→Bool}{g:Int→Int→Int}(hg:∀a b,g a b=if p b a=true then b else a):∀k,val (argBest (fun i j=>p (val i) (val j)) k)=((List.range k).map fun i=>val (i+1)).foldl g (val 0)
 |0=>rfl
 |k+1=>by
  have ih:=argBest_val (val:=val) hg k
  rw[List.range_succ,List.map_append,List.foldl_append,←ih]
  show val (if p (val (k+1)) (val (argBest (fun i j=>p (val i) (val j)) k))then k+1 else argBest (fun i j=>p (val i) (val j)) k)=g (val (argBest (fun i j=>p (val i) (val j)) k)) (val (k+1))
  rw[hg]
  split <;> rfl
theorem map_range_succ(n:Int)(ns:List Int):(List.range ns.length).map (fun i=>(n::ns).getD (i+1) 0)=ns:=by
 apply List.ext_getElem?
 intro i
 rw[List.getElem?_map]
 by_cases hi:i<ns.length
 ·rw[List.getElem?_range hi,List.getElem?_eq_getElem hi]
  show some ((n::ns).getD (i+1) 0)=_
  rw[List.getD_eq_getElem?_getD,List.getElem?_cons_succ,List.getElem?_eq_getElem hi]
  rfl
 ·rw[List.getElem?_eq_none (by rw[List.length_range];omega),List.getElem?_eq_none (by omega)]
  rfl
theorem int_at{n:Int}{ns:List Int}{its:List Value}(hi:IntsAre its (n::ns)){i:Nat}{v:Value}(hv:its.toArray[i]?=some v):∃t,v=.int ((n::ns).getD i 0) t:=by
 have hv':its[i]?=some v:=by simpa using hv
 have hl:=hi.length
 have h1:i<(n::ns).length:=by
  have:=(List.getElem?_eq_some_iff.mp hv').1
  omega
 obtain⟨t,e⟩:=hi.get i ((n::ns).getD i 0) (by rw[List.getD_eq_getElem?_getD,List.getElem?_eq_getElem h1];rfl)
 rw[hv']at e
 cases e
 exact⟨t,rfl⟩
theorem call_maxL(hc:X.calm=true):lF X (.builtin "max") (fun xs H Q=>∃(a:Addr) (n:Int) (ns:List Int),xs=[V.ref a]∧bh X.K H a ((n::ns).map V.int)∧Q (.int (ns.foldl max n)) H):=by
 intro pins s σ H xs us Q I r h
 obtain⟨a,n,ns,rfl,hq,q⟩:=h
 obtain⟨u,rfl,ru⟩:=vals1 r
 cases ru
 obtain⟨its,rv,pl,hz⟩:=I.list hq
 have hi:IntsAre its (n::ns):=intsAre_of rv
 have hlen:=hi.length
 refine PySem.call_max_walk (iter_list (M:=model X.prog X.w) pl.isList fun s2 e st hfp hne=>?_)
 subst e
 refine⟨_,_,_,_,_,_,fun i j=>decide ((n::ns).getD i 0>(n::ns).getD j 0),rfl,Walks.list (A:=X.A.in1) (I.ok.hd hc) _ a hne its.toArray,st,hfp,?_,?_,fun v h' tk hP hk=>?_⟩
 ·rw[List.size_toArray]
  rw[List.length_cons]at hlen
  omega
 ·intro i j vi vj s' Q' E' h1 h2 hQ
  obtain⟨t,rfl⟩:=int_at hi h1
  obtain⟨t',rfl⟩:=int_at hi h2
  exact (show wpAny (model X.prog X.w) _ (compareOp .Gt (.int _ t) (.int _ t')) Q' E' s' from gt_int hQ)
 ·obtain⟨t,rfl⟩:=int_at hi hP
  have e:its.toArray.size - 1=ns.length:=by
   rw[List.size_toArray]
   rw[List.length_cons]at hlen
   omega
  have e2:=argBest_val (val:=fun i=>(n::ns).getD i 0) (p:=fun x y=>decide (x>y)) (g:=max) (fun a b=>by
   by_cases h:b>a
   ·rw[if_pos (decide_eq_true h)];omega
   ·rw[if_neg (by rw[decide_eq_false h];decide)];omega) ns.length
  rw[map_range_succ]at e2
  refine⟨.int (ns.foldl max n),H,I.kept (h':=h') (t':=tk) (fun b o hb=>hk b o (by simp;exact Nat.ne_of_lt (Heap.lt_size hb)) (Heap.get?_push_of_some _ hb)),⟨t,?_⟩,q⟩
  rw[e]
  exact congrArg (fun z=>Value.int z t) e2
theorem call_minL(hc:X.calm=true):lF X (.builtin "min") (fun xs H Q=>∃(a:Addr) (n:Int) (ns:List Int),xs=[V.ref a]∧bh X.K H a ((n::ns).map V.int)∧Q (.int (ns.foldl min n)) H):=by
 intro pins s σ H xs us Q I r h
 obtain⟨a,n,ns,rfl,hq,q⟩:=h
 obtain⟨u,rfl,ru⟩:=vals1 r
 cases ru
 obtain⟨its,rv,pl,hz⟩:=I.list hq
 have hi:IntsAre its (n::ns):=intsAre_of rv
 have hlen:=hi.length
 refine PySem.call_min_walk (iter_list (M:=model X.prog X.w) pl.isList fun s2 e st hfp hne=>?_)
 subst e
 refine⟨_,_,_,_,_,_,fun i j=>decide ((n::ns).getD i 0<(n::ns).getD j 0),rfl,Walks.list (A:=X.A.in1) (I.ok.hd hc) _ a hne its.toArray,st,hfp,?_,?_,fun v h' tk hP hk=>?_⟩
 ·rw[List.size_toArray]
  rw[List.length_cons]at hlen
  omega
 ·intro i j vi vj s' Q' E' h1 h2 hQ
  obtain⟨t,rfl⟩:=int_at hi h1
  obtain⟨t',rfl⟩:=int_at hi h2
  exact (show wpAny (model X.prog X.w) _ (compareOp .Lt (.int _ t) (.int _ t')) Q' E' s' from lt_int hQ)
 ·obtain⟨t,rfl⟩:=int_at hi hP
  have e:its.toArray.size - 1=ns.length:=by
   rw[List.size_toArray]
   rw[List.length_cons]at hlen
   omega
  have e2:=argBest_val (val:=fun i=>(n::ns).getD i 0) (p:=fun x y=>decide (x<y)) (g:=min) (fun a b=>by
   by_cases h:b<a
   ·rw[if_pos (decide_eq_true h)];omega
   ·rw[if_neg (by rw[decide_eq_false h];decide)];omega) ns.length
  rw[map_range_succ]at e2
  refine⟨.int (ns.foldl min n),H,I.kept (h':=h') (t':=tk) (fun b o hb=>hk b o (by simp;exact Nat.ne_of_lt (Heap.lt_size hb)) (Heap.get?_push_of_some _ hb)),⟨t,?_⟩,q⟩
  rw[e]
  exact congrArg (fun z=>Value.int z t) e2
end
end L2
namespace PySem.W
open PySem PySem.Spec PySem.Calls PyProof.Rows
section
variable{prog:Program}{w:World}{A:Around}{E:Value→Shared→Prop}{s:Shared}
theorem collect_range{R:List Value→Shared→Prop}{r:Addr}{a b c:Int}{t u v:Tok}{n:Nat}(hh:A.handled=none)(hr:IsRange s.heap r a b c t u v)(hsmall:Builtin.Range.small a b c=true)
  (hn:Builtin.Range.rangeSize a b c=n) (hlen:n≤2 ^ 24)
  (h:∀(h':Heap) (tk:Nat) (acc:Array Value),(∀b o,s.heap.get? b=some o→h'.get? b=some o)→ItemsOf (fun i v=>∃t,v=.int (a+i*c) t) acc n→R acc.toList { s with heap:=h',toks:=tk }):
  wpAny (model prog w) A (collect (.ref r)) R E s:=by
 unfold collect
 refine wpAny_bind (wpAny_runValue (codeAny_builtin entry_proto_collect' ?_))
 rw[Around.under_plainId PySem.F.plain_proto_collect _]
 show wpAny _ A.in1 (newList []>>=fun l=>again (.builtin "list.__iadd__" ⟨[l,.ref r],[]⟩)) _ _ s
 refine wpAny_bind (wpAny_newObj_type ?_)
 refine wpAny_pure ⟨plainId_quiet PySem.F.plain_list_iadd _,codeAny_builtin entry_list_iadd' ?_⟩
 rw[Around.under_plainId PySem.F.plain_list_iadd _]
 have hS₁:(s.heap.push { cls:=.type "list",data:=.seq ([]:List Value).toArray }).get? s.heap.objs.size=some { cls:=.type "list",data:=.seq #[] }:=Heap.get?_push_size _ rfl
 show wpAny _ A.in1 (Builtin.List.listExtendWith (.ref s.heap.objs.size) (.ref r) (.ref s.heap.objs.size)) _ _ _
 have key:=wpAny_extend_range (prog:=prog) (w:=w) (A:=A) (s:={ s with heap:=s.heap.push { cls:=.type "list",data:=.seq ([]:List Value).toArray } })
  (R:=fun(q:Result) (s':Shared)=>∃(h':Heap) (tk:Nat) (acc':Array Value) (c':Nat),q=.ok (.ret (.ref s.heap.objs.size))∧s'={ s with heap:=h',toks:=tk }∧
   (∀b o,s.heap.get? b=some o→h'.get? b=some o)∧h'.get? s.heap.objs.size=some { cls:=.type "list",dict:=none,data:=.seq acc' c',slots:=#[] }∧ItemsOf (fun i v=>∃t,v=.int (a+i*c) t) acc' n)
  hh (Heap.get?_push_of_some _ hr) hsmall hn hlen s.heap.objs.size (.ref s.heap.objs.size) 0 hS₁
  (fun h' tk acc' c' hk hS' hacc=>⟨h',tk,acc',c',rfl,rfl,fun b o e=>hk b o (Nat.ne_of_lt (Heap.lt_size e)) (Heap.get?_push_of_some _ e),hS',hacc⟩)
 refine wpAny_mono key (fun fin s' x=>?_) fun e s' x=>?_
 ·cases fin with
  |done f=>
   obtain⟨h',tk,acc',c',e,rfl,hk,hS',hacc⟩:=x
   cases e
   show wpAny _ A (load s.heap.objs.size>>=_) _ _ _
   refine wpAny_bind (wpAny_load hS' ?_)
   exact wpAny_pure (h h' tk acc' hk hacc)
  |again c₁=>
   refine⟨x.1,codeAny_mono x.2 fun q s₂ y=>?_⟩
   obtain⟨h',tk,acc',c',rfl,rfl,hk,hS',hacc⟩:=y
   show wpAny _ A (load s.heap.objs.size>>=_) _ _ _
   refine wpAny_bind (wpAny_load hS' ?_)
   exact wpAny_pure (h h' tk acc' hk hacc)
 ·obtain⟨_,_,_,_,e',_⟩:=x
  cases e'
end
theorem ints_of(f:Nat→Int):∀(l:List Value),(∀(j:Nat) (v:Value),l[j]?=some v→∃t,v=Value.int (f j) t)→IntsAre l ((List.range l.length).map f)
 |[],_=>.nil
 |v::l,h=>by
  obtain⟨t,e⟩:=h 0 v rfl
  subst e
  rw[List.length_cons,List.range_succ_eq_map,List.map_cons,List.map_map]
  exact .cons _ t (ints_of (fun j=>f (j+1)) l fun j u hu=>h (j+1) u hu)
section
variable{prog:Program}{w:World}{A:Around}{E:Value→Shared→Prop}{s:Shared}{h₀:Heap}{L:Addr}{m:Str→Option Value}{news:List (Addr×Obj)}{b:Bool}{Q:Value→Shared→Prop}
theorem sorted_range{r:Addr}{lo hi:Int}{t u v:Tok}{n:Nat}{f:Value}{kw:List (Str×Value)}(g:Int→Int)(hh:A.handled=none)(F:Fr h₀ L s.heap m)(N:News h₀ L s.heap news)(hr:IsRange s.heap r lo hi 1 t u v)
  (hsmall:Builtin.Range.small lo hi 1=true) (hn:Builtin.Range.rangeSize lo hi 1=n) (hlen:n≤2 ^ 20)
  (ha1:argsOk "sorted" ⟨[.ref r],kw⟩) (ha2:∀x,argsOk "list.sort" ⟨[.ref x],kw⟩) (ht:∀x,Builtin.«list.sort» ⟨[.ref x],kw⟩=ksk_tree x f b)
  (turn:∀(i:Nat) (t:Tok),i<n→∀(h:Heap) (tk:Nat) (own:List (Addr×Obj)),Fr h₀ L h m→News h₀ L h (news++own)→
   wpAny (model prog w) A.in1.in1 (call f [.int (lo+i) t]) (KskEnd h₀ L m (news++own) (g (lo+i)) { s with heap:=h,toks:=tk }) (fun _ _=>False) { s with heap:=h,toks:=tk })
  (done:∀D (ns':List Int) out c h' tk,Fr h₀ L h' m→News h₀ L h' ((D,seqObj "list" out c)::news)→(∀b o,s.heap.get? b=some o→b≠D)→IntsAre out.toList ns'→ns'.Perm ((List.range n).map fun(i:Nat)=>lo+i)→
   ns'.Pairwise (fun x y=>if b then g y≤g x else g x≤g y)→(∀z,ns'.filter (fun x=>g x==z)=((List.range n).map fun(i:Nat)=>lo+i).filter (fun x=>g x==z))→Q (.ref D) { s with heap:=h',toks:=tk }):
  wpAny (model prog w) A (call (.builtin "sorted") [.ref r] kw) Q E s:=by
 have hlen2:n≤16777216:=by omega
 refine call_function_entry_kw kind_sorted plain_sorted entry_sorted ha1 ?_
 unfold Builtin.«sorted»
 refine wpAny_bind (m:=checkCount "sorted" 1 1 _) (wpAny_pure ?_)
 refine wpAny_bind (collect_range (A:=A.in1) hh hr hsmall hn (by omega) fun h1 tk1 acc keep1 items=>?_)
 have hlenA:acc.toList.length=n:=by
  have:=items.1
  simpa using this
 refine wpAny_bind (wpAny_newList ?_ (by rw[hlenA,sizeLine_eq];omega))
 have hoL:(h1.push (seqObj "list" acc.toList.toArray 0)).get? h1.objs.size=some (seqObj "list" acc.toList.toArray 0):=Heap.get?_push_size _ rfl
 have keep:∀b o,s.heap.get? b=some o→(h1.push (seqObj "list" acc.toList.toArray 0)).get? b=some o:=fun b o q=>Heap.get?_push_of_some _ (keep1 b o q)
 have lt1:∀b o,s.heap.get? b=some o→b<h1.objs.size:=fun b o q=>Heap.lt_size (keep1 b o q)
 obtain⟨oL,_,_,hoLL,_⟩:=id F.ns
 have hL:L<h1.objs.size:=lt1 L oL hoLL
 have hints:IntsAre acc.toList ((List.range n).map fun(i:Nat)=>lo+i):=by
  rw[←hlenA]
  refine ints_of (fun i=>lo+i) acc.toList fun j v hv=>?_
  obtain⟨t',e⟩:=items.2 j v (by simpa using hv)
  exact⟨t',by rw[e,Int.mul_one]⟩
 generalize hns:((List.range n).map fun(i:Nat)=>lo+i)=ns at hints done
 refine wpAny_bind (wpAny_holding (wpAny_call_entry_kw slot_list_sort ⟨_,hoL,rfl⟩ entry_list_sort ?body (ha2 _)))
 case body=>
  have ht':=ht h1.objs.size
  show wpAny (model prog w) A.in1.in1 (Builtin.«list.sort» ⟨[.ref h1.objs.size],kw⟩) _ _ _
  rw[ht']
  refine ksk_sortSt (kz:=ns.map g) (s:={ s with heap:=h1.push (seqObj "list" acc.toList.toArray 0),toks:=tk1 })
   (F.kept keep) (N.grown keep) hoL (Nat.ne_of_gt hL) ?_
   (fun p hp=>Nat.ne_of_lt (lt1 p.1 p.2 (N p hp).1)) (by rw[List.length_map,hints.length]) (by rw[hlenA,sizeLine_eq];omega) (fun i v k hv hk h tk own F' N'=>?_) fun h' tk out c F' N' k'=>⟨_,rfl,?_⟩
  ·cases q:h₀.get? h1.objs.size with
   |none=>rfl
   |some o=>exact absurd (lt1 _ o (F.keep _ o q)) (Nat.lt_irrefl _)
  ·rw[List.getElem?_map]at hk
   cases q:ns[i]? with
   |none=>rw[q]at hk;simp at hk
   |some z=>
    rw[q]at hk
    have hk':some (g z)=some k:=hk
    cases hk'
    obtain⟨t',ht2⟩:=hints.get i z q
    rw[ht2]at hv
    cases hv
    rw[←hns,List.getElem?_map]at q
    have hi:i<n:=by
     cases Nat.lt_or_ge i n with
     |inl z=>exact z
     |inr z=>
      rw[List.getElem?_eq_none (by rw[List.length_range];exact z)]at q
      cases q
    rw[List.getElem?_range hi]at q
    have q':lo+(i:Int)=z:=Option.some.inj q
    subst q'
    exact turn i t' hi h tk own F' N'
  ·obtain⟨ps,hp,ho,hs,hst⟩:=k'
   have hrel:∀p,p∈(ns.map g).zip acc.toList→p.1=g (numOf p.2)∧p.2∈acc.toList:=by
    rw[←hints.nums,List.map_map,List.zip_map_left]
    intro p hp
    obtain⟨⟨u,v⟩,hq,rfl⟩:=List.mem_map.mp hp
    have h1:u=v∧u∈acc.toList:=mem_zip_self hq
    refine⟨?_,?_⟩
    ·show g (numOf u)=g (numOf v)
     rw[h1.1]
    ·show v∈acc.toList
     rw[←h1.1]
     exact h1.2
   have hl2:=hints.length
   have hI:IntsAre (ps.map Prod.snd) ((ps.map Prod.snd).map numOf):=intsAre_map _ fun v hv=>by
    obtain⟨p,hp',rfl⟩:=List.mem_map.mp hv
    exact hints.all _ (hrel p (hp.mem_iff.mp hp')).2
   have hP:((ps.map Prod.snd).map numOf).Perm ns:=by
    have h1:=(hp.map Prod.snd).map numOf
    rw[List.map_snd_zip (by rw[List.length_map];omega),hints.nums]at h1
    exact h1
   have hO:((ps.map Prod.snd).map numOf).Pairwise (fun x y=>if b then g y≤g x else g x≤g y):=by
    rw[List.pairwise_map,List.pairwise_map]
    refine hs.imp_of_mem fun{p q} hp' hq' hr=>?_
    have hr':if b then q.1≤p.1 else p.1≤q.1:=hr
    rw[(hrel p (hp.mem_iff.mp hp')).1,(hrel q (hp.mem_iff.mp hq')).1]at hr'
    exact hr'
   have hSt:∀z,((ps.map Prod.snd).map numOf).filter (fun x=>g x==z)=ns.filter (fun x=>g x==z):=by
    intro z
    have e1:∀l:List (Int×Value),(∀p,p∈l→p.1=g (numOf p.2))→
      ((l.map Prod.snd).map numOf).filter (fun x=>g x==z)=((l.filter (fun p=>p.1==z)).map Prod.snd).map numOf:=by
     intro l hl
     rw[List.map_map,List.filter_map,List.map_map]
     congr 1
     refine List.filter_congr fun p hp'=>?_
     show(g (numOf p.2)==z)=(p.1==z)
     rw[hl p hp']
    rw[e1 ps (fun p hp'=>(hrel p (hp.mem_iff.mp hp')).1),hst z,←e1 ((ns.map g).zip acc.toList) (fun p hp'=>(hrel p hp').1),
     List.map_snd_zip (by rw[List.length_map];omega),hints.nums]
   rw[←ho]at hI hP hO hSt
   exact wpAny_pure ⟨_,rfl,done _ _ out c h' tk F' N' (fun b o q=>Nat.ne_of_lt (lt1 b o q)) hI hP hO hSt⟩
end
section
variable{prog:Program}{w:World}{A:Around}{s:Shared}
theorem lam_neg{h:Heap}{tk:Nat}{f c c' a:Addr}{name qual x y:Str}{params:Arguments}{p1 p2 p3 p4:Pos}{scope:Scope}{clos:List (Str×Addr)}{pm ctv:Value}{its:List Value}{rs:List Int}{i:Nat}{t:Tok}{r:Int}
  (hroom:A.depth<recursionLimit) (hlim:h.NoLimit)
  (hf:h.get? f=some (kla_obj name qual params (.UnaryOp .USub (.Subscript (.Name x p1) (.Name y p2) p3) p4) scope clos pm c' ctv)) (hcd:h.CodeRec (.ref c') qual)
  (hcl:clos.lookup x=some c) (hcell:h.IsCell c (some (.ref a))) (hl:h.IsList a its.toArray) (hi:IntsAre its rs) (hr:rs[i]?=some r) (hz:rs.length≤sizeLine)
  (hk:scope.kind=.function) (hco:scope.isCoroutine=false) (hgen:scope.isGenerator=false) (hnc:∀z∈scope.names,z.2≠.cell)
  (hx:scope.names.lookup x=some .free) (hy:scope.names.lookup y=some .local) (hdx:(x==("__debug__":Str))=false) (hdy:(y==("__debug__":Str))=false) (hcx:(x==("__classdict__":Str))=false)
  (hbind:∀v:Value,bindArgs (kla_fn name qual params (.UnaryOp .USub (.Subscript (.Name x p1) (.Name y p2) p3) p4) scope clos pm (.ref c') ctv) ⟨[v],[]⟩=pure [(y,v)]):
  wpAny (model prog w) A (call (.ref f) [.int i t]) (fun v s'=>∃h' tk' t',s'={ s with heap:=h',toks:=tk' }∧v=.int (-r) t'∧∀b o,h.get? b=some o→h'.get? b=some o) (fun _ _=>False) { s with heap:=h,toks:=tk }:=by
 refine wpAny_call (kla_callFunE (s:={ s with heap:=h,toks:=tk }) hroom hf rfl hco hgen rfl hcd ?_)
 rw[hbind]
 refine wpAny_pure (wpAny_newFunctionEnv (s:={ s with heap:=h,toks:=tk }) hnc (fun z hz=>?_) (fun h₁ hns hsb=>⟨hlim.keeps ?_,?_⟩) hk)
 ·rw[List.mem_singleton.mp hz]
  exact hy
 ·intro b o e
  exact hsb.extBut b o (Nat.ne_of_lt (Heap.lt_size e)) (Heap.get?_push_of_some _ e)
 ·have keep:∀b o,h.get? b=some o→h₁.get? b=some o:=fun b o e=>hsb.extBut b o (Nat.ne_of_lt (Heap.lt_size e)) (Heap.get?_push_of_some _ e)
  have hcell1:h₁.IsCell c (some (.ref a)):=by
   obtain⟨o,e,d⟩:=hcell
   exact⟨o,keep c o e,d⟩
  have hl1:h₁.IsList a its.toArray:=by
   obtain⟨o,e,d⟩:=hl
   exact⟨o,keep a o e,d⟩
  obtain⟨tr,etr⟩:=hi.get i r hr
  have hil:i<rs.length:=(List.getElem?_eq_some_iff.mp hr).1
  rw[sizeLine_eq]at hz
  refine kla_codeExpr (UnaryOp_ (Subscript_ ?_))
  refine wpAny_Name (wpAny_loadName_free (v:=.ref a) hk hx hcl hcell1 ?_ hcx) hdx
  refine wpAny_Name (wpAny_loadName_local (v:=.int i t) hk hy hns (by show List.lookup y [(y,Value.int i t)]=some _;simp) ?_) hdy
  refine item_listR (x:=.int r tr) hl1 (by omega) (by omega) (by simpa using etr) ?_
  exact neg_int ⟨h₁,_,_,rfl,rfl,keep⟩
end
end PySem.W
namespace L2
open PySem PySem.Spec PyProof.Rows
section
variable{X:Cx}
theorem pe_rangeV{a:Expr}{ta:TA}{p pos:Pos}(hg:Gl X "range")(hm:X.mg "range"=none)(ha:PA X [a] ta)(hs:starEach [a] X.env=[(false,eval a X.env)]:=by rfl):
  PE X (.Call (.Name "range" p) [a] [] pos) (fun σ H Q=>ta σ H fun vs H1=>∃j:Int,vs=[.int j]∧-(2 ^ 62)≤j∧j<2 ^ 62∧∀r,H1 r=none→Q (.ref r) (upd H1 r (.rng 0 j))):=by
 intro pins s σ H Q I h
 refine Call_ (oJ I hg hm boot_range (PyProof.Rows.callWith_type1 (dw (ha pos pins s σ H _ I h) fun us s1 ⟨vs,H1,I1,r1,q1⟩=>?_) hs rfl))
 obtain⟨j,e,q1,q2,q⟩:=q1
 subst e
 cases r1 with
 |cons r rr=>
  cases rr
  obtain⟨t,rfl⟩:=r
  refine call_range_1 ?_
  exact⟨.ref s1.heap.objs.size,_,I1.laid (a:=s1.heap.objs.size) (o:=.rng 0 j) (fun b u e=>Heap.get?_push_of_some _ e) (Nat.le_refl _) ⟨_,_,_,Heap.get?_push_size _ rfl⟩,rfl,q _ (I1.hok.fresh (Nat.le_refl _))⟩
end
theorem cM.there{P:Program}{w:World}{H:Hp}{h:Heap}{a:Addr}{o:HO}(x:cM P w H h a o):∃ob,h.get? a=some ob:=by
 cases o with
 |lst xs=>obtain⟨_,_,_,_,e⟩:=x;exact⟨_,e⟩
 |tup xs=>obtain⟨_,_,_,p⟩:=x;obtain⟨o,e,_⟩:=p;exact⟨o,e⟩
 |dK kvs=>obtain⟨_,_,_,_,o,_,_,e,_⟩:=x;exact⟨o,e⟩
 |dT kvs=>obtain⟨_,_,_,_,o,_,_,e,_⟩:=x;exact⟨o,e⟩
 |set S n=>obtain⟨o,_,_,_,e,_⟩:=x;exact⟨o,e⟩
 |ins C dx fs=>obtain⟨_,_,_,e,_⟩:=x;exact⟨_,e⟩
 |own y=>obtain⟨o,e⟩:=x;exact⟨o,e⟩
 |xd fs=>obtain⟨_,⟨o,_,_,e,_⟩,_⟩:=x;exact⟨o,e⟩
 |rng lo hi=>obtain⟨_,_,_,e⟩:=x;exact⟨_,e⟩
 |d8 ob u=>obtain⟨e,_⟩:=x;exact⟨_,e⟩
 |tbl ps=>exact⟨_,(show h.get? a=some _ from x)⟩
 |met f y=>exact⟨_,(show h.get? a=some _ from x)⟩
 |ext φ=>obtain⟨_,⟨o,e⟩,_⟩:=x;exact⟨o,e⟩
section
variable{X:Cx}{pins:List (Addr×Obj)}{σ:St}{H:Hp}{s:Shared}{h':Heap}
theorem Inv.laidN{a:Addr}{o:HO}{t':Nat}(I:Inv X pins σ H s)(k:∀b u,s.heap.get? b=some u→b≠X.env.locals→h'.get? b=some u)(ns:∀m,s.heap.Ns X.env.locals m→h'.Ns X.env.locals m)
  (hp:∀b u,s.heap.get? b=some u→b≠a) (new:cM X.prog X.w (upd H a o) h' a o):Inv X pins σ (upd H a o) { s with heap:=h',toks:=t' }:=by
 have hn:H a=none:=by
  cases q:H a with
  |none=>rfl
  |some u=>
   obtain⟨ob,e⟩:=(I.hok a u q).there
   exact absurd rfl (hp a ob e)
 have hL:∀b u,H b=some u→b≠X.env.locals:=fun b u e z=>by rw[z,I.free]at e;cases e
 refine I.step (g':=s.gens) (d':=s.drawn) (ch:=[]) (fun _ z=>nomatch z) (fun b ob hb _ _ e _=>k b ob e hb) (fun b ob hb _ _ e _=>⟨ob.slots,k b ob e hb⟩)
  (fun b ob _ e n=>by rw[aB (hp b ob e)];exact n) (fun b ob _ e=>?_) (fun b xs q=>by rw[aB (aL q hn)];exact q) (fun b ob u q=>by rw[aB (aL q hn)];exact q)
  (fun b ps q=>⟨#[],by rw[aB (aL q hn),q];simp⟩) ns (fun b u e=>?_) I.bare
 ·by_cases hb:b=X.env.locals
  ·obtain⟨m,hm,_⟩:=I.loc
   obtain⟨o',_,_,e',_⟩:=ns m hm
   exact⟨o',by rw[hb];exact e'⟩
  ·exact⟨ob,k b ob e hb⟩
 ·by_cases hb:b=a
  ·subst hb;rw[ao]at e;cases e;exact new
  ·rw[aB hb]at e
   refine (I.hok b u e).stay (fun c v hc q=>k c v q ?_) (fun c q=>by rw[aB (aL q hn)];exact q) fun c xs q=>by rw[aB (aL q hn)];exact q
   rcases hc with z|z
   ·rw[z];exact hL b u e
   ·exact hL c _ z
theorem Inv.grown{P c:Addr}{ps more:Array Value}{φ:Heap→Prop}{t':Nat}(I:Inv X pins σ H s)(hP:H P=some (.tbl ps))(hx:Heap.ExtBut P s.heap h')(hc:s.heap.objs.size≤c)
  (hP':h'.get? P=some { cls:=.none,data:=.fields (ps++more) }) (new:cM X.prog X.w (upd (upd H P (.tbl (ps++more))) c (.ext φ)) h' c (.ext φ)):
  Inv X pins σ (upd (upd H P (.tbl (ps++more))) c (.ext φ)) { s with heap:=h',toks:=t' }:=by
 have hn:H c=none:=I.hok.fresh hc
 have nPc:P≠c:=aL hP hn
 have old:∀b u,H b=some u→b≠P→(upd (upd H P (.tbl (ps++more))) c (.ext φ)) b=some u:=fun b u e hb=>by
  rw[aB (aL e hn),aB hb];exact e
 have nP:∀b,H b=none→b≠P:=fun b e z=>by rw[z,hP]at e;cases e
 have lt:∀b o,s.heap.get? b=some o→b≠c:=fun b o e=>Nat.ne_of_lt (Nat.lt_of_lt_of_le (Heap.lt_size e) hc)
 refine I.un ⟨fun b ob q n _ _=>hx b ob (nP b n) q,fun b ob q n _ _=>⟨ob.slots,hx b ob (nP b n) q⟩,fun b ob q n _=>?_,fun b ob q _=>?_,fun b xs q=>old b _ q ?_,fun b ob u q=>old b _ q ?_,fun b qs q=>?_⟩ fun b u e=>?_
 ·rw[aB (lt b ob q),aB (nP b n)];exact n
 ·by_cases hb:b=P
  ·rw[hb];exact⟨_,hP'⟩
  ·exact⟨ob,hx b ob hb q⟩
 ·exact bI q hP (fun z=>nomatch z)
 ·exact bI q hP (fun z=>nomatch z)
 ·by_cases hb:b=P
  ·subst hb
   rw[hP]at q
   cases q
   exact⟨more,by rw[aB nPc,ao]⟩
  ·exact⟨#[],by rw[old b _ q hb];simp⟩
 ·by_cases hb:b=c
  ·subst hb;rw[ao]at e;cases e;exact new
  ·rw[aB hb]at e
   by_cases hb2:b=P
   ·subst hb2
    rw[ao]at e
    cases e
    exact hP'
   ·rw[aB hb2]at e
    refine (I.hok b u e).stay (fun d v hd q=>hx d v ?_ q) (fun d q=>old d _ q ?_) fun d xs q=>old d _ q (bI q hP (fun z=>nomatch z))
    ·rcases hd with z|z
     ·rw[z];exact hb2
     ·exact bI z hP (fun z=>nomatch z)
    ·exact bI q hP (fun z=>nomatch z)
end
abbrev cdO(c:Addr)(q:Str):HO:=.ext fun h=>h.CodeRec (.ref c) q
theorem cdO_ok{P:Program}{w:World}{H:Hp}{h:Heap}{c:Addr}{q:Str}(x:h.CodeRec (.ref c) q):cM P w H h c (cdO c q):=by
 refine⟨x,?_,fun h1 h2 y k=>?_⟩
 ·obtain⟨c0,o,_,_,e,g,_⟩:=x
  cases e
  exact⟨o,g⟩
 ·obtain⟨c0,o,vs,t,e,g,d,r⟩:=y
  cases e
  exact⟨c,o,vs,t,rfl,k o g,d,r⟩
def fj(P:Addr)(pos:Pos)(q:Str)(H:Hp):Prop:=∃ps:Array Value,H P=some (.tbl ps)∧TriplesOk ps.toList∧(codeAmong pos ps.toList=none∨∃c,codeAmong pos ps.toList=some (.ref c)∧H c=some (cdO c q))
theorem fj.ext{P:Addr}{pos:Pos}{q:Str}{H H':Hp}(x:fj P pos q H)(k:∀b o,H b=some o→H' b=some o):fj P pos q H':=by
 obtain⟨ps,h1,h2,h3⟩:=x
 refine⟨ps,k _ _ h1,h2,?_⟩
 rcases h3 with h3|⟨c,h3,h4⟩
 ·exact .inl h3
 ·exact .inr ⟨c,h3,k _ _ h4⟩
structure mz(mg:Str→Option Value)(base:Heap)(c P:Addr):Prop where
 code:PySem.W.CodeHd base c P
 bm:base.BuiltinsAt mg P
structure LamNeg(x y:Str)(params:Arguments)(body:Expr)(scope:Scope):Prop where
 kind:scope.kind=.function
 co:scope.isCoroutine=false
 gen:scope.isGenerator=false
 nc:∀z∈scope.names,z.2≠.cell
 hx:scope.names.lookup x=some .free
 hy:scope.names.lookup y=some .local
 fr:∀z∈scope.names,z.2=.free→z.1=x
 dx:(x==("__debug__":Str))=false
 dy:(y==("__debug__":Str))=false
 cx:(x==("__classdict__":Str))=false
 bind:∀(qual:Str) (clos:List (Str×Addr)) (pm cd ctv v:Value),bindArgs (PySem.W.kla_fn "<lambda>" qual params body scope clos pm cd ctv) ⟨[v],[]⟩=pure [(y,v)]
theorem clo_one{x:Str}{cells:List (Str×Addr)}{c:Addr}(hc:cells.lookup x=some c):∀(names:List (Str×NameKind)) (acc:List (Str×Addr)),(∀z∈names,z.2=.free→z.1=x)→((x,NameKind.free)∈names∨acc.lookup x=some c)→(∀p∈acc,p.1=x)→(∀p∈acc,p.2=c)→
  (bC cells names acc).lookup x=some c
 |[],acc,_,h,_,_=>by
  rcases h with h|h
  ·cases h
  ·exact h
 |(n,k)::r,acc,hf,h,ha,hb=>by
  unfold bC
  split
  ·rename_i hk
   have hk:k=.free:=by simpa using hk
   have hn:n=x:=hf (n,k) List.mem_cons_self hk
   subst hn
   refine clo_one hc r _ (fun z hz=>hf z (List.mem_cons_of_mem _ hz)) (.inr ?_) (fun p hp=>?_) fun p hp=>?_
   ·rw[List.lookup_cons];simp[hc]
   ·rcases List.mem_cons.mp hp with e|hp
    ·rw[e]
    ·exact ha p hp
   ·rcases List.mem_cons.mp hp with e|hp
    ·rw[e,hc];rfl
    ·exact hb p hp
  ·rename_i hk
   refine clo_one hc r acc (fun z hz=>hf z (List.mem_cons_of_mem _ hz)) ?_ ha hb
   rcases h with h|h
   ·rcases List.mem_cons.mp h with e|h
    ·cases e;simp at hk
    ·exact .inl h
   ·exact .inr h
theorem lookup_mem{x:Str}{k:NameKind}:∀{l:List (Str×NameKind)},l.lookup x=some k→(x,k)∈l
 |[],h=>by cases h
 |(n,j)::r,h=>by
  rw[List.lookup_cons]at h
  cases hb:x==n with
  |true=>
   rw[hb]at h
   have e:j=k:=Option.some.inj h
   have e2:x=n:=eq_of_beq hb
   rw[e,e2]
   exact List.mem_cons_self
  |false=>
   rw[hb]at h
   exact List.mem_cons_of_mem _ (lookup_mem h)
section
variable{X:Cx}{pins:List (Addr×Obj)}{σ:St}{H:Hp}{s:Shared}
theorem Inv.ledger{h:Heap}{m:Str→Option Value}{more:List (Addr×Obj)}(I:Inv X pins σ H s)(F:Fr X.base X.env.locals h m)(N:News X.base X.env.locals h (allNews X.base s.heap X.env.locals++more)):
  ∀b o,s.heap.get? b=some o→b≠X.env.locals→h.get? b=some o:=fun b o e hb=>by
 cases q:X.base.get? b with
 |some u=>
  have e2:=I.bk b u q
  rw[e]at e2
  cases e2
  exact F.keep b _ q
 |none=>exact (N (b,o) (List.mem_append_left _ (mem_allNews hb q e))).1
def jm(rs:List Int)(z:Int):Int:=-(rs.getD z.toNat 0)
theorem sortedNeg_call{i n:Nat}{x y:Str}{params:Arguments}{p1 p2 p3 p4:Pos}{scope:Scope}{qual:Str}{pm ctv:Value}{c' f r a:Addr}{rs:List Int}{Q:VK}(hc:X.calm=true)(hroom:X.A.depth<recursionLimit)(I:Inv X pins σ H s)
  (L:LamNeg x y params (.UnaryOp .USub (.Subscript (.Name x p1) (.Name y p2) p3) p4) scope) (hN:X.N[i]?=some x) (hxc:X.env.scope.names.lookup x=some .cell)
  (hf:s.heap.get? f=some (PySem.W.kla_obj "<lambda>" qual params (.UnaryOp .USub (.Subscript (.Name x p1) (.Name y p2) p3) p4) scope (bC X.env.cells scope.names []) pm c' ctv)) (hcd:s.heap.CodeRec (.ref c') qual)
  (hr:H r=some (.rng 0 n)) (hn:n≤2 ^ 20) (hi:σ[i]?=some (some (.ref a))) (ha:H a=some (.lst (rs.map V.int))) (hlen:rs.length=n)
  (hQ:∀(D:Addr) (ns':List Int),H D=none→ns'.Perm ((List.range n).map fun(k:Nat)=>(k:Int))→ns'.Pairwise (fun u v=>jm rs u≤jm rs v)→(∀z,ns'.filter (fun u=>jm rs u==z)=((List.range n).map fun(k:Nat)=>(k:Int)).filter (fun u=>jm rs u==z))→
   Q (.ref D) (upd H D (.lst (ns'.map V.int)))):
  wpAny (model X.prog X.w) X.A (call (.builtin "sorted") [.ref r] [(Str.ofString "key",.ref f)]) (EP X pins σ Q) X.xe s:=by
 obtain⟨m,F⟩:=I.fr
 have N:News X.base X.env.locals s.heap (allNews X.base s.heap X.env.locals):=news_all
 obtain⟨t1,t2,t3,er⟩:∃t u v,s.heap.get? r=some { cls:=.type "range",data:=.fields #[.int 0 t,.int n u,.int 1 v] }:=I.hok r _ hr
 obtain⟨its,nn,rv,el,hz⟩:=I.lst ha
 have hints:IntsAre its rs:=intsAre_of rv
 obtain⟨m2,hns2,hl2⟩:=I.loc
 obtain⟨u,ru,hlook⟩:=hl2 i x (.ref a) hN hi (.inr (.inl hxc))
 cases ru
 have hcell:∃cc,X.env.cells.lookup x=some cc∧s.heap.IsCell cc (some (.ref a)):=by
  rcases hlook with⟨hk,_⟩|⟨_,cc,h1,h2⟩
  ·have hk':X.env.scope.names.lookup x=some .local:=hk
   rw[hxc]at hk';cases hk'
  ·exact⟨cc,h1,h2⟩
 obtain⟨cc,hcc,hcv⟩:=hcell
 have hclo:(bC X.env.cells scope.names []).lookup x=some cc:=clo_one hcc scope.names [] L.fr (.inl (lookup_mem L.hx)) (fun _ h=>nomatch h) (fun _ h=>nomatch h)
 obtain⟨oL,esL,epL,eL,dL,_⟩:=id hns2
 have nfL:f≠X.env.locals:=fun z=>by rw[z,eL]at hf;cases hf;cases dL
 have naL:a≠X.env.locals:=fun z=>by rw[z,I.free]at ha;cases ha
 have ncL:∀o,s.heap.get? c'=some o→c'≠X.env.locals:=fun o _ z=>by
  obtain⟨c0,o0,vs0,t0,e0,g0,d0,_⟩:=hcd
  cases e0
  rw[z,eL]at g0;cases g0;rw[dL]at d0;cases d0
 refine PySem.W.sorted_range (b:=false) (f:=.ref f) (jm rs) (I.ok.hd hc) F N er (small_one (by decide) (by decide) (by omega) (by omega)) (by rw[rangeSize_one];split <;> omega) hn (PyProof.Rows.ksk_s1 _ _) (fun z=>PyProof.Rows.ksk_l1 _ _) (fun z=>PyProof.Rows.ksk_t1 _ _) (fun k t hk h tk own F' N'=>?_)
  fun D ns' out c h' tk F' N' hD hI hP hO hSt=>?_
 ·have kp:=I.ledger F' N'
  have hkr:rs[k]?=some (rs.getD k 0):=by
   rw[List.getD_eq_getElem?_getD,List.getElem?_eq_getElem (by omega)]
   rfl
  have hcd':h.CodeRec (.ref c') qual:=by
   obtain⟨c0,o0,vs0,t0,e0,g0,d0,v0⟩:=hcd
   cases e0
   exact⟨c',o0,vs0,t0,rfl,kp _ _ g0 (ncL _ g0),d0,v0⟩
  obtain⟨oc,ec,dc⟩:=hcv
  have z:=PySem.W.lam_neg (prog:=X.prog) (w:=X.w) (A:=X.A.in1.in1) (s:=s) (tk:=tk) (t:=t) hroom (I.ok.mod.nolimit.keeps F'.keep) (kp _ _ hf nfL) hcd' hclo ⟨oc,kp _ _ ec (I.cne x cc hcc),dc⟩ ⟨_,kp _ _ el naL,rfl,nn,rfl⟩ hints hkr (by rw[hlen,sizeLine_eq];omega)
   L.kind L.co L.gen L.nc L.hx L.hy L.dx L.dy L.cx (L.bind _ _ _ _ _)
  have e0:(0:Int)+(k:Nat)=(k:Nat):=by omega
  rw[e0]
  refine wpAny_mono z (fun v s' hv=>?_) fun _ _ q=>q
  obtain⟨h2,tk2,t2',rfl,rfl,keep⟩:=hv
  have e2:jm rs ((k:Nat):Int)=-rs.getD k 0:=by simp[jm]
  rw[e2]
  exact⟨h2,tk2,t2',rfl,rfl,F'.kept keep,N'.grown keep⟩
 ·have kp:∀b o,s.heap.get? b=some o→b≠X.env.locals→h'.get? b=some o:=I.ledger (more:=[]) F' (by rw[List.append_nil];exact fun p hp=>N' p (List.mem_cons_of_mem _ hp))
  have e0:((List.range n).map fun(i:Nat)=>(0:Int)+i)=(List.range n).map fun(k:Nat)=>(k:Int):=by
   congr 1
   funext k
   omega
  rw[e0]at hP hSt
  have hlen':ns'.length=n:=by
   rw[hP.length_eq];simp
  refine⟨.ref D,upd H D (.lst (ns'.map V.int)),I.laidN (t':=tk) (fun b o e hb=>kp b o e hb) (fun m' hm'=>?_) hD ?_,rfl,hQ D ns' ?_ hP ?_ hSt⟩
  ·have e1:=hm'.eq_nsMap
   have e2:=F.ns.eq_nsMap
   rw[e1,←e2]
   exact F'.ns
  ·exact⟨by rw[List.length_map,hlen',sizeLine_eq];omega,out.toList,c,vals_ints hI,by have:=(N' _ List.mem_cons_self).1;simpa using this⟩
  ·cases q:H D with
   |none=>rfl
   |some u=>
    obtain⟨ob,e⟩:=(I.hok D u q).there
    exact absurd rfl (hD D ob e)
  ·simpa using hO
end
theorem boot_sorted:bootBuiltins "sorted"=some (.builtin "sorted"):=by decide +kernel
def tRngV(ta:TA):TE:=fun σ H Q=>ta σ H fun vs H1=>∃j:Int,vs=[.int j]∧-(2 ^ 62)≤j∧j<2 ^ 62∧∀r,H1 r=none→Q (.ref r) (upd H1 r (.rng 0 j))
def srtNeg(P:Addr)(oH:Pos)(q:Str)(i:Nat)(σ:St)(Q:VK)(us:List V)(H1:Hp):Prop:=∃(r:Addr) (H0:Hp) (n:Nat) (a:Addr) (rs:List Int),us=[V.ref r]∧H0 r=none∧H1=upd H0 r (.rng 0 (n:Nat))∧n≤2 ^ 20∧σ[i]?=some (some (.ref a))∧H0 a=some (.lst (rs.map V.int))∧rs.length=n∧fj P oH q H0∧
  ∀(D:Addr) (ns':List Int) (H2:Hp),H0 D=none→(∀b o,H0 b=some o→b≠P→H2 b=some o)→fj P oH q H2→H2 D=some (.lst (ns'.map V.int))→
   ns'.Perm ((List.range n).map fun(k:Nat)=>(k:Int))→ns'.Pairwise (fun u v=>jm rs u≤jm rs v)→(∀z,ns'.filter (fun u=>jm rs u==z)=((List.range n).map fun(k:Nat)=>(k:Int)).filter (fun u=>jm rs u==z))→Q (.ref D) H2
def tSrtNeg(P:Addr)(oH:Pos)(q:Str)(i:Nat)(ta:TA):TE:=fun σ H Q=>tCons (tRngV ta) tNil σ H (srtNeg P oH q i σ Q)
theorem triples_snoc:∀(l:List Value) (pos:Pos) (c:Value),TriplesOk l→TriplesOk (l++[rawInt pos.line,rawInt pos.col,c]):=by
 intro l pos c h
 fun_induction TriplesOk l with
 |case1=>exact True.intro
 |case2 a b c' d e rest ih=>exact ih h
 |case3 l h1 h2=>exact h.elim
section
variable{X:Cx}
theorem pe_sortedNeg{i:Nat}{x y:Str}{e:Expr}{ta:TA}{pS pR pr p1 p2 p3 p4 oH kpos pos:Pos}{params:Arguments}{scope:Scope}{c P:Addr}(hc:X.calm=true)(hroom:X.A.depth<recursionLimit)(hL:mz X.mg X.base c P)(hcode:X.env.code=.ref c)
  (hgS:Gl X "sorted") (hmS:X.mg "sorted"=none) (hgR:Gl X "range") (hmR:X.mg "range"=none) (hN:X.N[i]?=some x) (hxc:X.env.scope.names.lookup x=some .cell) (ha:PA X [e] ta)
  (L:LamNeg x y params (.UnaryOp .USub (.Subscript (.Name x p1) (.Name y p2) p3) p4) scope) (hdef:defaultsOf params X.env=([],[]))
  (hs:starEach [e] X.env=[(false,eval e X.env)]:=by rfl)
  (hs2:starEach [(.Call (.Name "range" pR) [e] [] pr:Expr)] X.env=(false,eval (.Call (.Name "range" pR) [e] [] pr) X.env)::starEach [] X.env:=by rfl):
  PE X (.Call (.Name "sorted" pS) [.Call (.Name "range" pR) [e] [] pr] [⟨some "key",.Lambda params (.UnaryOp .USub (.Subscript (.Name x p1) (.Name y p2) p3) p4) scope oH,kpos⟩] pos) (tSrtNeg P oH (X.env.qual++"<lambda>") i ta):=by
 intro pins s σ H Q I h
 refine wpAny_Call_Name_kw (oJ I hgS hmS boot_sorted ?_ (by decide) (by decide))
 refine PyProof.Rows.callWith_kw ?_
 refine dw ((aj (pe_rangeV hgR hmR ha hs) ak hs2) pos pins s σ H (srtNeg P oH (X.env.qual++"<lambda>") i σ Q) I h) ?_
 rintro us s1 ⟨vs,H1,I1,r1,r,H0,n,a,rs,e1,hr0,e2,hn,hi,haL,hlen,hT,hQ⟩
 subst e1 e2
 obtain⟨ur,eu,rr⟩:=vals1 r1
 subst eu
 cases rr
 have haL1:(upd H0 r (.rng 0 (n:Nat))) a=some (.lst (rs.map V.int)):=by rw[aB (aL haL hr0)];exact haL
 obtain⟨ps,hP,htr,hcase⟩:=hT
 have hP1:(upd H0 r (.rng 0 (n:Nat))) P=some (.tbl ps):=by rw[aB (aL hP hr0)];exact hP
 have old1:∀b o,H0 b=some o→(upd H0 r (.rng 0 (n:Nat))) b=some o:=fun b o q=>by rw[aB (aL q hr0)];exact q
 have oP:s1.heap.get? P=some (PySem.W.tabObj ps):=I1.hok P _ hP1
 have hg1:s1.heap.Ns mainGlobals X.mg:=I1.mod.glob.keeps I1.bk
 have hgP:mainGlobals≠P:=fun z=>by
  obtain⟨o,_,_,eo,_⟩:=I1.mod.glob
  have q:=(I1.bs _ _ eo).2
  rw[z,hP1]at q;cases q
 have hb1:s1.heap.BuiltinsAt X.mg P:=by
  obtain⟨bm,ob,b1,b2,b3,b4,b5,b6⟩:=hL.bm
  exact⟨bm,ob,b1,b2,b3,b4,I1.bk _ _ b5,b6⟩
 have C1:=hL.code.keeps I1.bk
 obtain⟨cx,hcx⟩:∃cc,X.env.cells.lookup x=some cc:=I1.ok.has x (.inl hxc)
 have hclos:closureFor scope X.env=pure (bC X.env.cells scope.names []):=closure_ok fun z hz hk=>⟨cx,by rw[L.fr z hz hk];exact hcx⟩
 refine PyProof.Rows.kws_cons (PySem.W.kla_eval hdef ?_)
 have fin:∀(H3:Hp) (s3:Shared) (c' f:Addr) (pm ctv:Value),Inv X pins σ H3 s3→s3.heap.get? f=some (PySem.W.kla_obj "<lambda>" (X.env.qual++"<lambda>") params (.UnaryOp .USub (.Subscript (.Name x p1) (.Name y p2) p3) p4) scope (bC X.env.cells scope.names []) pm c' ctv)→
   s3.heap.CodeRec (.ref c') (X.env.qual++"<lambda>")→(∀b o,(upd H0 r (.rng 0 (n:Nat))) b=some o→b≠P→H3 b=some o)→fj P oH (X.env.qual++"<lambda>") H3→
   wpAny (model X.prog X.w) X.A (call (.builtin "sorted") [.ref r] [(Str.ofString "key",.ref f)]) (EP X pins σ Q) X.xe s3:=fun H3 s3 c' f pm ctv I3 hf hcd k3 t3=>by
  have nrP:r≠P:=(aL hP hr0).symm
  have naP:a≠P:=bI haL hP (fun z=>nomatch z)
  refine sortedNeg_call hc hroom I3 L hN hxc hf hcd (k3 r _ ao nrP) hn hi (k3 a _ haL1 naP) hlen fun D ns' hD h1 h2 h3=>?_
  have hD0:H0 D=none:=by
   cases q:H0 D with
   |none=>rfl
   |some o=>
    by_cases z:D=P
    ·obtain⟨ps3,hp3,_⟩:=t3
     rw[z,hp3]at hD;cases hD
    ·rw[k3 D o (old1 D o q) z]at hD;cases hD
  refine hQ D ns' _ hD0 (fun b o q hb=>?_) (t3.ext fun b o q=>by rw[aB (aL q hD)];exact q) ao h1 h2 h3
  have q3:=k3 b o (old1 b o q) hb
  rw[aB (aL q3 hD)]
  exact q3
 rcases hcase with hno|⟨c',hhit,hcO⟩
 ·refine PySem.W.kla_makeFunction (mg:=X.mg) hclos I1.ok.glob hg1 hcode C1 oP htr hno hgP hb1 fun c' ctv h' tk hx hge hlt hrec htb=>PyProof.Rows.kws_nil ?_
  have I2:=I1.grown (t':=tk) hP1 hx hge htb (cdO_ok hrec)
  have hcn:(upd H0 r (.rng 0 (n:Nat))) c'=none:=I1.hok.fresh hge
  have hPc:P≠c':=aL hP1 hcn
  refine fin _ _ c' h'.objs.size _ ctv (I2.kept (h':=h'.push _) (t':=tk) fun b o q=>Heap.get?_push_of_some _ q) (Heap.get?_push_size _ rfl) (hrec.push _) (fun b o q hb=>by rw[aB (aL q hcn),aB hb];exact q) ?_
  refine⟨_,by rw[aB hPc,ao],?_,.inr ⟨c',?_,ao⟩⟩
  ·rw[Array.toList_append]
   exact triples_snoc _ _ _ htr
  ·rw[Array.toList_append]
   exact codeAmong_snoc _ htr hno
 ·refine PySem.W.kla_makeFunctionHit (mg:=X.mg) hclos I1.ok.glob hg1 hcode C1 oP htr hhit hb1 fun ctv h' tk hk hsz=>PyProof.Rows.kws_nil ?_
  have hcO1:=old1 _ _ hcO
  obtain⟨hrec,_⟩:=I1.hok c' _ hcO1
  refine fin (upd H0 r (.rng 0 (n:Nat))) _ c' h'.objs.size _ ctv (I1.kept (h':=h'.push _) (t':=tk) fun b o q=>Heap.get?_push_of_some _ (hk b o q)) (Heap.get?_push_size _ rfl) ((hrec.keeps hk).push _) (fun b o q _=>q) ⟨ps,hP1,htr,.inr ⟨c',hhit,hcO1⟩⟩
end
theorem boot_any:bootBuiltins "any"=some (.builtin "any"):=by decide +kernel
section
variable{X:Cx}
theorem any_bools(bs:List Bool):((List.range bs.length).any fun i=>bs.getD i false)=bs.any id:=by
 rw[Bool.eq_iff_iff,List.any_eq_true,List.any_eq_true]
 constructor
 ·rintro⟨i,hi,h⟩
  have hi':=List.mem_range.mp hi
  rw[List.getD_eq_getElem?_getD,List.getElem?_eq_getElem hi']at h
  exact⟨_,List.getElem_mem hi',h⟩
 ·rintro⟨b,hb,h⟩
  obtain⟨i,hi,e⟩:=List.getElem_of_mem hb
  refine⟨i,List.mem_range.mpr hi,?_⟩
  rw[List.getD_eq_getElem?_getD,List.getElem?_eq_getElem hi,e]
  exact h
theorem call_anyL(hc:X.calm=true):lF X (.builtin "any") (fun xs H Q=>∃(a:Addr) (bs:List Bool),xs=[V.ref a]∧bh X.K H a (bs.map V.bl)∧Q (.bl (bs.any id)) H):=by
 intro pins s σ H xs us Q I r h
 obtain⟨a,bs,rfl,hq,q⟩:=h
 obtain⟨u,rfl,ru⟩:=vals1 r
 cases ru
 obtain⟨its,rv,pl,hz⟩:=I.list hq
 have hlen:bs.length=its.length:=by
  have:=rv.length
  rw[List.length_map]at this
  exact this
 refine PySem.call_any_walk (iter_list (M:=model X.prog X.w) pl.isList fun s2 e st hfp hne=>?_)
 subst e
 refine⟨_,_,_,_,_,_,fun i=>bs.getD i false,rfl,Walks.list (A:=X.A.in1) (I.ok.hd hc) _ a hne its.toArray,st,?_,fun h' tk hk=>?_⟩
 ·intro i v s' Q' E' hP hQ
  have hv:its[i]?=some v:=by simpa using hP
  have hi:i<bs.length:=by
   have:=(List.getElem?_eq_some_iff.mp hv).1
   omega
  obtain⟨w',e1,e2⟩:=rv.get (i:=i) (x:=.bl (bs.getD i false)) (by rw[List.getElem?_map,List.getD_eq_getElem?_getD,List.getElem?_eq_getElem hi];rfl)
  rw[hv]at e1
  cases e1
  cases e2
  exact wpAny_truthy_bool hQ
 ·have e:its.toArray.size=bs.length:=by simp[hlen]
  rw[e,any_bools]
  exact⟨.bl _,H,I.kept (h':=h') (t':=tk) (fun b o hb=>hk b o (by simp;exact Nat.ne_of_lt (Heap.lt_size hb)) (Heap.get?_push_of_some _ hb)),rfl,q⟩
theorem call_len_seqK{K:PySem.W.Frag}(hK:X.K=K):lF X (.builtin "len") (fun xs H Q=>∃p ys,xs=[.ref p]∧(bh K H p ys∨jh K H p ys)∧Q (.int ys.length) H):=by
 subst hK;exact bL
end
theorem ints_at:∀{kvs:List (Key×V)}{vs:List (Key×Value)}{ns:List Int},KV kvs vs→kvs.map (·.1)=ns.map Sum.inl→∀(j:Nat) (k:Key) (x:Value),vs[j]?=some (k,x)→∃i,ns[j]?=some i∧k=.inl i
 |_,_,[],.nil,_,j,k,x,h=>by simp at h
 |_,_,_::_,.nil,e,_,_,_,_=>nomatch e
 |_,_,[],.cons _ _,e,_,_,_,_=>nomatch e
 |_,_,n::ns,.cons r t,e,0,k,x,h=>by
  have e1:=Option.some.inj h
  rw[List.map_cons,List.map_cons]at e
  have e2:=(List.cons.inj e).1
  refine⟨n,rfl,?_⟩
  rw[←e2,r.1,e1]
 |_,_,n::ns,.cons r t,e,j+1,k,x,h=>by
  rw[List.map_cons,List.map_cons]at e
  exact ints_at (ns:=ns) t (List.cons.inj e).2 j k x h
theorem ints_all:∀{its:List Value}{ns:List Int},its.length=ns.length→(∀(j:Nat) (v:Value),its[j]?=some v→∃i t,ns[j]?=some i∧v=Value.int i t)→IntsAre its ns
 |[],[],_,_=>.nil
 |[],_::_,h,_=>nomatch h
 |_::_,[],h,_=>nomatch h
 |v::its,n::ns,h,k=>by
  obtain⟨i,t,e1,e2⟩:=k 0 v rfl
  have e3:n=i:=Option.some.inj e1
  subst e3
  rw[e2]
  exact .cons _ t (ints_all (by simpa using h) fun j u hu=>k (j+1) u hu)
section
variable{X:Cx}
def rSortedD:List V→Hp→VK→Prop:=fun vs H Q=>∃(a:Addr) (kvs:List (Key×V)) (ns:List Int),vs=[V.ref a]∧H a=some (.dK kvs)∧kvs.map (·.1)=ns.map Sum.inl∧
 ∀(ns':List Int) (p:Addr),ns'.Perm ns→ns'.Pairwise (·≤·)→H p=none→Q (.ref p) (upd H p (.lst (ns'.map V.int)))
theorem call_sortedD(hc:X.calm=true):lF X (.builtin "sorted") rSortedD:=by
 intro pins s σ H vs us Q I r h
 obtain⟨a,kvs,ns,rfl,e,ek,q⟩:=h
 rw[Vals.ref1 r]
 obtain⟨z,hd,ws,rel,dd⟩:=dk_of I.hok e
 obtain⟨ep,hat⟩:=dd.dictAt
 obtain⟨m,F⟩:=I.fr
 have N:News X.base X.env.locals s.heap (allNews X.base s.heap X.env.locals):=news_all
 have hl0:kvs.length=ws.length:=Paired.length rel
 have hl1:kvs.length=ns.length:=by have:=congrArg List.length ek;simpa using this
 refine PySem.W.kdu_sorted (PySem.W.kdl_dict (knd:=bK X.prog X.w) (kvs:=ws) (ep:=ep) hd) (I.ok.hd hc) F N hat (by rw[←hl0];exact z) fun D h' tk its F' N' l1 hl hv=>?_
 have hi:IntsAre its ns:=ints_all (by omega) fun j v hj=>by
  obtain⟨k,x,hx,hk⟩:=hv j v hj
  obtain⟨i,hi,rfl⟩:=ints_at rel ek j k x hx
  rcases cY (k:=.inl i) (v:=v) hk with⟨i',t,e1,e2⟩|⟨x',t,e1,_⟩
  ·cases e1
   exact⟨i,t,hi,e2⟩
  ·cases e1
 have hD:=(N' (D,PySem.W.listOf its.toArray 0) List.mem_cons_self)
 have hob:h'.get? D=some (seqObj "list" its.toArray 0):=hD.1
 have kp:∀b o,s.heap.get? b=some o→b≠X.env.locals→h'.get? b=some o:=I.ledger (more:=[]) F' (by rw[List.append_nil];exact fun p hp=>N' p (List.mem_cons_of_mem _ hp))
 have fresh:∀b o,s.heap.get? b=some o→b≠D:=fun b o hb zD=>by
  by_cases hL:b=X.env.locals
  ·exact hD.2.1 (zD ▸ hL)
  ·cases qb:X.base.get? b with
   |some u=>rw[zD,hD.2.2]at qb;cases qb
   |none=>
    have:=l1 (b,o) (mem_allNews hL qb hb)
    have h2:b<D:=this
    rw[zD]at h2
    exact Nat.lt_irrefl _ h2
 have hz:its.length≤sizeLine:=by rw[hl,←hl0];exact z
 refine wpAny_call_entry PyProof.Rows.slot_list_sort ⟨_,hob,rfl⟩ PyProof.Rows.entry_list_sort
  (PyProof.Rows.list_sort_treeAny hob hi hz fun out ns' h1 h2 h3=>⟨.none,rfl,?_⟩) (PyProof.Rows.args_list_sort _)
 obtain⟨ep',he'⟩:=PyProof.Rows.sortedHeap_at (vs:=its) (out:=out) hob
 have hlen:(ns'.map V.int).length≤sizeLine:=by rw[List.length_map,h2.length_eq,←hl1];exact z
 have kp2:∀b o,h'.get? b=some o→b≠D→(sortedHeap h' D its out).get? b=some o:=fun b o hb hn=>by rw[PyProof.Rows.sortedHeap_old hn (Heap.lt_size hb)];exact hb
 refine⟨.ref D,upd H D (.lst (ns'.map V.int)),I.laidN (t':=tk) (fun b o hb hn=>kp2 b o (kp b o hb hn) (fresh b o hb)) (fun m' hm'=>?_) fresh ⟨hlen,out.toList,ep',vals_ints h1,he'⟩,rfl,q ns' D h2 h3 ?_⟩
 ·have e1:=hm'.eq_nsMap
  have e2:=F.ns.eq_nsMap
  rw[e1,←e2]
  obtain⟨oL,es1,ep1,eL,rest⟩:=F'.ns
  exact⟨oL,es1,ep1,kp2 _ _ eL (fun z=>hD.2.1 z.symm),rest⟩
 ·cases qq:H D with
  |none=>rfl
  |some u=>
   obtain⟨ob,e'⟩:=(I.hok D u qq).there
   exact absurd rfl (fresh D ob e')
end
end L2
namespace QZ
open PySem
section
variable{prog:Program}{w:World}{A:Around}{E:Value→Shared→Prop}{s:Shared}
theorem kh{it:Value}{Q:Option Value→Shared→Prop}(h:wpAny (model prog w) A (pyNext it) Q E s):wpAny (model prog w) A (Builtin.SmallTypes.nextOrEnd it) Q E s:=fun Γ p hΓ=>by
 have h1:=h Γ p hΓ
 unfold pyNext at h1
 unfold Builtin.SmallTypes.nextOrEnd Builtin.SmallTypes.nextOf
 rw[Sem.wp_bind',Sem.wp_attempt]at h1 ⊢
 rw[Sem.wp_bind']
 refine Sem.wp_mono _ Γ _ (fun r p' s' h'=>?_) (fun e p' s' h'=>h') p s h1
 cases r with
 |some v=>exact h'
 |none=>exact absurd h' (by simp[unsupported])
end
structure Src(prog:Program)(w:World)(A:Around)(it l:Addr)(xs:Array Value)(St:Nat→Heap→Prop):Prop where
 next:∀(k:Nat) (x:Value) (s:Shared) (Q:Option Value→Shared→Prop) (E:Value→Shared→Prop),xs[k]?=some x→St k s.heap→
  (∀h',Heap.SameBut it s.heap h'→St (k+1) h'→Q (some x) { s with heap:=h' })→wpAny (model prog w) A (Builtin.SmallTypes.nextOrEnd (.ref it)) Q E s
 done:∀(k:Nat) (s:Shared) (Q:Option Value→Shared→Prop) (E:Value→Shared→Prop),xs[k]?=none→St k s.heap→
  (∀h',Heap.ExtBut it s.heap h'→Q none { s with heap:=h' })→wpAny (model prog w) A (Builtin.SmallTypes.nextOrEnd (.ref it)) Q E s
 stay:∀(k:Nat) (a:Addr) (h h':Heap),St k h→Heap.ExtBut a h h'→it≠a→l≠a→St k h'
theorem src_list{prog:Program}{w:World}{A:Around}(hh:A.handled=none)(it l:Addr)(hne:l≠it)(xs:Array Value):Src prog w A it l xs (fun k h=>h.IsListIter it l k∧h.IsList l xs) where
 next:=fun k x s Q E hx st hQ=>kh (wpAny_pyNext_list_item st.1 st.2 hx fun h' i' sb=>hQ h' sb ⟨i',st.2.extBut sb.extBut hne⟩)
 done:=fun k s Q E hx st hQ=>kh (wpAny_pyNext_list_end hh st.1 st.2 hx fun h' eb=>hQ h' eb)
 stay:=fun k a h h' st eb h1 h2=>⟨st.1.extBut eb h1,st.2.extBut eb h2⟩
theorem tuple_ext{h h':Heap}{l a:Addr}{xs:Array Value}(x:h.IsTuple l xs)(eb:Heap.ExtBut a h h')(ne:l≠a):h'.IsTuple l xs:=by
 obtain⟨o,e,r⟩:=x
 exact⟨o,eb l o ne e,r⟩
theorem titer_ext{h h':Heap}{it l a:Addr}{k:Nat}(x:h.IsTupleIter it l k)(eb:Heap.ExtBut a h h')(ne:it≠a):h'.IsTupleIter it l k:=by
 obtain⟨o,e,r⟩:=x
 exact⟨o,eb it o ne e,r⟩
theorem src_tuple{prog:Program}{w:World}{A:Around}(hh:A.handled=none)(it l:Addr)(hne:l≠it)(xs:Array Value):Src prog w A it l xs (fun k h=>h.IsTupleIter it l k∧h.IsTuple l xs) where
 next:=fun k x s Q E hx st hQ=>kh (wpAny_pyNext_tuple_item st.1 st.2 hx fun h' i' sb=>hQ h' sb ⟨i',tuple_ext st.2 sb.extBut hne⟩)
 done:=fun k s Q E hx st hQ=>kh (wpAny_pyNext_tuple_end hh st.1 st.2 hx fun h' eb=>hQ h' eb)
 stay:=fun k a h h' st eb h1 h2=>⟨titer_ext st.1 eb h1,tuple_ext st.2 eb h2⟩
abbrev eY(h:Heap)(z TI TO:Addr)(f0:Value):Prop:=
 h.get? z=some { cls:=.type "zip",dict:=none,data:=.fields #[f0,.bool false,.bool true,.ref TI,.ref TO],slots:=#[] }
section
variable{prog:Program}{w:World}{A:Around}{E:Value→Shared→Prop}{s:Shared}{z TI TO i1 i2 l1 l2:Addr}{k:Nat}{xs ys:Array Value}{S1 S2:Nat→Heap→Prop}
theorem zipS_item{x y a b:Value}{Q:Value→Shared→Prop}(D:ZipApart z TI TO i1 i2 l1 l2)(R1:Src prog w A i1 l1 xs S1)(R2:Src prog w A i2 l2 ys S2)
  (hz:eY s.heap z TI TO .none) (hTI:IsPair s.heap TI (.ref i1) (.ref i2)) (hTO:IsPair s.heap TO a b) (h1:S1 k s.heap) (h2:S2 k s.heap) (hx:xs[k]?=some x) (hy:ys[k]?=some y) (hl1:i1<s.heap.objs.size) (hl2:i2<s.heap.objs.size)
  (hQ:∀h',eY h' z TI TO (rawInt s.heap.objs.size)→IsPair h' TO x y→S1 (k+1) h'→S2 (k+1) h'→IsPair h' s.heap.objs.size x y→h'.objs.size=s.heap.objs.size+1→
   (∀c o,c≠z→c≠TO→c≠i1→c≠i2→s.heap.get? c=some o→h'.get? c=some o)→Q (.ref s.heap.objs.size) { s with heap:=h' }):
  wpAny (model prog w) A (Builtin.«zip.__next__» ⟨[.ref z],[]⟩) (fun fin s'=>∃v,fin=.done (.ret v)∧Q v s') E s:=by
 show wpAny _ _ (field (.ref z) 2>>=_) _ _ _
 refine wpAny_bind (wpAny_field hz rfl (x:=.bool true) rfl ?_)
 show wpAny _ _ (field (.ref z) 3>>=_) _ _ _
 refine wpAny_bind (wpAny_field hz rfl (x:=.ref TI) rfl ?_)
 refine wpAny_bind (wpAny_seqItems hTI rfl ?_)
 show wpAny _ _ (Builtin.SmallTypes.ownedTupleIsFree (.ref z)>>=_) _ _ _
 refine wpAny_bind ?_
 unfold Builtin.SmallTypes.ownedTupleIsFree
 refine wpAny_bind (wpAny_field hz rfl (x:=.none) rfl (wpAny_pure ?_))
 simp only[if_true]
 refine wpAny_bind (wpAny_rule ?_)
 refine wpAny_bind (wpAny_field hz rfl (x:=.ref TO) rfl ?_)
 refine wpAny_bind (wpAny_setField_rec hz (by simp) fun h₁ hz₁ hs₁=>?_)
 replace hz₁:eY h₁ z TI TO .ellipsis:=hz₁
 refine wpAny_bind ?_
 simp only[List.zipIdx_cons,List.zipIdx_nil,List.forIn_cons,List.forIn_nil]
 refine wpAny_bind (wpAny_bind (wpAny_onRaise ?_))
 show wpAny _ _ (Builtin.SmallTypes.nextOrEnd (.ref i1)) _ _ _
 refine R1.next k x _ _ _ hx (R1.stay k z _ _ h1 hs₁.extBut D.i1z D.l1z) fun h₂ hs₂ S1₂=>?_
 have hTO₂:IsPair h₂ TO a b:=hs₂.extBut _ _ D.TOi1 (hs₁.extBut _ _ D.TOz hTO)
 refine wpAny_bind (wpAny_seqItems hTO₂ rfl ?_)
 refine wpAny_bind (wpAny_updateSeq_pair hTO₂ fun h₃ hTO₃ hs₃=>?_)
 replace hTO₃:IsPair h₃ TO x b:=hTO₃
 refine wpAny_bind (wpAny_letGo (wpAny_pure ?_))
 refine wpAny_bind (wpAny_bind (wpAny_onRaise ?_))
 show wpAny _ _ (Builtin.SmallTypes.nextOrEnd (.ref i2)) _ _ _
 have q2:S2 k h₃:=R2.stay k TO _ _ (R2.stay k i1 _ _ (R2.stay k z _ _ h2 hs₁.extBut D.i2z D.l2z) hs₂.extBut D.i12.symm D.l2i1) hs₃.extBut D.TOi2.symm D.l2TO
 refine R2.next k y _ _ _ hy q2 fun h₄ hs₄ S2₄=>?_
 have hTO₄:IsPair h₄ TO x b:=hs₄.extBut _ _ D.TOi2 hTO₃
 refine wpAny_bind (wpAny_seqItems hTO₄ rfl ?_)
 refine wpAny_bind (wpAny_updateSeq_pair hTO₄ fun h₅ hTO₅ hs₅=>?_)
 replace hTO₅:IsPair h₅ TO x y:=hTO₅
 refine wpAny_bind (wpAny_letGo (wpAny_pure (wpAny_pure ?_)))
 refine wpAny_bind (wpAny_seqItems hTO₅ rfl ?_)
 refine wpAny_bind (wpAny_newTuple ?_)
 have hsz:h₅.objs.size=s.heap.objs.size:=by rw[hs₅.1,hs₄.1,hs₃.1,hs₂.1,hs₁.1]
 have hz₅:eY h₅ z TI TO .ellipsis:=hs₅.extBut _ _ D.TOz.symm (hs₄.extBut _ _ D.i2z.symm (hs₃.extBut _ _ D.TOz.symm (hs₂.extBut _ _ D.i1z.symm hz₁)))
 have hk₅:∀c o,c≠z→c≠TO→c≠i1→c≠i2→s.heap.get? c=some o→h₅.get? c=some o:=fun c o c1 c2 c3 c4 e=>
  hs₅.extBut _ _ c2 (hs₄.extBut _ _ c4 (hs₃.extBut _ _ c2 (hs₂.extBut _ _ c3 (hs₁.extBut _ _ c1 e))))
 have S1₅:S1 (k+1) h₅:=R1.stay _ TO _ _ (R1.stay _ i2 _ _ (R1.stay _ TO _ _ S1₂ hs₃.extBut D.TOi1.symm D.l1TO) hs₄.extBut D.i12 D.l1i2) hs₅.extBut D.TOi1.symm D.l1TO
 have S2₅:S2 (k+1) h₅:=R2.stay _ TO _ _ S2₄ hs₅.extBut D.TOi2.symm D.l2TO
 have hzlt:z<h₅.objs.size:=Heap.lt_size hz₅
 show wpAny _ _ (Builtin.SmallTypes.ownedTupleHandOut (.ref z) (.ref h₅.objs.size)>>=_) _ _ _
 refine wpAny_bind ?_
 unfold Builtin.SmallTypes.ownedTupleHandOut
 have hz₆:eY (h₅.push { cls:=.type "tuple",data:=.seq #[x,y] }) z TI TO .ellipsis:=Heap.get?_push_of_some _ hz₅
 refine wpAny_bind (wpAny_setField_rec hz₆ (by simp) fun h₇ hz₇ hs₇=>?_)
 replace hz₇:eY h₇ z TI TO (rawInt h₅.objs.size):=hz₇
 refine wpAny_setField_rec hz₇ (by simp) fun h₈ hz₈ hs₈=>?_
 replace hz₈:eY h₈ z TI TO (rawInt h₅.objs.size):=hz₈
 have up:Heap.ExtBut z h₅ h₈:=fun c o c1 e=>hs₈.extBut _ _ c1 (hs₇.extBut _ _ c1 (Heap.get?_push_of_some _ e))
 have hT₈:IsPair h₈ h₅.objs.size x y:=hs₈.extBut _ _ (Nat.ne_of_gt hzlt) (hs₇.extBut _ _ (Nat.ne_of_gt hzlt) (Heap.get?_push_size _ rfl))
 have hz8:h₈.objs.size=h₅.objs.size+1:=by rw[hs₈.1,hs₇.1,Heap.size_push]
 rw[hsz]at hz₈ hT₈ hz8
 refine wpAny_pure ⟨_,rfl,?_⟩
 show Q (.ref h₅.objs.size) _
 rw[hsz]
 exact hQ h₈ hz₈ (up _ _ D.TOz hTO₅) (R1.stay _ z _ _ S1₅ up D.i1z D.l1z) (R2.stay _ z _ _ S2₅ up D.i2z D.l2z) hT₈ hz8 fun c o c1 c2 c3 c4 e=>up c o c1 (hk₅ c o c1 c2 c3 c4 e)
theorem zipS_end{a b:Value}{Q:Fin→Shared→Prop}(hh:A.handled=none)(D:ZipApart z TI TO i1 i2 l1 l2)(R1:Src prog w A i1 l1 xs S1)(R2:Src prog w A i2 l2 ys S2)
  (hz:eY s.heap z TI TO .none) (hTI:IsPair s.heap TI (.ref i1) (.ref i2)) (hTO:IsPair s.heap TO a b) (h1:S1 k s.heap) (h2:S2 k s.heap) (hx:xs[k]?=none) (hy:ys[k]?=none)
  (hE:∀h' e,(∀c o,c≠z→c≠TO→c≠i1→c≠i2→s.heap.get? c=some o→h'.get? c=some o)→(∃o,h'.get? e=some o∧o.cls=.type "StopIteration")→E (.ref e) { s with heap:=h' }):
  wpAny (model prog w) A (Builtin.«zip.__next__» ⟨[.ref z],[]⟩) Q E s:=by
 show wpAny _ _ (field (.ref z) 2>>=_) _ _ _
 refine wpAny_bind (wpAny_field hz rfl (x:=.bool true) rfl ?_)
 show wpAny _ _ (field (.ref z) 3>>=_) _ _ _
 refine wpAny_bind (wpAny_field hz rfl (x:=.ref TI) rfl ?_)
 refine wpAny_bind (wpAny_seqItems hTI rfl ?_)
 show wpAny _ _ (Builtin.SmallTypes.ownedTupleIsFree (.ref z)>>=_) _ _ _
 refine wpAny_bind ?_
 unfold Builtin.SmallTypes.ownedTupleIsFree
 refine wpAny_bind (wpAny_field hz rfl (x:=.none) rfl (wpAny_pure ?_))
 simp only[if_true]
 refine wpAny_bind (wpAny_rule ?_)
 refine wpAny_bind (wpAny_field hz rfl (x:=.ref TO) rfl ?_)
 refine wpAny_bind (wpAny_setField_rec hz (by simp) fun h₁ hz₁ hs₁=>?_)
 replace hz₁:eY h₁ z TI TO .ellipsis:=hz₁
 refine wpAny_bind ?_
 simp only[List.zipIdx_cons,List.zipIdx_nil,List.forIn_cons,List.forIn_nil]
 refine wpAny_bind (wpAny_bind (wpAny_onRaise ?_))
 show wpAny _ _ (Builtin.SmallTypes.nextOrEnd (.ref i1)) _ _ _
 refine R1.done k _ _ _ hx (R1.stay k z _ _ h1 hs₁.extBut D.i1z D.l1z) fun h₂ hs₂=>?_
 have hz₂:eY h₂ z TI TO .ellipsis:=hs₂ _ _ D.i1z.symm hz₁
 refine wpAny_bind (wpAny_setField_rec hz₂ (by simp) fun h₃ hz₃ hs₃=>?_)
 have q2:S2 k h₃:=R2.stay k z _ _ (R2.stay k i1 _ _ (R2.stay k z _ _ h2 hs₁.extBut D.i2z D.l2z) hs₂ D.i12.symm D.l2i1) hs₃.extBut D.i2z D.l2z
 refine wpAny_bind (wpAny_bind ?_)
 simp only[List.drop_succ_cons,List.drop_zero,List.zipIdx_cons,List.zipIdx_nil,List.forIn_cons,List.forIn_nil]
 refine wpAny_bind (wpAny_bind (R2.done k _ _ _ hy q2 fun h₄ hs₄=>wpAny_pure (wpAny_pure ?_)))
 refine wpAny_bind (wpAny_rule ?_)
 unfold Builtin.SmallTypes.stopIteration
 refine wpAny_bind ?_
 simp only[newExc,newTuple]
 refine wpAny_bind (wpAny_newObj_type ?_ (by size_fits))
 refine wpAny_bind (m:=firstArgMember _ _) (wpAny_of_eq (a:=Value.none) (by first|rfl|(simp only[firstArgMember];rfl)) ?_)
 refine wpAny_newObj_type ?_ (by size_fits)
 simp only[raiseNew]
 refine wpAny_bind (wpAny_handled ?_)
 rw[hh]
 refine wpAny_bind (wpAny_pure (wpAny_throw ?_))
 refine hE _ _ (fun c o c1 c2 c3 c4 e=>?_) ⟨_,Heap.get?_push_size _ rfl,rfl⟩
 exact Heap.get?_push_of_some _ (Heap.get?_push_of_some _ (hs₄ c o c4 (hs₃.extBut c o c1 (hs₂ c o c3 (hs₁.extBut c o c1 e)))))
theorem oG{x y a b:Value}{Q:Option Value→Shared→Prop}(D:ZipApart z TI TO i1 i2 l1 l2)(R1:Src prog w A.in1 i1 l1 xs S1)(R2:Src prog w A.in1 i2 l2 ys S2)
  (hz:eY s.heap z TI TO .none) (hTI:IsPair s.heap TI (.ref i1) (.ref i2)) (hTO:IsPair s.heap TO a b) (h1:S1 k s.heap) (h2:S2 k s.heap) (hx:xs[k]?=some x) (hy:ys[k]?=some y) (hl1:i1<s.heap.objs.size) (hl2:i2<s.heap.objs.size)
  (hQ:∀h',eY h' z TI TO (rawInt s.heap.objs.size)→IsPair h' TO x y→S1 (k+1) h'→S2 (k+1) h'→IsPair h' s.heap.objs.size x y→h'.objs.size=s.heap.objs.size+1→
   (∀c o,c≠z→c≠TO→c≠i1→c≠i2→s.heap.get? c=some o→h'.get? c=some o)→Q (some (.ref s.heap.objs.size)) { s with heap:=h' }):
  wpAny (model prog w) A (pyNext (.ref z)) Q E s:=by
 have hT:s.TypeIs (.ref z) "zip":=⟨_,hz,rfl⟩
 unfold pyNext
 exact wpAny_bind (wpAny_attempt (wpAny_callSpecial?_slot (name:=Str.ofString "__next__") hT F.slot_zip_next
  (wpAny_call_entry F.slot_zip_next hT F.entry_zip_next
   (zipS_item D R1 R2 hz hTI hTO h1 h2 hx hy hl1 hl2 fun h' a1 a2 a3 a4 a5 a6 a7=>wpAny_pure (hQ h' a1 a2 a3 a4 a5 a6 a7)) (F.args_zip_next_1 _))))
theorem pyNext_zipS_end{a b:Value}{Q:Option Value→Shared→Prop}(hh:A.handled=none)(D:ZipApart z TI TO i1 i2 l1 l2)(R1:Src prog w A.in1 i1 l1 xs S1)(R2:Src prog w A.in1 i2 l2 ys S2)
  (hz:eY s.heap z TI TO .none) (hTI:IsPair s.heap TI (.ref i1) (.ref i2)) (hTO:IsPair s.heap TO a b) (h1:S1 k s.heap) (h2:S2 k s.heap) (hx:xs[k]?=none) (hy:ys[k]?=none)
  (hQ:∀h',(∀c o,c≠z→c≠TO→c≠i1→c≠i2→s.heap.get? c=some o→h'.get? c=some o)→Q none { s with heap:=h' }):wpAny (model prog w) A (pyNext (.ref z)) Q E s:=by
 have hT:s.TypeIs (.ref z) "zip":=⟨_,hz,rfl⟩
 unfold pyNext
 refine wpAny_bind (wpAny_attempt (wpAny_callSpecial?_slot (name:=Str.ofString "__next__") hT F.slot_zip_next
  (wpAny_call_entry F.slot_zip_next hT F.entry_zip_next (zipS_end hh D R1 R2 hz hTI hTO h1 h2 hx hy fun h' e hk he=>?_) (F.args_zip_next_1 _))))
 obtain⟨o,ho,hc⟩:=he
 refine wpAny_bind (wpAny_isInstance (T:="StopIteration") (b:=true) ⟨o,ho,hc⟩ isSubtype_stop ?_)
 exact wpAny_pure (hQ _ hk)
theorem letGo_zipS{elts:List Expr}{x1}{pos:Pos}{T:Addr}{Q:Unit→Shared→Prop}(hz:eY s.heap z TI TO (rawInt T))
  (hQ:∀h',eY h' z TI TO .none→Heap.SameBut z s.heap h'→Q () { s with heap:=h' }):
  wpAny (model prog w) A (letOwnedTupleGo (.Tuple elts x1 pos) (.ref z) (.ref T)) Q E s:=by
 unfold letOwnedTupleGo
 refine wpAny_bind (wpAny_load hz ?_)
 show wpAny _ _ (if (["enumerate","zip","dict_itemiterator","dict_reverseitemiterator","odict_iterator","itertools.zip_longest","itertools.pairwise"].contains "zip"&&
   (#[rawInt T,.bool false,.bool true,.ref TI,.ref TO]:Array Value)[0]?==some (rawInt T))=true then _ else _) Q E s
 rw[if_pos (by simp)]
 refine wpAny_bind (wpAny_rule ?_)
 show wpAny _ _ (setField (.ref z) 0 .none) Q E s
 exact wpAny_setField_rec hz (by simp) fun h' hz' hs'=>hQ h' hz' hs'
theorem mJ{f0:Value}{Q:Value→Shared→Prop}(hz:eY s.heap z TI TO f0)(h:Q (.ref z) s):wpAny (model prog w) A (pyIter (.ref z)) Q E s:=by
 have hT:s.TypeIs (.ref z) "zip":=⟨_,hz,rfl⟩
 refine wpAny_pyIter_slot hT F.slot_zip_iter (wpAny_call_entry F.slot_zip_iter hT F.entry_zip_iter ?_ (F.args_zip_iter_1 _))
 show wpAny _ _ (ret (.ref z)) _ _ s
 exact wpAny_pure ⟨_,rfl,"zip",_,hT,F.slot_zip_next.lookup,h⟩
end
section
variable{prog:Program}{w:World}{A:Around}{E:Value→Shared→Prop}{s:Shared}
abbrev kwS:List (Str×Value):=[("strict",.bool true)]
theorem typeCall_zipS(a b:Value):checkTypeCall "zip" ⟨[a,b],kwS⟩=pure ():=by kernel_rfl
theorem newCall_zipS(a b:Value):checkBuiltinCall "zip.__new__" ⟨[.type "zip",a,b],kwS⟩=pure ():=by kernel_rfl
theorem args_initS(a b c:Value):argsOk "object.__init__" ⟨[a,b,c],kwS⟩:=by
 unfold argsOk;rw[signature?_of (id:="object.__init__") (n:=['_','_','t','i','n','i','_','_']) (o:=['t','c','e','j','b','o']) (by kernel_rfl) F.owner_object];kernel_rfl
theorem callType_kw{T newId initId:String}{Bn Bi:Builtin}{args:List Value}{kw:List (Str×Value)}{S:Spec}{Q Q₁:Value→Shared→Prop}(ft:TypeCalled T newId initId)
  (hct:checkTypeCall T ⟨args,kw⟩=pure ()) (hcn:checkBuiltinCall newId ⟨.type T::args,kw⟩=pure ())
  (entryN:entryFor table newId=some Bn) (entryI:entryFor table initId=some Bi) (g:Meets (Bn ⟨.type T::args,kw⟩) S)
  (h:S A.in1 (wants Q₁ E) s)
  (hnext:∀obj s₁,Q₁ obj s₁→s₁.TypeIs obj T∧argsOk initId ⟨obj::args,kw⟩∧∃Si,Meets (Bi ⟨obj::args,kw⟩) Si∧Si A.in1 (wants (fun r s₂=>r=.none∧Q obj s₂) E) s₁):
  wpAny (model prog w) A (call (.type T) args kw) Q E s:=by
 obtain⟨c,tl,hmro⟩:=ft.mro
 have hmade:=ft.made
 have hsub:=ft.sub
 refine wpAny_call (codeAny_of_tree ?_)
 show wpAny _ _ (callAny (.type T) _) _ _ _
 refine wpAny_pure ⟨Code.quiet_builtin _ (by decide +kernel),codeAny_builtin F.entry_type_call ?_⟩
 rw[Around.under_plain (weight_type_call_type T args kw) (units_type_call_type T args kw)]
 have h1:=ft.notType
 have h2:=ft.canCreate
 repeat (any_goals (first|assumption|wp_step))
 refine codeAny_mono (codeAny_call_builtin ft.plain entryN (wpAny_of_eq hcn (g prog w A.in1 _ s h))) fun r s₁ hr=>?_
 cases r with
 |error e=>exact hr
 |ok fl=>
  cases fl with
  |ret obj=>
   obtain⟨hT,hok,Si,gi,hsi⟩:=hnext _ _ hr
   have hli:=ft.init.lookup
   have hbi:=ft.init.bind obj
   repeat (any_goals (first|assumption|wp_step))
   refine codeAny_mono (codeAny_call_builtin ft.init.plain entryI (ft.init.check _ _ _ _ _ _ _ _ hT hok (gi prog w A.in1 _ s₁ hsi))) fun r₂ s₂ hr₂=>?_
   cases r₂ with
   |error e=>exact hr₂
   |ok fl₂=>
    cases fl₂ with
    |ret r=>
     obtain⟨rfl,hq⟩:=hr₂
     repeat (any_goals (first|assumption|wp_step))
    |_=>exact hr₂.elim
  |_=>exact hr.elim
theorem object_init_kw{T newId:String}{self:Value}{rest:List Value}{kw:List (Str×Value)}(hl:typeLookup (.type T) "__init__"=pure (some (.builtin "object.__init__")))
  (hm:Bind.madeBy (.type T)=pure (some newId)) (hne:(some newId != some "object.__new__")=true):
  Meets (Builtin.«object.__init__» ⟨self::rest,kw⟩) (fun _ R s=>s.TypeIs self T∧R (.ok (.ret .none)) s):=by
 refine Meets.of_wp fun prog w A R s hs=>?_
 obtain⟨hT,hq⟩:=hs
 cases rest with
 |nil=>
  cases kw with
  |nil=>exact wpAny_pure ⟨_,rfl,hq⟩
  |cons k kw=>
   repeat (any_goals (first|assumption|wp_step))
   exact⟨_,rfl,hq⟩
 |cons a rest=>
  repeat (any_goals (first|assumption|wp_step))
  exact⟨_,rfl,hq⟩
abbrev itObj(n:String)(l:Addr):Obj:={ cls:=.type n,data:=.fields #[.ref l,.int 0 0] }
abbrev zH2(h:Heap)(n1 n2:String)(l1 l2:Addr):Heap:=(h.push (itObj n1 l1)).push (itObj n2 l2)
abbrev zH3(h:Heap)(n1 n2:String)(l1 l2:Addr):Heap:=(zH2 h n1 n2 l1 l2).push { cls:=.type "tuple",data:=.seq #[.ref h.objs.size,.ref (h.push (itObj n1 l1)).objs.size] }
abbrev zH4(h:Heap)(n1 n2:String)(l1 l2:Addr):Heap:=(zH3 h n1 n2 l1 l2).push { cls:=.type "tuple",data:=.seq #[.none,.none] }
abbrev zH5(h:Heap)(n1 n2:String)(l1 l2:Addr):Heap:=
 (zH4 h n1 n2 l1 l2).push { cls:=.type "zip",data:=.fields #[.none,.bool false,.bool true,.ref (zH2 h n1 n2 l1 l2).objs.size,.ref (zH3 h n1 n2 l1 l2).objs.size] }
theorem zipS_new_ll(l1 l2:Addr)(xs ys:Array Value):
  Meets (Builtin.«zip.__new__» ⟨[.type "zip",.ref l1,.ref l2],kwS⟩) (fun _ R s=>s.heap.IsList l1 xs∧s.heap.IsList l2 ys∧
   R (.ok (.ret (.ref (zH4 s.heap "list_iterator" "list_iterator" l1 l2).objs.size))) { s with heap:=zH5 s.heap "list_iterator" "list_iterator" l1 l2 }):=
 .of_wp fun prog w A R s h=>by
  obtain⟨hp,g,d,tk,os⟩:=s;obtain⟨hl1,hl2,h⟩:=h
  have hsub:=sub_zip
  have hL1:Heap.IsList (Shared.heap ⟨hp,g,d,tk,os⟩) l1 xs:=hl1
  have hL2:Heap.IsList (Shared.heap ⟨hp.push { cls:=.type "list_iterator",data:=.fields #[.ref l1,.int 0 0] },g,d,tk,os⟩) l2 ys:=Heap.IsList.push hl2 _
  wp_walk using wpAny_pyIter_list hL1,wpAny_pyIter_list hL2
  exact⟨_,rfl,h⟩
theorem zipS_new_tl(l1 l2:Addr)(xs ys:Array Value):
  Meets (Builtin.«zip.__new__» ⟨[.type "zip",.ref l1,.ref l2],kwS⟩) (fun _ R s=>s.heap.IsTuple l1 xs∧s.heap.IsList l2 ys∧
   R (.ok (.ret (.ref (zH4 s.heap "tuple_iterator" "list_iterator" l1 l2).objs.size))) { s with heap:=zH5 s.heap "tuple_iterator" "list_iterator" l1 l2 }):=
 .of_wp fun prog w A R s h=>by
  obtain⟨hp,g,d,tk,os⟩:=s;obtain⟨hl1,hl2,h⟩:=h
  have hsub:=sub_zip
  have hL1:Heap.IsTuple (Shared.heap ⟨hp,g,d,tk,os⟩) l1 xs:=hl1
  have hL2:Heap.IsList (Shared.heap ⟨hp.push { cls:=.type "tuple_iterator",data:=.fields #[.ref l1,.int 0 0] },g,d,tk,os⟩) l2 ys:=Heap.IsList.push hl2 _
  wp_walk using wpAny_pyIter_tuple hL1,wpAny_pyIter_list hL2
  exact⟨_,rfl,h⟩
theorem zipS_at{h:Heap}{n1 n2:String}{l1 l2:Addr}:(zH4 h n1 n2 l1 l2).objs.size=h.objs.size+4∧eY (zH5 h n1 n2 l1 l2) (h.objs.size+4) (h.objs.size+2) (h.objs.size+3) .none∧
  IsPair (zH5 h n1 n2 l1 l2) (h.objs.size+2) (.ref h.objs.size) (.ref (h.objs.size+1))∧IsPair (zH5 h n1 n2 l1 l2) (h.objs.size+3) .none .none∧
  (zH5 h n1 n2 l1 l2).get? h.objs.size=some (itObj n1 l1)∧(zH5 h n1 n2 l1 l2).get? (h.objs.size+1)=some (itObj n2 l2)∧(zH5 h n1 n2 l1 l2).objs.size=h.objs.size+5∧
  ∀c o,h.get? c=some o→(zH5 h n1 n2 l1 l2).get? c=some o:=by
 have z1:(h.push (itObj n1 l1)).objs.size=h.objs.size+1:=Heap.size_push ..
 have z2:(zH2 h n1 n2 l1 l2).objs.size=h.objs.size+2:=by rw[Heap.size_push,z1]
 have z3:(zH3 h n1 n2 l1 l2).objs.size=h.objs.size+3:=by rw[Heap.size_push,z2]
 have z4:(zH4 h n1 n2 l1 l2).objs.size=h.objs.size+4:=by rw[Heap.size_push,z3]
 have z5:(zH5 h n1 n2 l1 l2).objs.size=h.objs.size+5:=by rw[Heap.size_push,z4]
 have g5:(zH5 h n1 n2 l1 l2).get? (zH4 h n1 n2 l1 l2).objs.size=some _:=Heap.get?_push_size _ rfl
 have g4:(zH5 h n1 n2 l1 l2).get? (zH3 h n1 n2 l1 l2).objs.size=some _:=Heap.get?_push_of_some _ (Heap.get?_push_size _ rfl)
 have g3:(zH5 h n1 n2 l1 l2).get? (zH2 h n1 n2 l1 l2).objs.size=some _:=Heap.get?_push_of_some _ (Heap.get?_push_of_some _ (Heap.get?_push_size _ rfl))
 have g2:(zH5 h n1 n2 l1 l2).get? (h.push (itObj n1 l1)).objs.size=some _:=Heap.get?_push_of_some _ (Heap.get?_push_of_some _ (Heap.get?_push_of_some _ (Heap.get?_push_size _ rfl)))
 have g1:(zH5 h n1 n2 l1 l2).get? h.objs.size=some _:=Heap.get?_push_of_some _ (Heap.get?_push_of_some _ (Heap.get?_push_of_some _ (Heap.get?_push_of_some _ (Heap.get?_push_size _ rfl))))
 rw[z2,z3,z4]at g5
 rw[z1,z2]at g3
 rw[z3]at g4
 rw[z1]at g2
 exact⟨z4,g5,g3,g4,g1,g2,z5,fun c o x=>Heap.get?_push_of_some _ (Heap.get?_push_of_some _ (Heap.get?_push_of_some _ (Heap.get?_push_of_some _ (Heap.get?_push_of_some _ x))))⟩
theorem call_zipS_ll{l1 l2:Addr}{xs ys:Array Value}{Q:Value→Shared→Prop}(hl1:s.heap.IsList l1 xs)(hl2:s.heap.IsList l2 ys)
  (h:Q (.ref (s.heap.objs.size+4)) { s with heap:=zH5 s.heap "list_iterator" "list_iterator" l1 l2 }):wpAny (model prog w) A (call (.type "zip") [.ref l1,.ref l2] kwS) Q E s:=by
 obtain⟨a1,a2,_⟩:=zipS_at (h:=s.heap) (n1:="list_iterator") (n2:="list_iterator") (l1:=l1) (l2:=l2)
 refine callType_kw (Q₁:=fun obj s₁=>s₁.TypeIs obj "zip"∧Q obj s₁) F.called_zip (typeCall_zipS _ _) (newCall_zipS _ _) F.entry_zip_new F.entry_object_init (zipS_new_ll l1 l2 xs ys) ⟨hl1,hl2,?_⟩ fun obj s₁ hq=>
  ⟨hq.1,args_initS obj _ _,_,object_init_kw F.called_zip.init.lookup F.called_zip.made (by decide),hq.1,rfl,hq.2⟩
 show _∧_
 rw[a1]
 exact⟨⟨_,a2,rfl⟩,h⟩
theorem call_zipS_tl{l1 l2:Addr}{xs ys:Array Value}{Q:Value→Shared→Prop}(hl1:s.heap.IsTuple l1 xs)(hl2:s.heap.IsList l2 ys)
  (h:Q (.ref (s.heap.objs.size+4)) { s with heap:=zH5 s.heap "tuple_iterator" "list_iterator" l1 l2 }):wpAny (model prog w) A (call (.type "zip") [.ref l1,.ref l2] kwS) Q E s:=by
 obtain⟨a1,a2,_⟩:=zipS_at (h:=s.heap) (n1:="tuple_iterator") (n2:="list_iterator") (l1:=l1) (l2:=l2)
 refine callType_kw (Q₁:=fun obj s₁=>s₁.TypeIs obj "zip"∧Q obj s₁) F.called_zip (typeCall_zipS _ _) (newCall_zipS _ _) F.entry_zip_new F.entry_object_init (zipS_new_tl l1 l2 xs ys) ⟨hl1,hl2,?_⟩ fun obj s₁ hq=>
  ⟨hq.1,args_initS obj _ _,_,object_init_kw F.called_zip.init.lookup F.called_zip.made (by decide),hq.1,rfl,hq.2⟩
 show _∧_
 rw[a1]
 exact⟨⟨_,a2,rfl⟩,h⟩
end
end QZ
namespace QP
open PySem
theorem erase_filter{K V:Type}[DecidableEq K]:∀{xs:List (K×V)}{j:Nat}{k:K}{p:V},(xs.map (·.1)).Nodup→xs[j]?=some (k,p)→xs.eraseIdx j=xs.filter fun x=>decide (x.1≠k)
 |[],_,_,_,_,h=>by simp at h
 |(k0,p0)::r,0,k,p,hn,h=>by
  have e:(k0,p0)=(k,p):=Option.some.inj h
  cases e
  obtain⟨n1,_⟩:=List.nodup_cons.mp (show(k0::r.map (·.1)).Nodup from hn)
  rw[List.eraseIdx_cons_zero,List.filter_cons,if_neg (by simp)]
  symm
  apply List.filter_eq_self.mpr
  intro x hx
  simp only[decide_eq_true_eq]
  intro e
  exact n1 (by rw[←e];exact List.mem_map_of_mem hx)
 |(k0,p0)::r,j+1,k,p,hn,h=>by
  obtain⟨n1,n2⟩:=List.nodup_cons.mp (show(k0::r.map (·.1)).Nodup from hn)
  have h':r[j]?=some (k,p):=h
  rw[List.eraseIdx_cons_succ,List.filter_cons,if_pos,erase_filter n2 h']
  simp only[decide_eq_true_eq]
  intro e
  exact n1 (by rw[e];exact List.mem_map_of_mem (List.mem_of_getElem? h'))
theorem erase_map{α β:Type}(f:α→β):∀(l:List α) (j:Nat),(l.map f).eraseIdx j=(l.eraseIdx j).map f
 |[],_=>rfl
 |_::_,0=>rfl
 |a::l,j+1=>by
  show f a::(l.map f).eraseIdx j=f a::(l.eraseIdx j).map f
  rw[erase_map f l j]
section
variable{prog:Program}{w:World}{K:Type}[DecidableEq K]{knd:HeapKind prog w K}{A:Around}{E:Value→Shared→Prop}{s:Shared}{d a:Addr}{k:K}{xs:List (K×Addr×Value)}
theorem takeOut_heap{Q:Option DictEntry→Shared→Prop}(hu:knd.room A)(hkey:knd.is s.heap k a)(hm:s.heap.DictOfH knd d xs)
  (hnone:atKey xs k=none→Q none { s with toks:=s.toks+knd.draws k })
  (hsome:∀p,atKey xs k=some p→∀h',h'.DictOfH knd d (xs.filter fun x=>decide (x.1≠k))→Heap.SameBut d s.heap h'→Q (some (entryOfKey knd (k,p))) { s with heap:=h',toks:=s.toks+knd.draws k })
  (hsz:xs.length≤sizeLine):wpAny (model prog w) A (Builtin.Dict.takeOut d (.ref a)) Q E s:=by
 obtain⟨o,es,ep,ho,hc,hd,he,his,hn⟩:=hm
 unfold Builtin.Dict.takeOut
 try with_reducible refine wpAny_holding ?_
 refine wpAny_bind (knd.pyHash hu hkey ?_)
 refine wpAny_bind (wpAny_dictFind_heap (s:={ s with toks:=s.toks+knd.draws k }) hu hkey ho hd he his hn ?_ ?_)
 ·intro hno
  exact wpAny_pure (hnone (atKey_none_of_get hno))
 ·intro j p hj
  refine wpAny_bind (wpAny_dictEntries (s:={ s with toks:=s.toks+knd.draws k }) ho hd ?_)
  rw[entry_at he j,hj]
  refine wpAny_bind (wpAny_updateDictKeys (hz:=by have e:=size_of_entries he;omega) (s:={ s with toks:=s.toks+knd.draws k }) ho hd (wpAny_pure (hsome p (atKey_of_get hn hj) _ ⟨_,_,ep+1,Heap.get?_update_self _ ho (Obj.isFreed_of_dict (Obj.data_mapDictKeys hd _)),
   hc.mapDictKeys _,Obj.data_mapDictKeys hd _,?_,?_,?_⟩ (Heap.SameBut.update ..))))
  ·rw[←erase_filter hn hj]
   obtain⟨l⟩:=es
   have he':l=xs.map (entryOfKey knd):=he
   subst he'
   simp[erase_map]
  ·intro x hx
   exact knd.keeps (his x (List.mem_filter.mp hx).1) ho hd (Heap.SameBut.update ..)
  ·exact (List.filter_sublist.map _).nodup hn
theorem meetsH_pop(hd:(d==sysModules)=false)(dflt:Value):
  MeetsIn prog w (Builtin.«dict.pop» ⟨[.ref d,.ref a,dflt],[]⟩) (fun A R s=>knd.room A.in1∧∃k xs,knd.is s.heap k a∧s.heap.DictOfH knd d xs∧xs.length≤sizeLine∧
   (xs=[]→R (.ok (.ret dflt)) s)∧(atKey xs k=none→R (.ok (.ret dflt)) { s with toks:=s.toks+knd.draws k })∧
   (∀p,atKey xs k=some p→∀h',h'.DictOfH knd d (xs.filter fun x=>decide (x.1≠k))→Heap.SameBut d s.heap h'→R (.ok (.ret p.2)) { s with heap:=h',toks:=s.toks+knd.draws k })):=
 .of_wp fun A R s ⟨hu,k,xs,hkey,hm,hz,h0,h1,h2⟩=>by
  unfold Builtin.«dict.pop»
  refine wpAny_bind ?_
  unfold Builtin.Dict.keyAndDefault
  refine wpAny_bind (wpAny_notOrdered_dict hm.typeIs ?_)
  show wpAny _ _ (pure (d,Value.ref a,some dflt)) _ _ s
  refine wpAny_pure ?_
  obtain⟨o,es,ep,ho,hc,hd',he,his,hn⟩:=id hm
  have hk:(keyPart (Value.ref a)).isSome=false:=rfl
  simp only[hk,Bool.false_eq_true,if_false]
  refine wpAny_bind (wpAny_dictEntries ho hd' ?_)
  cases xs with
  |nil=>
   have e:es.isEmpty=true:=by
    obtain⟨l⟩:=es
    have he':l=[]:=he
    subst he'
    rfl
   rw[e]
   refine wpAny_bind (wpAny_pure ?_)
   simp only[if_true]
   refine wpAny_bind (wpAny_rule (wpAny_bind (wpAny_pure ?_)))
   simp only[Option.isNone_none,if_true]
   refine wpAny_bind (wpAny_missedRemoval_other hd ?_)
   exact wpAny_bind (wpAny_rule (wpAny_pure ⟨dflt,rfl,h0 rfl⟩))
  |cons x r=>
   have e:es.isEmpty=false:=by
    obtain⟨l⟩:=es
    have he':l=(x::r).map (entryOfKey knd):=he
    subst he'
    rfl
   rw[e]
   refine wpAny_bind (wpAny_pure ?_)
   simp only[Bool.false_eq_true,if_false]
   refine wpAny_bind (takeOut_heap (knd:=knd) hu hkey hm (fun hno=>?_) (fun p hp h' hm' hs'=>?_) hz)
   ·simp only[Option.isNone_none,if_true]
    refine wpAny_bind (wpAny_missedRemoval_other hd ?_)
    exact wpAny_bind (wpAny_rule (wpAny_pure ⟨dflt,rfl,h1 hno⟩))
   ·simp only[Option.isNone_some,Bool.false_eq_true,if_false]
    exact wpAny_bind (wpAny_letGo (wpAny_pure ⟨p.2,rfl,h2 p hp h' hm' hs'⟩))
end
section
variable{prog:Program}{w:World}{K:Type}[DecidableEq K]{knd:HeapKind prog w K}{A:Around}{E:Value→Shared→Prop}{s:Shared}{d:Addr}{xs:List (K×Addr×Value)}
theorem meetsH_len(d:Addr)(hd:(d==sysModules)=false):MeetsIn prog w (Builtin.«dict.__len__» ⟨[.ref d],[]⟩) (fun _ R s=>∃xs,s.heap.DictOfH knd d xs∧R (.ok (.ret (.int xs.length s.toks))) { s with toks:=s.toks+1 }):=
 .of_wp fun A R s ⟨xs,hm,h⟩=>by
  obtain⟨o,es,ep,ho,hc,hd',he,his,hn⟩:=hm
  have hs:es.size=xs.length:=by
   obtain⟨l⟩:=es
   have he':l=xs.map (entryOfKey knd):=he
   subst he'
   simp
  show wpAny _ _ (dictSize d>>=_) _ _ s
  unfold dictSize
  refine wpAny_bind (wpAny_bind (wpAny_dictEntries ho hd' (wpAny_pure ?_)))
  show wpAny _ _ (Builtin.Dict.pendingCount d>>=_) _ _ s
  refine wpAny_bind (wpAny_pendingCount_other hd ?_)
  refine wpAny_ret_mkInt ?_
  rw[Nat.add_zero,hs];exact h
theorem call_lenH{Q:Value→Shared→Prop}(hd:(d==sysModules)=false)(hm:s.heap.DictOfH knd d xs)(hfit:(xs.length:Int)<2 ^ 63)
  (h:Q (.int xs.length (s.toks+1)) { s with toks:=s.toks+1+1 }):wpAny (model prog w) A (call (.builtin "len") [.ref d]) Q E s:=by
 refine Calls.call_function_entry kind_len plain_len entry_len (args_len1 _) ?_
 unfold Builtin.«len»
 refine wpAny_bind (m:=oneArg "len" _) (wpAny_pure ?_)
 refine wpAny_bind (m:=callSpecial? (.ref d) (Str.ofString "__len__")) (wpAny_callSpecial?_slot (name:=Str.ofString "__len__") hm.typeIs F.slot_dict_len
  (call_meetsIn F.slot_dict_len hm.typeIs F.entry_dict_len (F.args_dict_len_1 _) (meetsH_len (knd:=knd) d hd) ⟨xs,hm,?_⟩))
 show wpAny _ _ _ _ _ { s with toks:=s.toks+1 }
 refine wpAny_bind (wpAny_holding (wpAny_pure ?_))
 refine wpAny_bind (wpAny_letGo ?_)
 show wpAny _ _ (if ((xs.length:Nat):Int)<0 then _ else _) _ _ _
 rw[if_neg (by omega)]
 show wpAny _ _ (if ((xs.length:Nat):Int)≥2 ^ 63 then _ else _) _ _ _
 rw[if_neg (by omega)]
 exact wpAny_bind (wpAny_mkInt (wpAny_pure ⟨_,rfl,h⟩))
end
end QP
namespace L2
open PySem PySem.Spec PyProof.Rows
section
variable{X:Cx}
theorem n8:lF X (.builtin "len") (fun xs H Q=>∃(a:Addr) (n:Nat),xs=[V.ref a]∧((∃kvs,H a=some (.dK kvs)∧n=kvs.length)∨∃kvs,H a=some (.dT kvs)∧n=kvs.length)∧Q (.int n) H):=by
 intro pins s σ H xs us Q I r h
 obtain⟨a,n,rfl,hk,q⟩:=h
 obtain⟨u,rfl,ru⟩:=vals1 r
 cases ru
 rcases hk with⟨kvs,e,rfl⟩|⟨kvs,e,rfl⟩
 ·exact d_len I (.inl e) fun t s' I'=>⟨.int kvs.length,H,I',⟨t,rfl⟩,q⟩
 ·obtain⟨z,hd,ys,rel,dd⟩:=dt_of I.hok e
  have hl:kvs.length=ys.length:=Paired.length rel
  refine QP.call_lenH hd dd (by rw[←hl];rw[sizeLine_eq]at z;omega) ?_
  rw[←hl]
  exact⟨.int kvs.length,H,I.tok _,⟨_,rfl⟩,q⟩
def tDSetd(td ty tx:TE):TE:=fun σ H Q=>td σ H fun x H1=>∃a,x=.ref a∧IsD H1 a∧ty σ H1 fun y H2=>tx σ H2 fun z H3=>∃kvs k,H3 a=some (.dK kvs)∧y=kV k∧kvs.length<sizeLine∧
 (∀v,cW kvs k=some v→Q v H3)∧(cW kvs k=none→Q z (upd H3 a (.dK (putK kvs k z))))
theorem pe_dsetd{o e f:Expr}{apos cpos:Pos}{td ty tx:TE}(ho:PE X o td)(he:PE X e ty)(hf:PE X f tx)(m:M2 X o "setdefault" apos e f cpos):PE X (.Call (.Attribute o "setdefault" apos) [e,f] [] cpos) (tDSetd td ty tx):=by
 intro pins s σ H Q I h
 refine wpAny_Call_method m.base m.few m.line PySem.F.plainAttrs_dict PySem.F.slot_dict_setdefault PySem.F.type_dict_setdefault (dw (ho pins s σ H _ I h) fun u s1 ⟨x,H1,I1,rx,a,ex,d,q1⟩=>?_)
 subst ex
 obtain rfl:u=Value.ref a:=rx
 obtain⟨t1,t2,_⟩:=isD_at I1 d
 refine⟨t1,t2,?_⟩
 rw[m.trees]
 refine Calls.callWith_builtin rfl (Calls.evalArgs_plain (Calls.spliced_cons (dw (he pins s1 σ H1 _ I1 q1) fun iv s2 ⟨y,H2,I2,ry,q2⟩=>
  Calls.spliced_cons (dw (hf pins s2 σ H2 _ I2 q2) fun fv s3 ⟨z,H3,I3,rz,kvs,k,ea,ey,hl,q3,q4⟩=>Calls.spliced_nil ?_))))
 subst ey
 obtain⟨hz,hd,vs,rel,dd⟩:=dk_of I3.hok ea
 refine call_meetsIn PySem.F.slot_dict_setdefault dd.typeIs PySem.F.entry_dict_setdefault (PySem.F.args_dict_setdefault_3 _ _ _) (kt_meets_setdefault (bK X.prog X.w) a (kV_is ry) hd fv)
  ⟨vs,dd,by rw[←rel.length];exact hz,fun v hv=>?_,fun hn h' dd' hs=>?_⟩
 ·have rv:=rel.val k
  rw[hv]at rv
  cases e:cW kvs k with
  |none=>rw[e]at rv;exact (show False from rv).elim
  |some v0=>
   rw[e]at rv
   exact⟨v0,H3,I3.tok _,rv,q3 v0 e⟩
 ·have rv:=rel.val k
  rw[hn]at rv
  have e:cW kvs k=none:=by
   cases e:cW kvs k with
   |none=>rfl
   |some v0=>rw[e]at rv;exact (show False from rv).elim
  have he:∃q,h'.get? a=some q:=let⟨q,_,_,hq,_⟩:=dd';⟨q,hq⟩
  have hl2:(putK kvs k z).length≤sizeLine:=by have:=length_putK kvs k z;omega
  exact⟨z,_,d_write I3 (by rw[ea];exact True.intro) hs he (dk_new hl2 hd (rel.put k rz) dd'),rz,q4 e⟩
def tDPopT(td ty tx:TE):TE:=fun σ H Q=>td σ H fun x H1=>∃a,x=.ref a∧IsD H1 a∧ty σ H1 fun y H2=>tx σ H2 fun z H3=>∃kvs k b,H3 a=some (.dT kvs)∧y=.ref b∧H3 b=some (.tup (k.map kV))∧
 (∀v,cW kvs k=some v→Q v (upd H3 a (.dT (mq kvs k))))∧(cW kvs k=none→Q z H3)
theorem KT.drop{H:Hp}{kvs:List (List Key×V)}{xs:List (List Key×Addr×Value)}(r:KT H kvs xs)(k:List Key):KT H (mq kvs k) (xs.filter fun x=>decide (x.1≠k)):=by
 unfold mq
 induction r with
 |nil=>exact .nil
 |@cons p q ps qs h t ih=>
  rw[List.filter_cons,List.filter_cons]
  by_cases e:p.1=k
  ·rw[if_neg (by simp[e]),if_neg (by simp[←h.1,e])]
   exact ih
  ·rw[if_pos (by simp[e]),if_pos (by simp[←h.1,e])]
   exact .cons h ih
theorem pe_dpopT{o e f:Expr}{apos cpos:Pos}{td ty tx:TE}(hu:X.A.units+1<cLine)(ho:PE X o td)(he:PE X e ty)(hf:PE X f tx)(m:M2 X o "pop" apos e f cpos):PE X (.Call (.Attribute o "pop" apos) [e,f] [] cpos) (tDPopT td ty tx):=by
 intro pins s σ H Q I h
 refine wpAny_Call_method m.base m.few m.line PySem.F.plainAttrs_dict PySem.F.slot_dict_pop PySem.F.type_dict_pop (dw (ho pins s σ H _ I h) fun u s1 ⟨x,H1,I1,rx,a,ex,d,q1⟩=>?_)
 subst ex
 obtain rfl:u=Value.ref a:=rx
 obtain⟨t1,t2,_⟩:=isD_at I1 d
 refine⟨t1,t2,?_⟩
 rw[m.trees]
 refine Calls.callWith_builtin rfl (Calls.evalArgs_plain (Calls.spliced_cons (dw (he pins s1 σ H1 _ I1 q1) fun iv s2 ⟨y,H2,I2,ry,q2⟩=>
  Calls.spliced_cons (dw (hf pins s2 σ H2 _ I2 q2) fun fv s3 ⟨z,H3,I3,rz,kvs,k,b,ea,ey,eb,q3,q4⟩=>Calls.spliced_nil ?_))))
 subst ey
 cases (show iv=Value.ref b from ry)
 obtain⟨hz,hd,xs,rel,dd⟩:=dt_of I3.hok ea
 have rv:=rel.val k
 refine call_meetsIn PySem.F.slot_dict_pop dd.typeIs PySem.F.entry_dict_pop (PySem.F.args_dict_pop_3 _ _ _) (QP.meetsH_pop (knd:=tupleKind (bK X.prog X.w)) hd fv)
  ⟨tupleKind_room_in1 hu,k,xs,key_of I3.hok eb,dd,by rw[←Paired.length rel];exact hz,fun e0=>?_,fun en=>?_,fun p ep h' dd' hs=>?_⟩
 ·subst e0
  cases rel
  exact⟨z,H3,I3,rz,q4 rfl⟩
 ·rw[en]at rv
  have e:cW kvs k=none:=by
   cases e:cW kvs k with
   |none=>rfl
   |some v0=>rw[e]at rv;exact (show False from rv).elim
  exact⟨z,H3,I3.tok _,rz,q4 e⟩
 ·rw[ep]at rv
  cases e:cW kvs k with
  |none=>rw[e]at rv;exact (show False from rv).elim
  |some v0=>
   rw[e]at rv
   obtain⟨q,es,ep',hq,h2,h3,h4,_,h5⟩:=dd'
   refine⟨v0,upd H3 a (.dT (mq kvs k)),d_write I3 (by rw[ea];exact True.intro) hs ⟨q,hq⟩ ⟨Nat.le_trans (dropK_le kvs k) hz,hd,_,(KT.drop rel k).keeps fun c ys ec=>?_,q,es,ep',hq,h2,h3,h4,h5⟩,rv,q3 v0 e⟩
   rw[aB (bI ec ea (fun z=>nomatch z))]
   exact ec
end
section
variable{M:Model}{A:Around}{E:Value→Shared→Prop}{s:Shared}{env:Env}
theorem callWith_typeKw{pos:Pos}{T:String}{e:Expr}{rest:List Expr}{kws:List Keyword}{Q:Value→Shared→Prop}
  (h:wpAny M A (spliced (backTo pos (starEach (e::rest) env))) (fun vs s₁=>wpAny M A (evalAll ((backToKw pos (keywordEach kws env)).map (·.2)))
   (fun kvs s₂=>wpAny M A (call (.type T) vs (((backToKw pos (keywordEach kws env)).filterMap (·.1)).zip kvs)) Q E s₂) E s₁) E s)
  (he:backTo pos (starEach (e::rest) env)=(false,eval e env)::backTo pos (starEach rest env))
  (hplain:(backTo pos (starEach (e::rest) env)).any (·.1)=false)
  (hall:(backToKw pos (keywordEach kws env)).all (·.1.isSome)=true)
  (hkw:(backToKw pos (keywordEach kws env)).any (·.1.isNone)=false):
  wpAny M A (callWith pos (.type T) [] (backTo pos (starEach (e::rest) env)) (backToKw pos (keywordEach kws env))) Q E s:=by
 unfold callWith
 have h':wpAny M A (evalArgs (.type T) true (backTo pos (starEach (e::rest) env)) (backToKw pos (keywordEach kws env))) (fun a s₁=>wpAny M A (call (.type T) ([]++a.pos) a.kw) Q E s₁) E s:=by
  rw[he]at h ⊢
  exact evalArgs_kwB hall h
 refine wpAny_bind (wpAny_holding (wpAny_mono h' (fun a s₁ h₁=>wpAny_bind (wpAny_standAt ?_)) fun _ _ x=>x))
 simp only[hplain,hkw,Bool.or_false]
 refine wpAny_bind (wpAny_pure ?_)
 exact wpAny_bind (wpAny_mono h₁ (fun r s₂ hr=>wpAny_bind (wpAny_holding (wpAny_point (wpAny_pure hr)))) fun _ _ x=>x)
end
def ItzS(K:PySem.W.Frag)(a b:Addr):It:=
 ⟨fun i H=>∃(xs ys:List V) (x y:V),bh K H a xs∧bh K H b ys∧xs[i]?=some x∧ys[i]?=some y,
  fun i H v H'=>∃T x y,v=.ref T∧H T=none∧H'=upd H T (.tup [x,y])∧(∀xs,bh K H a xs→xs[i]?=some x)∧∀ys,bh K H b ys→ys[i]?=some y,
  fun i H=>∃xs ys:List V,bh K H a xs∧bh K H b ys∧xs.length≤i∧ys.length≤i⟩
theorem turn_zipS{P:Program}{w:World}{K:PySem.W.Frag}{elts:List Expr}{kk:Nat}{tpos:Pos}{a b z TI TO i1 i2:Addr}(D:ZipApart z TI TO i1 i2 a b):
  Turn P w K (.Tuple elts kk tpos) (ItzS K a b) [z,TI,TO,i1,i2] z (fun i h=>QZ.eY h z TI TO .none∧IsPair h TI (.ref i1) (.ref i2)∧(∃x y,IsPair h TO x y)∧h.IsListIter i1 a i∧h.IsListIter i2 b i) where
 mem:=by simp
 obj:=fun i h st c hc=>by
  obtain⟨hz,hTI,⟨x,y,hTO⟩,⟨o1,e1,_,d1⟩,⟨o2,e2,_,d2⟩⟩:=st
  have e':c=z∨c=TI∨c=TO∨c=i1∨c=i2:=by simpa using hc
  rcases e' with q|q|q|q|q
  ·rw[q];exact⟨_,hz,fun v q=>nomatch q⟩
  ·rw[q];exact⟨_,hTI,fun v q=>nomatch q⟩
  ·rw[q];exact⟨_,hTO,fun v q=>nomatch q⟩
  ·rw[q];exact⟨o1,e1,fun v q=>by rw[d1]at q;cases q⟩
  ·rw[q];exact⟨o2,e2,fun v q=>by rw[d2]at q;cases q⟩
 keep:=fun i h h' st k=>by
  obtain⟨hz,hTI,⟨x,y,hTO⟩,h1,h2⟩:=st
  exact⟨k z (by simp) _ hz,k TI (by simp) _ hTI,⟨x,y,k TO (by simp) _ hTO⟩,h1.at fun o q=>k i1 (by simp) o q,h2.at fun o q=>k i2 (by simp) o q⟩
 item:=by
  intro X hP hw hK hc i pins s σ H E I hf st hg
  subst hP hw hK
  obtain⟨hz,hTI,⟨x0,y0,hTO⟩,h1,h2⟩:=st
  obtain⟨xs,ys,x,y,hqx,hqy,hx,hy⟩:=hg
  obtain⟨its,rv,p,_⟩:=I.list hqx
  obtain⟨its2,rv2,p2,_⟩:=I.list hqy
  obtain⟨u,hu,ru⟩:=rv.get hx
  obtain⟨u2,hu2,ru2⟩:=rv2.get hy
  have hzl:z<s.heap.objs.size:=Heap.lt_size hz
  have l1:i1<s.heap.objs.size:=by obtain⟨_,e1,_⟩:=h1;exact Heap.lt_size e1
  have l2:i2<s.heap.objs.size:=by obtain⟨_,e2,_⟩:=h2;exact Heap.lt_size e2
  refine QZ.oG D (QZ.src_list (A:=X.A.in1) (I.ok.hd hc) i1 a D.l1i1 its.toArray) (QZ.src_list (A:=X.A.in1) (I.ok.hd hc) i2 b D.l2i2 its2.toArray) hz hTI hTO ⟨h1,p.isList⟩ ⟨h2,p2.isList⟩ (x:=u) (y:=u2) (by simpa using hu) (by simpa using hu2) l1 l2 fun h' z' TO' h1' h2' hT hsz hk=>?_
  refine⟨_,rfl,QZ.letGo_zipS (s:={ s with heap:=h' }) z' fun h'' z'' sb=>?_⟩
  have hT2:h''.get? s.heap.objs.size=some { cls:=.type "tuple",data:=.seq #[u,u2] }:=(sb.2 _ (Nat.ne_of_gt hzl)).trans hT
  have new:cM X.prog X.w (upd H s.heap.objs.size (.tup [x,y])) h'' s.heap.objs.size (.tup [x,y]):=
   ⟨by show 2≤sizeLine;decide,[u,u2],.cons ru (.cons ru2 .nil),⟨_,hT2,rfl,_,rfl⟩⟩
  have I1:Inv X pins σ (upd H s.heap.objs.size (.tup [x,y])) { s with heap:=h'' }:=
   I.turnedNew (t':=s.toks) (ch:=[z,TI,TO,i1,i2]) (fun c o hb q=>(sb.2 c (fun q'=>hb (by simp[q']))).trans (hk c o (fun q'=>hb (by simp[q'])) (fun q'=>hb (by simp[q'])) (fun q'=>hb (by simp[q'])) (fun q'=>hb (by simp[q'])) q)) hf (Nat.le_refl _) new
  refine⟨.ref s.heap.objs.size,_,I1,rfl,⟨_,x,y,rfl,I.hok.fresh (Nat.le_refl _),rfl,fun l hl=>by rw[I.list_inj hl hqx];exact hx,fun l hl=>by rw[I.list_inj hl hqy];exact hy⟩,⟨z'',?_,⟨u,u2,?_⟩,?_,?_⟩,fun c hcm=>?_⟩
  ·exact (sb.2 _ D.TIz).trans (hk _ _ D.TIz D.TITO D.TIi1 D.TIi2 hTI)
  ·exact (sb.2 _ D.TOz).trans TO'
  ·exact h1'.1.at fun o q=>(sb.2 _ D.i1z).trans q
  ·exact h2'.1.at fun o q=>(sb.2 _ D.i2z).trans q
  ·have hlt:c<s.heap.objs.size:=by
    have e':c=z∨c=TI∨c=TO∨c=i1∨c=i2:=by simpa using hcm
    rcases e' with q|q|q|q|q
    ·rw[q];exact hzl
    ·rw[q];exact Heap.lt_size hTI
    ·rw[q];exact Heap.lt_size hTO
    ·rw[q];exact l1
    ·rw[q];exact l2
   rw[aB (Nat.ne_of_lt hlt)]
   exact (hf c hcm).1
 done:=by
  intro X hP hw hK hc i pins s σ H E I hf st hg
  subst hP hw hK
  obtain⟨hz,hTI,⟨x0,y0,hTO⟩,h1,h2⟩:=st
  obtain⟨xs,ys,hqx,hqy,hex,hey⟩:=hg
  obtain⟨its,rv,p,_⟩:=I.list hqx
  obtain⟨its2,rv2,p2,_⟩:=I.list hqy
  have l1:=rv.length
  have l2:=rv2.length
  exact QZ.pyNext_zipS_end (I.ok.hd hc) D (QZ.src_list (A:=X.A.in1) (I.ok.hd hc) i1 a D.l1i1 its.toArray) (QZ.src_list (A:=X.A.in1) (I.ok.hd hc) i2 b D.l2i2 its2.toArray) hz hTI hTO ⟨h1,p.isList⟩ ⟨h2,p2.isList⟩ (by simp;omega) (by simp;omega) fun h' hk=>⟨rfl,I.turnedL (t':=s.toks) (ch:=[z,TI,TO,i1,i2]) (fun c o hb q=>
   hk c o (fun q'=>hb (by simp[q'])) (fun q'=>hb (by simp[q'])) (fun q'=>hb (by simp[q'])) (fun q'=>hb (by simp[q'])) q) hf⟩
 self:=fun A i s Q E st h=>QZ.mJ st.1 h
def iZipS(K:PySem.W.Frag)(ta:TA):TI:=fun σ H R=>ta σ H fun vs H1=>∃a b xs ys,vs=[.ref a,.ref b]∧bh K H1 a xs∧bh K H1 b ys∧R (ItzS K a b) H1
theorem pi_zipS{X:Cx}{e e2:Expr}{ta:TA}{p pos tpos kpos cpos:Pos}{ck kk:Nat}{elts:List Expr}(hg:Gl X "zip")(hm:X.mg "zip"=none)(ha:PA X [e,e2] ta)
  (hs:starEach [e,e2] X.env=(false,eval e X.env)::starEach [e2] X.env:=by rfl) (hpl:(backTo pos (starEach [e,e2] X.env)).any (·.1)=false:=by rfl):
  PI X (.Tuple elts kk tpos) (.Call (.Name "zip" p) [e,e2] [⟨some "strict",.Constant (.bool true) ck cpos,kpos⟩] pos) (iZipS X.K ta):=by
 intro pins s σ H R I h
 refine wpAny_Call_Name_kw (oJ I hg hm boot_zip5 ?_)
 refine callWith_typeKw (T:="zip") (e:=e) (rest:=[e2]) (dw (ha pos pins s σ H _ I h) fun us s1 ⟨vs,H1,I1,r1,q1⟩=>PyProof.Rows.kws_cons (Constant_bool (PyProof.Rows.kws_nil ?_))) (by rw[hs];rfl) hpl rfl rfl
 obtain⟨a,b,xs,ys,ex,hqx,hqy,q⟩:=q1
 subst ex
 cases r1 with
 |cons r rr=>
  cases rr with
  |cons r' rr=>
   cases rr
   cases r
   cases r'
   obtain⟨its,rv,p1,_⟩:=I1.list hqx
   obtain⟨its2,rv2,p2,_⟩:=I1.list hqy
   have la:a<s1.heap.objs.size:=p1.lt
   have lb:b<s1.heap.objs.size:=p2.lt
   obtain⟨z4,a2,a3,a4,a5,a6,a7,a8⟩:=QZ.zipS_at (h:=s1.heap) (n1:="list_iterator") (n2:="list_iterator") (l1:=a) (l2:=b)
   refine QZ.call_zipS_ll (xs:=its.toArray) (ys:=its2.toArray) p1.isList p2.isList (QZ.mJ a2 ?_)
   have I2:Inv X pins σ H1 { s1 with heap:=QZ.zH5 s1.heap "list_iterator" "list_iterator" a b }:=I1.kept (t':=s1.toks) a8
   refine⟨s1.heap.objs.size+4,[s1.heap.objs.size+4,s1.heap.objs.size+2,s1.heap.objs.size+3,s1.heap.objs.size,s1.heap.objs.size+1],_,_,H1,rfl,I2,turn_zipS (PySem.W.ktu_apart s1.heap.objs.size a b la lb),⟨a2,a3,⟨_,_,a4⟩,⟨_,a5,rfl,rfl⟩,⟨_,a6,rfl,rfl⟩⟩,fun c hcm=>?_,q⟩
   have e':c=s1.heap.objs.size+4∨c=s1.heap.objs.size+2∨c=s1.heap.objs.size+3∨c=s1.heap.objs.size∨c=s1.heap.objs.size+1:=by simpa using hcm
   have hle:s1.heap.objs.size≤c:=by
    rcases e' with z|z|z|z|z
    ·rw[z];exact Nat.le_add_right _ _
    ·rw[z];exact Nat.le_add_right _ _
    ·rw[z];exact Nat.le_add_right _ _
    ·rw[z];exact Nat.le_refl _
    ·rw[z];exact Nat.le_add_right _ _
   exact I1.fpOk hle (I1.hok.fresh hle)
def ItzST(K:PySem.W.Frag)(a b:Addr):It:=
 ⟨fun i H=>∃(xs ys:List V) (x y:V),jh K H a xs∧bh K H b ys∧xs[i]?=some x∧ys[i]?=some y,
  fun i H v H'=>∃T x y,v=.ref T∧H T=none∧H'=upd H T (.tup [x,y])∧(∀xs,jh K H a xs→xs[i]?=some x)∧∀ys,bh K H b ys→ys[i]?=some y,
  fun i H=>∃xs ys:List V,jh K H a xs∧bh K H b ys∧xs.length≤i∧ys.length≤i⟩
theorem turn_zipST{P:Program}{w:World}{K:PySem.W.Frag}{elts:List Expr}{kk:Nat}{tpos:Pos}{a b z TI TO i1 i2:Addr}(D:ZipApart z TI TO i1 i2 a b):
  Turn P w K (.Tuple elts kk tpos) (ItzST K a b) [z,TI,TO,i1,i2] z (fun i h=>QZ.eY h z TI TO .none∧IsPair h TI (.ref i1) (.ref i2)∧(∃x y,IsPair h TO x y)∧h.IsTupleIter i1 a i∧h.IsListIter i2 b i) where
 mem:=by simp
 obj:=fun i h st c hc=>by
  obtain⟨hz,hTI,⟨x,y,hTO⟩,⟨o1,e1,_,d1⟩,⟨o2,e2,_,d2⟩⟩:=st
  have e':c=z∨c=TI∨c=TO∨c=i1∨c=i2:=by simpa using hc
  rcases e' with q|q|q|q|q
  ·rw[q];exact⟨_,hz,fun v q=>nomatch q⟩
  ·rw[q];exact⟨_,hTI,fun v q=>nomatch q⟩
  ·rw[q];exact⟨_,hTO,fun v q=>nomatch q⟩
  ·rw[q];exact⟨o1,e1,fun v q=>by rw[d1]at q;cases q⟩
  ·rw[q];exact⟨o2,e2,fun v q=>by rw[d2]at q;cases q⟩
 keep:=fun i h h' st k=>by
  obtain⟨hz,hTI,⟨x,y,hTO⟩,h1,h2⟩:=st
  exact⟨k z (by simp) _ hz,k TI (by simp) _ hTI,⟨x,y,k TO (by simp) _ hTO⟩,h1.at fun o q=>k i1 (by simp) o q,h2.at fun o q=>k i2 (by simp) o q⟩
 item:=by
  intro X hP hw hK hc i pins s σ H E I hf st hg
  subst hP hw hK
  obtain⟨hz,hTI,⟨x0,y0,hTO⟩,h1,h2⟩:=st
  obtain⟨xs,ys,x,y,hqx,hqy,hx,hy⟩:=hg
  obtain⟨its,rv,p,_⟩:=I.tuple hqx
  obtain⟨its2,rv2,p2,_⟩:=I.list hqy
  obtain⟨u,hu,ru⟩:=rv.get hx
  obtain⟨u2,hu2,ru2⟩:=rv2.get hy
  have hzl:z<s.heap.objs.size:=Heap.lt_size hz
  have l1:i1<s.heap.objs.size:=by obtain⟨_,e1,_⟩:=h1;exact Heap.lt_size e1
  have l2:i2<s.heap.objs.size:=by obtain⟨_,e2,_⟩:=h2;exact Heap.lt_size e2
  refine QZ.oG D (QZ.src_tuple (A:=X.A.in1) (I.ok.hd hc) i1 a D.l1i1 its.toArray) (QZ.src_list (A:=X.A.in1) (I.ok.hd hc) i2 b D.l2i2 its2.toArray) hz hTI hTO ⟨h1,(show s.heap.IsTuple a its.toArray from p)⟩ ⟨h2,p2.isList⟩ (x:=u) (y:=u2) (by simpa using hu) (by simpa using hu2) l1 l2 fun h' z' TO' h1' h2' hT hsz hk=>?_
  refine⟨_,rfl,QZ.letGo_zipS (s:={ s with heap:=h' }) z' fun h'' z'' sb=>?_⟩
  have hT2:h''.get? s.heap.objs.size=some { cls:=.type "tuple",data:=.seq #[u,u2] }:=(sb.2 _ (Nat.ne_of_gt hzl)).trans hT
  have new:cM X.prog X.w (upd H s.heap.objs.size (.tup [x,y])) h'' s.heap.objs.size (.tup [x,y]):=
   ⟨by show 2≤sizeLine;decide,[u,u2],.cons ru (.cons ru2 .nil),⟨_,hT2,rfl,_,rfl⟩⟩
  have I1:Inv X pins σ (upd H s.heap.objs.size (.tup [x,y])) { s with heap:=h'' }:=
   I.turnedNew (t':=s.toks) (ch:=[z,TI,TO,i1,i2]) (fun c o hb q=>(sb.2 c (fun q'=>hb (by simp[q']))).trans (hk c o (fun q'=>hb (by simp[q'])) (fun q'=>hb (by simp[q'])) (fun q'=>hb (by simp[q'])) (fun q'=>hb (by simp[q'])) q)) hf (Nat.le_refl _) new
  refine⟨.ref s.heap.objs.size,_,I1,rfl,⟨_,x,y,rfl,I.hok.fresh (Nat.le_refl _),rfl,fun l hl=>by rw[I.tuple_inj hl hqx];exact hx,fun l hl=>by rw[I.list_inj hl hqy];exact hy⟩,⟨z'',?_,⟨u,u2,?_⟩,?_,?_⟩,fun c hcm=>?_⟩
  ·exact (sb.2 _ D.TIz).trans (hk _ _ D.TIz D.TITO D.TIi1 D.TIi2 hTI)
  ·exact (sb.2 _ D.TOz).trans TO'
  ·exact h1'.1.at fun o q=>(sb.2 _ D.i1z).trans q
  ·exact h2'.1.at fun o q=>(sb.2 _ D.i2z).trans q
  ·have hlt:c<s.heap.objs.size:=by
    have e':c=z∨c=TI∨c=TO∨c=i1∨c=i2:=by simpa using hcm
    rcases e' with q|q|q|q|q
    ·rw[q];exact hzl
    ·rw[q];exact Heap.lt_size hTI
    ·rw[q];exact Heap.lt_size hTO
    ·rw[q];exact l1
    ·rw[q];exact l2
   rw[aB (Nat.ne_of_lt hlt)]
   exact (hf c hcm).1
 done:=by
  intro X hP hw hK hc i pins s σ H E I hf st hg
  subst hP hw hK
  obtain⟨hz,hTI,⟨x0,y0,hTO⟩,h1,h2⟩:=st
  obtain⟨xs,ys,hqx,hqy,hex,hey⟩:=hg
  obtain⟨its,rv,p,_⟩:=I.tuple hqx
  obtain⟨its2,rv2,p2,_⟩:=I.list hqy
  have l1:=rv.length
  have l2:=rv2.length
  exact QZ.pyNext_zipS_end (I.ok.hd hc) D (QZ.src_tuple (A:=X.A.in1) (I.ok.hd hc) i1 a D.l1i1 its.toArray) (QZ.src_list (A:=X.A.in1) (I.ok.hd hc) i2 b D.l2i2 its2.toArray) hz hTI hTO ⟨h1,(show s.heap.IsTuple a its.toArray from p)⟩ ⟨h2,p2.isList⟩ (by simp;omega) (by simp;omega) fun h' hk=>⟨rfl,I.turnedL (t':=s.toks) (ch:=[z,TI,TO,i1,i2]) (fun c o hb q=>
   hk c o (fun q'=>hb (by simp[q'])) (fun q'=>hb (by simp[q'])) (fun q'=>hb (by simp[q'])) (fun q'=>hb (by simp[q'])) q) hf⟩
 self:=fun A i s Q E st h=>QZ.mJ st.1 h
def iZipST(K:PySem.W.Frag)(ta:TA):TI:=fun σ H R=>ta σ H fun vs H1=>∃a b xs ys,vs=[.ref a,.ref b]∧jh K H1 a xs∧bh K H1 b ys∧R (ItzST K a b) H1
theorem pi_zipST{X:Cx}{e e2:Expr}{ta:TA}{p pos tpos kpos cpos:Pos}{ck kk:Nat}{elts:List Expr}(hg:Gl X "zip")(hm:X.mg "zip"=none)(ha:PA X [e,e2] ta)
  (hs:starEach [e,e2] X.env=(false,eval e X.env)::starEach [e2] X.env:=by rfl) (hpl:(backTo pos (starEach [e,e2] X.env)).any (·.1)=false:=by rfl):
  PI X (.Tuple elts kk tpos) (.Call (.Name "zip" p) [e,e2] [⟨some "strict",.Constant (.bool true) ck cpos,kpos⟩] pos) (iZipST X.K ta):=by
 intro pins s σ H R I h
 refine wpAny_Call_Name_kw (oJ I hg hm boot_zip5 ?_)
 refine callWith_typeKw (T:="zip") (e:=e) (rest:=[e2]) (dw (ha pos pins s σ H _ I h) fun us s1 ⟨vs,H1,I1,r1,q1⟩=>PyProof.Rows.kws_cons (Constant_bool (PyProof.Rows.kws_nil ?_))) (by rw[hs];rfl) hpl rfl rfl
 obtain⟨a,b,xs,ys,ex,hqx,hqy,q⟩:=q1
 subst ex
 cases r1 with
 |cons r rr=>
  cases rr with
  |cons r' rr=>
   cases rr
   cases r
   cases r'
   obtain⟨its,rv,p1,_⟩:=I1.tuple hqx
   obtain⟨its2,rv2,p2,_⟩:=I1.list hqy
   have la:a<s1.heap.objs.size:=p1.lt
   have lb:b<s1.heap.objs.size:=p2.lt
   obtain⟨z4,a2,a3,a4,a5,a6,a7,a8⟩:=QZ.zipS_at (h:=s1.heap) (n1:="tuple_iterator") (n2:="list_iterator") (l1:=a) (l2:=b)
   refine QZ.call_zipS_tl (xs:=its.toArray) (ys:=its2.toArray) (show s1.heap.IsTuple a its.toArray from p1) p2.isList (QZ.mJ a2 ?_)
   have I2:Inv X pins σ H1 { s1 with heap:=QZ.zH5 s1.heap "tuple_iterator" "list_iterator" a b }:=I1.kept (t':=s1.toks) a8
   refine⟨s1.heap.objs.size+4,[s1.heap.objs.size+4,s1.heap.objs.size+2,s1.heap.objs.size+3,s1.heap.objs.size,s1.heap.objs.size+1],_,_,H1,rfl,I2,turn_zipST (PySem.W.ktu_apart s1.heap.objs.size a b la lb),⟨a2,a3,⟨_,_,a4⟩,⟨_,a5,rfl,rfl⟩,⟨_,a6,rfl,rfl⟩⟩,fun c hcm=>?_,q⟩
   have e':c=s1.heap.objs.size+4∨c=s1.heap.objs.size+2∨c=s1.heap.objs.size+3∨c=s1.heap.objs.size∨c=s1.heap.objs.size+1:=by simpa using hcm
   have hle:s1.heap.objs.size≤c:=by
    rcases e' with z|z|z|z|z
    ·rw[z];exact Nat.le_add_right _ _
    ·rw[z];exact Nat.le_add_right _ _
    ·rw[z];exact Nat.le_add_right _ _
    ·rw[z];exact Nat.le_refl _
    ·rw[z];exact Nat.le_add_right _ _
   exact I1.fpOk hle (I1.hok.fresh hle)
section
variable{X:Cx}
theorem pe_rangeV2{a b:Expr}{ta:TA}{p pos:Pos}(hg:Gl X "range")(hm:X.mg "range"=none)(ha:PA X [a,b] ta)(hs:starEach [a,b] X.env=[(false,eval a X.env),(false,eval b X.env)]:=by rfl)(hs2:starEach [b] X.env=[(false,eval b X.env)]:=by rfl):
  PE X (.Call (.Name "range" p) [a,b] [] pos) (fun σ H Q=>ta σ H fun vs H1=>∃i j:Int,vs=[.int i,.int j]∧∀r,H1 r=none→Q (.ref r) (upd H1 r (.rng i j))):=by
 intro pins s σ H Q I h
 refine Call_ (oJ I hg hm boot_range (PyProof.Rows.callWith_type1 (dw (ha pos pins s σ H _ I h) fun us s1 ⟨vs,H1,I1,r1,q1⟩=>?_) (by rw[hs,hs2]) (by rw[hs2];rfl)))
 obtain⟨i,j,e,q⟩:=q1
 subst e
 cases r1 with
 |cons r rr=>
  cases rr with
  |cons r' rr=>
   cases rr
   obtain⟨t,rfl⟩:=r
   obtain⟨t',rfl⟩:=r'
   refine call_range_2 ?_
   exact⟨.ref s1.heap.objs.size,_,I1.laid (a:=s1.heap.objs.size) (o:=.rng i j) (fun b u e=>Heap.get?_push_of_some _ e) (Nat.le_refl _) ⟨_,_,_,Heap.get?_push_size _ rfl⟩,rfl,q _ (I1.hok.fresh (Nat.le_refl _))⟩
theorem vals_items{f:Nat→Int}:∀{l:List Value},(∀(j:Nat) (v:Value),l[j]?=some v→∃t,v=Value.int (f j) t)→Vals ((List.range l.length).map fun k=>V.int (f k)) l:=by
 intro l
 induction l generalizing f with
 |nil=>intro _;exact .nil
 |cons v l ih=>
  intro h
  rw[List.length_cons,List.range_succ_eq_map,List.map_cons,List.map_map]
  exact .cons (h 0 v rfl) (ih (f:=fun k=>f (k+1)) fun j u hu=>h (j+1) u hu)
theorem call_list_rng(hc:X.calm=true):lF X (.type "list") (fun xs H Q=>∃(p:Addr) (lo hi:Int),xs=[V.ref p]∧H p=some (.rng lo hi)∧(-(2 ^ 62)≤lo∧lo<2 ^ 62∧-(2 ^ 62)≤hi∧hi<2 ^ 62)∧(hi - lo).toNat≤2 ^ 20∧
  ∀l,H l=none→Q (.ref l) (upd H l (.lst ((List.range (hi - lo).toNat).map fun(k:Nat)=>V.int (lo+k))))):=by
 intro pins s σ H xs us Q I r h
 obtain⟨p,lo,hi,rfl,hp,⟨b1,b2,b3,b4⟩,hn,q⟩:=h
 obtain⟨u,rfl,ru⟩:=vals1 r
 cases ru
 obtain⟨t1,t2,t3,er⟩:∃t u v,s.heap.get? p=some { cls:=.type "range",data:=.fields #[.int lo t,.int hi u,.int 1 v] }:=I.hok p _ hp
 refine call_list_range (n:=(hi - lo).toNat) (I.ok.hd hc) er (small_one b1 b2 b3 b4) (by rw[rangeSize_one];split <;> omega) (by omega) fun h' tk acc c' kp ho items=>?_
 have hlen:acc.toList.length=(hi - lo).toNat:=by simpa using items.1
 have rv:Vals ((List.range (hi - lo).toNat).map fun(k:Nat)=>V.int (lo+k)) acc.toList:=by
  rw[←hlen]
  refine vals_items (f:=fun k=>lo+k) fun j v hv=>?_
  obtain⟨t,e⟩:=items.2 j v (by simpa using hv)
  exact⟨t,by rw[e,Int.mul_one]⟩
 refine⟨.ref s.heap.objs.size,_,I.laid (a:=s.heap.objs.size) (t':=tk) kp (Nat.le_refl _) (show cM X.prog X.w _ h' _ (.lst ((List.range (hi - lo).toNat).map fun(k:Nat)=>V.int (lo+k)))from⟨?_,acc.toList,c',rv,by simpa using ho⟩),rfl,q _ (I.hok.fresh (Nat.le_refl _))⟩
 rw[List.length_map,List.length_range,sizeLine_eq]
 omega
end
def GDict(P:Program)(w:World)(K:PySem.W.Frag)(mg:Str→Option Value)(x:Str)(kvs:List (Key×V)):Prop:=
 ∃d vs,mg x=some (.ref d)∧KV kvs vs∧∀h,K.In h→h.DictOf (bK P w) d vs
section
variable{X:Cx}
def tGDict(kvs:List (Key×V))(ty:TE):TE:=fun σ H Q=>ty σ H fun y H1=>∃k v,y=kV k∧cW kvs k=some v∧Q v H1
theorem pe_gdict{x:Str}{kvs:List (Key×V)}{i:Expr}{px pos:Pos}{ty:TE}(G:GDict X.prog X.w X.K X.mg x kvs)(hg:Gl X x)(hi:PE X i ty)(hs:NoSl i)(hd:(x==("__debug__":Str))=false:=by decide):
  PE X (.Subscript (.Name x px) i pos) (tGDict kvs ty):=by
 intro pins s σ H Q I h
 obtain⟨d,vs,hm,rel,dd⟩:=G
 refine subD_of PySem.F.slot_dict_getitem.lookup hs (ld_glob I hg hm (dw (hi pins s σ H _ I h) fun iv s2 ⟨y,H2,I2,ry,k,v,ey,l,q2⟩=>?_) hd)
 subst ey
 have d2:=dd _ I2.kIn
 obtain⟨w',hw,rw'⟩:=RelO.some_of (v:=v) (o:=valueAt vs k) (by rw[←l];exact rel.val k)
 exact⟨d2.typeIs,wpAny_getItem_of (kV_is ry) d2.mapOf hw ⟨v,H2,I2.tok _,rw',q2⟩⟩
end
def Has(P:Program)(w:World)(K:PySem.W.Frag)(mg:Str→Option Value)(base:Heap)(k:Nat)(x:Str)(ps:List Str)(sp:Sp):Prop:=
 ∃f fd,mg x=some (.ref f)∧PySem.W.keepIn K (.ref f)=true∧Binds K fd ps []∧FnOk P w K mg base CX0 k f fd ps sp
def lD(P:Program)(w:World)(K:PySem.W.Frag)(mg:Str→Option Value)(base:Heap)(k:Nat)(x:Str)(C:Addr)(ps:List Str)(sp:Sp):Prop:=
 ∃f fd,mg x=some (.ref C)∧Mk K C f∧Binds K fd ps []∧FnOk P w K mg base CX0 k f fd ps sp
section
variable{X:Cx}{k j:Nat}{x:Str}{ps:List Str}{sp:Sp}{p pos:Pos}{e:Expr}{es:List Expr}{t:TA}{C:Addr}
theorem aC(h:Has X.prog X.w X.K X.mg X.base k x ps sp)(hr:fV j X.A)(ha:PA X (e::es) t)(hk:k≤j:=by decide)(hg:Gl X x:=by rfl)(hdb:(x==("__debug__":Str))=false:=by decide)
  (he:starEach (e::es) X.env=(false,eval e X.env)::starEach es X.env:=by rfl) (hpl:(backTo pos (starEach es X.env)).any (·.1)=false:=by rfl):PE X (.Call (.Name x p) (e::es) [] pos) (tCall sp [] E0 t):=by
 obtain⟨f,fd,hm,kp,hb,F⟩:=h
 exact pe_call F (hr.mono hk) hg hm kp hb .nil pass0 ha hdb he hpl
theorem pe_own0(h:Has X.prog X.w X.K X.mg X.base k x ps sp)(hr:fV j X.A)(hk:k≤j:=by decide)(hg:Gl X x:=by rfl)(hdb:(x==("__debug__":Str))=false:=by decide):PE X (.Call (.Name x p) [] [] pos) (tCall sp [] E0 tNil):=by
 obtain⟨f,fd,hm,kp,hb,F⟩:=h
 exact pe_call0 F (hr.mono hk) hg hm kp hb .nil pass0 hdb
theorem iQ(h:lD X.prog X.w X.K X.mg X.base k x C ps sp)(hr:fV j X.A)(ha:PA X (e::es) t)(hk:k+1≤j:=by decide)(hg:Gl X x:=by rfl)(hdb:(x==("__debug__":Str))=false:=by decide)
  (he:starEach (e::es) X.env=(false,eval e X.env)::starEach es X.env:=by rfl) (hpl:(backTo pos (starEach es X.env)).any (·.1)=false:=by rfl):PE X (.Call (.Name x p) (e::es) [] pos) (tMake C sp [] E0 t):=by
 obtain⟨f,fd,hm,M,hb,F⟩:=h
 exact pe_make M F (hr.mono hk) hg hm hb .nil pass0 ha hdb he hpl
theorem pe_makeH0(h:lD X.prog X.w X.K X.mg X.base k x C ps sp)(hr:fV j X.A)(hk:k+1≤j:=by decide)(hg:Gl X x:=by rfl)(hdb:(x==("__debug__":Str))=false:=by decide):PE X (.Call (.Name x p) [] [] pos) (tMake C sp [] E0 tNil):=by
 obtain⟨f,fd,hm,M,hb,F⟩:=h
 exact pe_make0 M F (hr.mono hk) hg hm hb .nil pass0 hdb
end
def aF(K:PySem.W.Frag)(mg:Str→Option Value)(x:Str)(st:Stmt):Prop:=∃f fd,mg x=some (.ref f)∧Fun K x x st f fd
section
variable{P:Program}{w:World}{K:PySem.W.Frag}{mg:Str→Option Value}{base:Heap}
theorem Has.of{x:Str}{st:Stmt}{N ps:List Str}{k:Nat}{sp:Sp}(D:aF K mg x st)(S:oU N ps (aG st))
  (hb:∀(kV doc pm:Value) (an:Option Addr) (cdv ct:Value) (us:List Value),us.length=ps.length→bindArgs (PySem.W.fnOf x x (gb st) (dO st) (aG st) .none kV doc pm an cdv ct) ⟨us,[]⟩=pure (ps.zip us))
  (hbody:∀(f:Addr) (cdv:Value) (A:Around) (outer:List Env) (s:Shared) (H:Hp) (vs:List V) (Q:VK) (E:XK),fV k (A.deeper (envOfC x (aG st) s.heap.objs.size f cdv))→sp vs H Q E→
   ∃t,PSs (cxOf CX0 P w K mg base N x (aG st) f cdv A outer s H E).nox (dO st) t∧t { nx:=fun _ H'=>Q .non H',rt:=Q } (start N vs) H) (len:∀vs H Q E,sp vs H Q E→vs.length=ps.length:=by intro vs H Q E h;repeat (first|(obtain⟨rfl,_⟩:=h;rfl)|obtain⟨_,h⟩:=h)):Has P w K mg base (k+1) x ps sp:=by
 obtain⟨f,fd,hm,F⟩:=D
 exact⟨f,fd,hm,F.kp,F.binds hb,F.ok S len (hbody f)⟩
def jU(K:PySem.W.Frag)(mg:Str→Option Value)(x qual:Str)(C:Addr)(st:Stmt):Prop:=∃f fd,mg x=some (.ref C)∧Mk K C f∧Fun K "__init__" qual st f fd
theorem lD.of{x qual:Str}{C:Addr}{st:Stmt}{N ps:List Str}{k:Nat}{sp:Sp}(D:jU K mg x qual C st)(S:oU N ps (aG st))
  (hb:∀(kV doc pm:Value) (an:Option Addr) (cdv ct:Value) (us:List Value),us.length=ps.length→bindArgs (PySem.W.fnOf "__init__" qual (gb st) (dO st) (aG st) .none kV doc pm an cdv ct) ⟨us,[]⟩=pure (ps.zip us))
  (hbody:∀(f:Addr) (cdv:Value) (A:Around) (outer:List Env) (s:Shared) (H:Hp) (vs:List V) (Q:VK) (E:XK),fV k (A.deeper (envOfC qual (aG st) s.heap.objs.size f cdv))→sp vs H Q E→
   ∃t,PSs (cxOf CX0 P w K mg base N qual (aG st) f cdv A outer s H E).nox (dO st) t∧t { nx:=fun _ H'=>Q .non H',rt:=Q } (start N vs) H) (len:∀vs H Q E,sp vs H Q E→vs.length=ps.length:=by intro vs H Q E h;repeat (first|(obtain⟨rfl,_⟩:=h;rfl)|obtain⟨_,h⟩:=h)):lD P w K mg base (k+1) x C ps sp:=by
 obtain⟨f,fd,hm,M,F⟩:=D
 exact⟨f,fd,hm,M,F.binds hb,F.ok S len (hbody f)⟩
end
def Soft:HO→Prop
 |.tbl _=>False
 |.ext _=>False
 |_=>True
structure bD(τ:Hp→Prop):Prop where
 mono:∀H H',(∀b o,H b=some o→H' b=some o)→τ H→τ H'
 soft:∀H a o o',H a=some o→Soft o→τ H→τ (upd H a o')
structure Ext(τ:Hp→Prop)(H H':Hp):Prop where
 keep:∀b o,H b=some o→(∀ps,o≠.tbl ps)→H' b=some o
 tb:τ H→τ H'
section
variable{τ:Hp→Prop}{H H1 H2 H':Hp}{a:Addr}{o:HO}
theorem Ext.refl(H:Hp):Ext τ H H:=⟨fun _ _ e _=>e,fun t=>t⟩
theorem Ext.trans(x:Ext τ H H1)(y:Ext τ H1 H2):Ext τ H H2:=⟨fun b o e n=>y.keep b o (x.keep b o e n) n,fun t=>y.tb (x.tb t)⟩
theorem Ext.new(T:bD τ)(h:H a=none):Ext τ H (upd H a o):=⟨fun b u e _=>by rw[aB (aL e h)];exact e,T.mono _ _ fun b u e=>by rw[aB (aL e h)];exact e⟩
theorem Ext.then(T:bD τ)(x:Ext τ H H1)(h:H1 a=none):Ext τ H (upd H1 a o):=x.trans (.new T h)
theorem Ext.lst{xs:List V}(x:Ext τ H H1)(h:H a=some (.lst xs)):H1 a=some (.lst xs):=x.keep _ _ h (fun _ z=>nomatch z)
theorem Ext.tup{xs:List V}(x:Ext τ H H1)(h:H a=some (.tup xs)):H1 a=some (.tup xs):=x.keep _ _ h (fun _ z=>nomatch z)
theorem Ext.ins{C dx:Addr}{fs:List (Str×V)}(x:Ext τ H H1)(h:H a=some (.ins C dx fs)):H1 a=some (.ins C dx fs):=x.keep _ _ h (fun _ z=>nomatch z)
theorem Ext.dT{kvs:List (List Key×V)}(x:Ext τ H H1)(h:H a=some (.dT kvs)):H1 a=some (.dT kvs):=x.keep _ _ h (fun _ z=>nomatch z)
theorem Ext.dK{kvs:List (Key×V)}(x:Ext τ H H1)(h:H a=some (.dK kvs)):H1 a=some (.dK kvs):=x.keep _ _ h (fun _ z=>nomatch z)
theorem Ext.seq{K:PySem.W.Frag}{xs:List V}(x:Ext τ H H1)(h:bh K H a xs):bh K H1 a xs:=by
 rcases h with(h|⟨o,h⟩)|h
 ·exact .inl (.inl (x.keep _ _ h (fun _ z=>nomatch z)))
 ·exact .inl (.inr ⟨o,x.keep _ _ h (fun _ z=>nomatch z)⟩)
 ·exact .inr h
theorem Ext.seqT{K:PySem.W.Frag}{xs:List V}(x:Ext τ H H1)(h:jh K H a xs):jh K H1 a xs:=by
 rcases h with(h|⟨o,h⟩)|h
 ·exact .inl (.inl (x.keep _ _ h (fun _ z=>nomatch z)))
 ·exact .inl (.inr ⟨o,x.keep _ _ h (fun _ z=>nomatch z)⟩)
 ·exact .inr h
theorem Ext.over{o':HO}(T:bD τ)(x:Ext τ H H1)(h0:H a=none)(h:H1 a=some o)(so:Soft o):Ext τ H (upd H1 a o'):=
 ⟨fun b u e n=>by rw[aB (aL e h0)];exact x.keep b u e n,fun t=>T.soft _ _ _ _ h so (x.tb t)⟩
end
theorem tab_ok{P:Addr}{pos:Pos}{q:Str}:bD (fj P pos q) where
 mono:=fun H H' k x=>x.ext k
 soft:=fun H a o o' h so x=>by
  obtain⟨ps,h1,h2,h3⟩:=x
  have ne:∀b u,H b=some u→(¬Soft u)→b≠a:=fun b u e n z=>by
   rw[z,h]at e;cases e;exact n so
  refine⟨ps,by rw[aB (ne P _ h1 fun z=>z)];exact h1,h2,?_⟩
  rcases h3 with h3|⟨c,h3,h4⟩
  ·exact .inl h3
  ·exact .inr ⟨c,h3,by rw[aB (ne c _ h4 fun z=>z)];exact h4⟩
theorem fY{α:Type}:∀{l:List α}{i:Nat}{x:α},l[i]?=some x→l.take (i+1)=l.take i++[x]
 |[],i,x,h=>by simp at h
 |a::l,0,x,h=>by
  have e:a=x:=Option.some.inj h
  subst e
  rfl
 |a::l,i+1,x,h=>by
  have ih:=fY (l:=l) (i:=i) (x:=x) h
  show a::l.take (i+1)=a::l.take i++[x]
  rw[ih]
  rfl
section
variable{τ:Hp→Prop}
theorem lc_pure{K:PySem.W.Frag}{a:Addr}{xs:List V}{g:TG}{tt:TT}{te:TE}{vs:List Nat}{σ:St}{H1:Hp}{Qd:Addr→Hp→Prop}(T:bD τ)(hl:bh K H1 a xs)(sz:xs.length<sizeLine)(p:V→Bool)(f:V→V)
  (hs:∀(i:Nat) (x:V),xs[i]?=some x→∀H',Ext τ H1 H'→∀(R:V→Hp→Prop) (N:Hp→Prop),(∀H4,Ext τ H' H4→p x=true→R (f x) H4)→(∀H3,Ext τ H' H3→p x=false→N H3)→
   g x (wipe σ vs) H' fun σ2 H2=>wipe σ2 vs=wipe σ vs∧tt σ2 H2 fun b H3=>if b=true then te σ2 H3 R else N H3)
  (hQ:∀D H',Ext τ H1 H'→H1 D=none→H' D=some (.lst ((xs.filter p).map f))→Qd D H'):
  ∀D,H1 D=none→∃W:Nat→Nat→Hp→Prop,(∃m,W 0 m (upd H1 D (.lst [])))∧∀i m H,W i m H→
   ((Itl K a).stop i H∧Qd D H)∨((Itl K a).go i H∧∃Nx:Hp→Prop,(∀H',Nx H'→∃m',m'<m∧W (i+1) m' H')∧∀x H',(Itl K a).yld i H x H'→g x (wipe σ vs) H' fun σ2 H2=>wipe σ2 vs=wipe σ vs∧tt σ2 H2 fun b H3=>
    if b=true then te σ2 H3 fun y H4=>∃acc,H4 D=some (.lst acc)∧acc.length<sizeLine∧Nx (upd H4 D (.lst (acc++[y])))else Nx H3):=by
 intro D hD
 refine lc_list (K:=K) (a:=a) (xs:=xs) (D:=D) (Qd:=fun H=>Qd D H) (fun i H=>Ext τ H1 H∧H D=some (.lst (((xs.take i).filter p).map f))) ⟨.new T hD,ao⟩ (fun i H _ h=>h.1.seq hl) (fun i x H hx h=>?_) fun H h=>?_
 ·obtain⟨e1,e2⟩:=h
  refine hs i x hx H e1 _ _ (fun H4 e4 hp=>?_) fun H3 e3 hp=>?_
  ·have q:=e4.lst e2
   refine⟨_,q,?_,?_,?_⟩
   ·rw[List.length_map]
    have h1:=List.length_filter_le p (xs.take i)
    rw[List.length_take]at h1
    omega
   ·exact (e1.trans e4).over T hD q True.intro
   ·rw[ao,fY hx,List.filter_append,List.filter_cons,if_pos hp,List.map_append]
    rfl
  ·refine⟨e1.trans e3,?_⟩
   rw[fY hx,List.filter_append,List.filter_cons,if_neg (by rw[hp];decide),List.filter_nil,List.append_nil]
   exact e3.lst e2
 ·obtain⟨e1,e2⟩:=h
  rw[List.take_length]at e2
  exact hQ D H e1 hD e2
end
theorem dg{X:Cx}{K:PySem.W.Frag}{e:Expr}{f:Str}{pos:Pos}{ta:TE}(hK:X.K=K)(he:PE X e ta)(hb:attributeBase e f X.env (eval e X.env)=eval e X.env):PE X (.Attribute e f pos) (tFld K ta f):=by
 subst hK;exact aJ he hb
theorem ix_listK{X:Cx}{K:PySem.W.Frag}(hK:X.K=K):IxR X (rIxL K):=by subst hK;exact bf
theorem ix_tupK{X:Cx}{K:PySem.W.Frag}(hK:X.K=K):IxR X (rIxT K):=by subst hK;exact ix_tup
section
variable{τ:Hp→Prop}
theorem Ext.d8{H H1:Hp}{a:Addr}{ob:Obj}{u:HO}(x:Ext τ H H1)(h:H a=some (.d8 ob u)):H1 a=some (.d8 ob u):=x.keep _ _ h (fun _ z=>nomatch z)
theorem lc_it{J:It}{n:Nat}{g:TG}{tt:TT}{te:TE}{vs:List Nat}{σ:St}{H1:Hp}{Qd:Addr→Hp→Prop}(T:bD τ)(sz:n<sizeLine)(out:Nat→Option V)(Yl:Nat→V→Hp→Prop)
  (hgo:∀i H,i<n→Ext τ H1 H→J.go i H) (hst:∀H,Ext τ H1 H→J.stop n H) (hy:∀i H x H',i<n→Ext τ H1 H→J.yld i H x H'→Ext τ H H'∧Yl i x H')
  (hs:∀(i:Nat) (x:V),i<n→∀H',Ext τ H1 H'→Yl i x H'→∀(R:V→Hp→Prop) (N:Hp→Prop),(∀v H4,out i=some v→Ext τ H' H4→R v H4)→(∀H3,out i=none→Ext τ H' H3→N H3)→
   g x (wipe σ vs) H' fun σ2 H2=>wipe σ2 vs=wipe σ vs∧tt σ2 H2 fun b H3=>if b=true then te σ2 H3 R else N H3)
  (hQ:∀D H',Ext τ H1 H'→H1 D=none→H' D=some (.lst ((List.range n).filterMap out))→Qd D H'):
  ∀D,H1 D=none→∃W:Nat→Nat→Hp→Prop,(∃m,W 0 m (upd H1 D (.lst [])))∧∀i m H,W i m H→
   (J.stop i H∧Qd D H)∨(J.go i H∧∃Nx:Hp→Prop,(∀H',Nx H'→∃m',m'<m∧W (i+1) m' H')∧∀x H',J.yld i H x H'→g x (wipe σ vs) H' fun σ2 H2=>wipe σ2 vs=wipe σ vs∧tt σ2 H2 fun b H3=>
    if b=true then te σ2 H3 fun y H4=>∃acc,H4 D=some (.lst acc)∧acc.length<sizeLine∧Nx (upd H4 D (.lst (acc++[y])))else Nx H3):=by
 intro D hD
 refine⟨fun i m H=>m=n - i∧i≤n∧Ext τ H1 H∧H D=some (.lst ((List.range i).filterMap out)),⟨n,by simp,Nat.zero_le _,.new T hD,ao⟩,?_⟩
 rintro i m H ⟨rfl,hi,e1,e2⟩
 by_cases hlt:i<n
 ·refine .inr ⟨hgo i H hlt e1,fun H'=>Ext τ H1 H'∧H' D=some (.lst ((List.range (i+1)).filterMap out)),fun H' p'=>⟨n - (i+1),by omega,rfl,hlt,p'⟩,fun x H' y=>?_⟩
  obtain⟨ey,yl⟩:=hy i H x H' hlt e1 y
  have e3:=e1.trans ey
  have q3:=ey.lst e2
  refine hs i x hlt H' e3 yl _ _ (fun v H4 ho e4=>?_) fun H3 ho e4=>?_
  ·have q:=e4.lst q3
   refine⟨_,q,?_,(e3.trans e4).over T hD q True.intro,?_⟩
   ·have h1:=List.length_filterMap_le out (List.range i)
    rw[List.length_range]at h1
    omega
   ·rw[ao,List.range_succ,List.filterMap_append]
    simp[ho]
  ·refine⟨e3.trans e4,?_⟩
   rw[List.range_succ,List.filterMap_append]
   simp[ho,e4.lst q3]
 ·have e:i=n:=by omega
  subst e
  exact .inl ⟨hst H e1,hQ D H e1 hD e2⟩
theorem lc_keysT{d:Addr}{od:Obj}{kvs:List (List Key×V)}{g:TG}{tt:TT}{te:TE}{vs:List Nat}{σ:St}{H1:Hp}{Qd:Addr→Hp→Prop}(T:bD τ)(hd:H1 d=some (.d8 od (.dT kvs)))(sz:kvs.length<sizeLine)(out:Nat→Option V)
  (hs:∀(i:Nat) (k:List Key) (v:V) (q:Addr),kvs[i]?=some (k,v)→∀H',Ext τ H1 H'→H' q=some (.tup (k.map kV))→∀(R:V→Hp→Prop) (N:Hp→Prop),(∀v H4,out i=some v→Ext τ H' H4→R v H4)→(∀H3,out i=none→Ext τ H' H3→N H3)→
   g (.ref q) (wipe σ vs) H' fun σ2 H2=>wipe σ2 vs=wipe σ vs∧tt σ2 H2 fun b H3=>if b=true then te σ2 H3 R else N H3)
  (hQ:∀D H',Ext τ H1 H'→H1 D=none→H' D=some (.lst ((List.range kvs.length).filterMap out))→Qd D H'):
  ∀D,H1 D=none→∃W:Nat→Nat→Hp→Prop,(∃m,W 0 m (upd H1 D (.lst [])))∧∀i m H,W i m H→
   ((Itkt d od kvs).stop i H∧Qd D H)∨((Itkt d od kvs).go i H∧∃Nx:Hp→Prop,(∀H',Nx H'→∃m',m'<m∧W (i+1) m' H')∧∀x H',(Itkt d od kvs).yld i H x H'→g x (wipe σ vs) H' fun σ2 H2=>wipe σ2 vs=wipe σ vs∧tt σ2 H2 fun b H3=>
    if b=true then te σ2 H3 fun y H4=>∃acc,H4 D=some (.lst acc)∧acc.length<sizeLine∧Nx (upd H4 D (.lst (acc++[y])))else Nx H3):=
 lc_it (J:=Itkt d od kvs) T sz out (fun i x H=>∃k v q,kvs[i]?=some (k,v)∧x=.ref q∧H q=some (.tup (k.map kV))) (fun i H hi e=>⟨e.d8 hd,hi⟩) (fun H e=>⟨e.d8 hd,Nat.le_refl _⟩)
  (fun i H x H' _ _ y=>by obtain⟨rfl,k,v,q,h1,h2,h3⟩:=y;exact⟨.refl _,k,v,q,h1,h2,h3⟩)
  (fun i x hi H' e yl R N h1 h2=>by obtain⟨k,v,q,y1,rfl,y3⟩:=yl;exact hs i k v q y1 H' e y3 R N h1 h2) hQ
theorem lc_vals{d:Addr}{od:Obj}{kvs:List (Key×V)}{g:TG}{tt:TT}{te:TE}{vs:List Nat}{σ:St}{H1:Hp}{Qd:Addr→Hp→Prop}(T:bD τ)(hd:H1 d=some (.d8 od (.dK kvs)))(sz:kvs.length<sizeLine)(out:Nat→Option V)
  (hs:∀(i:Nat) (k:Key) (v:V),kvs[i]?=some (k,v)→∀H',Ext τ H1 H'→∀(R:V→Hp→Prop) (N:Hp→Prop),(∀v H4,out i=some v→Ext τ H' H4→R v H4)→(∀H3,out i=none→Ext τ H' H3→N H3)→
   g v (wipe σ vs) H' fun σ2 H2=>wipe σ2 vs=wipe σ vs∧tt σ2 H2 fun b H3=>if b=true then te σ2 H3 R else N H3)
  (hQ:∀D H',Ext τ H1 H'→H1 D=none→H' D=some (.lst ((List.range kvs.length).filterMap out))→Qd D H'):
  ∀D,H1 D=none→∃W:Nat→Nat→Hp→Prop,(∃m,W 0 m (upd H1 D (.lst [])))∧∀i m H,W i m H→
   ((Itd d od kvs).stop i H∧Qd D H)∨((Itd d od kvs).go i H∧∃Nx:Hp→Prop,(∀H',Nx H'→∃m',m'<m∧W (i+1) m' H')∧∀x H',(Itd d od kvs).yld i H x H'→g x (wipe σ vs) H' fun σ2 H2=>wipe σ2 vs=wipe σ vs∧tt σ2 H2 fun b H3=>
    if b=true then te σ2 H3 fun y H4=>∃acc,H4 D=some (.lst acc)∧acc.length<sizeLine∧Nx (upd H4 D (.lst (acc++[y])))else Nx H3):=
 lc_it (J:=Itd d od kvs) T sz out (fun i x H=>∃k,kvs[i]?=some (k,x)) (fun i H hi e=>⟨e.d8 hd,hi⟩) (fun H e=>⟨e.d8 hd,Nat.le_refl _⟩)
  (fun i H x H' _ _ y=>by obtain⟨rfl,k,h1⟩:=y;exact⟨.refl _,k,h1⟩)
  (fun i x hi H' e yl R N h1 h2=>by obtain⟨k,y1⟩:=yl;exact hs i k x y1 H' e R N h1 h2) hQ
theorem dJ{K:PySem.W.Frag}{a:Addr}{xs:List V}{g:TG}{tt:TT}{te:TE}{vs:List Nat}{σ:St}{H1:Hp}{Qd:Addr→Hp→Prop}(T:bD τ)(hl:bh K H1 a xs)(sz:xs.length<sizeLine)(out:Nat→Option V)
  (hs:∀(i:Nat) (x:V),xs[i]?=some x→∀H',Ext τ H1 H'→∀(R:V→Hp→Prop) (N:Hp→Prop),(∀v H4,out i=some v→Ext τ H' H4→R v H4)→(∀H3,out i=none→Ext τ H' H3→N H3)→
   g x (wipe σ vs) H' fun σ2 H2=>wipe σ2 vs=wipe σ vs∧tt σ2 H2 fun b H3=>if b=true then te σ2 H3 R else N H3)
  (hQ:∀D H',Ext τ H1 H'→H1 D=none→H' D=some (.lst ((List.range xs.length).filterMap out))→Qd D H'):
  ∀D,H1 D=none→∃W:Nat→Nat→Hp→Prop,(∃m,W 0 m (upd H1 D (.lst [])))∧∀i m H,W i m H→
   ((Itl K a).stop i H∧Qd D H)∨((Itl K a).go i H∧∃Nx:Hp→Prop,(∀H',Nx H'→∃m',m'<m∧W (i+1) m' H')∧∀x H',(Itl K a).yld i H x H'→g x (wipe σ vs) H' fun σ2 H2=>wipe σ2 vs=wipe σ vs∧tt σ2 H2 fun b H3=>
    if b=true then te σ2 H3 fun y H4=>∃acc,H4 D=some (.lst acc)∧acc.length<sizeLine∧Nx (upd H4 D (.lst (acc++[y])))else Nx H3):=
 lc_it (J:=Itl K a) T sz out (fun i x _=>xs[i]?=some x) (fun i H hi e=>⟨xs,xs[i],e.seq hl,List.getElem?_eq_getElem hi⟩) (fun H e=>⟨xs,e.seq hl,Nat.le_refl _⟩)
  (fun i H x H' _ e y=>by obtain⟨rfl,h1⟩:=y;exact⟨.refl _,h1 xs (e.seq hl)⟩)
  (fun i x hi H' e yl R N h1 h2=>hs i x yl H' e R N h1 h2) hQ
theorem Ext.unlock{H H':Hp}{d:Addr}{od:Obj}{u:HO}(T:bD τ)(hu:Soft u)(nt:∀ps,u≠.tbl ps)(hd:H d=some u)(x:Ext τ (upd H d (.d8 od u)) H'):H' d=some (.d8 od u)∧Ext τ H (upd H' d u):=by
 have q:H' d=some (.d8 od u):=x.d8 ao
 refine⟨q,fun b o e n=>?_,fun t=>T.soft _ _ _ _ q True.intro (x.tb (T.soft _ _ _ _ hd hu t))⟩
 by_cases hb:b=d
 ·subst hb
  rw[ao]
  rw[hd]at e
  exact e
 ·rw[aB hb]
  exact x.keep b o (by rw[aB hb];exact e) n
end
end L2
namespace QP
open PySem PyProof.Rows PySem.SeqAt
open AutoSeq1 (wpAny_loadPart')
theorem noFill_tuple_mul:fillsNumberSlot (.type "tuple") "mul"=pure false:=
 PySem.fillsNumberSlot_seq (id:="tuple.__mul__") (r:=some (.builtin "tuple.__rmul__")) F.slot_tuple_mul.lookup (by decide +kernel) F.slot_tuple_rmul.lookup (by decide +kernel)
theorem repeat_tuple:seqRepeat? (.type "tuple")=pure (some (.builtin "tuple.__mul__")):=by
 unfold seqRepeat?
 rw[PySem.seqSlot_of (T:="tuple") (name:="__mul__") (id:="tuple.__mul__") F.slot_tuple_mul.lookup (by decide +kernel),PySem.seqSlot_of (T:="tuple") (name:="__rmul__") (id:="tuple.__rmul__") F.slot_tuple_rmul.lookup (by decide +kernel)]
 rfl
theorem int_rmul_tuple(a:Int)(t:Tok)(l:Addr)(items:Array Value)(n:Nat)(dd:Option Addr)(sl:Array (Option Value)):
  Meets (Builtin.«int.__rmul__» ⟨[.int a t,.ref l],[]⟩) (fun _ R s=>s.heap.get? l=some { cls:=.type "tuple",dict:=dd,data:=.seq items n,slots:=sl }∧R (.ok (.ret Value.notImplemented)) s):=
 .of_wp fun prog w A R s h=>by
  obtain⟨hp,g,d,tk,os⟩:=s
  obtain⟨hl,h⟩:=h
  wp_walk
  exact⟨_,rfl,h⟩
theorem tuple_mul0(l:Addr)(items:Array Value)(n:Nat)(dd:Option Addr)(sl:Array (Option Value))(x:Int)(u:Tok)(h1:-(2 ^ 63)≤x)(h2:x≤0)(he:items.isEmpty=false):
  Meets (Builtin.«tuple.__mul__» ⟨[.ref l,.int x u],[]⟩) (fun _ R s=>s.heap.get? l=some { cls:=.type "tuple",dict:=dd,data:=.seq items n,slots:=sl }∧R (.ok (.ret (Value.ref s.heap.objs.size))) { s with heap:=s.heap.push { cls:=Value.type "tuple",data:=Data.seq #[] },toks:=s.toks }):=
 .of_wp fun prog w A R s h=>by
  obtain⟨hp,g,d,tk,os⟩:=s
  obtain⟨hl,h⟩:=h
  have f1:=AutoSeq1.idx_int
  have c1:¬(decide (x < -(2 ^ 63))||decide (x≥2 ^ 63))=true:=by simp;omega
  have c2:¬(items.isEmpty||x==1)=true:=by simp[he];omega
  have c3:(decide (x≤0)||items.isEmpty)=true:=by simp[h2]
  wp_walk using wpAny_loadPart' hl
  rw[if_neg c1]
  wp_walk using wpAny_loadPart' hl
  rw[if_neg c2]
  wp_walk using wpAny_loadPart' hl
  exact⟨_,rfl,h⟩
theorem tuple_mul1(l:Addr)(items:Array Value)(n:Nat)(dd:Option Addr)(sl:Array (Option Value))(u:Tok):
  Meets (Builtin.«tuple.__mul__» ⟨[.ref l,.int 1 u],[]⟩) (fun _ R s=>s.heap.get? l=some { cls:=.type "tuple",dict:=dd,data:=.seq items n,slots:=sl }∧R (.ok (.ret (Value.ref l))) { s with heap:=s.heap,toks:=s.toks }):=
 .of_wp fun prog w A R s h=>by
  obtain⟨hp,g,d,tk,os⟩:=s
  obtain⟨hl,h⟩:=h
  have f1:=AutoSeq1.idx_int
  have c1:¬(decide ((1:Int) < -(2 ^ 63))||decide ((1:Int)≥2 ^ 63))=true:=by decide
  have c2:(items.isEmpty||(1:Int)==1)=true:=by simp
  wp_walk using wpAny_loadPart' hl
  try rw[if_neg c1]
  wp_walk using wpAny_loadPart' hl
  try rw[if_pos c2]
  wp_walk using wpAny_loadPart' hl
  exact⟨_,rfl,h⟩
theorem tuple_mul2(l:Addr)(items:Array Value)(n:Nat)(dd:Option Addr)(sl:Array (Option Value))(x:Int)(u:Tok)(h1:2≤x)(h2:(items.size:Int)*x≤(sizeLine:Nat))(he:items.isEmpty=false)(h6:((List.replicate x.toNat items).foldl (·++·) #[]).size≤sizeLine):
  Meets (Builtin.«tuple.__mul__» ⟨[.ref l,.int x u],[]⟩) (fun _ R s=>s.heap.get? l=some { cls:=.type "tuple",dict:=dd,data:=.seq items n,slots:=sl }∧R (.ok (.ret (Value.ref s.heap.objs.size))) { s with heap:=s.heap.push { cls:=Value.type "tuple",data:=Data.seq ((List.replicate x.toNat items).foldl (·++·) #[]) },toks:=s.toks }):=
 .of_wp fun prog w A R s h=>by
  obtain⟨hp,g,d,tk,os⟩:=s
  obtain⟨hl,h⟩:=h
  have f1:=AutoSeq1.idx_int
  have hs:1≤items.size:=by
   cases hz:items.size with
   |zero=>simp[Array.isEmpty,hz]at he
   |succ k=>omega
  have hx:x≤(sizeLine:Nat):=by
   have:(1:Int)*x≤(items.size:Int)*x:=Int.mul_le_mul_of_nonneg_right (by omega) (by omega)
   omega
  have hz:=sizeLine_eq
  have c1:¬(decide (x < -(2 ^ 63))||decide (x≥2 ^ 63))=true:=by simp;omega
  have c2:¬(items.isEmpty||x==1)=true:=by simp[he];omega
  have c3:¬(decide (x≤0)||items.isEmpty)=true:=by simp[he];omega
  have c4:¬(items.size:Int)*x>(2 ^ 63 - 1)/8:=by omega
  have c5:¬Builtin.Tuple.tupleTooMany ((items.size:Int)*x)=true:=by unfold Builtin.Tuple.tupleTooMany;simp;omega
  wp_walk using wpAny_loadPart' hl
  rw[if_neg c1]
  wp_walk using wpAny_loadPart' hl
  rw[if_neg c2]
  wp_walk using wpAny_loadPart' hl
  rw[if_neg c3]
  wp_walk using wpAny_loadPart' hl
  rw[if_neg c4]
  wp_walk using wpAny_loadPart' hl
  rw[if_neg (Nat.not_lt.mpr h6)]
  wp_walk using wpAny_loadPart' hl
  exact⟨_,rfl,h⟩
end QP
namespace L2
open PySem PySem.Spec PyProof.Rows
def Grow(H H':Hp):Prop:=H'=H∨∃a o,H a=none∧H'=upd H a o
theorem Grow.ext{τ:Hp→Prop}{H H':Hp}(T:bD τ)(g:Grow H H'):Ext τ H H':=by
 rcases g with rfl|⟨a,o,h,rfl⟩
 ·exact .refl _
 ·exact .new T h
section
variable{X:Cx}
def rRepT(K:PySem.W.Frag):R2:=fun x y H Q=>∃(t:Addr) (k:Nat) (xs:List V),x=.ref t∧y=.int (k:Nat)∧jh K H t xs∧xs≠[]∧xs.length*k≤sizeLine∧∀p H',Grow H H'→jh K H' p (List.replicate k xs).flatten→Q (.ref p) H'
theorem op_repT:OpR X (binaryOp .Mult) (rRepT X.K):=by
 intro pins s σ H x y v u Q I rx ry h
 obtain⟨t,k,xs,rfl,rfl,ht,hne,hz,q⟩:=h
 cases rx
 obtain⟨tk,rfl⟩:=ry
 obtain⟨its,r,tp,_⟩:=I.tuple ht
 have hl:=r.length
 have hne':its≠[]:=fun z=>hne (r.nil_iff.mp z)
 obtain⟨⟨cls,dd,data,sl⟩,ho,hc,n,hd⟩:=id tp
 simp only at hc hd
 subst hc hd
 have he:its.toArray.isEmpty=false:=by
  cases its with
  |nil=>exact absurd rfl hne'
  |cons a l=>rfl
 have hsl:=sizeLine_eq
 have h1:1≤xs.length:=by
  cases xs with
  |nil=>exact absurd rfl hne
  |cons _ _=>simp
 have hk:k≤sizeLine:=Nat.le_trans (by have:=Nat.mul_le_mul_right k h1;omega) hz
 have fin:∀(V2:Value→Shared→Prop),wpAny (model X.prog X.w) X.A (call (.builtin "tuple.__mul__") [.ref t,.int (k:Nat) tk]) V2 X.xe s→wpAny (model X.prog X.w) X.A (binaryOp .Mult (.ref t) (.int (k:Nat) tk)) V2 X.xe s:=fun V2 hc2=>
  wpAny_binaryOp_repeat_ref (T:="tuple") (U:="int") (by decide) ⟨_,ho,rfl⟩ (fun s'=>typeIs_int s' (k:Nat) tk) QP.noFill_tuple_mul F.fills_int_mul F.slot_int_rmul QP.repeat_tuple F.slot_int_index.lookup
   (call_meets F.slot_int_rmul (typeIs_int s (k:Nat) tk) F.entry_int_rmul (F.args_int_rmul_2 _ _) (QP.int_rmul_tuple (k:Nat) tk t its.toArray n dd sl) ⟨ho,rfl,⟨_,ho,rfl⟩,hc2⟩)
 refine fin _ ?_
 by_cases k0:k=0
 ·subst k0
  refine call_meets F.slot_tuple_mul ⟨_,ho,rfl⟩ F.entry_tuple_mul (F.args_tuple_mul_2 _ _) (QP.tuple_mul0 t its.toArray n dd sl ((0:Nat):Int) tk (by decide) (by decide) he) ⟨ho,?_⟩
  refine⟨.ref s.heap.objs.size,upd H s.heap.objs.size (.tup []),I.laid (t':=s.toks) (o:=.tup []) (fun b ob q=>Heap.get?_push_of_some _ q) (Nat.le_refl _) ⟨Nat.zero_le _,[],.nil,IsTup.new _ _⟩,rfl,q _ _ (.inr ⟨_,_,I.fresh,rfl⟩) (jh.of ao)⟩
 ·by_cases k1:k=1
  ·subst k1
   refine call_meets F.slot_tuple_mul ⟨_,ho,rfl⟩ F.entry_tuple_mul (F.args_tuple_mul_2 _ _) (QP.tuple_mul1 t its.toArray n dd sl tk) ⟨ho,?_⟩
   refine⟨.ref t,H,I,rfl,q t H (.inl rfl) ?_⟩
   simpa using ht
  ·have hrep:(List.replicate k its.toArray).foldl (·++·) #[]=(List.replicate k its).flatten.toArray:=by
    have:=foldl_rep its k []
    rw[List.nil_append]at this
    exact this
   have hsz:((List.replicate k its).flatten).length≤sizeLine:=by rw[len_rep,←hl,Nat.mul_comm];exact hz
   have e2:((k:Nat):Int).toNat=k:=Int.toNat_natCast k
   refine call_meets F.slot_tuple_mul ⟨_,ho,rfl⟩ F.entry_tuple_mul (F.args_tuple_mul_2 _ _) (QP.tuple_mul2 t its.toArray n dd sl (k:Nat) tk (by omega) (by rw[List.size_toArray,←hl];omega) he (by rw[e2,hrep,List.size_toArray];exact hsz)) ⟨ho,?_⟩
   rw[e2,hrep]
   refine⟨.ref s.heap.objs.size,upd H s.heap.objs.size (.tup (List.replicate k xs).flatten),I.laid (t':=s.toks) (fun b ob q=>Heap.get?_push_of_some _ q) (Nat.le_refl _) ⟨by rw[len_rep,Nat.mul_comm];exact hz,_,r.rep k,IsTup.new _ _⟩,rfl,q _ _ (.inr ⟨_,_,I.fresh,rfl⟩) (jh.of ao)⟩
def rCatU(K:PySem.W.Frag):R2:=fun x y H Q=>∃a b xs ys,x=.ref a∧y=.ref b∧jh K H a xs∧jh K H b ys∧xs.length+ys.length≤sizeLine∧∀p H',Grow H H'→jh K H' p (xs++ys)→Q (.ref p) H'
theorem op_catU:OpR X (binaryOp .Add) (rCatU X.K):=by
 intro pins s σ H x y v u Q I rx ry h
 obtain⟨a,b,xs,ys,rfl,rfl,ha,hb,hz,q⟩:=h
 by_cases hx:xs=[]
 ·subst hx
  cases rx
  cases ry
  obtain⟨its,r1,p1,_⟩:=I.tuple ha
  obtain⟨its2,r2,p2,_⟩:=I.tuple hb
  have hv:its=[]:=r1.nil_iff.mpr rfl
  subst hv
  obtain⟨⟨cls,dd,data,sl⟩,ho,hc,n,hd⟩:=id p1
  obtain⟨⟨cls2,dd2,data2,sl2⟩,ho2,hc2,n2,hd2⟩:=id p2
  simp only at hc hd hc2 hd2
  subst hc hd hc2 hd2
  exact concat_meets ⟨_,ho,rfl⟩ ⟨_,ho2,rfl⟩ noFill_tuple_add seq_tuple_add PySem.F.slot_tuple_add PySem.F.entry_tuple_add (PySem.F.args_tuple_add_2 _ _)
   (tuple_addW0 a b _ _ n n2 dd dd2 sl sl2 rfl) ⟨ho,ho2,.ref b,H,I,rfl,q b H (.inl rfl) hb⟩
 ·refine op_catT pins s σ H _ _ v u Q I rx ry ⟨a,b,xs,ys,rfl,rfl,ha,hb,hx,hz,fun e=>?_,fun e p hp=>?_⟩
  ·refine q a H (.inl rfl) ?_
   rw[e,List.append_nil]
   exact ha
  ·exact q p _ (.inr ⟨p,_,hp,rfl⟩) (jh.of ao)
end
abbrev kkOf(ks:List Int):List (Int ⊕ List Nat):=ks.map Sum.inl
abbrev noStr:Nat→Bool:=fun _=>false
def kLe(x y:List Int):Prop:=lexLt itemOrd (kkOf y) (kkOf x)=false
theorem tup_ints:∀{its:List Value}{ks:List Int}{i:Nat},IntsAre its ks→tupItems noStr i its=some (kkOf ks)
 |_,_,_,.nil=>rfl
 |_,_,i,.cons n t h=>by
  show(if noStr i=true then none else(tupItems noStr (i+1) _).map (Sum.inl n::·))=_
  rw[if_neg Bool.false_ne_true,tup_ints h]
  rfl
section
variable{X:Cx}{pins:List (Addr×Obj)}{σ:St}{H:Hp}{s:Shared}
theorem key_at(I:Inv X pins σ H s){t:Addr}{ks:List Int}(h:H t=some (.tup (ks.map V.int))):G.tupKeyC s.heap noStr (.ref t)=some (kkOf ks):=by
 obtain⟨_,its,r,o,e,hc,n,hd⟩:=(show cM X.prog X.w H s.heap t (.tup (ks.map V.int))from I.hok t _ h)
 have hi:IntsAre its ks:=intsAre_of r
 have h1:G.isTupObj s.heap (.ref t)=true:=by simp[G.isTupObj,e,hc]
 unfold G.tupKeyC
 rw[if_pos h1]
 simp only[tupKey,e,hd]
 exact tup_ints hi
theorem tupOf_at(I:Inv X pins σ H s){t:Addr}{k:Int}{ks:List Int}(h:H t=some (.tup ((k::ks).map V.int))):∃tk,TupOf s.heap noStr (.ref t) (.int k tk):=by
 obtain⟨_,its,r,o,e,hc,n,hd⟩:=(show cM X.prog X.w H s.heap t (.tup ((k::ks).map V.int))from I.hok t _ h)
 have hi:IntsAre its (k::ks):=intsAre_of r
 cases hi with
 |cons _ tk _=>exact⟨tk,t,o,_,n,rfl,e,hc,hd,by simp,fun _=>⟨k,tk,rfl⟩,fun z=>nomatch z⟩
theorem tupsOf_at(I:Inv X pins σ H s):∀{ts:List Addr},(∀t∈ts,∃k ks,H t=some (.tup ((k::ks).map V.int)))→∃fs,TupsOf s.heap noStr (ts.map Value.ref) fs
 |[],_=>⟨[],.nil⟩
 |t::ts,h=>by
  obtain⟨k,ks,e⟩:=h t List.mem_cons_self
  obtain⟨tk,ht⟩:=tupOf_at I e
  obtain⟨fs,hf⟩:=tupsOf_at I (ts:=ts) fun u hu=>h u (List.mem_cons_of_mem _ hu)
  exact⟨_,.cons ht hf⟩
end
def PairOk(h:Heap)(key:Int→List Int)(p:Keyed):Prop:=∃n t,p.2=Value.int n t∧G.tupKeyC h noStr p.1=some (kkOf (key n))
theorem pairs_ok{h:Heap}{key:Int→List Int}:∀{ts:List Addr}{vs:List Value}{ns:List Int},IntsAre vs ns→(∀(i:Nat) (t:Addr) (n:Int),ts[i]?=some t→ns[i]?=some n→G.tupKeyC h noStr (.ref t)=some (kkOf (key n)))→∀p∈(ts.map Value.ref).zip vs,PairOk h key p
 |[],_,_,_,_=>fun p hp=>by simp at hp
 |_::_,_,_,.nil,_=>fun p hp=>by simp at hp
 |t::ts,_,_,.cons n tk hi,k=>fun p hp=>by
  rw[List.map_cons,List.zip_cons_cons]at hp
  rcases List.mem_cons.mp hp with rfl|hp
  ·exact⟨n,tk,rfl,k 0 t n rfl rfl⟩
  ·exact pairs_ok hi (fun i u m h1 h2=>k (i+1) u m h1 h2) p hp
section
variable{X:Cx}{pins:List (Addr×Obj)}{σ:St}{H:Hp}{s:Shared}{A:Around}{E:Value→Shared→Prop}{P:PySem.Fin→Shared→Prop}{a kS:Addr}{e1:Nat}{ts:List Addr}{vs:List Value}{ns:List Int}{keys:Array Value}{key:Int→List Int}
theorem tailT{st:SortSt}(I:Inv X pins σ H s)(Ha:H a=some (.d8 (seqObj "list" #[] e1) (.lst [])))(hn:∀o' u',X.H_0 a≠some (.d8 o' u'))(Hk:H kS=some (.lst (ts.map V.ref)))
  (hi:IntsAre vs ns) (hl:keys.toList.length=vs.length) (hZ:vs.length≤sizeLine) (hpo:∀p∈keys.toList.zip vs,PairOk s.heap key p) (hp:(arrOf st).Perm (keys.zip vs.toArray)) (hfl:failedOf st=none) (hpw:(arrOf st).toList.Pairwise (KeyLe (G.tupKindC s.heap noStr)))
  (h:∀(ns':List Int) h' tk,ns'.Perm ns→ns'.Pairwise (fun x y=>kLe (key x) (key y))→Inv X pins σ (upd (upd H kS (.lst [])) a (.lst (ns'.map V.int))) { s with heap:=h',toks:=tk }→P (.done (.ret .none)) { s with heap:=h',toks:=tk }):
  wpAny (model X.prog X.w) A (ksk_tail a false e1 (.ref kS) st) P E s:=by
 have nka:kS≠a:=fun z=>by rw[z,Ha]at Hk;cases Hk
 obtain⟨zk,its,nk,rk,lk,ek⟩:=I.lstM Hk
 have ea:s.heap.get? a=some (seqObj "list" #[] e1):=(I.hok a _ Ha).1
 have hpl:(arrOf st).toList.Perm (keys.toList.zip vs):=by rw[←ksk_zip];exact Array.perm_iff_toList_perm.mp hp
 have hok:∀p∈(arrOf st).toList,PairOk s.heap key p:=fun p hp'=>hpo p (hpl.mem_iff.mp hp')
 have hsz:(arrOf st).size=vs.length:=by
  have:=hpl.length_eq
  rw[List.length_zip,hl,Nat.min_self,Array.length_toList]at this
  exact this
 have hI:IntsAre ((arrOf st).map (·.2)).toList ((arrOf st).toList.map fun p=>numOf p.2):=by
  rw[Array.toList_map]
  have:=intsAre_map ((arrOf st).toList.map (·.2)) (fun v hv=>by
   obtain⟨p,hp',rfl⟩:=List.mem_map.mp hv
   obtain⟨n,t,e,_⟩:=hok p hp'
   exact⟨n,t,e⟩)
  rw[List.map_map]at this
  exact this
 have hP:((arrOf st).toList.map fun p=>numOf p.2).Perm ns:=by
  have h1:=hpl.map fun p:Keyed=>numOf p.2
  have e:(keys.toList.zip vs).map (fun p:Keyed=>numOf p.2)=ns:=by
   have e2:(keys.toList.zip vs).map (fun p:Keyed=>numOf p.2)=((keys.toList.zip vs).map Prod.snd).map numOf:=by rw[List.map_map];rfl
   rw[e2,List.map_snd_zip (by omega),hi.nums]
  rw[e]at h1
  exact h1
 have hO:((arrOf st).toList.map fun p=>numOf p.2).Pairwise (fun x y=>kLe (key x) (key y)):=by
  rw[List.pairwise_map]
  refine hpw.imp_of_mem fun{p q} hp' hq' hr=>?_
  obtain⟨n,t,e,k1⟩:=hok p hp'
  obtain⟨m,u,f,k2⟩:=hok q hq'
  obtain⟨x,y,x1,y1,z⟩:=hr
  rw[show G.tupKeyC s.heap noStr p.1=some x from x1]at k1
  rw[show G.tupKeyC s.heap noStr q.1=some y from y1]at k2
  cases k1
  cases k2
  rw[e,f]
  exact z
 unfold ksk_tail
 try dsimp only
 have I1:=I.lset (t':=s.toks) (f:=fun _=>(#[]:Array Value)) (its':=[]) (ys:=[]) Hk ek rfl .nil (Nat.zero_le _)
 have ea1:(s.heap.update kS (Obj.mapSeq fun _=>(#[]:Array Value))).get? a=some (seqObj "list" #[] e1):=by rw[Heap.get?_update_ne _ _ _ _ nka.symm];exact ea
 refine wpAny_bind (listUpdate_at ek rfl ?_ (by rw[List.size_toArray,←lk];exact zk) (Nat.zero_le _))
 refine wpAny_bind (wpAny_letGo ?_)
 refine wpAny_bind (seqEpoch_at ea1 rfl ?_)
 have I2:=I1.unlock (d:=a) (by rw[aB nka.symm];exact Ha) hn
 have I3:=I2.lset (t':=s.toks) (its:=[]) (n:=e1) (f:=fun _=>(arrOf st).map (·.2)) (its':=((arrOf st).map (·.2)).toList) (ys:=((arrOf st).toList.map fun p=>numOf p.2).map V.int) ao ea1 (by show _=_;rw[Array.toArray_toList]) (vals_ints hI)
  (by rw[List.length_map,List.length_map,Array.length_toList,hsz];exact hZ)
 refine wpAny_bind (listUpdate_at ea1 rfl ?_ (Nat.zero_le _) ?_)
 ·rw[hfl]
  simp only[bne_self_eq_false,Bool.false_eq_true,if_false]
  refine wpAny_pure (h _ _ s.toks hP hO ?_)
  have e5:upd (upd (upd H kS (.lst [])) a (.lst [])) a (.lst (((arrOf st).toList.map fun p=>numOf p.2).map V.int))=upd (upd H kS (.lst [])) a (.lst (((arrOf st).toList.map fun p=>numOf p.2).map V.int)):=by
   funext b
   by_cases hb:b=a
   ·rw[hb,ao,ao]
   ·rw[aB hb,aB hb,aB hb]
  rw[e5]at I3
  exact I3
 ·simp only[Bool.false_eq_true,if_false,Array.size_map,hsz]
  exact Nat.le_succ_of_le hZ
theorem pw_short{α:Type}{R:α→α→Prop}:∀{l:List α},l.length<2→l.Pairwise R
 |[],_=>.nil
 |[_],_=>List.pairwise_singleton ..
 |_::_::l,h=>absurd h (by rw[List.length_cons,List.length_cons];omega)
theorem endT(I:Inv X pins σ H s)(Ha:H a=some (.d8 (seqObj "list" #[] e1) (.lst [])))(hn:∀o' u',X.H_0 a≠some (.d8 o' u'))(Hk:H kS=some (.lst (ts.map V.ref)))(hk:keys.toList=ts.map Value.ref)
  (hi:IntsAre vs ns) (hl:ts.length=vs.length) (hZ:vs.length≤sizeLine) (hkey:∀(i:Nat) (t:Addr) (n:Int),ts[i]?=some t→ns[i]?=some n→H t=some (.tup ((key n).map V.int))) (hne:∀n,key n≠[])
  (h:∀(ns':List Int) h' tk,ns'.Perm ns→ns'.Pairwise (fun x y=>kLe (key x) (key y))→Inv X pins σ (upd (upd H kS (.lst [])) a (.lst (ns'.map V.int))) { s with heap:=h',toks:=tk }→P (.done (.ret .none)) { s with heap:=h',toks:=tk }):
  wpAny (model X.prog X.w) A (ksk_end a false vs.toArray e1 (.ref kS) keys) P E s:=by
 have hlv:=hi.length
 have hkl:keys.toList.length=vs.length:=by rw[hk,List.length_map,hl]
 have hks:keys.size=vs.length:=by rw[←Array.length_toList];exact hkl
 have hzs:(keys.zip vs.toArray).size=vs.length:=by rw[Array.size_zip,hks,List.size_toArray,Nat.min_self]
 have hpo:∀p∈keys.toList.zip vs,PairOk s.heap key p:=by
  rw[hk]
  exact pairs_ok hi fun i t n h1 h2=>key_at I (hkey i t n h1 h2)
 unfold ksk_end
 simp only[Bool.false_eq_true,if_false]
 by_cases h2:vs.toArray.size<2
 ·rw[if_pos h2,if_pos h2]
  refine wpAny_bind (wpAny_pure ?_)
  rw[StateT.run_pure]
  refine wpAny_bind (wpAny_pure ?_)
  try dsimp only
  refine tailT (st:=SortSt.mk' general' (keys.zip vs.toArray) #[] 7 none) I Ha hn Hk hi hkl hZ hpo (Array.Perm.refl _) rfl ?_ h
  have hlen:(arrOf (SortSt.mk' general' (keys.zip vs.toArray) #[] 7 none)).toList.length<2:=by
   show(keys.zip vs.toArray).toList.length<2
   rw[Array.length_toList,hzs]
   simpa using h2
  exact pw_short hlen
 ·rw[if_neg h2,if_neg h2]
  have h2':2≤vs.length:=by
   rw[List.size_toArray]at h2
   omega
  have htup:∀t∈ts,∃k ks,H t=some (.tup ((k::ks).map V.int)):=fun t ht=>by
   obtain⟨i,hi',e⟩:=List.getElem_of_mem ht
   have hin:i<ns.length:=by omega
   have hh:=hkey i t ns[i] (by rw[List.getElem?_eq_getElem hi',e]) (List.getElem?_eq_getElem hin)
   cases q:key ns[i]with
   |nil=>exact absurd q (hne _)
   |cons k ks=>rw[q]at hh;exact⟨k,ks,hh⟩
  obtain⟨fs,hfs⟩:=tupsOf_at I htup
  have hk2:keys=(ts.map Value.ref).toArray:=by rw[←hk]
  have kk:wpAny (model X.prog X.w) A (keyKind' keys) (fun κ s'=>κ=tuples' true∧s'=s) E s:=by
   rw[hk2]
   exact tup_kind (by rw[G.TupsOf.length hfs,List.length_map];omega) hfs ⟨rfl,rfl⟩
  refine wpAny_bind (wpAny_mono kk (fun κ s' hs=>?_) fun _ _ e=>e)
  obtain⟨rfl,rfl⟩:=hs
  have h0:KeysOf (G.tupKindC s'.heap noStr) (keys.zip vs.toArray):=fun p hp=>by
   rw[ksk_zip]at hp
   obtain⟨n,t,_,e⟩:=hpo p hp
   exact⟨_,e⟩
  refine wpAny_bind (wpAny_mono (G.wpS_sortRunsSt (κ:=G.tupKindC s'.heap noStr) (kd:=tuples' true) (a₀:=keys.zip vs.toArray) (st:=SortSt.mk' (tuples' true) (keys.zip vs.toArray) #[] 7 none)
   (Q:=fun _ st'=>(arrOf st').Perm (keys.zip vs.toArray)∧failedOf st'=none∧SortedToK (G.tupKindC s'.heap noStr) (arrOf st') (keys.zip vs.toArray).size)
   (G.tupC_ltAt true (G.KeepsTups.refl _)) h0 ⟨Array.Perm.refl _,rfl,rfl⟩ rfl (Stable.refl _) (by rw[hzs];exact h2') fun st' a1 a2 a3 _=>⟨a1,a2,a3⟩) ?_ fun _ _ e=>e)
  rintro⟨⟨⟩,st'⟩ s2 ⟨rfl,hp,hf,hs⟩
  try dsimp only
  refine tailT I Ha hn Hk hi hkl hZ hpo hp hf (keyLe_of_sorted (fun p hp'=>h0 p ((Array.perm_iff_toList_perm.mp hp).mem_iff.mp hp')) (by rw[hp.size_eq];exact hs)) h
end
section
variable{X:Cx}{pins:List (Addr×Obj)}{σ:St}{H Hb:Hp}{s:Shared}{A:Around}{E:Value→Shared→Prop}{a kS:Addr}{e1:Nat}{vs:List Value}{ns:List Int}{key:Int→List Int}{τ:Hp→Prop}{f:Value}
def KTurn(X:Cx)(pins:List (Addr×Obj))(σ:St)(τ:Hp→Prop)(Hb:Hp)(A:Around)(f:Value)(key:Int→List Int)(ns:List Int):Prop:=
 ∀(n:Int) (t:Tok),n∈ns→∀(H':Hp) (s':Shared),Inv X pins σ H' s'→Ext τ Hb H'→wpAny (model X.prog X.w) A (call f [.int n t])
  (fun v s2=>∃(tA:Addr) (H2:Hp),v=.ref tA∧Inv X pins σ H2 s2∧Ext τ H' H2∧H2 tA=some (.tup ((key n).map V.int))) (fun _ _=>False) s'
theorem restT{P:PySem.Fin→Shared→Prop}(TB:bD τ)(I:Inv X pins σ H s)(x:Ext τ Hb H)(ha0:Hb a=none)(hk0:Hb kS=none)(Ha:H a=some (.d8 (seqObj "list" #[] e1) (.lst [])))(hn:∀o' u',X.H_0 a≠some (.d8 o' u'))(Hk:H kS=some (.lst []))
  (hi:IntsAre vs ns) (hZ:vs.length≤sizeLine) (hne:∀n,key n≠[]) (turn:KTurn X pins σ τ Hb A f key ns)
  (h:∀(ns':List Int) (H':Hp) (s':Shared),ns'.Perm ns→ns'.Pairwise (fun x y=>kLe (key x) (key y))→Ext τ Hb H'→H' a=some (.lst (ns'.map V.int))→Inv X pins σ H' s'→P (.done (.ret .none)) s'):
  wpAny (model X.prog X.w) A (ksk_rest a f false vs.toArray e1 (.ref kS)) P E s:=by
 have hlv:=hi.length
 have nak:a≠kS:=fun z=>by rw[z,Hk]at Ha;cases Ha
 unfold ksk_rest
 refine wpAny_bind (wpAny_rule ?_)
 first
  |rw[List.forIn_toArray]
  |(rw[←Array.forIn_toList];simp only[List.toList_toArray])
 refine wpAny_bind (ksk_fold (fun i s'=>∃(Hi:Hp) (ts:List Addr),Inv X pins σ Hi s'∧Ext τ Hb Hi∧Hi a=some (.d8 (seqObj "list" #[] e1) (.lst []))∧Hi kS=some (.lst (ts.map V.ref))∧ts.length=i∧
  ∀(j:Nat) (t:Addr) (n:Int),ts[j]?=some t→ns[j]?=some n→Hi t=some (.tup ((key n).map V.int))) vs 0 s ⟨H,[],I,x,Ha,Hk,rfl,fun j t n h _=>by simp at h⟩ ?step ?done)
 case step=>
  rintro j v s' hx ⟨Hi,ts,Ii,xi,Hai,Hki,hlen,hkey⟩
  simp only[Nat.zero_add]at hlen ⊢
  have hj:j<vs.length:=(List.getElem?_eq_some_iff.mp hx).1
  have hjn:j<ns.length:=by omega
  obtain⟨t,ht⟩:=hi.get j ns[j] (List.getElem?_eq_getElem hjn)
  rw[hx]at ht
  cases ht
  refine wpAny_bind (wpAny_attempt (wpAny_mono (turn ns[j] t (List.getElem_mem hjn) Hi s' Ii xi) (fun u s2 he=>?_) fun _ _ hF=>hF.elim))
  obtain⟨tA,H2,rfl,I2,e2,hT⟩:=he
  try dsimp only
  have Hk2:=e2.lst Hki
  obtain⟨zk,its,nk,rk,lk,ek⟩:=I2.lstM Hk2
  have hits:its.length=j:=by rw[←lk,List.length_map];exact hlen
  have ntk:tA≠kS:=fun z=>by rw[z,Hk2]at hT;cases hT
  have rk2:Vals (ts.map V.ref++[V.ref tA]) (its++[Value.ref tA]):=rk.append (.cons rfl .nil)
  have I3:=I2.lset (t':=s2.toks) (f:=fun y=>y.push (.ref tA)) (its':=its++[.ref tA]) (ys:=ts.map V.ref++[V.ref tA]) Hk2 ek (by simp) rk2 (by rw[List.length_append,List.length_map,List.length_singleton];omega)
  refine wpAny_bind (listUpdate_at ek rfl ?_ (by rw[List.size_toArray];omega) (by rw[Array.size_push,List.size_toArray];omega))
  refine wpAny_pure ⟨rfl,_,ts++[tA],I3,(xi.trans e2).over TB hk0 Hk2 True.intro,by rw[aB nak];exact e2.d8 Hai,by rw[ao,List.map_append];rfl,by rw[List.length_append,hlen];rfl,fun i u n h1 h2=>?_⟩
  by_cases hij:i<ts.length
  ·rw[List.getElem?_append_left hij]at h1
   have q:=e2.tup (hkey i u n h1 h2)
   rw[aB (fun z=>by rw[z,Hk2]at q;cases q)]
   exact q
  ·have hil:i=ts.length:=by
    have:=(List.getElem?_eq_some_iff.mp h1).1
    rw[List.length_append,List.length_singleton]at this
    omega
   rw[hil,List.getElem?_append_right (Nat.le_refl _),Nat.sub_self]at h1
   have e1:tA=u:=Option.some.inj h1
   subst e1
   rw[hil,hlen,List.getElem?_eq_getElem hjn]at h2
   have e2':ns[j]=n:=Option.some.inj h2
   rw[aB ntk,←e2']
   exact hT
 case done=>
  rintro s' ⟨Hi,ts,Ii,xi,Hai,Hki,hlen,hkey⟩
  simp only[Nat.zero_add]at hlen
  obtain⟨zk,its,nk,rk,lk,ek⟩:=Ii.lstM Hki
  have hits:its=ts.map Value.ref:=by
   clear hkey Hki ek lk zk hlen xi
   induction ts generalizing its with
   |nil=>rw[List.map_nil]at rk;cases rk;rfl
   |cons t ts ih=>
    rw[List.map_cons]at rk
    cases rk with
    |cons r1 r2=>
     cases r1
     rw[ih _ r2]
     rfl
  subst hits
  try dsimp only
  refine wpAny_bind (listItems_at ek rfl ?_)
  refine endT Ii Hai hn Hki (by simp) hi hlen hZ hkey hne fun ns' h' tk hp hs I9=>?_
  have y1:Ext τ Hb (upd Hi kS (.lst [])):=xi.over TB hk0 Hki True.intro
  have y2:(upd Hi kS (.lst [])) a=some (.d8 (seqObj "list" #[] e1) (.lst [])):=by rw[aB nak];exact Hai
  exact h ns' _ _ hp hs (y1.over TB ha0 y2 True.intro) ao I9
theorem treeT{P:PySem.Fin→Shared→Prop}(TB:bD τ)(I:Inv X pins σ H s)(x:Ext τ Hb H)(ha0:Hb a=none)(Ha:H a=some (.lst (ns.map V.int)))(hne:∀n,key n≠[])(turn:KTurn X pins σ τ Hb A f key ns)
  (hfr:∀b,s.heap.objs.size≤b→Hb b=none)
  (h:∀(ns':List Int) (H':Hp) (s':Shared),ns'.Perm ns→ns'.Pairwise (fun x y=>kLe (key x) (key y))→Ext τ Hb H'→H' a=some (.lst (ns'.map V.int))→Inv X pins σ H' s'→P (.done (.ret .none)) s'):
  wpAny (model X.prog X.w) A (ksk_tree a f false) P E s:=by
 obtain⟨za,its,na,ra,la,ea⟩:=I.lstM Ha
 have hi:IntsAre its ns:=intsAre_of ra
 have hZ:its.length≤sizeLine:=by rw[←la];exact za
 unfold ksk_tree
 refine wpAny_bind (listItems_at ea rfl ?_)
 have I1:=I.lset (t':=s.toks) (f:=fun _=>(#[]:Array Value)) (its':=[]) (ys:=[]) Ha ea rfl .nil (Nat.zero_le _)
 refine wpAny_bind (listUpdate_at ea rfl ?_ (by rw[List.size_toArray];exact hZ) (Nat.zero_le _))
 obtain⟨e1,ho1⟩:∃e1,(s.heap.update a (Obj.mapSeq fun _=>(#[]:Array Value))).get? a=some (seqObj "list" #[] e1):=⟨_,get?_update_seq ea fun _=>#[]⟩
 refine wpAny_bind (seqEpoch_at ho1 rfl ?_)
 have hu:upd H a (.lst []) a=some (.lst []):=ao
 refine wpAny_bind (wpAny_newTuple ?_ (by show its.length≤_;exact hZ))
 have I2:=I1.kept (t':=s.toks) (h':=(s.heap.update a (Obj.mapSeq fun _=>(#[]:Array Value))).push (seqObj "tuple" its.toArray 0)) fun b o q=>Heap.get?_push_of_some _ q
 refine wpAny_bind (wpAny_newList ?_ (Nat.zero_le _))
 refine wpAny_holding ?_
 have I3:=I2.lnew (t':=s.toks) (its:=[]) (ys:=[]) .nil (Nat.zero_le _)
 have hsz:s.heap.objs.size≤((s.heap.update a (Obj.mapSeq fun _=>(#[]:Array Value))).push (seqObj "tuple" its.toArray 0)).objs.size:=by rw[size_push',Heap.size_update];exact Nat.le_succ _
 have hk0:=hfr _ hsz
 have hkn:(upd H a (.lst [])) ((s.heap.update a (Obj.mapSeq fun _=>(#[]:Array Value))).push (seqObj "tuple" its.toArray 0)).objs.size=none:=I2.fresh
 generalize hkS:((s.heap.update a (Obj.mapSeq fun _=>(#[]:Array Value))).push (seqObj "tuple" its.toArray 0)).objs.size=kS at hk0 hkn
 have nak:a≠kS:=fun z=>by rw[←z,hu]at hkn;cases hkn
 have I3':Inv X pins σ (upd (upd H a (.lst [])) kS (.lst [])) { s with heap:=((s.heap.update a (Obj.mapSeq fun _=>(#[]:Array Value))).push (seqObj "tuple" its.toArray 0)).push (seqObj "list" ([]:List Value).toArray 0) }:=by
  rw[←hkS];exact I3
 have ha3:(upd (upd H a (.lst [])) kS (.lst [])) a=some (.lst []):=by rw[aB nak];exact hu
 have hn:=I3'.nofrz ha3 True.intro
 obtain⟨od,I4⟩:=I3'.lock ha3 True.intro
 have hod:od=seqObj "list" #[] e1:=by
  have q:=(I4.hok a _ ao).1
  have q2:((((s.heap.update a (Obj.mapSeq fun _=>(#[]:Array Value))).push (seqObj "tuple" its.toArray 0)).push (seqObj "list" ([]:List Value).toArray 0)).get? a)=some (seqObj "list" #[] e1):=Heap.get?_push_of_some _ (Heap.get?_push_of_some _ ho1)
  rw[q2]at q
  exact (Option.some.inj q).symm
 subst hod
 have y1:Ext τ Hb (upd H a (.lst [])):=x.over TB ha0 Ha True.intro
 have y2:Ext τ Hb (upd (upd H a (.lst [])) kS (.lst [])):=y1.then TB hkn
 refine restT TB I4 (y2.over TB ha0 ha3 True.intro) ha0 hk0 ao hn (by rw[aB nak.symm,ao]) hi hZ hne turn h
end
section
variable{X:Cx}{pins:List (Addr×Obj)}{σ:St}{H:Hp}{s:Shared}{ns:List Int}{key:Int→List Int}{τ:Hp→Prop}
theorem sortedT{Q:VK}{l fA:Addr}(TB:bD τ)(I:Inv X pins σ H s)(hl:bh X.K H l (ns.map V.int))(hne:∀n,key n≠[])(turn:KTurn X pins σ τ H X.A.in1.in1 (.ref fA) key ns)
  (hQ:∀(ns':List Int) (H':Hp) (D:Addr),ns'.Perm ns→ns'.Pairwise (fun x y=>kLe (key x) (key y))→H D=none→Ext τ H H'→H' D=some (.lst (ns'.map V.int))→Q (.ref D) H'):
  wpAny (model X.prog X.w) X.A (call (.builtin "sorted") [.ref l] [(Str.ofString "key",.ref fA)]) (EP X pins σ Q) X.xe s:=by
 obtain⟨its,rv,pl,hz⟩:=I.list hl
 have hlen:=rv.length
 refine call_function_entry_kw kind_sorted plain_sorted entry_sorted (ksk_s1 _ _) ?_
 unfold Builtin.«sorted»
 refine wpAny_bind (m:=checkCount "sorted" 1 1 _) (wpAny_pure ?_)
 refine wpAny_bind (collect_list pl.isList ?_ (by rw[←hlen];exact hz))
 refine wpAny_bind (wpAny_newList ?_ (by rw[←hlen];exact hz))
 have keep:∀b o,s.heap.get? b=some o→((s.heap.push (seqObj "list" #[] 0)).update s.heap.objs.size (Obj.mapSeq (·++its.toArray))).get? b=some o:=fun b o q=>by
  have hlt:b<s.heap.objs.size:=Heap.lt_size q
  rw[Heap.get?_update_ne _ _ _ _ (Nat.ne_of_lt hlt),Heap.get?_push_ne _ _ _ (Nat.ne_of_lt hlt)]
  exact q
 have I1:=I.kept (t':=s.toks) keep
 have I2:=I1.lnew (t':=s.toks) rv hz
 have hoL:(((s.heap.push (seqObj "list" #[] 0)).update s.heap.objs.size (Obj.mapSeq (·++its.toArray))).push (seqObj "list" its.toArray 0)).get? ((s.heap.push (seqObj "list" #[] 0)).update s.heap.objs.size (Obj.mapSeq (·++its.toArray))).objs.size=some (seqObj "list" its.toArray 0):=Heap.get?_push_size _ rfl
 have hD0:=I1.fresh
 have hfr:∀b,(((s.heap.push (seqObj "list" #[] 0)).update s.heap.objs.size (Obj.mapSeq (·++its.toArray))).push (seqObj "list" its.toArray 0)).objs.size≤b→H b=none:=fun b hb=>by
  refine I1.hok.fresh (Nat.le_trans ?_ hb)
  rw[size_push']
  exact Nat.le_succ _
 refine wpAny_bind (wpAny_holding (wpAny_call_entry_kw slot_list_sort ⟨_,hoL,rfl⟩ entry_list_sort ?body (ksk_l1 _ _)))
 case body=>
  have ht':=ksk_t1 fA ((s.heap.push (seqObj "list" #[] 0)).update s.heap.objs.size (Obj.mapSeq (·++its.toArray))).objs.size
  show wpAny (model X.prog X.w) X.A.in1.in1 (Builtin.«list.sort» ⟨[.ref ((s.heap.push (seqObj "list" #[] 0)).update s.heap.objs.size (Obj.mapSeq (·++its.toArray))).objs.size],[(Str.ofString "key",.ref fA)]⟩) _ _ _
  rw[ht']
  refine treeT TB I2 (.new TB hD0) hD0 ao hne turn hfr fun ns' H' s' hp hs x' hD I'=>⟨_,rfl,?_⟩
  exact wpAny_pure ⟨_,rfl,.ref _,H',I',rfl,hQ ns' H' _ hp hs hD0 x' hD⟩
end
structure LamOne(x y:Str)(params:Arguments)(body:Expr)(scope:Scope):Prop where
 kind:scope.kind=.function
 co:scope.isCoroutine=false
 gen:scope.isGenerator=false
 nc:∀z∈scope.names,z.2≠.cell
 hx:scope.names.lookup x=some .free
 hy:scope.names.lookup y=some .local
 fr:∀z∈scope.names,z.2=.free→z.1=x
 bind:∀(qual:Str) (clos:List (Str×Addr)) (pm cd ctv v:Value),bindArgs (PySem.W.kla_fn "<lambda>" qual params body scope clos pm cd ctv) ⟨[v],[]⟩=pure [(y,v)]
def lamEnv(scope:Scope)(L:Addr)(clos:List (Str×Addr))(qual:Str)(f c':Addr):Env:=newEnv scope L mainGlobals clos (qual++".<locals>.") (some f) (.ref c') none builtinsNs
def cxLam(P:Program)(w:World)(K:PySem.W.Frag)(mg:Str→Option Value)(base:Heap)(x y:Str)(qual:Str)(scope:Scope)(clos:List (Str×Addr))(f c':Addr)(A:Around)(outer:List Env)(s:Shared)(H:Hp):Cx where
 prog:=P
 w:=w
 K:=K
 mg:=mg
 base:=base
 A:=A.deeper (lamEnv scope s.heap.objs.size clos qual f c')
 N:=[x,y]
 s_0:=s
 H_0:=H
 env:=lamEnv scope s.heap.objs.size clos qual f c'
 outer:=outer
 stack:=lamEnv scope s.heap.objs.size clos qual f c'::outer
 ex:=[]
 calm:=true
 fn:=fun _=>false
 pn:=[]
 xe:=fun _ _=>False
theorem lam_run{P:Program}{w:World}{K:PySem.W.Frag}{mg:Str→Option Value}{base:Heap}{x y qual:Str}{params:Arguments}{body:Expr}{scope:Scope}{clos:List (Str×Addr)}{f c' cc:Addr}{pm ctv:Value}{A:Around}{outer:List Env}{s:Shared}{H:Hp}{Q:VK}{te:TE}{vx vy:V}{ux uy:Value}
  (L:LamOne x y params body scope) (hroom:A.depth<recursionLimit) (hhd:A.handled=none) (e0:Env0 P w K mg base A outer s H) (hf:s.heap.get? f=some (PySem.W.kla_obj "<lambda>" qual params body scope clos pm c' ctv)) (hcd:s.heap.CodeRec (.ref c') qual)
  (hcl:clos.lookup x=some cc) (honly:∀z c,clos.lookup z=some c→z=x) (hcell:s.heap.IsCell cc (some ux)) (hcn:H cc=none) (rx:RelV vx ux) (ry:RelV vy uy) (hxy:x≠y)
  (hb:PE (cxLam P w K mg base x y qual scope clos f c' A outer s H) body te) (hq:te [some vx,some vy] H Q):
  wpAny (model P w) A (call (.ref f) [uy]) (fun u s'=>CE outer P w H s Q u s') (fun _ _=>False) s:=by
 have lim:s.heap.NoLimit:=e0.mod.nolimit.keeps fun b o e=>(e0.bs b o e).1
 refine wpAny_call (PySem.W.kla_callFunE hroom hf rfl L.co L.gen rfl hcd ?_)
 rw[L.bind]
 refine wpAny_pure (wpAny_newFunctionEnv L.nc (fun z hz=>?_) (fun h1 hns hsb=>?_) L.kind)
 ·rw[List.mem_singleton.mp hz]
  exact L.hy
 have keep:∀b o,s.heap.get? b=some o→h1.get? b=some o:=fun b o e=>hsb.extBut b o (Nat.ne_of_lt (Heap.lt_size e)) (Heap.get?_push_of_some _ e)
 refine⟨lim.keeps keep,PySem.W.kla_codeExpr ?_⟩
 have noA:∀b:Addr,b∉([]:List Addr):=fun b z=>nomatch z
 have cl:∀z c,(lamEnv scope s.heap.objs.size clos qual f c').cells.lookup z=some c→z=x∧c=cc:=fun z c e=>by
  have e':clos.lookup z=some c:=e
  have ez:=honly z c e'
  subst ez
  rw[hcl]at e'
  exact⟨rfl,(Option.some.inj e').symm⟩
 have I:Inv (cxLam P w K mg base x y qual scope clos f c' A outer s H) [] [some vx,some vy] H { s with heap:=h1,toks:=s.toks+1 }:=by
  refine⟨⟨e0.mod,L.kind,rfl,rfl,Nat.le_refl _,fun a b c h1 h2=>(cl a c h1).1.trans (cl b c h2).1.symm,fun z hz=>?_,fun z c hz=>(nomatch hz),fun _=>hhd,Around.frames_deeper e0.frames,.inr ⟨rfl,rfl⟩,fun b z=>absurd z (noA b),e0.bs,e0.bsz,fun b _ _=>noA b,fun b z=>absurd z (noA b),e0.funs,e0.frf⟩,
   rfl,e0.bare,Un.kept keep,⟨_,hns,fun i z v h1 h2 h3=>?_⟩,fun z c h=>?_,e0.hok.fresh (Nat.le_refl _),fun z c h=>?_,fun p hp=>absurd (show p∈([]:List (Addr×Obj))from hp) (by simp),e0.hok.kept keep,rfl⟩
  ·have hz:scope.names.lookup z=some .cell∨scope.names.lookup z=some .free:=hz
   rcases hz with hz|hz
   ·exact absurd rfl (L.nc _ (lookup_mem hz))
   ·have:=L.fr _ (lookup_mem hz) rfl
    have ez:z=x:=this
    subst ez
    exact⟨cc,hcl⟩
  ·match i,h1,h2 with
   |0,h1,h2=>
    have e1:x=z:=Option.some.inj h1
    have e2:vx=v:=Option.some.inj (Option.some.inj h2)
    subst e1 e2
    obtain⟨oc,ec,dc⟩:=hcell
    exact⟨ux,rx,.inr ⟨.inr L.hx,cc,hcl,oc,keep _ _ ec,dc⟩⟩
   |1,h1,h2=>
    have e1:y=z:=Option.some.inj h1
    have e2:vy=v:=Option.some.inj (Option.some.inj h2)
    subst e1 e2
    exact⟨uy,ry,.inl ⟨L.hy,by show List.lookup y [(y,uy)]=some uy;simp⟩⟩
   |i+2,h1,h2=>simp at h2
  ·obtain⟨_,rfl⟩:=cl z c h
   obtain⟨oc,ec,dc⟩:=hcell
   exact⟨some ux,oc,keep _ _ ec,dc⟩
  ·obtain⟨_,rfl⟩:=cl z c h
   exact hcn
 refine wpAny_mono (hb [] _ _ H Q I hq) (fun u s' hs=>?_) fun e s' hs=>False.elim hs
 obtain⟨v,H',J,rv,q⟩:=hs
 exact⟨v,H',J.os,J.bare,J.base,J.hok,rv,q⟩
theorem clo_only{x:Str}{cells:List (Str×Addr)}:∀(names:List (Str×NameKind)) (acc:List (Str×Addr)),(∀z∈names,z.2=.free→z.1=x)→(∀p∈acc,p.1=x)→∀p∈bC cells names acc,p.1=x
 |[],acc,_,ha=>ha
 |(n,k)::r,acc,hf,ha=>by
  unfold bC
  split
  ·rename_i hk
   have hk:k=.free:=by simpa using hk
   have hn:n=x:=hf (n,k) List.mem_cons_self hk
   refine clo_only r _ (fun z hz=>hf z (List.mem_cons_of_mem _ hz)) fun p hp=>?_
   rcases List.mem_cons.mp hp with e|hp
   ·rw[e];exact hn
   ·exact ha p hp
  ·exact clo_only r acc (fun z hz=>hf z (List.mem_cons_of_mem _ hz)) ha
theorem lookup_in{α:Type}{x:Str}{c:α}:∀{l:List (Str×α)},l.lookup x=some c→(x,c)∈l
 |[],h=>nomatch h
 |(n,j)::r,h=>by
  rw[List.lookup_cons]at h
  cases hb:x==n with
  |true=>
   rw[hb]at h
   have e:j=c:=Option.some.inj h
   have e2:x=n:=eq_of_beq hb
   rw[e,e2]
   exact List.mem_cons_self
  |false=>
   rw[hb]at h
   exact List.mem_cons_of_mem _ (lookup_in h)
def srtKey(K:PySem.W.Frag)(P:Addr)(oH:Pos)(q:Str)(i:Nat)(te:TE)(σ:St)(Q:VK)(us:List V)(H1:Hp):Prop:=
 ∃(l:Addr) (ns:List Int) (key:Int→List Int) (τ:Hp→Prop) (vx:V),us=[V.ref l]∧bh K H1 l (ns.map V.int)∧H1 l=some (.lst (ns.map V.int))∧bD τ∧σ[i]?=some (some vx)∧fj P oH q H1∧(∀n,key n≠[])∧
  ∀H3:Hp,(∀b o,H1 b=some o→b≠P→H3 b=some o)→fj P oH q H3→
   (∀n∈ns,∀H',Ext τ H3 H'→te [some vx,some (.int n)] H' fun v H2=>∃tA,v=.ref tA∧Ext τ H' H2∧H2 tA=some (.tup ((key n).map V.int)))∧
   ∀(ns':List Int) (H':Hp) (D:Addr),ns'.Perm ns→ns'.Pairwise (fun x y=>kLe (key x) (key y))→H3 D=none→Ext τ H3 H'→H' D=some (.lst (ns'.map V.int))→Q (.ref D) H'
def tSrtKey(K:PySem.W.Frag)(P:Addr)(oH:Pos)(q:Str)(i:Nat)(te:TE)(ta:TA):TE:=fun σ H Q=>ta σ H (srtKey K P oH q i te σ Q)
section
variable{X:Cx}
theorem pe_sortedKey{i:Nat}{x y:Str}{e body:Expr}{ta:TA}{te:TE}{pS oH kpos pos:Pos}{params:Arguments}{scope:Scope}{c P:Addr}(hc:X.calm=true)(hroom:X.A.depth<recursionLimit)(hL:mz X.mg X.base c P)(hcode:X.env.code=.ref c)
  (hgS:Gl X "sorted") (hmS:X.mg "sorted"=none) (hN:X.N[i]?=some x) (hxc:X.env.scope.names.lookup x=some .cell) (hxy:x≠y) (ha:PA X [e] ta)
  (L:LamOne x y params body scope) (hb:∀(clos:List (Str×Addr)) (f c':Addr) (s:Shared) (H:Hp),PE (cxLam X.prog X.w X.K X.mg X.base x y (X.env.qual++"<lambda>") scope clos f c' X.A.in1.in1 X.stack s H) body te)
  (hdef:defaultsOf params X.env=([],[])) (hs:starEach [e] X.env=[(false,eval e X.env)]:=by rfl):
  PE X (.Call (.Name "sorted" pS) [e] [⟨some "key",.Lambda params body scope oH,kpos⟩] pos) (tSrtKey X.K P oH (X.env.qual++"<lambda>") i te ta):=by
 intro pins s σ H Q I h
 refine wpAny_Call_Name_kw (oJ I hgS hmS boot_sorted ?_ (by decide) (by decide))
 refine PyProof.Rows.callWith_kw (he:=by rw[hs];rfl) (hplain:=by rw[hs];rfl) ?_
 refine dw (ha pos pins s σ H (srtKey X.K P oH (X.env.qual++"<lambda>") i te σ Q) I h) ?_
 rintro us s1 ⟨vs,H1,I1,r1,l,ns,key,τ,vx,e1,hl,hlt,TB,hi,hT,hne,hQ⟩
 subst e1
 obtain⟨ur,eu,rr⟩:=vals1 r1
 subst eu
 cases rr
 have hT0:=hT
 obtain⟨ps,hP,htr,hcase⟩:=hT
 have oP:s1.heap.get? P=some (PySem.W.tabObj ps):=I1.hok P _ hP
 have hg1:s1.heap.Ns mainGlobals X.mg:=I1.mod.glob.keeps I1.bk
 have hgP:mainGlobals≠P:=fun z=>by
  obtain⟨o,_,_,eo,_⟩:=I1.mod.glob
  have q:=(I1.bs _ _ eo).2
  rw[z,hP]at q;cases q
 have hb1:s1.heap.BuiltinsAt X.mg P:=by
  obtain⟨bm,ob,b1,b2,b3,b4,b5,b6⟩:=hL.bm
  exact⟨bm,ob,b1,b2,b3,b4,I1.bk _ _ b5,b6⟩
 have C1:=hL.code.keeps I1.bk
 obtain⟨cx,hcx⟩:∃cc,X.env.cells.lookup x=some cc:=I1.ok.has x (.inl hxc)
 have hclos:closureFor scope X.env=pure (bC X.env.cells scope.names []):=closure_ok fun z hz hk=>⟨cx,by rw[L.fr z hz hk];exact hcx⟩
 have hclx:(bC X.env.cells scope.names []).lookup x=some cx:=clo_one hcx scope.names [] L.fr (.inl (lookup_mem L.hx)) (fun _ h=>nomatch h) (fun _ h=>nomatch h)
 have hcl1:∀z c,(bC X.env.cells scope.names []).lookup z=some c→z=x:=fun z c hz=>clo_only scope.names [] L.fr (fun _ h=>nomatch h) (z,c) (lookup_in hz)
 refine PyProof.Rows.kws_cons (PySem.W.kla_eval hdef ?_)
 have fin:∀(H3:Hp) (s3:Shared) (c' f:Addr) (pm ctv:Value),Inv X pins σ H3 s3→s3.heap.get? f=some (PySem.W.kla_obj "<lambda>" (X.env.qual++"<lambda>") params body scope (bC X.env.cells scope.names []) pm c' ctv)→H3 f=none→f≠X.env.locals→f∉X.fs→
   H3 c'=some (cdO c' (X.env.qual++"<lambda>"))→(∀b o,H1 b=some o→b≠P→H3 b=some o)→fj P oH (X.env.qual++"<lambda>") H3→
   wpAny (model X.prog X.w) X.A (call (.builtin "sorted") [.ref l] [(Str.ofString "key",.ref f)]) (EP X pins σ Q) X.xe s3:=fun H3 s3 c' f pm ctv I3 hf hfn hfl hfs hc3 k3 t3=>by
  obtain⟨hturn,hfin⟩:=hQ H3 k3 t3
  have nlP:l≠P:=bI hlt hP (fun z=>nomatch z)
  have hl3:bh X.K H3 l (ns.map V.int):=.inl (.inl (k3 l _ hlt nlP))
  have I4:Inv X (pins++[(f,PySem.W.kla_obj "<lambda>" (X.env.qual++"<lambda>") params body scope (bC X.env.cells scope.names []) pm c' ctv)]) σ H3 s3:=I3.pins_of fun p hp=>by
   rcases List.mem_append.mp hp with hp|hp
   ·exact I3.pin p (List.mem_append_right _ hp)
   ·rw[List.mem_singleton.mp hp]
    exact⟨hf,hfn,hfl,hfs,fun v z=>nomatch z⟩
  refine wpAny_mono (sortedT TB I4 hl3 hne (fun n t hn H' s' I' x'=>?_) (Q:=Q) hfin) (fun u s' hu=>?_) fun _ _ z=>z
  ·have hf':s'.heap.get? f=some _:=(I'.pin (f,_) (List.mem_append_right _ (List.mem_append_right _ (List.mem_singleton.mpr rfl)))).1
   have hc':H' c'=some (cdO c' (X.env.qual++"<lambda>")):=x'.keep _ _ hc3 (fun _ z=>nomatch z)
   obtain⟨hrec,_⟩:=I'.hok c' _ hc'
   obtain⟨m2,hns2,hl2⟩:=I'.loc
   obtain⟨u,ru,hlook⟩:=hl2 i x vx hN hi (.inr (.inl hxc))
   obtain⟨cc,hcc,hcv⟩:∃cc,X.env.cells.lookup x=some cc∧s'.heap.IsCell cc (some u):=by
    rcases hlook with⟨hk,_⟩|⟨_,cc,h1,h2⟩
    ·have hk':X.env.scope.names.lookup x=some .local:=hk
     rw[hxc]at hk';cases hk'
    ·exact⟨cc,h1,h2⟩
   rw[hcx]at hcc
   cases hcc
   have z:=lam_run L (show X.A.in1.in1.depth<recursionLimit from hroom) (I'.ok.hd hc) (I'.env0.in1.in1) hf' hrec hclx hcl1 hcv (I'.mj x cx hcx) ru (vy:=.int n) (uy:=.int n t) ⟨t,rfl⟩ hxy (hb _ _ _ _ _) (hturn n hn H' x')
   refine wpAny_mono z (fun v s2 hv=>?_) fun _ _ q=>q
   obtain⟨w2,H2,J,rv,tA,e2,e3,e4⟩:=I'.after hv
   subst e2
   cases rv
   exact⟨tA,H2,rfl,J,e3,e4⟩
  ·obtain⟨v,H',J,rv,q⟩:=hu
   exact⟨v,H',J.unpinned,rv,q⟩
 rcases hcase with hno|⟨c',hhit,hcO⟩
 ·refine PySem.W.kla_makeFunction (mg:=X.mg) hclos I1.ok.glob hg1 hcode C1 oP htr hno hgP hb1 fun c' ctv h' tk hx hge hlt2 hrec htb=>PyProof.Rows.kws_nil ?_
  have I2:=I1.grown (t':=tk) hP hx hge htb (cdO_ok hrec)
  have hcn:H1 c'=none:=I1.hok.fresh hge
  have hPc:P≠c':=aL hP hcn
  refine fin _ _ c' h'.objs.size _ ctv (I2.kept (h':=h'.push _) (t':=tk) fun b o q=>Heap.get?_push_of_some _ q) (Heap.get?_push_size _ rfl) I2.fresh (Nat.ne_of_gt I2.lt) (I2.nofs (Nat.le_refl _)) ao (fun b o q hb=>by rw[aB (aL q hcn),aB hb];exact q) ?_
  refine⟨_,by rw[aB hPc,ao],?_,.inr ⟨c',?_,ao⟩⟩
  ·rw[Array.toList_append]
   exact triples_snoc _ _ _ htr
  ·rw[Array.toList_append]
   exact codeAmong_snoc _ htr hno
 ·refine PySem.W.kla_makeFunctionHit (mg:=X.mg) hclos I1.ok.glob hg1 hcode C1 oP htr hhit hb1 fun ctv h' tk hk hsz=>PyProof.Rows.kws_nil ?_
  have I2:=I1.kept (t':=tk) hk
  exact fin H1 _ c' h'.objs.size _ ctv (I2.kept (h':=h'.push _) (t':=tk) fun b o q=>Heap.get?_push_of_some _ q) (Heap.get?_push_size _ rfl) I2.fresh (Nat.ne_of_gt I2.lt) (I2.nofs (Nat.le_refl _)) hcO (fun b o q _=>q) hT0
end
def GEnt(w:World):List DictEntry→List (Key×Value)→Prop
 |[],[]=>True
 |e::es,kv::r=>(keyIs kv.1 e.key=true∧e.hash=keyH w kv.1∧e.val=kv.2)∧GEnt w es r
 |_,_=>False
theorem gent_keys{P:Program}{w:World}:∀{es:List DictEntry}{vs:List (Key×Value)},GEnt w es vs→(∀e∈es,∃k,(bK P w).is k e.key=true∧e.hash=(bK P w).hash k)∧Pairs (bK P w) es vs
 |[],[],_=>⟨fun _ h=>(nomatch h),.nil⟩
 |[],_::_,h=>h.elim
 |_::_,[],h=>h.elim
 |e::es,kv::r,h=>by
  obtain⟨⟨h1,h2,h3⟩,h4⟩:=h
  obtain⟨i1,i2⟩:=gent_keys (P:=P) h4
  refine⟨fun e' he=>?_,.cons h1 h3 i2⟩
  rcases List.mem_cons.mp he with rfl|he
  ·exact⟨kv.1,h1,h2⟩
  ·exact i1 e' he
theorem gdict_mk{P:Program}{w:World}{K:PySem.W.Frag}{mg:Str→Option Value}{x:Str}{d:Addr}{es:Array DictEntry}{ep:Nat}{kvs:List (Key×V)}{vs:List (Key×Value)}(hm:mg x=some (.ref d))
  (l:K.lookup d=some ⟨.type "dict",none,.dict es ep,#[]⟩) (hp:KV kvs vs) (ge:GEnt w es.toList vs) (nd:(vs.map (·.1)).Nodup):GDict P w K mg x kvs:=by
 obtain⟨g1,g2⟩:=gent_keys (P:=P) ge
 exact⟨d,vs,hm,hp,fun h hi=>⟨_,es,ep,hi d _ l,⟨rfl,rfl,rfl⟩,rfl,fun e he=>g1 e (by simpa using he),g2,nd⟩⟩
open PySem.W (WData Codec OpenSpec Well WellAll ReadsW ReadsAllW)
mutual
inductive Dw(K:PySem.W.Frag)(H:Hp):V→WData→Prop
 |non:Dw K H .non .none
 |bl (b:Bool):Dw K H (.bl b) (.bool b)
 |int (i:Int):Dw K H (.int i) (.int i)
 |str (x:Str):Dw K H (.str x) (.str x)
 |byt (b:Array UInt8):Dw K H (.byt b) (.bytes b.toList)
 |lst {a:Addr}{xs:List V}{ds:List WData}:bh K H a xs→ji K H xs ds→Dw K H (.ref a) (.list ds)
 |tup {a:Addr}{xs:List V}{ds:List WData}:jh K H a xs→ji K H xs ds→Dw K H (.ref a) (.tuple ds)
inductive ji(K:PySem.W.Frag)(H:Hp):List V→List WData→Prop
 |nil:ji K H [] []
 |cons {v:V}{vs:List V}{d:WData}{ds:List WData}:Dw K H v d→ji K H vs ds→ji K H (v::vs) (d::ds)
end
theorem dw_ints{K:PySem.W.Frag}{H:Hp}:∀ns:List Int,ji K H (ns.map V.int) (ns.map WData.int)
 |[]=>.nil
 |n::r=>.cons (.int n) (dw_ints r)
theorem ints_dw{K:PySem.W.Frag}{H:Hp}:∀(ns:List Int) (xs:List V),ji K H xs (ns.map WData.int)→xs=ns.map V.int
 |[],xs,h=>by
  cases h
  rfl
 |n::r,xs,h=>by
  cases h with
  |cons h1 h2=>
   cases h1
   rw[ints_dw r _ h2] <;> rfl
section
variable{P:Program}{w:World}{K:PySem.W.Frag}{H:Hp}{h:Heap}{R:PySem.W.WRecords}{cl:Str→Option Addr}
theorem sqL_at{a:Addr}{xs:List V}(hok:HOk P w H h)(KX:K.In h)(q:bh K H a xs):∃(its:List Value) (o:Obj) (n:Nat),Vals xs its∧h.get? a=some o∧o.cls=.type "list"∧o.data=.seq its.toArray n:=by
 rcases q with q|⟨o,its,n,e,hc,_,hd,_,hv⟩
 ·obtain⟨_,its,n,hv,e⟩:=(show cM P w H h a (.lst xs)from q.ok hok)
  exact⟨its,_,n,hv,e,rfl,rfl⟩
 ·exact⟨its.toList,o,n,hv,KX _ _ e,hc,by simp[hd]⟩
theorem sqT_at{a:Addr}{xs:List V}(hok:HOk P w H h)(KX:K.In h)(q:jh K H a xs):∃(its:List Value) (o:Obj) (n:Nat),Vals xs its∧h.get? a=some o∧o.cls=.type "tuple"∧o.data=.seq its.toArray n:=by
 rcases q with q|⟨o,its,n,e,hc,hd,_,hv⟩
 ·obtain⟨_,its,hv,o,e,hc,n,hd⟩:=(show cM P w H h a (.tup xs)from q.ok hok)
  exact⟨its,o,n,hv,e,hc,hd⟩
 ·exact⟨its.toList,o,n,hv,KX _ _ e,hc,by simp[hd]⟩
mutual
theorem Dw.reads(hok:HOk P w H h)(KX:K.In h):∀(d:WData) (v:V) (u:Value),Dw K H v d→RelV v u→∃as,ReadsW R cl h u d as
 |.none,_,_,x,r=>by
  cases x
  cases r
  exact⟨_,ReadsW.none⟩
 |.bool b,_,_,x,r=>by
  cases x
  cases r
  exact⟨_,ReadsW.bool b⟩
 |.int i,_,_,x,r=>by
  cases x
  obtain⟨t,rfl⟩:=r
  exact⟨_,ReadsW.int i t⟩
 |.str s,_,_,x,r=>by
  cases x
  obtain⟨t,rfl⟩:=r
  exact⟨_,ReadsW.str s t⟩
 |.bytes b,_,_,x,r=>by
  cases x
  obtain⟨t,rfl⟩:=r
  exact⟨_,ReadsW.bytes _ t⟩
 |.list ds,_,_,x,r=>by
  cases x with
  |lst hs ha=>
   cases r
   obtain⟨its,o,n,rv,ho,hc,hd⟩:=sqL_at hok KX hs
   obtain⟨as,hr⟩:=Dw.readsAll hok KX ds _ its ha rv
   exact⟨_,ReadsW.list ho hc hd hr⟩
 |.tuple ds,_,_,x,r=>by
  cases x with
  |tup hs ha=>
   cases r
   obtain⟨its,o,n,rv,ho,hc,hd⟩:=sqT_at hok KX hs
   obtain⟨as,hr⟩:=Dw.readsAll hok KX ds _ its ha rv
   exact⟨_,ReadsW.tuple ho hc hd hr⟩
 |.float _,_,_,x,_=>by cases x
 |.dict _,_,_,x,_=>by cases x
 |.bytearray _,_,_,x,_=>by cases x
 |.set _,_,_,x,_=>by cases x
 |.frozenset _,_,_,x,_=>by cases x
 |.obj _ _,_,_,x,_=>by cases x
theorem Dw.readsAll(hok:HOk P w H h)(KX:K.In h):∀(ds:List WData) (vs:List V) (us:List Value),ji K H vs ds→Vals vs us→∃as,ReadsAllW R cl h us ds as
 |[],_,_,x,r=>by
  cases x
  cases r
  exact⟨_,ReadsAllW.nil⟩
 |d::ds,_,_,x,r=>by
  cases x with
  |cons h1 h2=>
   cases r with
   |cons r1 r2=>
    obtain⟨as,q1⟩:=Dw.reads hok KX d _ _ h1 r1
    obtain⟨bs,q2⟩:=Dw.readsAll hok KX ds _ _ h2 r2
    exact⟨_,ReadsAllW.cons q1 q2⟩
end
end
mutual
def plW:WData→Bool
 |.none=>true
 |.bool _=>true
 |.int _=>true
 |.str _=>true
 |.bytes _=>true
 |.list xs=>plWs xs
 |.tuple xs=>plWs xs
 |_=>false
def plWs:List WData→Bool
 |[]=>true
 |x::r=>plW x&&plWs r
end
theorem plWs_map{α:Type}{f:α→WData}(h:∀a,plW (f a)=true):∀l:List α,plWs (l.map f)=true
 |[]=>rfl
 |x::r=>by
  show(plW (f x)&&plWs (r.map f))=true
  rw[h x,plWs_map h r] <;> rfl
theorem pl_enc:∀(c:Codec) (a:c.denote),plW (c.enc a)=true
 |.unit,_=>rfl
 |.bool,_=>rfl
 |.int _ _,_=>rfl
 |.nat _ _,_=>rfl
 |.u8,_=>rfl
 |.bytes _ _,_=>rfl
 |.text _ _ _ _,_=>rfl
 |.list _ _ c,a=>plWs_map (fun x=>pl_enc c x) a
 |.pair c d,a=>by
  show(plW (c.enc a.1)&&(plW (d.enc a.2)&&true))=true
  rw[pl_enc c a.1,pl_enc d a.2] <;> rfl
 |.triple c d e,a=>by
  show(plW (c.enc a.1)&&(plW (d.enc a.2.1)&&(plW (e.enc a.2.2)&&true)))=true
  rw[pl_enc c a.1,pl_enc d a.2.1,pl_enc e a.2.2] <;> rfl
 |.option c,none=>rfl
 |.option c,some x=>pl_enc c x
theorem pl_encAll:∀(cs:List Codec) (a:Codec.denoteAll cs),plWs (Codec.encAll cs a)=true
 |[],_=>rfl
 |c::cs,a=>by
  show(plW (c.enc a.1)&&plWs (Codec.encAll cs a.2))=true
  rw[pl_enc c a.1,pl_encAll cs a.2] <;> rfl
theorem weight_mem:∀{xs:List WData}{d:WData},d∈xs→d.weight≤WData.weightAll xs
 |[],d,h=>absurd h (by simp)
 |x::r,d,h=>by
  show d.weight≤x.weight+1+WData.weightAll r
  rcases List.mem_cons.mp h with e|m
  ·rw[e]
   omega
  ·have z:=weight_mem m
   omega
def toV:Value→V
 |.none=>.non
 |.bool b=>.bl b
 |.int i _=>.int i
 |.str x _=>.str x
 |.bytes b _=>.byt b
 |.ref a=>.ref a
 |_=>.non
def OkU(A:List Addr):Value→Prop
 |.none=>True
 |.bool _=>True
 |.int _ _=>True
 |.str _ _=>True
 |.bytes _ _=>True
 |.ref a=>a∈A
 |_=>False
theorem OkU.mono{A B:List Addr}(h:∀a∈A,a∈B):∀{u:Value},OkU A u→OkU B u:=fun{u} x=>by
 cases u with
 |ref a=>exact h a x
 |none=>trivial
 |bool b=>trivial
 |int i t=>trivial
 |str s t=>trivial
 |bytes b t=>trivial
 |_=>exact False.elim x
theorem relV_toV{A:List Addr}{u:Value}(x:OkU A u):RelV (toV u) u:=by
 cases u with
 |ref a=>rfl
 |none=>rfl
 |bool b=>rfl
 |int i t=>exact⟨t,rfl⟩
 |str s t=>exact⟨t,rfl⟩
 |bytes b t=>exact⟨t,rfl⟩
 |_=>exact False.elim x
theorem nQ{A:List Addr}:∀{vs:List Value},(∀u∈vs,OkU A u)→Vals (vs.map toV) vs
 |[],_=>.nil
 |u::r,h=>.cons (relV_toV (h u (List.mem_cons_self ..))) (nQ fun x hx=>h x (List.mem_cons_of_mem _ hx))
def ArgOb(h:Heap)(A:List Addr)(a:Addr):Prop:=∃vs:List Value,vs.length≤sizeLine∧(∀u∈vs,OkU A u)∧
 (h.get? a=some { cls:=.type "list",data:=.seq vs.toArray }∨h.get? a=some { cls:=.type "tuple",data:=.seq vs.toArray })
theorem ArgOb.mono{h:Heap}{A B:List Addr}{a:Addr}(k:∀a∈A,a∈B)(x:ArgOb h A a):ArgOb h B a:=by
 obtain⟨vs,h1,h2,h3⟩:=x
 exact⟨vs,h1,fun u hu=>(h2 u hu).mono k,h3⟩
theorem mK{P:Params}{h:Heap}:∀{vs:List Value}{ds:List WData},WellAll P h vs ds→vs.length=ds.length
 |_,_,.nil=>rfl
 |_,_,.cons _ b=>by
  show _+1=_+1
  rw[mK b]
theorem well_list{P:Params}{h:Heap}{v:Value}{ds:List WData}(x:Well P h v (.list ds)):∃(a:Addr) (vs:List Value),v=.ref a∧h.get? a=some { cls:=.type "list",data:=.seq vs.toArray }∧WellAll P h vs ds:=by
 cases x with
 |list ho hall=>exact⟨_,_,rfl,ho,hall⟩
theorem well_tuple{P:Params}{h:Heap}{v:Value}{ds:List WData}(x:Well P h v (.tuple ds)):∃(a:Addr) (vs:List Value),v=.ref a∧h.get? a=some { cls:=.type "tuple",data:=.seq vs.toArray }∧WellAll P h vs ds:=by
 cases x with
 |tuple ho hall=>exact⟨_,_,rfl,ho,hall⟩
theorem well_cons{P:Params}{h:Heap}{us:List Value}{d:WData}{ds:List WData}(x:WellAll P h us (d::ds)):∃(v:Value) (vs:List Value),us=v::vs∧Well P h v d∧WellAll P h vs ds:=by
 cases x with
 |cons a b=>exact⟨_,_,rfl,a,b⟩
theorem line_of{n:Nat}(h:n≤1048576):n≤sizeLine:=Nat.le_trans h (by decide)
section
variable{P:Params}{h:Heap}
mutual
theorem area_one:∀(d:WData) (v:Value),Well P h v d→plW d=true→d.weight≤1048576→∃A:List Addr,OkU A v∧∀a∈A,ArgOb h A a
 |.none,_,x,_,_=>by
  cases x
  exact⟨[],trivial,fun a m=>absurd m (by simp)⟩
 |.bool b,_,x,_,_=>by
  cases x
  exact⟨[],trivial,fun a m=>absurd m (by simp)⟩
 |.int i,_,x,_,_=>by
  cases x
  exact⟨[],trivial,fun a m=>absurd m (by simp)⟩
 |.str s,_,x,_,_=>by
  cases x
  exact⟨[],trivial,fun a m=>absurd m (by simp)⟩
 |.bytes b,_,x,_,_=>by
  cases x
  exact⟨[],trivial,fun a m=>absurd m (by simp)⟩
 |.list ds,_,x,p,z=>by
  obtain⟨a,vs,rfl,ho,hall⟩:=well_list x
  have z2:WData.weightAll ds≤1048576:=z
  obtain⟨A,h1,h2⟩:=area_all ds _ hall p fun d hd=>Nat.le_trans (weight_mem hd) z2
  have k:∀b∈A,b∈a::A:=fun b hb=>List.mem_cons_of_mem _ hb
  refine⟨a::A,List.mem_cons_self ..,fun b hb=>?_⟩
  rcases List.mem_cons.mp hb with e|m
  ·rw[e]
   exact⟨vs,line_of (by rw[mK hall];exact Nat.le_trans (PySem.W.length_le_weightAllW ds) z2),fun u hu=>(h1 u hu).mono k,.inl ho⟩
  ·exact (h2 b m).mono k
 |.tuple ds,_,x,p,z=>by
  obtain⟨a,vs,rfl,ho,hall⟩:=well_tuple x
  have z2:WData.weightAll ds≤1048576:=z
  obtain⟨A,h1,h2⟩:=area_all ds _ hall p fun d hd=>Nat.le_trans (weight_mem hd) z2
  have k:∀b∈A,b∈a::A:=fun b hb=>List.mem_cons_of_mem _ hb
  refine⟨a::A,List.mem_cons_self ..,fun b hb=>?_⟩
  rcases List.mem_cons.mp hb with e|m
  ·rw[e]
   exact⟨vs,line_of (by rw[mK hall];exact Nat.le_trans (PySem.W.length_le_weightAllW ds) z2),fun u hu=>(h1 u hu).mono k,.inr ho⟩
  ·exact (h2 b m).mono k
 |.float _,_,_,p,_=>Bool.noConfusion (show false=true from p)
 |.dict _,_,_,p,_=>Bool.noConfusion (show false=true from p)
 |.bytearray _,_,_,p,_=>Bool.noConfusion (show false=true from p)
 |.set _,_,_,p,_=>Bool.noConfusion (show false=true from p)
 |.frozenset _,_,_,p,_=>Bool.noConfusion (show false=true from p)
 |.obj _ _,_,_,p,_=>Bool.noConfusion (show false=true from p)
theorem area_all:∀(ds:List WData) (vs:List Value),WellAll P h vs ds→plWs ds=true→(∀d∈ds,d.weight≤1048576)→∃A:List Addr,(∀u∈vs,OkU A u)∧∀a∈A,ArgOb h A a
 |[],_,x,_,_=>by
  cases x
  exact⟨[],fun u m=>absurd m (by simp),fun a m=>absurd m (by simp)⟩
 |d::ds,_,x,p,z=>by
  obtain⟨v,vs,rfl,x1,x2⟩:=well_cons x
  have q:plW d=true∧plWs ds=true:=Bool.and_eq_true_iff.mp p
  obtain⟨A,a1,a2⟩:=area_one d v x1 q.1 (z d (List.mem_cons_self ..))
  obtain⟨B,b1,b2⟩:=area_all ds vs x2 q.2 fun e he=>z e (List.mem_cons_of_mem _ he)
  have kA:∀b∈A,b∈A++B:=fun b hb=>List.mem_append.mpr (.inl hb)
  have kB:∀b∈B,b∈A++B:=fun b hb=>List.mem_append.mpr (.inr hb)
  refine⟨A++B,fun u hu=>?_,fun b hb=>?_⟩
  ·rcases List.mem_cons.mp hu with e|m
   ·rw[e]
    exact a1.mono kA
   ·exact (b1 u m).mono kB
  ·rcases List.mem_append.mp hb with m|m
   ·exact (a2 b m).mono kA
   ·exact (b2 b m).mono kB
end
end
def hoOf(o:Obj):Option HO:=match o.data with
 |.seq vs _=>if (o.cls==Value.type "list")=true then some (.d8 o (.lst (vs.toList.map toV)))else some (.d8 o (.tup (vs.toList.map toV)))
 |_=>none
def argH(K:PySem.W.Frag)(h:Heap)(A:List Addr):Hp:=fun b=>if b∈A then(if (K.lookup b).isNone=true then(h.get? b).bind hoOf else none)else none
def OnlyF(H:Hp):Prop:=∀b,H b=none∨∃o u,H b=some (.d8 o u)
theorem hoOf_lst(vs:List Value):hoOf { cls:=.type "list",data:=.seq vs.toArray }=some (.d8 { cls:=.type "list",data:=.seq vs.toArray } (.lst (vs.map toV))):=by
 show(if (Value.type "list"==Value.type "list")=true then some (HO.d8 { cls:=.type "list",data:=.seq vs.toArray } (.lst (vs.toArray.toList.map toV)))else some (HO.d8 { cls:=.type "list",data:=.seq vs.toArray } (.tup (vs.toArray.toList.map toV))))=_
 rw[if_pos (beq_self_eq_true _)]
theorem hoOf_tup(vs:List Value):hoOf { cls:=.type "tuple",data:=.seq vs.toArray }=some (.d8 { cls:=.type "tuple",data:=.seq vs.toArray } (.tup (vs.map toV))):=by
 show(if (Value.type "tuple"==Value.type "list")=true then some (HO.d8 { cls:=.type "tuple",data:=.seq vs.toArray } (.lst (vs.toArray.toList.map toV)))else some (HO.d8 { cls:=.type "tuple",data:=.seq vs.toArray } (.tup (vs.toArray.toList.map toV))))=_
 rw[if_neg (by decide)]
section
variable{P:Program}{w:World}{K:PySem.W.Frag}{h:Heap}{A:List Addr}
theorem argH_at{b:Addr}{o:Obj}(hb:b∈A)(hk:K.lookup b=none)(e:h.get? b=some o):argH K h A b=hoOf o:=by
 unfold argH
 rw[if_pos hb,hk,if_pos (show(none:Option Obj).isNone=true from rfl),e] <;> rfl
theorem of_argH{b:Addr}{u:HO}(q:argH K h A b=some u):b∈A∧K.lookup b=none:=by
 unfold argH at q
 by_cases hb:b∈A
 ·rw[if_pos hb]at q
  cases hk:K.lookup b with
  |none=>exact⟨hb,rfl⟩
  |some o=>
   rw[hk,if_neg (by simp)]at q
   cases q
 ·rw[if_neg hb]at q
  cases q
theorem argH_is(ar:∀a∈A,ArgOb h A a){b:Addr}{u:HO}(q:argH K h A b=some u):K.lookup b=none∧∃vs:List Value,vs.length≤sizeLine∧(∀u∈vs,OkU A u)∧
  ((h.get? b=some { cls:=.type "list",data:=.seq vs.toArray }∧u=.d8 { cls:=.type "list",data:=.seq vs.toArray } (.lst (vs.map toV)))∨
   (h.get? b=some { cls:=.type "tuple",data:=.seq vs.toArray }∧u=.d8 { cls:=.type "tuple",data:=.seq vs.toArray } (.tup (vs.map toV)))):=by
 obtain⟨hb,hk⟩:=of_argH q
 obtain⟨vs,h1,h2,h3⟩:=ar b hb
 refine⟨hk,vs,h1,h2,?_⟩
 rcases h3 with e|e
 ·rw[argH_at hb hk e,hoOf_lst]at q
  exact .inl ⟨e,(Option.some.inj q).symm⟩
 ·rw[argH_at hb hk e,hoOf_tup]at q
  exact .inr ⟨e,(Option.some.inj q).symm⟩
theorem argH_only(ar:∀a∈A,ArgOb h A a):OnlyF (argH K h A):=fun b=>by
 cases q:argH K h A b with
 |none=>exact .inl rfl
 |some u=>
  obtain⟨_,vs,_,_,⟨_,e⟩|⟨_,e⟩⟩:=argH_is ar q
  ·exact .inr ⟨_,_,by rw[e]⟩
  ·exact .inr ⟨_,_,by rw[e]⟩
theorem seq_inj{c c':Value}{vs us:List Value}(e:(some { cls:=c,data:=.seq vs.toArray }:Option Obj)=some { cls:=c',data:=.seq us.toArray }):c=c'∧vs=us:=by
 have e1:=Option.some.inj e
 have e2:c=c':=congrArg Obj.cls e1
 have e3:Data.seq vs.toArray=Data.seq us.toArray:=congrArg Obj.data e1
 injection e3 with e4
 refine⟨e2,?_⟩
 have e5:=congrArg Array.toList e4
 simpa using e5
theorem argL(KX:K.In h)(ar:∀a∈A,ArgOb h A a){a:Addr}{vs:List Value}(ha:a∈A)(e:h.get? a=some { cls:=.type "list",data:=.seq vs.toArray }):(∀u∈vs,OkU A u)∧bh K (argH K h A) a (vs.map toV):=by
 obtain⟨us,h1,h2,h3⟩:=ar a ha
 have hu:us=vs:=by
  rcases h3 with q|q
  ·rw[e]at q
   exact (seq_inj q).2.symm
  ·rw[e]at q
   exact absurd (Value.type.inj (seq_inj q).1) (by decide)
 subst hu
 refine⟨h2,?_⟩
 cases hk:K.lookup a with
 |none=>exact .inl (.inr ⟨_,by rw[argH_at ha hk e,hoOf_lst]⟩)
 |some o=>
  have e2:=KX a o hk
  rw[e]at e2
  obtain rfl:=Option.some.inj e2
  exact .inr ⟨_,us.toArray,_,hk,rfl,rfl,rfl,by rw[List.size_toArray];exact h1,by simpa using nQ h2⟩
theorem argT(KX:K.In h)(ar:∀a∈A,ArgOb h A a){a:Addr}{vs:List Value}(ha:a∈A)(e:h.get? a=some { cls:=.type "tuple",data:=.seq vs.toArray }):(∀u∈vs,OkU A u)∧jh K (argH K h A) a (vs.map toV):=by
 obtain⟨us,h1,h2,h3⟩:=ar a ha
 have hu:us=vs:=by
  rcases h3 with q|q
  ·rw[e]at q
   exact absurd (Value.type.inj (seq_inj q).1) (by decide)
  ·rw[e]at q
   exact (seq_inj q).2.symm
 subst hu
 refine⟨h2,?_⟩
 cases hk:K.lookup a with
 |none=>exact .inl (.inr ⟨_,by rw[argH_at ha hk e,hoOf_tup]⟩)
 |some o=>
  have e2:=KX a o hk
  rw[e]at e2
  obtain rfl:=Option.some.inj e2
  exact .inr ⟨_,us.toArray,_,hk,rfl,rfl,by rw[List.size_toArray];exact h1,by simpa using nQ h2⟩
mutual
theorem dw_one{Pm:Params}(KX:K.In h)(ar:∀a∈A,ArgOb h A a):∀(d:WData) (v:Value),Well Pm h v d→plW d=true→OkU A v→Dw K (argH K h A) (toV v) d
 |.none,_,x,_,_=>by
  cases x
  exact .non
 |.bool b,_,x,_,_=>by
  cases x
  exact .bl b
 |.int i,_,x,_,_=>by
  cases x
  exact .int i
 |.str s,_,x,_,_=>by
  cases x
  exact .str s
 |.bytes b,_,x,_,_=>by
  cases x
  have z:=Dw.byt (K:=K) (H:=argH K h A) b.toArray
  exact z
 |.list ds,_,x,p,hu=>by
  obtain⟨a,vs,rfl,ho,hall⟩:=well_list x
  obtain⟨h2,hs⟩:=argL KX ar hu ho
  exact .lst hs (dw_all KX ar ds _ hall p h2)
 |.tuple ds,_,x,p,hu=>by
  obtain⟨a,vs,rfl,ho,hall⟩:=well_tuple x
  obtain⟨h2,hs⟩:=argT KX ar hu ho
  exact .tup hs (dw_all KX ar ds _ hall p h2)
 |.float _,_,_,p,_=>Bool.noConfusion (show false=true from p)
 |.dict _,_,_,p,_=>Bool.noConfusion (show false=true from p)
 |.bytearray _,_,_,p,_=>Bool.noConfusion (show false=true from p)
 |.set _,_,_,p,_=>Bool.noConfusion (show false=true from p)
 |.frozenset _,_,_,p,_=>Bool.noConfusion (show false=true from p)
 |.obj _ _,_,_,p,_=>Bool.noConfusion (show false=true from p)
theorem dw_all{Pm:Params}(KX:K.In h)(ar:∀a∈A,ArgOb h A a):∀(ds:List WData) (vs:List Value),WellAll Pm h vs ds→plWs ds=true→(∀u∈vs,OkU A u)→ji K (argH K h A) (vs.map toV) ds
 |[],_,x,_,_=>by
  cases x
  exact .nil
 |d::ds,_,x,p,hu=>by
  obtain⟨v,vs,rfl,x1,x2⟩:=well_cons x
  have q:plW d=true∧plWs ds=true:=Bool.and_eq_true_iff.mp p
  exact .cons (dw_one KX ar d v x1 q.1 (hu _ (List.mem_cons_self ..))) (dw_all KX ar ds vs x2 q.2 fun u m=>hu u (List.mem_cons_of_mem _ m))
end
end
theorem layable_weight{ds:List WData}(h:WData.layableAll ds=true):∀d∈ds,d.weight≤1048576:=fun d hd=>
 (PySem.W.layableW_iff.mp (List.all_eq_true.mp h d hd)).2.2
theorem encAll_len:∀(cs:List Codec) (a:Codec.denoteAll cs),(Codec.encAll cs a).length=cs.length
 |[],_=>rfl
 |c::cs,a=>by
  show(Codec.encAll cs a.2).length+1=cs.length+1
  rw[encAll_len cs a.2]
open PySem.W (WData Codec OpenSpec Well WellAll ReadsW ReadsAllW)
section
variable{K:PySem.W.Frag}{H H':Hp}
theorem bh.mono{a:Addr}{xs:List V}(k:∀b o,H b=some o→H' b=some o)(h:bh K H a xs):bh K H' a xs:=by
 rcases h with(h|⟨o,h⟩)|h
 ·exact .inl (.inl (k _ _ h))
 ·exact .inl (.inr ⟨o,k _ _ h⟩)
 ·exact .inr h
theorem jh.mono{a:Addr}{xs:List V}(k:∀b o,H b=some o→H' b=some o)(h:jh K H a xs):jh K H' a xs:=by
 rcases h with(h|⟨o,h⟩)|h
 ·exact .inl (.inl (k _ _ h))
 ·exact .inl (.inr ⟨o,k _ _ h⟩)
 ·exact .inr h
mutual
theorem Dw.mono(k:∀b o,H b=some o→H' b=some o):∀{v:V}{d:WData},Dw K H v d→Dw K H' v d
 |_,_,.non=>.non
 |_,_,.bl b=>.bl b
 |_,_,.int i=>.int i
 |_,_,.str x=>.str x
 |_,_,.byt b=>.byt b
 |_,_,.lst s t=>.lst (s.mono k) (ji.mono k t)
 |_,_,.tup s t=>.tup (s.mono k) (ji.mono k t)
theorem ji.mono(k:∀b o,H b=some o→H' b=some o):∀{vs:List V}{ds:List WData},ji K H vs ds→ji K H' vs ds
 |_,_,.nil=>.nil
 |_,_,.cons a b=>.cons (Dw.mono k a) (ji.mono k b)
end
end
theorem spec_callU{P:Program}{w:World}{K:PySem.W.Frag}{mg mb:Str→Option Value}{CX:CXT}{k:Nat}{fa c tb c2 tb2:Addr}{fd:FuncData}{ps:List Str}{sp:Sp}{s₁:Shared}{vals:List Value}{ds:List WData}{R:PySem.W.WRecords}{cl:Str→Option Addr}{d0:WData}
  (KX:K.In s₁.heap) (hns:s₁.heap.Ns mainGlobals mg) (hb:s₁.heap.Ns builtinsNs mb) (hbb:∀x:Str,x≠"__name__"→mb x=bootBuiltins x) (hlim:s₁.heap.NoLimit) (hg:s₁.gens=#[]) (hne:tb≠tb2)
  (hcode:PySem.W.CodeHd s₁.heap c tb) (htab:s₁.heap.get? tb=some (PySem.W.tabObj #[])) (hnt:K.lookup tb=none) (hcK:∃o,K.lookup c=some o) (hbm:s₁.heap.BuiltinsAt mg tb)
  (hcode2:PySem.W.CodeHd s₁.heap c2 tb2) (htab2:s₁.heap.get? tb2=some (PySem.W.tabObj #[])) (hnt2:K.lookup tb2=none) (hcK2:∃o,K.lookup c2=some o) (hbm2:s₁.heap.BuiltinsAt mg tb2)
  (hwl:WellAll w.params s₁.heap vals ds) (hpl:plWs ds=true) (hwt:∀d∈ds,d.weight≤1048576) (hr:fV k callerA)
  (F:∀base:Heap,K.In base→base.Ns mainGlobals mg→mz mg base c tb→mz mg base c2 tb2→FnOk P w K mg base CX k fa fd ps sp) (hbind:∀(s:Shared) (us:List Value),us.length=ps.length→BindsTo s fd ⟨us,[]⟩ (ps.zip us)) (hlen:ds.length=ps.length)
  (hsp:∀(H:Hp) (xs:List V),H tb=some (.tbl #[])→H tb2=some (.tbl #[])→ji K H xs ds→sp xs H (fun v H'=>Dw K H' v d0∧(∃ps,H' tb=some (.tbl ps))∧∃ps,H' tb2=some (.tbl ps)) fun _ _ _=>False)
  (hCX:∀H e s',CX [] H s₁ (fun _ _ _=>False) e s'→False):
  codeAny (model P w) callerA (.call (.ref fa) ⟨vals,[]⟩) (fun r s'=>∃u as,r=.ok (.ret u)∧ReadsW R cl s'.heap u d0 as∧OldK s₁.heap s'.heap∧s'.os=s₁.os∧AllBare s'.gens) s₁:=by
 obtain⟨A,ho,ar⟩:=area_all ds vals hwl hpl hwt
 have htn:∀b,s₁.heap.get? b=some (PySem.W.tabObj #[])→argH K s₁.heap A b=none:=fun b hb=>by
  cases q:argH K s₁.heap A b with
  |none=>rfl
  |some u=>
   obtain⟨_,vs,_,_,⟨e2,_⟩|⟨e2,_⟩⟩:=argH_is ar q
   ·rw[hb]at e2
    cases e2
   ·rw[hb]at e2
    cases e2
 have hS0:=dw_all KX ar ds vals hwl hpl ho
 have hV:=nQ ho
 obtain⟨H,eH⟩:∃H,H=upd (upd (argH K s₁.heap A) tb2 (.tbl #[])) tb (.tbl #[]):=⟨_,rfl⟩
 have kH:∀b o,argH K s₁.heap A b=some o→H b=some o:=fun b o e=>by rw[eH,aB (aL e (htn _ htab)),aB (aL e (htn _ htab2))];exact e
 have cH:∀b u,H b=some u→((b=tb∨b=tb2)∧u=.tbl #[])∨argH K s₁.heap A b=some u:=fun b u e=>by
  by_cases hb:b=tb
  ·subst hb;rw[eH,ao]at e;exact .inl ⟨.inl rfl,(Option.some.inj e).symm⟩
  ·rw[eH,aB hb]at e
   by_cases hb2:b=tb2
   ·subst hb2;rw[ao]at e;exact .inl ⟨.inr rfl,(Option.some.inj e).symm⟩
   ·rw[aB hb2]at e;exact .inr e
 have hTt:H tb=some (.tbl #[]):=by rw[eH,ao]
 have hTt2:H tb2=some (.tbl #[]):=by rw[eH,aB hne.symm,ao]
 have hS:=ji.mono kH hS0
 have tabs:∀b,(b=tb∨b=tb2)→s₁.heap.get? b=some (PySem.W.tabObj #[])∧K.lookup b=none:=fun b h=>by
  rcases h with rfl|rfl
  ·exact⟨htab,hnt⟩
  ·exact⟨htab2,hnt2⟩
 have hok:HOk P w H s₁.heap:=fun b u q=>by
  rcases cH b u q with⟨hb,rfl⟩|q
  ·exact (tabs b hb).1
  ·obtain⟨_,vs,h1,h2,⟨e,rfl⟩|⟨e,rfl⟩⟩:=argH_is ar q
   ·exact⟨e,by rw[List.length_map];exact h1,vs,_,nQ h2,e⟩
   ·exact⟨e,by rw[List.length_map];exact h1,vs,nQ h2,_,e,rfl,_,rfl⟩
 have hK:∀b u,H b=some u→K.lookup b=none:=fun b u q=>by
  rcases cH b u q with⟨hb,rfl⟩|q
  ·exact (tabs b hb).2
  ·exact (argH_is ar q).1
 have noA:∀{b:Addr}{o:Obj},s₁.heap.get? b=some o→(∀vs n,o.data≠.seq vs n)→(∀vs,o.data≠.fields vs)→H b=none:=fun{b o} e d d2=>by
  cases q:H b with
  |none=>rfl
  |some u=>
   rcases cH b u q with⟨hb,rfl⟩|q
   ·rw[(tabs b hb).1]at e
    cases e
    exact absurd rfl (d2 _)
   ·obtain⟨_,vs,_,_,⟨e2,_⟩|⟨e2,_⟩⟩:=argH_is ar q
    ·rw[e2]at e
     cases e
     exact absurd rfl (d _ _)
    ·rw[e2]at e
     cases e
     exact absurd rfl (d _ _)
 have hO:∀b,H b=none∨((b=tb∨b=tb2)∧H b=some (.tbl #[]))∨∃o u,H b=some (.d8 o u):=fun b=>by
  cases q:H b with
  |none=>exact .inl rfl
  |some u=>
   rcases cH b u q with⟨hb,rfl⟩|q2
   ·exact .inr (.inl ⟨hb,rfl⟩)
   ·rcases argH_only ar b with z|⟨o,u',z⟩
    ·rw[q2]at z;cases z
    ·rw[q2]at z
     cases z
     exact .inr (.inr ⟨o,u',rfl⟩)
 clear eH kH cH hS0 htn
 have base_of:∀{b:Addr}{o:Obj},s₁.heap.get? b=some o→H b=none→(hidT s₁.heap H).get? b=some o:=fun e n=>hidT_get e n
 have nsK:∀{b:Addr}{m:Str→Option Value},s₁.heap.Ns b m→(hidT s₁.heap H).Ns b m:=fun{b m} ⟨o,es,ep,e,d,r⟩=>⟨o,es,ep,base_of e (noA e (fun _ _ z=>by rw[z]at d;cases d) (fun _ z=>by rw[z]at d;cases d)),d,r⟩
 have nK:∀b o,K.lookup b=some o→H b=none:=fun b o e=>by
  cases q:H b with
  |none=>rfl
  |some u=>
   rw[hK b u q]at e
   cases e
 have hKb:K.In (hidT s₁.heap H):=fun b o e=>base_of (KX b o e) (nK b o e)
 have hM:Mod K mg (hidT s₁.heap H):=⟨hKb,nsK hns,⟨mb,nsK hb,hbb⟩,let⟨mc,h1,h2⟩:=hlim;⟨mc,nsK h1,h2⟩⟩
 have e0:Env0 P w K mg (hidT s₁.heap H) callerA [] s₁ H:=⟨rfl,hM,fun b o e=>of_hidT e,Nat.le_of_eq (hidT_size _ _),trivial,fun b hb=>absurd (show b∈([]:List Addr)from hb) (by simp),hok,.of_eq hg⟩
 have hl:vals.length=ps.length:=by rw[mK hwl];exact hlen
 have hct:∀c tb,PySem.W.CodeHd s₁.heap c tb→isCodeTable s₁.heap tb:=fun c tb h=>by
  obtain⟨o,vs,_,_,_,_,_,_,_,e1,e2,e3,e4,_⟩:=h
  exact⟨c,o,vs,e1,e2,e3,e4⟩
 have LA:∀c tb,PySem.W.CodeHd s₁.heap c tb→(∃o,K.lookup c=some o)→s₁.heap.BuiltinsAt mg tb→mz mg (hidT s₁.heap H) c tb:=fun c tb hcode hcK hbm=>by
  refine⟨?_,?_⟩
  ·obtain⟨o,vs,file,tf,flags,tg,inF,text,tt,e1,e2,e3,e4,e5,e6,e7,e8,e9,e10⟩:=hcode
   refine⟨o,vs,file,tf,flags,tg,inF,text,tt,base_of e1 ?_,e2,e3,e4,e5,e6,e7,e8,e9,e10⟩
   obtain⟨oc,hoc⟩:=hcK
   exact nK c oc hoc
  ·obtain⟨bm,ob,b1,b2,b3,b4,b5,b6,b7,b8⟩:=hbm
   exact⟨bm,ob,b1,b2,b3,b4,base_of b5 (noA b5 (fun _ _ z=>by rw[z]at b8;cases b8) (fun _ z=>by rw[z]at b8;cases b8)),b6,b7,b8⟩
 refine codeAny_mono ((F _ hKb (nsK hns) (LA c tb hcode hcK hbm) (LA c2 tb2 hcode2 hcK2 hbm2)).run callerA [] s₁ H ⟨vals,[]⟩ vals (vals.map toV) _ _ hr e0 (hbind s₁ vals hl) hV (hsp H _ hTt hTt2 hS)) fun r s' x=>?_
 cases r with
 |error e=>exact (hCX H e s' x).elim
 |ok fl=>
  cases fl with
  |next=>exact False.elim x
  |brk=>exact False.elim x
  |cont=>exact False.elim x
  |ret u=>
   obtain⟨v,H',os,bare,un,hok',r',q,⟨ps',hps⟩,ps2,hps2⟩:=x
   have kept:∀b o,s₁.heap.get? b=some o→b≠tb→b≠tb2→s'.heap.get? b=some o:=fun b o e hbt hbt2=>by
    rcases hO b with z|⟨z,_⟩|⟨ob,u3,z⟩
    ·exact un.keep b o e z (by intro z;exact absurd (show b∈([]:List Addr)from z) (by simp)) (by simp)
    ·exact (z.elim hbt hbt2).elim
    ·have z2:=un.frzs b ob _ z
     obtain⟨e1,_⟩:=hok b _ z
     obtain⟨e2,_⟩:=hok' b _ z2
     rw[e]at e1
     cases e1
     exact e2
   have new:∀b,(b=tb∨b=tb2)→isCodeTable s₁.heap b∧∃ps',s'.heap.get? b=some { cls:=.none,data:=.fields ps' }:=fun b h=>by
    rcases h with rfl|rfl
    ·exact⟨hct _ _ hcode,ps',hok' _ _ hps⟩
    ·exact⟨hct _ _ hcode2,ps2,hok' _ _ hps2⟩
   have KX':K.In s'.heap:=fun b o e=>kept b o (KX b o e) (fun z=>by rw[z,hnt]at e;cases e) (fun z=>by rw[z,hnt2]at e;cases e)
   obtain⟨as,hrd⟩:=Dw.reads (R:=R) (cl:=cl) hok' KX' d0 v u q r'
   refine⟨u,as,rfl,hrd,⟨fun b o e=>?_,fun b o e=>?_⟩,os,bare⟩
   ·by_cases hbt:b=tb∨b=tb2
    ·obtain⟨h1,ps3,h2⟩:=new b hbt
     rw[(tabs b hbt).1]at e
     cases e
     exact .inr (.inl ⟨h1,rfl,#[],ps3,rfl,by rw[h2,Array.empty_append]⟩)
    ·exact .inl (kept b o e (fun z=>hbt (.inl z)) fun z=>hbt (.inr z))
   ·by_cases hbt:b=tb∨b=tb2
    ·obtain⟨h1,ps3,h2⟩:=new b hbt
     exact⟨_,h2⟩
    ·exact⟨o,kept b o e (fun z=>hbt (.inl z)) fun z=>hbt (.inr z)⟩
theorem walk_specU{r:OpenSpec}{k:Nat}{q:Program}{loose:List Str}{XP:(Str→Option Value)→Heap→Prop}{YP:World→Heap→Prop}{d:DefRec}{K:Params→PySem.W.Frag}{ps:List Str}{sp:PySem.W.Frag→Addr→Addr→Sp}{x x2:Str}
  (hwell:r.wellSaid=true) (hdf:d.params.defaults=[]) (hlen:r.args.length=ps.length) (hr:fV k callerA)
  (hY:∀(w:World) (h:Heap),YP w h→(K w.params).In h)
  (hrec:∃e,(recsOf q).find? (fun e=>e.name==x)=some e) (hrec2:∃e,(recsOf q).find? (fun e=>e.name==x2)=some e)
  (hT:∀(w:World),∃c tb,PySem.W.tabIn (K w.params) x=some (c,tb)∧(K w.params).lookup tb=none∧(∃o,(K w.params).lookup c=some o))
  (hT2:∀(w:World),∃c tb,PySem.W.tabIn (K w.params) x2=some (c,tb)∧(K w.params).lookup tb=none∧(∃o,(K w.params).lookup c=some o))
  (hne:∀(w:World) c tb c2 tb2,PySem.W.tabIn (K w.params) x=some (c,tb)→PySem.W.tabIn (K w.params) x2=some (c2,tb2)→tb≠tb2)
  (F:∀(w:World) (mg:Str→Option Value) (fa c tb c2 tb2:Addr) (h:Heap),YP w h→(K w.params).In h→h.Ns mainGlobals mg→mg d.name=some (.ref fa)→PySem.W.tabIn (K w.params) x=some (c,tb)→PySem.W.tabIn (K w.params) x2=some (c2,tb2)→
   ∃fd:FuncData,(∀(s:Shared) (us:List Value),us.length=ps.length→BindsTo s fd ⟨us,[]⟩ (ps.zip us))∧
    ∀base:Heap,(K w.params).In base→base.Ns mainGlobals mg→mz mg base c tb→mz mg base c2 tb2→FnOk r.prog w (K w.params) mg base (fun _ _ _ _ _ _=>False) k fa fd ps (sp (K w.params) tb tb2))
  (hsp:∀(K:PySem.W.Frag) (tb tb2:Addr) (H:Hp) (xs:List V) (a:Codec.denoteAll r.args),tb≠tb2→H tb=some (.tbl #[])→H tb2=some (.tbl #[])→Codec.withinAll r.args a=true→Codec.app r.args r.asked a=true→ji K H xs (Codec.encAll r.args a)→
   sp K tb tb2 xs H (fun v H'=>Dw K H' v (r.ret.enc (Codec.app r.args r.f a))∧(∃ps,H' tb=some (.tbl ps))∧∃ps,H' tb2=some (.tbl ps)) fun _ _ _=>False):
  PySem.W.WalkOS q loose XP YP r d [] (fun f vs=>PySem.call f vs):=by
 intro w s_0 s₁ mg mb G Y fa o pm cd doc dV kV ho hd hcd hD hmg hg args vals as hpre hlay hrd hwl hlo
 obtain⟨a,e1,e2⟩:=PySem.W.os_pre_some hpre
 obtain⟨e3,hwi⟩:=Codec.encAll_of_decAll r.args args a e1
 subst e3
 have KX:=hY w _ Y
 obtain⟨c,tb,ht,hnt,hcK⟩:=hT w
 obtain⟨c2,tb2,ht2,hnt2,hcK2⟩:=hT2 w
 obtain⟨er,hrec⟩:=hrec
 obtain⟨er2,hrec2⟩:=hrec2
 obtain⟨hcode,htab⟩:=PySem.W.tab_of G.T KX hrec ht
 obtain⟨hcode2,htab2⟩:=PySem.W.tab_of G.T KX hrec2 ht2
 have hne:=hne w _ _ _ _ ht ht2
 have hbm:∀tb,s₁.heap.get? tb=some (PySem.W.tabObj #[])→s₁.heap.BuiltinsAt mg tb:=fun tb htab=>by
  obtain⟨bm,ob,a1,a2,a3,a4,a5,a6⟩:=G.T.bmain
  refine⟨bm,ob,a1,a2,fun z=>?_,fun z=>?_,a3,a4,a5,a6⟩
  ·obtain⟨o',es,ep,g1,g2,_⟩:=G.T.g
   rw[←z,a3]at g1
   cases g1
   rw[a6]at g2
   cases g2
  ·rw[z,htab]at a3
   cases a3
   cases a6
 obtain⟨fd,hb,hF⟩:=F w mg fa c tb c2 tb2 _ Y KX G.T.g hmg ht ht2
 refine PySem.W.enter_call (codeAny_mono (spec_callU (R:=[]) (cl:=classAt s_0.heap) (d0:=r.ret.enc (Codec.app r.args r.f a)) KX G.T.g G.T.b G.T.builtins G.T.nolimit hg hne hcode htab hnt hcK (hbm _ htab) hcode2 htab2 hnt2 hcK2 (hbm _ htab2) hwl (pl_encAll _ _) (layable_weight hlay) hr hF hb (by rw[encAll_len];exact hlen)
  (fun H xs hO hO2 hS=>hsp _ tb tb2 H xs a hne hO hO2 hwi e2 hS) fun H e s' z=>z) fun r' s' hq=>?_)
 obtain⟨u,as',rfl,h1,h2,h3,h4⟩:=hq
 exact⟨.inl ⟨u,_,as',rfl,fun _=>rfl,h1,(OpenSpec.post_iff hwell hwi _ _).mpr rfl,fun z=>Bool.noConfusion (show false=true from z)⟩,h2,h3,h4⟩
end L2
namespace QM
theorem length_filter_perm{α:Type}{p:α→Bool}{l m:List α}(h:l.Perm m):(l.filter p).length=(m.filter p).length:=(h.filter p).length_eq
theorem filter_all{α:Type}{p:α→Bool}:∀{l:List α},(∀x∈l,p x=true)→l.filter p=l
 |[],_=>rfl
 |a::l,h=>by
  rw[List.filter_cons,if_pos (h a List.mem_cons_self),filter_all fun x hx=>h x (List.mem_cons_of_mem _ hx)]
theorem filter_none{α:Type}{p:α→Bool}:∀{l:List α},(∀x∈l,p x=false)→l.filter p=[]
 |[],_=>rfl
 |a::l,h=>by
  rw[List.filter_cons,if_neg (by rw[h a List.mem_cons_self];decide),filter_none fun x hx=>h x (List.mem_cons_of_mem _ hx)]
theorem place_of{R:Nat→Nat→Bool}(asym:∀i j,R i j=true→R j i=false)(irr:∀i,R i i=false){n:Nat}{ps:List Nat}(hp:ps.Perm (List.range n))
  (hs:ps.Pairwise fun i j=>R i j=true) {t i:Nat} (h:ps[t]?=some i):((List.range n).filter fun j=>R j i).length=t:=by
 rw[←length_filter_perm hp]
 obtain⟨ht,e⟩:=List.getElem?_eq_some_iff.mp h
 have e2:ps=ps.take t++i::ps.drop (t+1):=by
  rw[←e,List.getElem_cons_drop,List.take_append_drop]
 have hs2:=hs
 rw[e2]at hs2
 obtain⟨_,h2,h3⟩:=List.pairwise_append.mp hs2
 have h4:=(List.pairwise_cons.mp h2).1
 rw[e2,List.filter_append,filter_all (l:=ps.take t) (fun x hx=>h3 x hx i List.mem_cons_self),filter_none (l:=i::ps.drop (t+1)),List.append_nil,List.length_take]
 ·omega
 ·intro x hx
  rcases List.mem_cons.mp hx with rfl|hx
  ·exact irr _
  ·exact asym _ _ (h4 x hx)
def ahead(r:Nat→Nat)(i j:Nat):Bool:=decide (r j<r i)||(r i==r j&&decide (i<j))
theorem ahead_irr(r:Nat→Nat)(i:Nat):ahead r i i=false:=by simp[ahead]
theorem ahead_asym(r:Nat→Nat)(i j:Nat)(h:ahead r i j=true):ahead r j i=false:=by
 unfold ahead at *
 simp only[Bool.or_eq_true,Bool.and_eq_true,decide_eq_true_eq,beq_iff_eq,Bool.or_eq_false_iff,Bool.and_eq_false_iff,decide_eq_false_iff_not,beq_eq_false_iff_ne]at *
 omega
theorem rank_eq(whole total:Nat)(l:List Nat)(i:Nat):Vbemaj.rank whole total l i=((List.range l.length).filter fun j=>ahead (fun k=>whole*Vbemaj.nth l k%total) j i).length:=rfl
theorem mem_take_iff{whole total:Nat}{l ps:List Nat}(hp:ps.Perm (List.range l.length))(hs:ps.Pairwise fun i j=>ahead (fun k=>whole*Vbemaj.nth l k%total) i j=true)(k i:Nat)(hi:i<l.length):
  i∈ps.take k↔Vbemaj.rank whole total l i<k:=by
 have nd:ps.Nodup:=hp.nodup_iff.mpr List.nodup_range
 constructor
 ·intro h
  obtain⟨t,ht,e⟩:=List.getElem_of_mem h
  rw[List.length_take]at ht
  rw[List.getElem_take]at e
  have q:=place_of (ahead_asym _) (ahead_irr _) hp hs (t:=t) (i:=i) (by rw[List.getElem?_eq_getElem (by omega),e])
  rw[rank_eq,q]
  omega
 ·intro h
  have hm:i∈ps:=hp.mem_iff.mpr (List.mem_range.mpr hi)
  obtain⟨t,ht,e⟩:=List.getElem_of_mem hm
  have q:=place_of (ahead_asym _) (ahead_irr _) hp hs (t:=t) (i:=i) (by rw[List.getElem?_eq_getElem ht,e])
  rw[rank_eq,q]at h
  refine List.mem_of_getElem? (i:=t) ?_
  rw[List.getElem?_take,if_pos h,List.getElem?_eq_getElem ht,e]
def bumped(base:Nat→Int)(n:Nat)(qs:List Nat):List Int:=(List.range n).map fun i=>base i+if i∈qs then 1 else 0
theorem jz{base:Nat→Int}{n:Nat}{qs:List Nat}:(bumped base n qs).length=n:=by simp[bumped]
theorem oV{base:Nat→Int}{n:Nat}{qs:List Nat}{i:Nat}(hi:i<n):(bumped base n qs)[i]?=some (base i+if i∈qs then 1 else 0):=by
 unfold bumped
 rw[List.getElem?_map,List.getElem?_range hi]
 rfl
theorem bumped_nil{base:Nat→Int}{n:Nat}:bumped base n []=(List.range n).map base:=by
 unfold bumped
 congr 1
 funext i
 simp
theorem bumped_step{base:Nat→Int}{n:Nat}{qs:List Nat}{p:Nat}(hp:p<n)(hn:p∉qs):(bumped base n qs).set p (base p+1)=bumped base n (qs++[p]):=by
 apply List.ext_getElem?
 intro i
 by_cases hi:i<n
 ·by_cases e:p=i
  ·subst e
   rw[List.getElem?_set_self (by rw[jz];exact hp),oV hp]
   simp
  ·rw[List.getElem?_set_ne e,oV hi,oV hi]
   have:(i∈qs++[p])↔i∈qs:=by simp;intro h;exact absurd h.symm e
   simp only[this]
 ·rw[List.getElem?_eq_none (by rw[List.length_set,jz];omega),List.getElem?_eq_none (by rw[jz];omega)]
theorem split_eq{whole:Nat}{l ps:List Nat}(ht:l.sum≠0)(hp:ps.Perm (List.range l.length))(hs:ps.Pairwise fun i j=>ahead (fun k=>whole*Vbemaj.nth l k%l.sum) i j=true):
  bumped (fun i=>((whole*Vbemaj.nth l i/l.sum:Nat):Int)) l.length (ps.take (whole - (l.map fun w=>whole*w/l.sum).sum))=(Vbemaj.split whole l).map Int.ofNat:=by
 unfold bumped Vbemaj.split
 simp only[if_neg ht,List.map_map]
 apply List.map_congr_left
 intro i hi
 have hi':=List.mem_range.mp hi
 have q:=mem_take_iff hp hs (whole - (l.map fun w=>whole*w/l.sum).sum) i hi'
 simp only[Function.comp]
 by_cases h:Vbemaj.rank whole l.sum l i<whole - (l.map fun w=>whole*w/l.sum).sum
 ·rw[if_pos (q.mpr h),if_pos h];rfl
 ·rw[if_neg (fun z=>h (q.mp z)),if_neg h];rfl
open Vbemaj
def Sorted(l:List Entry):Prop:=l.Pairwise fun x y=>before x y=true
theorem same_iff{x y:Entry}:same x y=true↔x.kind=y.kind∧x.p=y.p∧x.w=y.w∧x.q=y.q:=by simp[same]
theorem same_symm{x y:Entry}:same x y=same y x:=by
 rw[Bool.eq_iff_iff,same_iff,same_iff]
 omega
theorem jo{x y:Entry}:before x y=true↔x.kind<y.kind∨(x.kind=y.kind∧(x.p<y.p∨(x.p=y.p∧(x.w<y.w∨(x.w=y.w∧x.q<y.q))))):=by
 simp[before]
theorem jW{x y:Entry}(h:before x y=true):same x y=false:=by
 rw[Bool.eq_false_iff]
 intro q
 rw[same_iff]at q
 rw[jo]at h
 omega
theorem before_trans{x y z:Entry}(h:before x y=true)(k:before y z=true):before x z=true:=by
 rw[jo]at *
 omega
theorem before_tri{x y:Entry}(h:same x y=false)(k:before x y=false):before y x=true:=by
 rw[jo]
 have h':¬(x.kind=y.kind∧x.p=y.p∧x.w=y.w∧x.q=y.q):=fun q=>by rw[same_iff.mpr q]at h;cases h
 have k':¬(x.kind<y.kind∨(x.kind=y.kind∧(x.p<y.p∨(x.p=y.p∧(x.w<y.w∨(x.w=y.w∧x.q<y.q)))))):=fun q=>by rw[jo.mpr q]at k;cases k
 omega
theorem before_congr{x y z:Entry}(h:same x y=true):before y z=before x z:=by
 rw[Bool.eq_iff_iff,jo,jo]
 rw[same_iff]at h
 omega
theorem put_mem{x z:Entry}:∀{l:List Entry},z∈put x l→z=x∨z∈l
 |[],h=>by simp[put]at h;exact .inl h
 |y::r,h=>by
  unfold put at h
  split at h
  ·rcases List.mem_cons.mp h with h|h
   ·exact .inl h
   ·exact .inr (List.mem_cons_of_mem _ h)
  ·split at h
   ·exact List.mem_cons.mp h
   ·rcases List.mem_cons.mp h with h|h
    ·exact .inr (by rw[h];exact List.mem_cons_self)
    ·rcases put_mem h with h|h
     ·exact .inl h
     ·exact .inr (List.mem_cons_of_mem _ h)
theorem put_sorted{x:Entry}:∀{l:List Entry},Sorted l→Sorted (put x l)
 |[],_=>by simp[put,Sorted]
 |y::r,h=>by
  obtain⟨h1,h2⟩:=List.pairwise_cons.mp h
  unfold put
  split
  ·rename_i e
   exact List.pairwise_cons.mpr ⟨fun z hz=>by rw[←before_congr e];exact h1 z hz,h2⟩
  ·rename_i e
   have e:same x y=false:=by simpa using e
   split
   ·rename_i b
    refine List.pairwise_cons.mpr ⟨fun z hz=>?_,h⟩
    rcases List.mem_cons.mp hz with rfl|hz
    ·exact b
    ·exact before_trans b (h1 z hz)
   ·rename_i b
    have b:before x y=false:=by simpa using b
    refine List.pairwise_cons.mpr ⟨fun z hz=>?_,put_sorted h2⟩
    rcases put_mem hz with rfl|hz
    ·exact before_tri e b
    ·exact h1 z hz
theorem dW{α:Type}{p:α→Bool}:∀{l:List α},(∀x∈l,p x=true)→l.filter p=l
 |[],_=>rfl
 |a::l,h=>by
  rw[List.filter_cons,if_pos (h a List.mem_cons_self),dW fun x hx=>h x (List.mem_cons_of_mem _ hx)]
theorem put_perm{x:Entry}:∀{l:List Entry},Sorted l→(put x l).Perm (x::l.filter fun y=>!same x y)
 |[],_=>by simp[put]
 |y::r,h=>by
  obtain⟨h1,h2⟩:=List.pairwise_cons.mp h
  unfold put
  split
  ·rename_i e
   rw[List.filter_cons,if_neg (by rw[e];decide),dW fun z hz=>?_]
   rw[Bool.not_eq_true']
   have q:before x z=true:=by rw[←before_congr e];exact h1 z hz
   exact jW q
  ·rename_i e
   have e:same x y=false:=by simpa using e
   split
   ·rename_i b
    rw[List.filter_cons,if_pos (by rw[e];decide),dW fun z hz=>?_]
    rw[Bool.not_eq_true']
    exact jW (before_trans b (h1 z hz))
   ·rw[List.filter_cons,if_pos (by rw[e];decide)]
    exact ((put_perm h2).cons y).trans (List.Perm.swap _ _ _)
theorem told_sorted{x:Entry}{l:List Entry}(h:Sorted l):Sorted (told x l):=by
 unfold told
 split
 ·exact List.Pairwise.filter _ h
 ·exact put_sorted h
theorem told_perm{x:Entry}{l:List Entry}(h:Sorted l):(told x l).Perm (if x.amount=0 then l.filter (fun y=>!same x y)else x::l.filter fun y=>!same x y):=by
 unfold told
 split
 ·exact .refl _
 ·exact put_perm h
def Apart(l:List Entry):Prop:=l.Pairwise fun x y=>same x y=false
theorem Sorted.apart{l:List Entry}(h:Sorted l):Apart l:=List.Pairwise.imp (fun q=>jW q) h
theorem apart_symm{l m:List Entry}(h:l.Perm m)(a:Apart l):Apart m:=(h.pairwise_iff fun{x y} q=>by rw[same_symm];exact q).mp a
theorem apart_ne:∀{l:List Entry},Apart l→∀{y z:Entry},y∈l→z∈l→y≠z→same y z=false
 |[],_,_,_,h,_,_=>nomatch h
 |a::r,h,y,z,hy,hz,ne=>by
  obtain⟨h1,h2⟩:=List.pairwise_cons.mp h
  rcases List.mem_cons.mp hy with ey|hy'
  ·rcases List.mem_cons.mp hz with ez|hz'
   ·exact absurd (ey.trans ez.symm) ne
   ·rw[ey];exact h1 z hz'
  ·rcases List.mem_cons.mp hz with ez|hz'
   ·rw[same_symm,ez];exact h1 y hy'
   ·exact apart_ne h2 hy' hz' ne
def got(l:List Entry)(kind p w q:Nat):Int:=((l.find? fun x=>same ⟨kind,p,w,q,0⟩ x).map fun x=>x.amount).getD 0
theorem get_got(s:State)(kind p w q:Nat):get s kind p w q=got s.table kind p w q:=rfl
theorem sum_perm{l m:List Int}(h:l.Perm m):l.sum=m.sum:=by
 induction h with
 |nil=>rfl
 |cons x _ ih=>simp only[List.sum_cons,ih]
 |swap x y l=>simp only[List.sum_cons];omega
 |trans _ _ i1 i2=>exact i1.trans i2
theorem calledOf_eq(l:List Called):calledOf l=sumAmount (ups l) - sumAmount (downs l):=by
 unfold calledOf sumAmount ups downs
 induction l with
 |nil=>rfl
 |cons c l ih=>
  simp only[List.map_cons,List.sum_cons,List.filter_cons]
  rw[ih]
  cases h:c.up <;> simp <;> omega
theorem reserve_eq(l:List Called):reserve l=((downs l).map fun c=>c.price*c.amount).sum - ((ups l).map fun c=>c.price*c.amount).sum:=by
 unfold reserve ups downs
 induction l with
 |nil=>rfl
 |cons c l ih=>
  simp only[List.map_cons,List.sum_cons,List.filter_cons]
  rw[ih]
  cases h:c.up <;> simp <;> omega
theorem jA{l:List Called}(h:∀c∈l,1≤c.amount):(0≤sumAmount l)∧(l≠[]→1≤sumAmount l):=by
 unfold sumAmount
 induction l with
 |nil=>exact⟨Int.le_refl _,fun z=>absurd rfl z⟩
 |cons c l ih=>
  have h1:=h c List.mem_cons_self
  have h2:=ih fun d hd=>h d (List.mem_cons_of_mem _ hd)
  simp only[List.map_cons,List.sum_cons]
  exact⟨by omega,fun _=>by omega⟩
theorem mean_eq{l:List Called}(h:∀c∈l,1≤c.amount)(hn:l≠[]):meanOf l=(l.map fun c=>c.price*c.amount).sum/(l.map fun c=>c.amount).sum:=by
 have:=(jA h).2 hn
 unfold meanOf
 rw[if_neg (by omega)]
 rfl
theorem ups_ne{l:List Called}(h:∀c∈l,1≤c.amount)(k:sumAmount (downs l)<sumAmount (ups l)):ups l≠[]:=by
 intro e
 have h1:0≤sumAmount (downs l):=(jA fun c hc=>h c (List.mem_filter.mp hc).1).1
 rw[e]at k
 have:sumAmount []=0:=rfl
 omega
theorem downs_ne{l:List Called}(h:∀c∈l,1≤c.amount)(k:sumAmount (ups l)<sumAmount (downs l)):downs l≠[]:=by
 intro e
 have h1:0≤sumAmount (ups l):=(jA fun c hc=>h c (List.mem_filter.mp hc).1).1
 rw[e]at k
 have:sumAmount []=0:=rfl
 omega
theorem sum_some{α:Type}[DecidableEq α]{f:α→Int}:∀{l m:List α},l.Nodup→m.Nodup→(∀x∈m,x∈l)→(∀x∈l,x∉m→f x=0)→(m.map f).sum=(l.map f).sum
 |[],m,_,_,h,_=>by
  cases m with
  |nil=>rfl
  |cons a m=>exact absurd (h a List.mem_cons_self) (by simp)
 |a::l,m,nl,nm,h,z=>by
  obtain⟨n1,n2⟩:=List.nodup_cons.mp nl
  by_cases ha:a∈m
  ·have p:m.Perm (a::m.erase a):=List.perm_cons_erase ha
   have nd:(m.erase a).Nodup:=nm.erase a
   have ne:∀x∈m.erase a,x≠a:=fun x hx e=>by
    rw[e]at hx
    exact nm.not_mem_erase hx
   have q:=sum_some (f:=f) n2 nd (fun x hx=>(List.mem_cons.mp (h x (List.mem_of_mem_erase hx))).resolve_left (ne x hx)) fun x hx hn=>z x (List.mem_cons_of_mem _ hx) fun hm=>
    hn ((List.mem_erase_of_ne (fun(e:x=a)=>n1 (by rw[←e];exact hx))).mpr hm)
   rw[sum_perm (p.map f)]
   simp only[List.map_cons,List.sum_cons,q]
  ·have q:=sum_some (f:=f) n2 nm (fun x hx=>(List.mem_cons.mp (h x hx)).resolve_left fun e=>ha (e ▸ hx)) fun x hx hn=>z x (List.mem_cons_of_mem _ hx) hn
   simp only[List.map_cons,List.sum_cons,q,z a List.mem_cons_self ha]
   omega
theorem matched_zero(y:Int):Vbemaj.matched 0 y=0:=by
 unfold Vbemaj.matched
 rw[if_neg (by omega),if_neg (by omega)]
def maxL:Int→List Int→Int:=List.foldl max
def minL:Int→List Int→Int:=List.foldl min
theorem greatest_eq(c:Called)(l:List Called):greatest (c::l)=maxL c.price (l.map fun d=>d.price):=by
 unfold greatest maxL
 rw[List.foldl_map]
theorem least_eq(c:Called)(l:List Called):least (c::l)=minL c.price (l.map fun d=>d.price):=by
 unfold least minL
 rw[List.foldl_map]
def bW(i:Nat)(l:List Int):List (List Int):=((List.range' i l.length).zip l).filterMap fun x=>if x.2=0 then none else some [nat x.1,x.2]
theorem nonzero_eq(l:List Int):nonzero l=rows (bW 0 l):=by
 unfold nonzero bW
 rw[List.range_eq_range']
theorem listed_snoc(l:List Int)(z:Int):bW 0 (l++[z])=bW 0 l++if z=0 then[] else[[nat l.length,z]]:=by
 unfold bW
 rw[List.length_append,List.length_singleton,List.range'_concat,List.zip_append (by simp),List.filterMap_append]
 congr 1
 simp only[List.zip_cons_cons,List.zip_nil_left,List.filterMap_cons,List.filterMap_nil]
 by_cases h:z=0
 ·simp[h]
 ·simp[h]
theorem listed_len(l:List Int):(bW 0 l).length=(l.filter fun z=>decide (z≠0)).length:=by
 have gen:∀(l:List Int) (i:Nat),(bW i l).length=(l.filter fun z=>decide (z≠0)).length:=by
  intro l
  induction l with
  |nil=>intro i;rfl
  |cons a l ih=>
   intro i
   have q:=ih (i+1)
   unfold bW at q ⊢
   rw[List.length_cons,List.range'_succ,List.zip_cons_cons,List.filterMap_cons,List.filter_cons]
   by_cases h:a=0
   ·simp[h];simpa using q
   ·simp[h];simpa using q
 exact gen l 0
theorem less_eq{a b:List Int}(h:b.length≤a.length):less a b=(a.zip (b++List.replicate (a.length - b.length) 0)).map fun x=>x.1 - x.2:=by
 unfold less
 apply List.ext_getElem?
 intro i
 rw[Nat.max_eq_left h,List.getElem?_map,List.getElem?_map]
 by_cases hi:i<a.length
 ·rw[List.getElem?_range hi]
  have hz:(a.zip (b++List.replicate (a.length - b.length) 0))[i]?=some (at_ a i,at_ b i):=by
   rw[List.getElem?_zip_eq_some]
   constructor
   ·unfold at_
    rw[List.getElem?_eq_getElem hi]
    rfl
   ·unfold at_
    by_cases hb:i<b.length
    ·rw[List.getElem?_append_left hb,List.getElem?_eq_getElem hb]
     rfl
    ·rw[List.getElem?_append_right (by omega),List.getElem?_replicate,if_pos (by omega),List.getElem?_eq_none (l:=b) (by omega)]
     rfl
  rw[hz]
  rfl
 ·rw[List.getElem?_eq_none (by rw[List.length_range];omega),List.getElem?_eq_none (by rw[List.length_zip];omega)]
  rfl
theorem fH(x:Int)(l:List Nat):(splitInt x l).length=l.length:=by
 unfold splitInt Vbemaj.split
 split <;> (dsimp only;split <;> simp)
def iK(l:List Booked):Prop:=l.Pairwise fun x y=>x.q<y.q
theorem putB_mem{x z:Booked}:∀{l:List Booked},z∈putBooked x l→z=x∨z∈l
 |[],h=>by simp[putBooked]at h;exact .inl h
 |y::r,h=>by
  unfold putBooked at h
  split at h
  ·rcases List.mem_cons.mp h with h|h
   ·exact .inl h
   ·exact .inr (List.mem_cons_of_mem _ h)
  ·split at h
   ·exact List.mem_cons.mp h
   ·rcases List.mem_cons.mp h with h|h
    ·exact .inr (by rw[h];exact List.mem_cons_self)
    ·rcases putB_mem h with h|h
     ·exact .inl h
     ·exact .inr (List.mem_cons_of_mem _ h)
theorem putB_sorted{x:Booked}:∀{l:List Booked},iK l→iK (putBooked x l)
 |[],_=>by simp[putBooked,iK]
 |y::r,h=>by
  obtain⟨h1,h2⟩:=List.pairwise_cons.mp h
  unfold putBooked
  split
  ·rename_i e
   exact List.pairwise_cons.mpr ⟨fun z hz=>by rw[e];exact h1 z hz,h2⟩
  ·rename_i e
   split
   ·rename_i b
    refine List.pairwise_cons.mpr ⟨fun z hz=>?_,h⟩
    rcases List.mem_cons.mp hz with rfl|hz
    ·exact b
    ·exact Nat.lt_trans b (h1 z hz)
   ·rename_i b
    refine List.pairwise_cons.mpr ⟨fun z hz=>?_,putB_sorted h2⟩
    rcases putB_mem hz with rfl|hz
    ·omega
    ·exact h1 z hz
theorem filter_id{α:Type}{p:α→Bool}:∀{l:List α},(∀x∈l,p x=true)→l.filter p=l
 |[],_=>rfl
 |a::l,h=>by
  rw[List.filter_cons,if_pos (h a List.mem_cons_self),filter_id fun x hx=>h x (List.mem_cons_of_mem _ hx)]
theorem putB_perm{x:Booked}:∀{l:List Booked},iK l→(putBooked x l).Perm (x::l.filter fun y=>!(y.q==x.q))
 |[],_=>by simp[putBooked]
 |y::r,h=>by
  obtain⟨h1,h2⟩:=List.pairwise_cons.mp h
  unfold putBooked
  split
  ·rename_i e
   rw[List.filter_cons,if_neg (by simp[e]),filter_id fun z hz=>?_]
   have:=h1 z hz
   simp
   omega
  ·rename_i e
   split
   ·rename_i b
    rw[List.filter_cons,if_pos (by simp;omega),filter_id fun z hz=>?_]
    have:=h1 z hz
    simp
    omega
   ·rw[List.filter_cons,if_pos (by simp;omega)]
    exact ((putB_perm h2).cons y).trans (List.Perm.swap _ _ _)
theorem bB{s:State}{q:Nat}{b:Booked}(h:bookedAt s q=some b):b∈s.booked∧b.q=q:=by
 unfold bookedAt at h
 exact⟨List.mem_of_find?_eq_some h,by simpa using List.find?_some h⟩
theorem bookedAt_none{s:State}{q:Nat}(h:bookedAt s q=none):∀b∈s.booked,b.q≠q:=by
 unfold bookedAt at h
 intro b hb e
 have:=List.find?_eq_none.mp h b hb
 simp[e]at this
theorem sortedB_inj:∀{l:List Booked},iK l→∀{a b:Booked},a∈l→b∈l→a.q=b.q→a=b
 |[],_,_,_,h,_,_=>nomatch h
 |c::r,h,a,b,ha,hb,e=>by
  obtain⟨h1,h2⟩:=List.pairwise_cons.mp h
  rcases List.mem_cons.mp ha with ea|ha'
  ·rcases List.mem_cons.mp hb with eb|hb'
   ·rw[ea,eb]
   ·have:=h1 b hb'
    rw[ea]at e
    omega
  ·rcases List.mem_cons.mp hb with eb|hb'
   ·have:=h1 a ha'
    rw[eb]at e
    omega
   ·exact sortedB_inj h2 ha' hb' e
theorem bookedAt_of{s:State}(h:iK s.booked){b:Booked}(hb:b∈s.booked):bookedAt s b.q=some b:=by
 cases e:bookedAt s b.q with
 |none=>exact absurd rfl (bookedAt_none e b hb)
 |some c=>
  obtain⟨h1,h2⟩:=bB e
  rw[sortedB_inj h h1 hb h2]
theorem find_put_same{x:Booked}:∀{l:List Booked},iK l→(putBooked x l).find? (fun b=>b.q==x.q)=some x
 |[],_=>by simp[putBooked]
 |y::r,h=>by
  obtain⟨h1,h2⟩:=List.pairwise_cons.mp h
  unfold putBooked
  split
  ·simp
  ·rename_i e
   split
   ·simp
   ·rw[List.find?_cons,show(y.q==x.q)=false by simp;omega]
    exact find_put_same h2
theorem find_put_ne{x:Booked}{q:Nat}(hq:q≠x.q):∀{l:List Booked},(putBooked x l).find? (fun b=>b.q==q)=l.find? fun b=>b.q==q
 |[]=>by simp[putBooked];omega
 |y::r=>by
  unfold putBooked
  split
  ·rename_i e
   rw[List.find?_cons,List.find?_cons,show(x.q==q)=false by simp;omega,show(y.q==q)=false by simp;omega]
  ·split
   ·rw[List.find?_cons,show(x.q==q)=false by simp;omega]
   ·rw[List.find?_cons,List.find?_cons]
    split
    ·rfl
    ·exact find_put_ne hq
def Valid(n kind p w:Nat):Prop:=(kind≤2∧1≤p∧p≤n∧w=0)∨(kind=3∧p=0∧w=0)∨(kind=4∧1≤p∧p≤n∧1≤w∧w≤n∧p≠w)
theorem Valid.mono{n m kind p w:Nat}(h:Valid n kind p w)(k:n≤m):Valid m kind p w:=by
 rcases h with⟨a,b,c,d⟩|h|⟨a,b,c,d,e,f⟩
 ·exact .inl ⟨a,b,Nat.le_trans c k,d⟩
 ·exact .inr (.inl h)
 ·exact .inr (.inr ⟨a,b,Nat.le_trans c k,d,Nat.le_trans e k,f⟩)
theorem iC{s:State}{x:Nat}(h:isHand s x≠false):1≤x∧x≤s.hands:=by
 have:isHand s x=true:=by simpa using h
 unfold isHand at this
 simpa using this
structure RulesOk(r:Rules):Prop where
 le:r.low≤r.high
 lo:-1000000≤r.low
 hi:r.high≤1000000
 th:0≤r.threshold∧r.threshold≤1000000000
 ad:0≤r.addon∧r.addon≤1000000
structure CallOk(n given:Nat)(c:Called):Prop where
 num:1≤c.num∧c.num≤given
 hand:1≤c.p∧c.p≤n
 amount:1≤c.amount∧c.amount≤1000000000
 price:-1000000≤c.price∧c.price≤1000000
structure EntryOk(n:Nat)(e:Entry):Prop where
 ne:e.amount≠0
 val:Valid n e.kind e.p e.w
 amt:-1000000000≤e.amount∧e.amount≤1000000000
 wt:e.kind=2→0≤e.amount
structure Wf(s:State):Prop where
 hands:s.hands≤32
 tab:Sorted s.table
 ent:∀e∈s.table,EntryOk s.hands e
 few:s.table.length≤96
 call:∀c∈s.calls,CallOk s.hands s.given c
 nums:s.calls.Pairwise fun a b=>a.num<b.num
 most:s.calls.length≤64
 told:s.given≤1000000000
 rules:s.opened=true→RulesOk s.rules
 booked:iK s.booked
 lens:∀b∈s.booked,b.amounts.length≤s.hands+1
 most2:s.booked.length≤64
theorem wf_start:Wf start where
 hands:=Nat.zero_le _
 tab:=List.Pairwise.nil
 ent:=fun _ h=>nomatch h
 few:=Nat.zero_le _
 call:=fun _ h=>nomatch h
 nums:=List.Pairwise.nil
 most:=Nat.zero_le _
 told:=Nat.zero_le _
 rules:=fun h=>nomatch h
 booked:=List.Pairwise.nil
 lens:=fun _ h=>nomatch h
 most2:=Nat.zero_le _
def CallIn:Call→Prop
 |.opens _ _ low high t a=>-1000000≤low∧high≤1000000∧(0≤t∧t≤1000000000)∧(0≤a∧a≤1000000)
 |.tell kind p w _ a=>(kind≤2∧w=0∨kind=3∧p=0∧w=0∨kind=4)∧(-1000000000≤a∧a≤1000000000)∧(kind=2→0≤a)
 |.called _ _ _ a x=>(1≤a∧a≤1000000000)∧(-1000000≤x∧x≤1000000)
 |_=>True
theorem inside_iff{n lo hi:Int}:inside n lo hi=true↔lo≤n∧n≤hi:=by simp[inside]
theorem guard_some{b:Bool}{a d:Call}(h:Vbemaj.guard b a=some d):b=true∧a=d:=by
 unfold Vbemaj.guard at h
 cases b with
 |true=>rw[if_pos rfl]at h;exact⟨rfl,Option.some.inj h⟩
 |false=>rw[if_neg (by decide)]at h;cases h
theorem settled_length(r:Rules)(a:Int)(l:List Called)(hs:List Hand):(settled r a l hs).length=hs.length+1:=by
 unfold settled splitInt Vbemaj.split
 dsimp only
 split <;> split <;> simp
theorem gj(s:State)(q:Nat):(fresh s q).length=s.hands+1:=by
 unfold Vbemaj.fresh
 rw[settled_length]
 simp[handsOf]
theorem putB_length{x:Booked}:∀{l:List Booked},(putBooked x l).length≤l.length+1
 |[]=>by simp[putBooked]
 |y::r=>by
  unfold putBooked
  split
  ·simp
  ·split
   ·simp
   ·have:=putB_length (x:=x) (l:=r)
    simp
    omega
theorem jr{x:Booked}:∀{l:List Booked},iK l→(∃b∈l,b.q=x.q)→(putBooked x l).length=l.length
 |[],_,h=>by obtain⟨b,hb,_⟩:=h;cases hb
 |y::r,s,h=>by
  obtain⟨s1,s2⟩:=List.pairwise_cons.mp s
  unfold putBooked
  split
  ·simp
  ·rename_i e
   have h':∃b∈r,b.q=x.q:=by
    obtain⟨b,hb,q⟩:=h
    rcases List.mem_cons.mp hb with rfl|hb
    ·exact absurd q.symm e
    ·exact⟨b,hb,q⟩
   split
   ·rename_i k
    obtain⟨b,hb,q⟩:=h'
    have:=s1 b hb
    omega
   ·simp[jr s2 h']
theorem told_mem{x z:Entry}{l:List Entry}(h:z∈Vbemaj.told x l):(z=x∧x.amount≠0)∨z∈l:=by
 unfold Vbemaj.told at h
 split at h
 ·exact .inr (List.mem_filter.mp h).1
 ·rename_i e
  rcases put_mem h with h|h
  ·exact .inl ⟨h,e⟩
  ·exact .inr h
theorem wf_does{s t:State}{c:Call}{l:List Int}(W:Wf s)(hc:CallIn c)(ho:s.opened=true∨isOpens c=true)(h:does s c=.ok (t,l)):Wf t:=by
 have hH:HANDS=32:=rfl
 have hE:ENTRIES=96:=rfl
 have hC:CALLED=64:=rfl
 have hN:NUMBERS=1000000000:=rfl
 have hB:BOOKED=64:=rfl
 cases c with
 |opens m d lo hi th ad=>
  simp only[does]at h
  split at h
  ·cases h
  ·split at h
   ·cases h
   ·rename_i k
    cases h
    obtain⟨h1,h2,h3,h4⟩:=hc
    exact { W with rules:=fun _=>⟨by show lo≤hi;omega,h1,h2,h3,h4⟩ }
 |hand=>
  simp only[does]at h
  split at h
  ·cases h
  ·rename_i k
   cases h
   exact { W with
    hands:=by show s.hands+1≤32;omega
    ent:=fun e he=>let x:=W.ent e he;⟨x.ne,x.val.mono (Nat.le_succ _),x.amt,x.wt⟩
    call:=fun c hc=>let x:=W.call c hc;⟨x.num,⟨x.hand.1,Nat.le_succ_of_le x.hand.2⟩,x.amount,x.price⟩
    lens:=fun b hb=>Nat.le_succ_of_le (W.lens b hb) }
 |tell kind p w q a=>
  simp only[does]at h
  split at h
  ·cases h
  ·rename_i k1
   split at h
   ·cases h
   ·rename_i k2
    split at h
    ·cases h
    ·split at h
     ·cases h
     ·split at h
      ·cases h
      ·rename_i k5
       cases h
       obtain⟨c1,c2,c3⟩:=hc
       refine { W with tab:=told_sorted W.tab,ent:=fun e he=>?_,few:=by show(Vbemaj.told ⟨kind,p,w,q,a⟩ s.table).length≤96;omega }
       rcases told_mem he with⟨rfl,ne⟩|he
       ·refine⟨ne,?_,c2,c3⟩
        show Valid s.hands kind p w
        rcases c1 with⟨a1,a2⟩|a1|a1
        ·have hp:=iC fun z=>k1 (.inl ⟨by omega,z⟩)
         exact .inl ⟨a1,hp.1,hp.2,a2⟩
        ·exact .inr (.inl a1)
        ·have hp:=iC fun z=>k1 (.inl ⟨by omega,z⟩)
         have hw:=iC fun z=>k1 (.inr ⟨a1,z⟩)
         exact .inr (.inr ⟨a1,hp.1,hp.2,hw.1,hw.2,fun z=>k2 ⟨a1,z⟩⟩)
       ·exact W.ent e he
 |called q p up a x=>
  simp only[does]at h
  split at h
  ·cases h
  ·rename_i k1
   split at h
   ·cases h
   ·split at h
    ·cases h
    ·split at h
     ·cases h
     ·rename_i k4
      cases h
      have hp:1≤p∧p≤s.hands:=by
       have:isHand s p=true:=by simpa using k1
       unfold isHand at this
       simpa using this
      refine { W with call:=fun c hm=>?_,nums:=?_,most:=?_,told:=?_ }
      ·rcases List.mem_append.mp hm with hm|hm
       ·have y:=W.call c hm
        exact⟨⟨y.num.1,Nat.le_succ_of_le y.num.2⟩,y.hand,y.amount,y.price⟩
       ·rw[List.mem_singleton.mp hm]
        exact⟨⟨by show 1≤s.given+1;omega,Nat.le_refl _⟩,hp,hc.1,hc.2⟩
      ·refine List.pairwise_append.mpr ⟨W.nums,List.pairwise_singleton ..,fun c hm d hd=>?_⟩
       rw[List.mem_singleton.mp hd]
       have:=(W.call c hm).num.2
       show c.num<s.given+1
       omega
      ·show(s.calls++[_]).length≤64
       rw[List.length_append,List.length_singleton]
       omega
      ·show s.given+1≤1000000000
       omega
 |uncall n=>
  simp only[does]at h
  split at h
  ·cases h
  ·split at h
   ·cases h
   ·cases h
    exact { W with
     call:=fun c hm=>W.call c (List.mem_filter.mp hm).1
     nums:=List.Pairwise.filter _ W.nums
     most:=Nat.le_trans (List.length_filter_le _ _) W.most }
 |settle q=>
  simp only[does]at h
  split at h
  ·cases h
  ·split at h
   ·cases h
   ·rename_i k
    cases h
    refine { W with booked:=putB_sorted W.booked,lens:=fun b hb=>?_,most2:=?_ }
    ·rcases putB_mem hb with rfl|hb
     ·show(Vbemaj.fresh s q).length≤s.hands+1
      rw[gj]
      exact Nat.le_refl _
     ·exact W.lens b hb
    ·show(putBooked ⟨q,false,Vbemaj.fresh s q⟩ s.booked).length≤64
     have h1:=putB_length (x:=⟨q,false,Vbemaj.fresh s q⟩) (l:=s.booked)
     have h2:=W.most2
     cases e:bookedAt s q with
     |none=>
      rw[e]at k
      have:¬BOOKED≤s.booked.length:=fun z=>k ⟨z,rfl⟩
      omega
     |some b=>
      obtain⟨b1,b2⟩:=bB e
      rw[jr W.booked ⟨b,b1,b2⟩]
      exact h2
 |lock q=>
  simp only[does]at h
  split at h
  ·cases h
  ·rename_i b e
   split at h
   ·cases h
   ·split at h
    ·cases h
    ·cases h
     obtain⟨b1,b2⟩:=bB e
     refine { W with booked:=putB_sorted W.booked,lens:=fun c hc=>?_,most2:=?_ }
     ·rcases putB_mem hc with rfl|hc
      ·exact W.lens b b1
      ·exact W.lens c hc
     ·show(putBooked { b with locked:=true } s.booked).length≤64
      rw[jr (x:={ b with locked:=true }) W.booked ⟨b,b1,rfl⟩]
      exact W.most2
 |position p q=>simp only[does]at h;split at h <;> cases h;exact W
 |matched a b q=>simp only[does]at h;split at h <;> cases h;exact W
 |imbalance p q=>simp only[does]at h;split at h <;> cases h;exact W
 |prices q=>simp only[does]at h;cases h;exact W
 |fresh q=>simp only[does]at h;cases h;exact W
 |parts p q=>simp only[does]at h;split at h <;> cases h;exact W
 |booked q=>simp only[does]at h;split at h <;> cases h <;> exact W
 |account p=>simp only[does]at h;split at h <;> cases h;exact W
 |merit q=>simp only[does]at h;cases h;exact W
 |system q=>simp only[does]at h;cases h;exact W
 |unmatched p q=>simp only[does]at h;split at h <;> cases h;exact W
 |pending=>simp only[does]at h;cases h;exact W
 |sums=>simp only[does]at h;cases h;exact W
 |split x l=>simp only[does]at h;cases h;exact W
theorem div_sum_le(whole t:Nat):∀l:List Nat,(l.map fun w=>whole*w/t).sum*t≤whole*l.sum
 |[]=>by simp
 |a::l=>by
  have ih:=div_sum_le whole t l
  rw[List.map_cons,List.sum_cons,List.sum_cons,Nat.add_mul,Nat.mul_add]
  have h:=Nat.div_mul_le_self (whole*a) t
  omega
theorem div_sum_le'{whole:Nat}{l:List Nat}(h:l.sum≠0):(l.map fun w=>whole*w/l.sum).sum≤whole:=Nat.le_of_mul_le_mul_right (div_sum_le whole l.sum l) (Nat.pos_of_ne_zero h)
theorem jL:∀l:List Nat,(l.map fun(z:Nat)=>(z:Int)).sum=((l.sum:Nat):Int)
 |[]=>rfl
 |a::l=>by rw[List.map_cons,List.sum_cons,List.sum_cons,jL l];omega
theorem stable_lt{key:Int→Int}:∀{l:List Int},l.Pairwise (fun u v=>key u≤key v)→(∀z,(l.filter fun u=>key u==z).Pairwise (·<·))→l.Pairwise fun u v=>key u<key v∨(key u=key v∧u<v)
 |[],_,_=>.nil
 |a::l,h,hz=>by
  obtain⟨h1,h2⟩:=List.pairwise_cons.mp h
  refine List.pairwise_cons.mpr ⟨fun v hv=>?_,stable_lt h2 fun z=>?_⟩
  ·by_cases e:key a=key v
   ·have q:=hz (key a)
    rw[List.filter_cons,if_pos (by simp)]at q
    exact .inr ⟨e,(List.pairwise_cons.mp q).1 v (List.mem_filter.mpr ⟨hv,by simp[e]⟩)⟩
   ·have:=h1 v hv
    exact .inl (by omega)
  ·have q:=hz z
   rw[List.filter_cons]at q
   split at q
   ·exact (List.pairwise_cons.mp q).2
   ·exact q
theorem places_of{n:Nat}{ns:List Int}{key:Int→Int}{r:Nat→Nat}(hr:∀i,i<n→key (i:Int)=-((r i:Nat):Int))(hp:ns.Perm ((List.range n).map fun(k:Nat)=>(k:Int)))(hs:ns.Pairwise fun u v=>key u≤key v)
  (hf:∀z,ns.filter (fun u=>key u==z)=((List.range n).map fun(k:Nat)=>(k:Int)).filter (fun u=>key u==z)):
  ∃ps:List Nat,ns=ps.map (fun(k:Nat)=>(k:Int))∧ps.Perm (List.range n)∧ps.Pairwise fun i j=>ahead r i j=true:=by
 have hm:∀z∈ns,∃k:Nat,k<n∧z=(k:Int):=fun z hz=>by
  obtain⟨k,hk,e⟩:=List.mem_map.mp (hp.mem_iff.mp hz)
  exact⟨k,List.mem_range.mp hk,e.symm⟩
 have e1:ns=(ns.map Int.toNat).map fun(k:Nat)=>(k:Int):=by
  rw[List.map_map]
  conv=>lhs;rw[←List.map_id ns]
  apply List.map_congr_left
  intro z hz
  obtain⟨k,_,rfl⟩:=hm z hz
  simp
 refine⟨ns.map Int.toNat,e1,?_,?_⟩
 ·have:=hp.map Int.toNat
  rw[List.map_map]at this
  have e2:(Int.toNat∘fun(k:Nat)=>(k:Int))=id:=by funext k;simp
  rw[e2,List.map_id]at this
  exact this
 ·have hlt:((List.range n).map fun(k:Nat)=>(k:Int)).Pairwise (·<·):=List.pairwise_map.mpr (List.pairwise_lt_range.imp fun h=>by omega)
  have q:=stable_lt hs fun z=>by rw[hf z];exact hlt.sublist List.filter_sublist
  refine List.pairwise_map.mpr (List.Pairwise.imp_of_mem (fun{a b} ha hb h=>?_) q)
  obtain⟨i,hi,rfl⟩:=hm a ha
  obtain⟨j,hj,rfl⟩:=hm b hb
  rw[hr i hi,hr j hj]at h
  show ahead r ((i:Int)).toNat ((j:Int)).toNat=true
  rw[Int.toNat_natCast,Int.toNat_natCast]
  unfold ahead
  simp only[Bool.or_eq_true,Bool.and_eq_true,decide_eq_true_eq,beq_iff_eq]
  omega
theorem got_mem{l:List Entry}(a:Apart l){x:Entry}(h:x∈l):got l x.kind x.p x.w x.q=x.amount:=by
 unfold got
 cases q:l.find? fun y=>same ⟨x.kind,x.p,x.w,x.q,0⟩ y with
 |none=>exact absurd (same_iff.mpr ⟨rfl,rfl,rfl,rfl⟩) (List.find?_eq_none.mp q x h)
 |some z=>
  have hz:=List.mem_of_find?_eq_some q
  have hs:same ⟨x.kind,x.p,x.w,x.q,0⟩ z=true:=by simpa using List.find?_some q
  have e:x=z:=by
   by_cases e:x=z
   ·exact e
   ·have h1:=apart_ne a h hz e
    have h2:same x z=true:=by rw[same_iff]at *;exact hs
    rw[h2]at h1
    cases h1
  rw[e]
  rfl
theorem got_ne{l:List Entry}{k p w q:Nat}(h:got l k p w q≠0):∃x∈l,x.kind=k∧x.p=p∧x.w=w∧x.q=q∧x.amount=got l k p w q:=by
 unfold got at *
 cases e:l.find? fun y=>same ⟨k,p,w,q,0⟩ y with
 |none=>rw[e]at h;exact absurd rfl h
 |some z=>
  have hz:=List.mem_of_find?_eq_some e
  have hs:same ⟨k,p,w,q,0⟩ z=true:=by simpa using List.find?_some e
  obtain⟨h1,h2,h3,h4⟩:=same_iff.mp hs
  exact⟨z,hz,h1.symm,h2.symm,h3.symm,h4.symm,rfl⟩
def putE(x:Entry)(l:List Entry):List Entry:=if (l.any fun y=>same x y)=true then l.map (fun y=>if same x y=true then x else y)else l++[x]
theorem putE_perm{x:Entry}:∀{l:List Entry},Apart l→(putE x l).Perm (x::l.filter fun y=>!same x y)
 |[],_=>by simp[putE]
 |a::l,h=>by
  obtain⟨h1,h2⟩:=List.pairwise_cons.mp h
  have ih:=putE_perm (x:=x) h2
  unfold putE at ih ⊢
  rw[List.any_cons,List.filter_cons]
  by_cases e:same x a=true
  ·have hn:∀y∈l,same x y=false:=fun y hy=>by
    cases q:same x y with
    |false=>rfl
    |true=>
     have:=h1 y hy
     rw[same_iff]at e q
     have z:same a y=true:=same_iff.mpr (by omega)
     rw[z]at this;cases this
   have hf:l.filter (fun y=>!same x y)=l:=dW fun y hy=>by rw[hn y hy];rfl
   have hm:l.map (fun y=>if same x y=true then x else y)=l:=by
    conv=>rhs;rw[←List.map_id l]
    exact List.map_congr_left fun y hy=>by rw[hn y hy];rfl
   rw[e,Bool.true_or,if_pos rfl,List.map_cons,if_pos e,hm,hf]
   simp
  ·have e':same x a=false:=by cases q:same x a <;> simp_all
   rw[e',Bool.false_or]
   have hb:(!false)=true:=rfl
   rw[hb,if_pos rfl,List.map_cons]
   simp only[e',Bool.false_eq_true,if_false]
   by_cases c:(l.any fun y=>same x y)=true
   ·rw[if_pos c]at ih ⊢
    exact (ih.cons a).trans (.swap _ _ _)
   ·rw[if_neg c]at ih ⊢
    exact (ih.cons a).trans (.swap _ _ _)
theorem told_of{x:Entry}{t l l' pre post:List Entry}(hs:Sorted t)(ht:(pre++(l++post)).Perm t)(hpre:∀y∈pre,y.q≠x.q)(hpost:∀y∈post,y.q≠x.q)
  (hl:l'.Perm (if x.amount=0 then l.filter (fun y=>!same x y)else x::l.filter fun y=>!same x y)):(pre++(l'++post)).Perm (told x t):=by
 have ns:∀y:Entry,y.q≠x.q→(!same x y)=true:=fun y hy=>by
  cases q:same x y with
  |false=>rfl
  |true=>rw[same_iff]at q;omega
 have hf:(t.filter fun y=>!same x y).Perm (pre++(l.filter (fun y=>!same x y)++post)):=by
  have:=(ht.filter fun y=>!same x y).symm
  rw[List.filter_append,List.filter_append,dW fun y hy=>ns y (hpre y hy),dW (l:=post) fun y hy=>ns y (hpost y hy)]at this
  exact this
 refine .trans ?_ (told_perm hs).symm
 refine .trans (List.Perm.append_left pre (List.Perm.append_right post hl)) ?_
 split
 ·exact hf.symm
 ·rw[List.cons_append]
  exact (List.perm_middle).trans (hf.symm.cons x)
theorem told_len{x:Entry}{t:List Entry}(hs:Sorted t):(told x t).length=if x.amount=0 then t.length - (if (t.any fun y=>same x y)=true then 1 else 0)else if (t.any fun y=>same x y)=true then t.length else t.length+1:=by
 have gen:∀{l:List Entry},Apart l→(l.filter fun y=>!same x y).length=l.length - (if (l.any fun y=>same x y)=true then 1 else 0)∧((l.any fun y=>same x y)=true→1≤l.length):=by
  intro l
  induction l with
  |nil=>intro _;exact⟨rfl,fun h=>nomatch h⟩
  |cons a l ih=>
   intro h
   obtain⟨h1,h2⟩:=List.pairwise_cons.mp h
   obtain⟨i1,i2⟩:=ih h2
   rw[List.filter_cons,List.any_cons]
   by_cases e:same x a=true
   ·have hn:∀y∈l,same x y=false:=fun y hy=>by
     cases q:same x y with
     |false=>rfl
     |true=>
      have:=h1 y hy
      rw[same_iff]at e q
      have z:same a y=true:=same_iff.mpr (by omega)
      rw[z]at this;cases this
    have hf:l.filter (fun y=>!same x y)=l:=dW fun y hy=>by rw[hn y hy];rfl
    rw[e,hf]
    simp
   ·have e':same x a=false:=by cases q:same x a <;> simp_all
    rw[e']
    simp only[Bool.not_false,if_true,Bool.false_or,List.length_cons,i1]
    refine⟨?_,fun _=>by omega⟩
    split
    ·rename_i c
     have:=i2 c
     omega
    ·omega
 have g:=gen hs.apart
 have q:=(told_perm (x:=x) hs).length_eq
 rw[q]
 split
 ·exact g.1
 ·rw[List.length_cons,g.1]
  split
  ·rename_i c
   have:=g.2 c
   omega
  ·omega
theorem any_same{x:Entry}{t:List Entry}(h:∀y∈t,y.amount≠0)(a:Apart t):(t.any fun y=>same x y)=decide (got t x.kind x.p x.w x.q≠0):=by
 cases q:t.any fun y=>same x y with
 |true=>
  obtain⟨y,hy,hs⟩:=List.any_eq_true.mp q
  obtain⟨h1,h2,h3,h4⟩:=same_iff.mp hs
  have:=got_mem a hy
  rw[←h1,←h2,←h3,←h4]at this
  rw[this]
  exact (decide_eq_true (h y hy)).symm
 |false=>
  symm
  rw[decide_eq_false_iff_not]
  intro z
  obtain⟨y,hy,h1,h2,h3,h4,_⟩:=got_ne z
  have:=List.any_eq_false.mp q y hy
  exact this (same_iff.mpr ⟨h1.symm,h2.symm,h3.symm,h4.symm⟩)
def SplitIn:Call→Prop
 |.split _ l=>l.length≤32
 |_=>True
theorem rows_len{k:Nat}:∀{l:List (List Int)},(∀x∈l,x.length≤k)→(rows l).length≤1+l.length*k
 |[],_=>by simp[rows]
 |a::l,h=>by
  have ih:=rows_len (l:=l) fun x hx=>h x (List.mem_cons_of_mem _ hx)
  have h1:=h a List.mem_cons_self
  unfold rows at *
  rw[List.length_cons,List.flatten_cons,List.length_append,List.length_cons,Nat.add_mul]at *
  omega
theorem nonz_len(l:List Int):(nonzero l).length≤1+l.length*2:=by
 unfold nonzero
 refine Nat.le_trans (rows_len (k:=2) fun x hx=>?_) ?_
 ·obtain⟨y,_,e⟩:=List.mem_filterMap.mp hx
  split at e
  ·cases e
  ·cases e;exact Nat.le_refl _
 ·have h1:=List.length_filterMap_le (fun(x:Nat×Int)=>if x.2=0 then none else some [nat x.1,x.2]) ((List.range l.length).zip l)
  rw[List.length_zip,List.length_range]at h1
  have:min l.length l.length=l.length:=Nat.min_self _
  rw[this]at h1
  have:=Nat.mul_le_mul_right 2 h1
  omega
theorem putCalled_len(c:Called):∀l:List Called,(putCalled c l).length=l.length+1
 |[]=>rfl
 |y::r=>by
  unfold putCalled
  split
  ·rfl
  ·rw[List.length_cons,putCalled_len c r,List.length_cons]
theorem merit_len:∀l:List Called,(l.foldr putCalled []).length=l.length
 |[]=>rfl
 |c::l=>by rw[List.foldr_cons,putCalled_len,merit_len l,List.length_cons]
theorem less_len(a b:List Int):(less a b).length=max a.length b.length:=by unfold less;rw[List.length_map,List.length_range]
theorem does_len{s t:State}{c:Call}{l:List Int}(W:Wf s)(hc:SplitIn c)(h:does s c=.ok (t,l)):l.length≤399:=by
 have hh:=W.hands
 have hm:=W.most
 have hb:=W.most2
 cases c <;> dsimp only[does]at h
 case opens=>split at h;cases h;split at h;cases h;cases h;simp
 case hand=>split at h;cases h;cases h;simp
 case tell=>split at h;cases h;split at h;cases h;split at h;cases h;split at h;cases h;split at h;cases h;cases h;simp
 case called=>split at h;cases h;split at h;cases h;split at h;cases h;split at h;cases h;cases h;simp
 case uncall=>split at h;cases h;split at h;cases h;cases h;simp
 case settle q=>
  split at h
  ·cases h
  ·split at h
   ·cases h
   ·cases h
    have h1:=nonz_len (less (Vbemaj.fresh s q) (((bookedAt s q).map fun b=>b.amounts).getD []))
    rw[less_len,gj]at h1
    have h2:(((bookedAt s q).map fun b=>b.amounts).getD []).length≤s.hands+1:=by
     cases e:bookedAt s q with
     |none=>simp
     |some b=>exact W.lens b (bB e).1
    omega
 case lock=>split at h;cases h;split at h;cases h;split at h;cases h;cases h;simp
 case position=>split at h;cases h;cases h;simp
 case matched=>split at h;cases h;cases h;simp
 case imbalance=>split at h;cases h;cases h;simp
 case prices=>cases h;simp
 case fresh q=>cases h;have h1:=nonz_len (Vbemaj.fresh s q);rw[gj]at h1;omega
 case parts=>split at h;cases h;cases h;simp
 case booked q=>
  cases e:bookedAt s q with
  |none=>rw[e]at h;cases h;simp
  |some b=>
   rw[e]at h
   cases h
   have h1:=nonz_len b.amounts
   have h2:=W.lens b (bB e).1
   rw[List.length_cons,List.length_cons]
   omega
 case account=>split at h;cases h;cases h;simp
 case merit q=>
  cases h
  have h1:=rows_len (k:=5) (l:=((callsAt s q).foldr putCalled []).map fun c=>[nat c.num,nat c.p,flag c.up,c.amount,c.price]) fun x hx=>by
   obtain⟨c,_,rfl⟩:=List.mem_map.mp hx
   exact Nat.le_refl _
  rw[List.length_map,merit_len]at h1
  have h2:(callsAt s q).length≤s.calls.length:=List.length_filter_le _ _
  have:=Nat.mul_le_mul_right 5 h2
  omega
 case system=>cases h;simp
 case unmatched p q=>
  split at h
  ·cases h
  ·cases h
   refine Nat.le_trans (rows_len (k:=3) fun x hx=>?_) ?_
   ·obtain⟨y,_,e⟩:=List.mem_filterMap.mp hx
    split at e
    ·cases e
    ·cases e;exact Nat.le_refl _
   ·have h1:=List.length_filterMap_le (fun w=>if get s 4 p w q=matchedOf s p w q then none else some [nat w,get s 4 p w q,matchedOf s p w q]) (handsOf s)
    have h2:(handsOf s).length=s.hands:=by unfold handsOf;rw[List.length_map,List.length_range]
    rw[h2]at h1
    have:=Nat.mul_le_mul_right 3 h1
    omega
 case pending=>
  cases h
  refine Nat.le_trans (rows_len (k:=1) fun x hx=>?_) ?_
  ·obtain⟨y,_,rfl⟩:=List.mem_map.mp hx
   exact Nat.le_refl _
  ·rw[List.length_map]
   have:=List.length_filter_le (fun b=>(less (Vbemaj.fresh s b.q) b.amounts).any fun x=>decide (x≠0)) s.booked
   omega
 case sums=>cases h;simp
 case split n l'=>
  cases h
  have h1:l'.length≤32:=hc
  rw[fH]
  omega
theorem sum_map_add{α:Type}(f g:α→Int):∀l:List α,(l.map fun x=>f x+g x).sum=(l.map f).sum+(l.map g).sum
 |[]=>rfl
 |a::l=>by
  have ih:=sum_map_add f g l
  simp only[List.map_cons,List.sum_cons,ih]
  omega
theorem sum_permI{l m:List Int}(h:l.Perm m):l.sum=m.sum:=by
 induction h with
 |nil=>rfl
 |cons a _ ih=>simp only[List.sum_cons,ih]
 |swap a b l=>simp only[List.sum_cons];omega
 |trans _ _ ih1 ih2=>rw[ih1,ih2]
theorem sum_const(c:Int){α:Type}(f:α→Int):∀l:List α,(∀x∈l,f x=c)→(l.map f).sum=l.length*c
 |[],_=>by simp
 |a::l,h=>by
  have ih:=sum_const c f l fun x hx=>h x (List.mem_cons_of_mem _ hx)
  rw[List.map_cons,List.sum_cons,ih,h a List.mem_cons_self,List.length_cons]
  rw[Int.natCast_add,Int.add_mul]
  simp
  omega
theorem bumped_sum{base:Nat→Int}{n m:Nat}{ps:List Nat}(hp:ps.Perm (List.range n))(hm:m≤n):(bumped base n (ps.take m)).sum=((List.range n).map base).sum+m:=by
 unfold bumped
 rw[sum_map_add]
 congr 1
 have nd:ps.Nodup:=hp.nodup_iff.mpr List.nodup_range
 rw[←sum_permI (hp.map fun i=>if i∈ps.take m then(1:Int)else 0)]
 have e:ps.map (fun i=>if i∈ps.take m then(1:Int)else 0)=(ps.take m++ps.drop m).map (fun i=>if i∈ps.take m then(1:Int)else 0):=by rw[List.take_append_drop]
 rw[e,List.map_append,List.sum_append,sum_const 1 _ _ (fun x hx=>if_pos hx),sum_const 0 _ (ps.drop m) (fun x hx=>if_neg fun hx'=>?_),List.length_take,hp.length_eq,List.length_range]
 ·rw[Nat.min_eq_left hm];omega
 ·have nd':(ps.take m++ps.drop m).Nodup:=by rw[List.take_append_drop];exact nd
  exact (List.nodup_append.mp nd').2.2 x hx' x hx rfl
theorem mod_sum(whole t:Nat):∀l:List Nat,(l.map fun w=>whole*w/t).sum*t+(l.map fun w=>whole*w%t).sum=whole*l.sum
 |[]=>by simp
 |a::l=>by
  have ih:=mod_sum whole t l
  simp only[List.map_cons,List.sum_cons,Nat.add_mul,Nat.mul_add]
  have h:=Nat.div_add_mod' (whole*a) t
  omega
theorem mod_le{t:Nat}(ht:0<t)(whole:Nat):∀l:List Nat,(l.map fun w=>whole*w%t).sum≤l.length*t
 |[]=>by simp
 |a::l=>by
  have ih:=mod_le ht whole l
  simp only[List.map_cons,List.sum_cons,List.length_cons,Nat.add_mul]
  have h:=Nat.mod_lt (whole*a) ht
  omega
theorem missing_le{whole:Nat}{l:List Nat}(h:l.sum≠0):whole - (l.map fun w=>whole*w/l.sum).sum≤l.length:=by
 have h1:=mod_sum whole l.sum l
 have h2:=mod_le (Nat.pos_of_ne_zero h) whole l
 apply Nat.le_of_mul_le_mul_right _ (Nat.pos_of_ne_zero h)
 rw[Nat.sub_mul]
 omega
theorem order_ex(r:Nat→Nat)(n:Nat):∃ps:List Nat,ps.Perm (List.range n)∧ps.Pairwise fun i j=>ahead r i j=true:=by
 have htot:∀a b:Nat,(!(ahead r b a)||!(ahead r a b))=true:=fun a b=>by
  cases h:ahead r b a with
  |false=>rfl
  |true=>rw[ahead_asym r b a h];rfl
 have htr:∀a b c:Nat,(!(ahead r b a))=true→(!(ahead r c b))=true→(!(ahead r c a))=true:=fun a b c h1 h2=>by
  simp only[ahead,Bool.not_eq_true',Bool.or_eq_false_iff,Bool.and_eq_false_iff,decide_eq_false_iff_not,beq_eq_false_iff_ne]at *
  omega
 have hpm:=List.mergeSort_perm (List.range n) (fun a b=>!(ahead r b a))
 have hs:=List.pairwise_mergeSort (le:=fun a b=>!(ahead r b a)) htr htot (List.range n)
 have nd:((List.range n).mergeSort (fun a b=>!(ahead r b a))).Nodup:=hpm.nodup_iff.mpr List.nodup_range
 refine⟨_,hpm,?_⟩
 refine (hs.and (List.nodup_iff_pairwise_ne.mp nd)).imp fun{a b} h=>?_
 obtain⟨h1,h2⟩:=h
 simp only[ahead,Bool.not_eq_true',Bool.or_eq_false_iff,Bool.and_eq_false_iff,decide_eq_false_iff_not,beq_eq_false_iff_ne,Bool.or_eq_true,Bool.and_eq_true,decide_eq_true_eq,beq_iff_eq]at *
 omega
theorem split_sum{whole:Nat}{l:List Nat}(h:l.sum≠0):((Vbemaj.split whole l).map fun(n:Nat)=>(n:Int)).sum=whole:=by
 obtain⟨ps,hp,hs⟩:=order_ex (fun k=>whole*Vbemaj.nth l k%l.sum) l.length
 have e:=split_eq (whole:=whole) h hp hs
 show((Vbemaj.split whole l).map Int.ofNat).sum=_
 rw[←e,bumped_sum hp (missing_le h)]
 have e2:((List.range l.length).map fun i=>((whole*Vbemaj.nth l i/l.sum:Nat):Int))=(l.map fun w=>whole*w/l.sum).map fun(z:Nat)=>(z:Int):=by
  rw[List.map_map]
  apply List.ext_getElem?
  intro i
  rw[List.getElem?_map,List.getElem?_map]
  by_cases hi:i<l.length
  ·rw[List.getElem?_range hi,List.getElem?_eq_getElem hi]
   unfold Vbemaj.nth
   simp[hi]
  ·rw[List.getElem?_eq_none (by rw[List.length_range];omega),List.getElem?_eq_none (by omega)]
   rfl
 rw[e2,jL]
 have:=div_sum_le' (whole:=whole) h
 omega
theorem neg_sum:∀l:List Nat,(l.map fun(n:Nat)=>-((n:Nat):Int)).sum=-(l.map fun(n:Nat)=>(n:Int)).sum
 |[]=>rfl
 |a::l=>by
  have ih:=neg_sum l
  simp only[List.map_cons,List.sum_cons,ih]
  omega
theorem splitInt_sum{whole:Int}{l:List Nat}(h:l.sum≠0):(Vbemaj.splitInt whole l).sum=whole:=by
 unfold Vbemaj.splitInt
 split
 ·have e:=split_sum (whole:=(-whole).toNat) h
  have e2:=neg_sum (Vbemaj.split (-whole).toNat l)
  refine Eq.trans e2 ?_
  rw[e]
  omega
 ·have e:=split_sum (whole:=whole.toNat) h
  refine Eq.trans e ?_
  omega
theorem nobody{gs:List Int}{ws:List Nat}(hl:gs.length=ws.length)(hs:(Vbemaj.splitInt (-gs.sum) ws).length=ws.length)(hz:ws.sum=0→∀z∈Vbemaj.splitInt (-gs.sum) ws,z=0):
  -((gs.zip (Vbemaj.splitInt (-gs.sum) ws)).map fun x=>x.1+x.2).sum=if ws.sum=0 then -gs.sum else 0:=by
 have e:∀(a b:List Int),a.length=b.length→((a.zip b).map fun x=>x.1+x.2).sum=a.sum+b.sum:=by
  intro a
  induction a with
  |nil=>intro b hb;cases b with|nil=>rfl|cons _ _=>simp at hb
  |cons x a ih=>
   intro b hb
   cases b with
   |nil=>simp at hb
   |cons y b=>
    rw[List.zip_cons_cons,List.map_cons,List.sum_cons,List.sum_cons,List.sum_cons,ih b (by simpa using hb)]
    omega
 rw[e _ _ (by rw[hl,hs])]
 split
 ·rename_i h
  have:(Vbemaj.splitInt (-gs.sum) ws).sum=0:=by
   have h1:=sum_const 0 (fun z:Int=>z) (Vbemaj.splitInt (-gs.sum) ws) (hz h)
   simpa using h1
  omega
 ·rename_i h
  rw[splitInt_sum h]
  omega
theorem lt_ext{α:Type}{R:α→α→Prop}(irr:∀a,¬R a a)(tr:∀a b c,R a b→R b c→R a c):∀{l m:List α},l.Pairwise R→m.Pairwise R→(∀x,x∈l↔x∈m)→l=m
 |[],[],_,_,_=>rfl
 |[],b::m,_,_,h=>absurd ((h b).mpr List.mem_cons_self) (fun z=>nomatch z)
 |a::l,[],_,_,h=>absurd ((h a).mp List.mem_cons_self) (fun z=>nomatch z)
 |a::l,b::m,hl,hm,h=>by
  obtain⟨l1,l2⟩:=List.pairwise_cons.mp hl
  obtain⟨m1,m2⟩:=List.pairwise_cons.mp hm
  have e:a=b:=by
   rcases List.mem_cons.mp ((h a).mp List.mem_cons_self)with e|e
   ·exact e
   ·rcases List.mem_cons.mp ((h b).mpr List.mem_cons_self)with e2|e2
    ·exact e2.symm
    ·exact absurd (tr _ _ _ (m1 a e) (l1 b e2)) (irr b)
  subst e
  congr 1
  refine lt_ext irr tr l2 m2 fun x=>⟨fun hx=>?_,fun hx=>?_⟩
  ·rcases List.mem_cons.mp ((h x).mp (List.mem_cons_of_mem _ hx))with e|e
   ·exact absurd (e ▸ l1 x hx) (irr _)
   ·exact e
  ·rcases List.mem_cons.mp ((h x).mpr (List.mem_cons_of_mem _ hx))with e|e
   ·exact absurd (e ▸ m1 x hx) (irr _)
   ·exact e
theorem nat_sorted{ns:List Int}{ws:List Nat}(hp:ns.Perm (ws.map fun(k:Nat)=>(k:Int)))(hs:ns.Pairwise (·≤·))(nd:ws.Nodup):∃us:List Nat,ns=us.map (fun(k:Nat)=>(k:Int))∧us.Perm ws∧us.Pairwise (·<·):=by
 have hm:∀z∈ns,∃k:Nat,z=(k:Int):=fun z hz=>by
  obtain⟨k,hk,e⟩:=List.mem_map.mp (hp.mem_iff.mp hz)
  exact⟨k,e.symm⟩
 have e1:ns=(ns.map Int.toNat).map fun(k:Nat)=>(k:Int):=by
  rw[List.map_map]
  conv=>lhs;rw[←List.map_id ns]
  apply List.map_congr_left
  intro z hz
  obtain⟨k,rfl⟩:=hm z hz
  simp
 have hp2:(ns.map Int.toNat).Perm ws:=by
  have:=hp.map Int.toNat
  rw[List.map_map]at this
  have e2:(Int.toNat∘fun(k:Nat)=>(k:Int))=id:=by funext k;simp
  rw[e2,List.map_id]at this
  exact this
 refine⟨ns.map Int.toNat,e1,hp2,?_⟩
 have nd2:(ns.map Int.toNat).Nodup:=hp2.nodup_iff.mpr nd
 refine (List.pairwise_map.mpr (hs.imp fun{a b} q=>?_):(ns.map Int.toNat).Pairwise (·≤·)).and (List.nodup_iff_pairwise_ne.mp nd2) |>.imp fun{a b} q=>by obtain⟨q1,q2⟩:=q;omega
 show a.toNat≤b.toNat
 omega
def gR(c:Called):List Int:=if c.up=true then[0,c.price,(c.num:Nat)] else[1,-c.price,(c.num:Nat)]
theorem meritKey_ne(c:Called):gR c≠[]:=by unfold gR;split <;> simp
theorem earlier_irr(a:Called):¬earlier a a=true:=by unfold earlier;simp
theorem earlier_tr(a b c:Called)(h:earlier a b=true)(k:earlier b c=true):earlier a c=true:=by
 unfold earlier at *
 cases ha:a.up <;> cases hb:b.up <;> cases hc:c.up <;> simp[ha,hb,hc]at h k ⊢ <;>
 (repeat' split at h) <;> (repeat' split at k) <;> (try split) <;> (try simp at h k ⊢) <;> omega
theorem earlier_tot{a b:Called}(h:¬earlier a b=true)(n:a.num≠b.num):earlier b a=true:=by
 unfold earlier at *
 cases ha:a.up <;> cases hb:b.up <;> simp[ha,hb]at h ⊢ <;>
 (repeat' split at h) <;> (try split) <;> (try simp at h ⊢) <;> omega
theorem putC_perm(x:Called):∀l:List Called,(putCalled x l).Perm (x::l)
 |[]=>.refl _
 |y::r=>by
  unfold putCalled
  split
  ·exact .refl _
  ·exact ((putC_perm x r).cons y).trans (.swap x y r)
theorem putC_sorted(x:Called):∀l:List Called,(∀y∈l,y.num≠x.num)→l.Pairwise (fun a b=>earlier a b=true)→(putCalled x l).Pairwise fun a b=>earlier a b=true
 |[],_,_=>List.pairwise_singleton ..
 |y::r,hn,hs=>by
  obtain⟨h1,h2⟩:=List.pairwise_cons.mp hs
  unfold putCalled
  split
  ·rename_i he
   refine List.pairwise_cons.mpr ⟨fun z hz=>?_,hs⟩
   rcases List.mem_cons.mp hz with rfl|hz
   ·exact he
   ·exact earlier_tr _ _ _ he (h1 z hz)
  ·rename_i he
   refine List.pairwise_cons.mpr ⟨fun z hz=>?_,putC_sorted x r (fun z hz=>hn z (List.mem_cons_of_mem _ hz)) h2⟩
   rcases List.mem_cons.mp ((putC_perm x r).mem_iff.mp hz)with rfl|hz
   ·exact earlier_tot he (hn y List.mem_cons_self).symm
   ·exact h1 z hz
theorem merit_perm:∀l:List Called,(l.foldr putCalled []).Perm l
 |[]=>.refl _
 |x::l=>by rw[List.foldr_cons];exact (putC_perm x _).trans ((merit_perm l).cons x)
theorem merit_sorted:∀l:List Called,l.Pairwise (fun a b=>a.num≠b.num)→(l.foldr putCalled []).Pairwise fun a b=>earlier a b=true
 |[],_=>.nil
 |x::l,h=>by
  obtain⟨h1,h2⟩:=List.pairwise_cons.mp h
  rw[List.foldr_cons]
  exact putC_sorted x _ (fun y hy=>(h1 y ((merit_perm l).mem_iff.mp hy)).symm) (merit_sorted l h2)
theorem merit_eq{cs l:List Called}(hd:cs.Pairwise fun a b=>a.num≠b.num)(hp:l.Perm cs)(hs:l.Pairwise fun a b=>earlier a b=true):l=cs.foldr putCalled []:=
 lt_ext earlier_irr earlier_tr hs (merit_sorted cs hd) fun x=>by rw[hp.mem_iff,(merit_perm cs).mem_iff]
theorem calls_nil{shape:Int→Option (Nat×Nat)}{f:Nat}{cs:List (List (List Int))}(h:PyFlat.calls shape f []=some cs):cs=[]:=by
 unfold PyFlat.calls at h
 exact (Option.some.inj h).symm
theorem calls_cons{shape:Int→Option (Nat×Nat)}{f:Nat}{p:Int}{r:List Int}{cs:List (List (List Int))}(h:PyFlat.calls shape f (p::r)=some cs):∃c t f' cs',PyFlat.call shape (p::r)=some (c,t)∧PyFlat.calls shape f' t=some cs'∧cs=c::cs'∧f'<f:=by
 cases f with
 |zero=>unfold PyFlat.calls at h;cases h
 |succ f=>
  unfold PyFlat.calls at h
  cases e:PyFlat.call shape (p::r)with
  |none=>rw[e]at h;cases h
  |some x=>
   obtain⟨c,t⟩:=x
   rw[e]at h
   dsimp only at h
   cases e2:PyFlat.calls shape f t with
   |none=>rw[e2]at h;cases h
   |some cs'=>
    rw[e2]at h
    exact⟨c,t,f,cs',rfl,e2,(Option.some.inj h).symm,Nat.lt_succ_self f⟩
theorem call_plain{shape:Int→Option (Nat×Nat)}{p:Int}{n:Nat}{r t:List Int}{c:List (List Int)}(hs:shape p=some (n,0))(h:PyFlat.call shape (p::r)=some (c,t)):n≤r.length∧c=[p::r.take n]∧t=r.drop n:=by
 unfold PyFlat.call at h
 dsimp only at h
 rw[hs]at h
 dsimp only at h
 split at h
 ·cases h
 ·unfold PyFlat.rows at h
  dsimp only at h
  have e:=Option.some.inj h
  exact⟨by omega,(Prod.mk.inj e).1.symm,(Prod.mk.inj e).2.symm⟩
theorem call_row{shape:Int→Option (Nat×Nat)}{p:Int}{r t:List Int}{c:List (List Int)}(hs:shape p=some (1,1))(h:PyFlat.call shape (p::r)=some (c,t)):
  ∃(x m:Int) (r':List Int),r=x::m::r'∧0≤m∧m.toNat≤r'.length∧c=[[p,x],r'.take m.toNat]∧t=r'.drop m.toNat:=by
 unfold PyFlat.call at h
 dsimp only at h
 rw[hs]at h
 dsimp only at h
 split at h
 ·cases h
 ·rename_i hl
  match r,hl,h with
  |[],hl,h=>simp at hl
  |[x],hl,h=>
   simp only[List.drop_succ_cons,List.drop_zero,PyFlat.rows,PyFlat.row]at h
   cases h
  |x::m::r',hl,h=>
   simp only[List.drop_succ_cons,List.drop_zero,PyFlat.rows,PyFlat.row]at h
   by_cases c1:0≤m∧m.toNat≤r'.length
   ·rw[if_pos c1]at h
    dsimp only at h
    have e:=Option.some.inj h
    exact⟨x,m,r',rfl,c1.1,c1.2,(Prod.mk.inj e).1.symm,(Prod.mk.inj e).2.symm⟩
   ·rw[if_neg c1]at h
    cases h
theorem told_cons(a:List Int)(l:List (List Int)):PyFlat.told (a::l)=((a.length:Int)::a)++PyFlat.told l:=by
 unfold PyFlat.told
 rw[List.flatMap_cons]
theorem played_cons(s:State)(c:List (List Int))(cs:List (List (List Int))):PyFlat.played stepNumbers s (c::cs)=(stepNumbers s c).2::PyFlat.played stepNumbers (stepNumbers s c).1 cs:=rfl
inductive Kd where
 |flag|hand|quarter|amount|price|weight|threshold|addon|much|reserve|nobody|whole|many
 deriving DecidableEq
def rg:Kd→Int×Int
 |.flag=>(0,1)
 |.hand=>(1,32)
 |.quarter=>(0,9999)
 |.amount=>(-1000000000,1000000000)
 |.price=>(-1000000,1000000)
 |.weight=>(0,1000000000)
 |.threshold=>(0,1000000000)
 |.addon=>(0,1000000)
 |.much=>(1,1000000000)
 |.reserve=>(1,1000000000)
 |.nobody=>(0,32)
 |.whole=>(-1000000000000,1000000000000)
 |.many=>(1,32)
def inK(k:Kd)(z:Int):Bool:=decide ((rg k).1≤z)&&decide (z≤(rg k).2)
def jQ:Nat→List Kd
 |0=>[.flag,.flag,.price,.price,.threshold,.addon]
 |2=>[.hand,.quarter,.amount]
 |3=>[.hand,.quarter,.amount]
 |4=>[.hand,.quarter,.weight]
 |5=>[.quarter,.price]
 |6=>[.hand,.hand,.quarter,.amount]
 |7=>[.quarter,.hand,.flag,.much,.price]
 |8=>[.reserve]
 |9=>[.quarter]
 |10=>[.quarter]
 |11=>[.hand,.quarter]
 |12=>[.hand,.hand,.quarter]
 |13=>[.hand,.quarter]
 |14=>[.quarter]
 |15=>[.quarter]
 |16=>[.hand,.quarter]
 |17=>[.quarter]
 |18=>[.nobody]
 |19=>[.quarter]
 |20=>[.quarter]
 |21=>[.hand,.quarter]
 |24=>[.whole,.many]
 |_=>[]
def allIn(ks:List Kd)(zs:List Int):Bool:=(ks.zip zs).all fun x=>inK x.1 x.2
def bit(b:Bool):Int:=if b=true then 1 else 0
inductive Dec:Nat→List Int→Call→Prop
 |opens (m d:Bool) (lo hi t a:Int):-1000000≤lo→lo≤1000000→-1000000≤hi→hi≤1000000→0≤t→t≤1000000000→0≤a→a≤1000000→Dec 0 [bit m,bit d,lo,hi,t,a] (.opens m d lo hi t a)
 |hand:Dec 1 [] .hand
 |market (p q:Nat) (a:Int):1≤p→q<10000→Dec 2 [(p:Int),(q:Int),a] (.tell 0 p 0 q a)
 |meter (p q:Nat) (a:Int):1≤p→q<10000→Dec 3 [(p:Int),(q:Int),a] (.tell 1 p 0 q a)
 |weight (p q:Nat) (a:Int):1≤p→q<10000→Dec 4 [(p:Int),(q:Int),a] (.tell 2 p 0 q a)
 |ahead (q:Nat) (a:Int):q<10000→Dec 5 [(q:Int),a] (.tell 3 0 0 q a)
 |nominate (p w q:Nat) (a:Int):1≤p→1≤w→q<10000→Dec 6 [(p:Int),(w:Int),(q:Int),a] (.tell 4 p w q a)
 |reserve (q p:Nat) (u:Bool) (a x:Int):1≤p→Dec 7 [(q:Int),(p:Int),bit u,a,x] (.called q p u a x)
 |uncall (n:Nat):Dec 8 [(n:Int)] (.uncall n)
 |settle (q:Nat):Dec 9 [(q:Int)] (.settle q)
 |lock (q:Nat):Dec 10 [(q:Int)] (.lock q)
 |position (p q:Nat):1≤p→Dec 11 [(p:Int),(q:Int)] (.position p q)
 |matched (a b q:Nat):1≤a→1≤b→Dec 12 [(a:Int),(b:Int),(q:Int)] (.matched a b q)
 |imbalance (p q:Nat):1≤p→Dec 13 [(p:Int),(q:Int)] (.imbalance p q)
 |prices (q:Nat):Dec 14 [(q:Int)] (.prices q)
 |fresh (q:Nat):Dec 15 [(q:Int)] (.fresh q)
 |parts (p q:Nat):1≤p→Dec 16 [(p:Int),(q:Int)] (.parts p q)
 |booked (q:Nat):Dec 17 [(q:Int)] (.booked q)
 |account (p:Nat):Dec 18 [(p:Int)] (.account p)
 |merit (q:Nat):Dec 19 [(q:Int)] (.merit q)
 |system (q:Nat):Dec 20 [(q:Int)] (.system q)
 |unmatched (p q:Nat):1≤p→Dec 21 [(p:Int),(q:Int)] (.unmatched p q)
 |pending:Dec 22 [] .pending
 |sums:Dec 23 [] .sums
 |split (x:Int) (ws:List Nat):ws.length≤32→(∀z∈ws,z≤1000000000)→Dec 24 (x::(ws.length:Int)::ws.map fun(z:Nat)=>(z:Int)) (.split x ws)
inductive Flat:Nat→List Int→List (List Int)→Prop
 |plain (p:Nat) (zs:List Int):p<24→zs.length=(jQ p).length→Flat p zs [(p:Int)::zs]
 |split (x:Int) (r:List Int):r.length≤200→Flat 24 (x::(r.length:Int)::r) [[24,x],r]
def kindsOf(p:Nat)(zs:List Int):List Kd:=jQ p++List.replicate (zs.length - (jQ p).length) .weight
theorem gK{z:Int}(h:0≤z):∃n:Nat,z=(n:Int):=⟨z.toNat,by omega⟩
theorem bitI{z:Int}(h:0≤z)(k:z≤1):∃b:Bool,z=bit b:=by
 by_cases e:z=1
 ·exact⟨true,by rw[e];rfl⟩
 ·exact⟨false,by show z=0;omega⟩
theorem eE(b:Bool):(bit b==1)=b:=by cases b <;> rfl
def jg(n:Nat)(l:List Int)(c:List (List Int)):Prop:=(allIn (kindsOf n l) l=true→∃y,decode c=some y∧Dec n l y)∧(allIn (kindsOf n l) l=false→decode c=none)
theorem lZ{n:Nat}{l:List Int}{c:List (List Int)}{g:Bool}{y:Call}(e:allIn (kindsOf n l) l=g)(d:decode c=if g=true then some y else none)(k:g=true→Dec n l y):jg n l c:=by
 unfold jg
 rw[e,d]
 exact⟨fun h=>⟨y,if_pos h,k h⟩,fun h=>if_neg (by rw[h];exact Bool.false_ne_true)⟩
theorem jR{a b c:Bool}(h:b=c):(a&&b)=(a&&c):=by rw[h]
theorem dec0(a b c d e f:Int):jg 0 [a,b,c,d,e,f] [[0,a,b,c,d,e,f]]:=lZ (g:=isBit a&&(isBit b&&(isPrice c&&(isPrice d&&(inside e 0 AMOUNT&&(inside f 0 PRICE)))))) (jR (jR (jR (jR (jR (Bool.and_true _)))))) rfl fun h=>by
 simp only[isBit,isP,isQ,isAmount,isPrice,inside,Bool.and_eq_true,decide_eq_true_eq]at h
 try simp only[HANDS,QUARTERS,AMOUNT,PRICE,NUMBERS]at h
 obtain⟨⟨x0,y0⟩,⟨x1,y1⟩,⟨x2,y2⟩,⟨x3,y3⟩,⟨x4,y4⟩,⟨x5,y5⟩⟩:=h
 obtain⟨b0,rfl⟩:=bitI x0 y0
 obtain⟨b1,rfl⟩:=bitI x1 y1
 simp only[Int.toNat_natCast,eE]
 exact .opens b0 b1 c d e f (by omega) (by omega) (by omega) (by omega) (by omega) (by omega) (by omega) (by omega)
theorem dec1:jg 1 [] [[1]]:=⟨fun _=>⟨_,rfl,.hand⟩,fun h=>nomatch h⟩
theorem dec2(a b c:Int):jg 2 [a,b,c] [[2,a,b,c]]:=lZ (g:=isP a&&(isQ b&&(isAmount c))) (jR (jR (Bool.and_true _))) rfl fun h=>by
 simp only[isBit,isP,isQ,isAmount,isPrice,inside,Bool.and_eq_true,decide_eq_true_eq]at h
 try simp only[HANDS,QUARTERS,AMOUNT,PRICE,NUMBERS]at h
 obtain⟨n0,rfl⟩:=gK (z:=a) (by omega)
 obtain⟨n1,rfl⟩:=gK (z:=b) (by omega)
 simp only[Int.toNat_natCast,eE]
 exact .market n0 n1 c (by omega) (by omega)
theorem dec3(a b c:Int):jg 3 [a,b,c] [[3,a,b,c]]:=lZ (g:=isP a&&(isQ b&&(isAmount c))) (jR (jR (Bool.and_true _))) rfl fun h=>by
 simp only[isBit,isP,isQ,isAmount,isPrice,inside,Bool.and_eq_true,decide_eq_true_eq]at h
 try simp only[HANDS,QUARTERS,AMOUNT,PRICE,NUMBERS]at h
 obtain⟨n0,rfl⟩:=gK (z:=a) (by omega)
 obtain⟨n1,rfl⟩:=gK (z:=b) (by omega)
 simp only[Int.toNat_natCast,eE]
 exact .meter n0 n1 c (by omega) (by omega)
theorem dec4(a b c:Int):jg 4 [a,b,c] [[4,a,b,c]]:=lZ (g:=isP a&&(isQ b&&(inside c 0 AMOUNT))) (jR (jR (Bool.and_true _))) rfl fun h=>by
 simp only[isBit,isP,isQ,isAmount,isPrice,inside,Bool.and_eq_true,decide_eq_true_eq]at h
 try simp only[HANDS,QUARTERS,AMOUNT,PRICE,NUMBERS]at h
 obtain⟨n0,rfl⟩:=gK (z:=a) (by omega)
 obtain⟨n1,rfl⟩:=gK (z:=b) (by omega)
 simp only[Int.toNat_natCast,eE]
 exact .weight n0 n1 c (by omega) (by omega)
theorem dec5(a b:Int):jg 5 [a,b] [[5,a,b]]:=lZ (g:=isQ a&&(isPrice b)) (jR (Bool.and_true _)) rfl fun h=>by
 simp only[isBit,isP,isQ,isAmount,isPrice,inside,Bool.and_eq_true,decide_eq_true_eq]at h
 try simp only[HANDS,QUARTERS,AMOUNT,PRICE,NUMBERS]at h
 obtain⟨n0,rfl⟩:=gK (z:=a) (by omega)
 simp only[Int.toNat_natCast,eE]
 exact .ahead n0 b (by omega)
theorem dec6(a b c d:Int):jg 6 [a,b,c,d] [[6,a,b,c,d]]:=lZ (g:=isP a&&(isP b&&(isQ c&&(isAmount d)))) (jR (jR (jR (Bool.and_true _)))) rfl fun h=>by
 simp only[isBit,isP,isQ,isAmount,isPrice,inside,Bool.and_eq_true,decide_eq_true_eq]at h
 try simp only[HANDS,QUARTERS,AMOUNT,PRICE,NUMBERS]at h
 obtain⟨n0,rfl⟩:=gK (z:=a) (by omega)
 obtain⟨n1,rfl⟩:=gK (z:=b) (by omega)
 obtain⟨n2,rfl⟩:=gK (z:=c) (by omega)
 simp only[Int.toNat_natCast,eE]
 exact .nominate n0 n1 n2 d (by omega) (by omega) (by omega)
theorem dec7(a b c d e:Int):jg 7 [a,b,c,d,e] [[7,a,b,c,d,e]]:=lZ (g:=isQ a&&(isP b&&(isBit c&&(inside d 1 AMOUNT&&(isPrice e))))) (jR (jR (jR (jR (Bool.and_true _))))) rfl fun h=>by
 simp only[isBit,isP,isQ,isAmount,isPrice,inside,Bool.and_eq_true,decide_eq_true_eq]at h
 try simp only[HANDS,QUARTERS,AMOUNT,PRICE,NUMBERS]at h
 obtain⟨⟨x0,y0⟩,⟨x1,y1⟩,⟨x2,y2⟩,⟨x3,y3⟩,⟨x4,y4⟩⟩:=h
 obtain⟨n0,rfl⟩:=gK (z:=a) (by omega)
 obtain⟨n1,rfl⟩:=gK (z:=b) (by omega)
 obtain⟨b2,rfl⟩:=bitI x2 y2
 simp only[Int.toNat_natCast,eE]
 exact .reserve n0 n1 b2 d e (by omega)
theorem dec8(a:Int):jg 8 [a] [[8,a]]:=lZ (g:=inside a 1 NUMBERS) (Bool.and_true _) rfl fun h=>by
 simp only[isBit,isP,isQ,isAmount,isPrice,inside,Bool.and_eq_true,decide_eq_true_eq]at h
 try simp only[HANDS,QUARTERS,AMOUNT,PRICE,NUMBERS]at h
 obtain⟨n0,rfl⟩:=gK (z:=a) (by omega)
 simp only[Int.toNat_natCast,eE]
 exact .uncall n0
theorem dec9(a:Int):jg 9 [a] [[9,a]]:=lZ (g:=isQ a) (Bool.and_true _) rfl fun h=>by
 simp only[isBit,isP,isQ,isAmount,isPrice,inside,Bool.and_eq_true,decide_eq_true_eq]at h
 try simp only[HANDS,QUARTERS,AMOUNT,PRICE,NUMBERS]at h
 obtain⟨n0,rfl⟩:=gK (z:=a) (by omega)
 simp only[Int.toNat_natCast,eE]
 exact .settle n0
theorem dec10(a:Int):jg 10 [a] [[10,a]]:=lZ (g:=isQ a) (Bool.and_true _) rfl fun h=>by
 simp only[isBit,isP,isQ,isAmount,isPrice,inside,Bool.and_eq_true,decide_eq_true_eq]at h
 try simp only[HANDS,QUARTERS,AMOUNT,PRICE,NUMBERS]at h
 obtain⟨n0,rfl⟩:=gK (z:=a) (by omega)
 simp only[Int.toNat_natCast,eE]
 exact .lock n0
theorem dec11(a b:Int):jg 11 [a,b] [[11,a,b]]:=lZ (g:=isP a&&(isQ b)) (jR (Bool.and_true _)) rfl fun h=>by
 simp only[isBit,isP,isQ,isAmount,isPrice,inside,Bool.and_eq_true,decide_eq_true_eq]at h
 try simp only[HANDS,QUARTERS,AMOUNT,PRICE,NUMBERS]at h
 obtain⟨n0,rfl⟩:=gK (z:=a) (by omega)
 obtain⟨n1,rfl⟩:=gK (z:=b) (by omega)
 simp only[Int.toNat_natCast,eE]
 exact .position n0 n1 (by omega)
theorem dec12(a b c:Int):jg 12 [a,b,c] [[12,a,b,c]]:=lZ (g:=isP a&&(isP b&&(isQ c))) (jR (jR (Bool.and_true _))) rfl fun h=>by
 simp only[isBit,isP,isQ,isAmount,isPrice,inside,Bool.and_eq_true,decide_eq_true_eq]at h
 try simp only[HANDS,QUARTERS,AMOUNT,PRICE,NUMBERS]at h
 obtain⟨n0,rfl⟩:=gK (z:=a) (by omega)
 obtain⟨n1,rfl⟩:=gK (z:=b) (by omega)
 obtain⟨n2,rfl⟩:=gK (z:=c) (by omega)
 simp only[Int.toNat_natCast,eE]
 exact .matched n0 n1 n2 (by omega) (by omega)
theorem dec13(a b:Int):jg 13 [a,b] [[13,a,b]]:=lZ (g:=isP a&&(isQ b)) (jR (Bool.and_true _)) rfl fun h=>by
 simp only[isBit,isP,isQ,isAmount,isPrice,inside,Bool.and_eq_true,decide_eq_true_eq]at h
 try simp only[HANDS,QUARTERS,AMOUNT,PRICE,NUMBERS]at h
 obtain⟨n0,rfl⟩:=gK (z:=a) (by omega)
 obtain⟨n1,rfl⟩:=gK (z:=b) (by omega)
 simp only[Int.toNat_natCast,eE]
 exact .imbalance n0 n1 (by omega)
theorem dec14(a:Int):jg 14 [a] [[14,a]]:=lZ (g:=isQ a) (Bool.and_true _) rfl fun h=>by
 simp only[isBit,isP,isQ,isAmount,isPrice,inside,Bool.and_eq_true,decide_eq_true_eq]at h
 try simp only[HANDS,QUARTERS,AMOUNT,PRICE,NUMBERS]at h
 obtain⟨n0,rfl⟩:=gK (z:=a) (by omega)
 simp only[Int.toNat_natCast,eE]
 exact .prices n0
theorem dec15(a:Int):jg 15 [a] [[15,a]]:=lZ (g:=isQ a) (Bool.and_true _) rfl fun h=>by
 simp only[isBit,isP,isQ,isAmount,isPrice,inside,Bool.and_eq_true,decide_eq_true_eq]at h
 try simp only[HANDS,QUARTERS,AMOUNT,PRICE,NUMBERS]at h
 obtain⟨n0,rfl⟩:=gK (z:=a) (by omega)
 simp only[Int.toNat_natCast,eE]
 exact .fresh n0
theorem dec16(a b:Int):jg 16 [a,b] [[16,a,b]]:=lZ (g:=isP a&&(isQ b)) (jR (Bool.and_true _)) rfl fun h=>by
 simp only[isBit,isP,isQ,isAmount,isPrice,inside,Bool.and_eq_true,decide_eq_true_eq]at h
 try simp only[HANDS,QUARTERS,AMOUNT,PRICE,NUMBERS]at h
 obtain⟨n0,rfl⟩:=gK (z:=a) (by omega)
 obtain⟨n1,rfl⟩:=gK (z:=b) (by omega)
 simp only[Int.toNat_natCast,eE]
 exact .parts n0 n1 (by omega)
theorem dec17(a:Int):jg 17 [a] [[17,a]]:=lZ (g:=isQ a) (Bool.and_true _) rfl fun h=>by
 simp only[isBit,isP,isQ,isAmount,isPrice,inside,Bool.and_eq_true,decide_eq_true_eq]at h
 try simp only[HANDS,QUARTERS,AMOUNT,PRICE,NUMBERS]at h
 obtain⟨n0,rfl⟩:=gK (z:=a) (by omega)
 simp only[Int.toNat_natCast,eE]
 exact .booked n0
theorem dec18(a:Int):jg 18 [a] [[18,a]]:=lZ (g:=inside a 0 HANDS) (Bool.and_true _) rfl fun h=>by
 simp only[isBit,isP,isQ,isAmount,isPrice,inside,Bool.and_eq_true,decide_eq_true_eq]at h
 try simp only[HANDS,QUARTERS,AMOUNT,PRICE,NUMBERS]at h
 obtain⟨n0,rfl⟩:=gK (z:=a) (by omega)
 simp only[Int.toNat_natCast,eE]
 exact .account n0
theorem dec19(a:Int):jg 19 [a] [[19,a]]:=lZ (g:=isQ a) (Bool.and_true _) rfl fun h=>by
 simp only[isBit,isP,isQ,isAmount,isPrice,inside,Bool.and_eq_true,decide_eq_true_eq]at h
 try simp only[HANDS,QUARTERS,AMOUNT,PRICE,NUMBERS]at h
 obtain⟨n0,rfl⟩:=gK (z:=a) (by omega)
 simp only[Int.toNat_natCast,eE]
 exact .merit n0
theorem dec20(a:Int):jg 20 [a] [[20,a]]:=lZ (g:=isQ a) (Bool.and_true _) rfl fun h=>by
 simp only[isBit,isP,isQ,isAmount,isPrice,inside,Bool.and_eq_true,decide_eq_true_eq]at h
 try simp only[HANDS,QUARTERS,AMOUNT,PRICE,NUMBERS]at h
 obtain⟨n0,rfl⟩:=gK (z:=a) (by omega)
 simp only[Int.toNat_natCast,eE]
 exact .system n0
theorem dec21(a b:Int):jg 21 [a,b] [[21,a,b]]:=lZ (g:=isP a&&(isQ b)) (jR (Bool.and_true _)) rfl fun h=>by
 simp only[isBit,isP,isQ,isAmount,isPrice,inside,Bool.and_eq_true,decide_eq_true_eq]at h
 try simp only[HANDS,QUARTERS,AMOUNT,PRICE,NUMBERS]at h
 obtain⟨n0,rfl⟩:=gK (z:=a) (by omega)
 obtain⟨n1,rfl⟩:=gK (z:=b) (by omega)
 simp only[Int.toNat_natCast,eE]
 exact .unmatched n0 n1 (by omega)
theorem dec22:jg 22 [] [[22]]:=⟨fun _=>⟨_,rfl,.pending⟩,fun h=>nomatch h⟩
theorem dec23:jg 23 [] [[23]]:=⟨fun _=>⟨_,rfl,.sums⟩,fun h=>nomatch h⟩
theorem all_map{l:List Int}(h:(l.all fun w=>inside w 0 AMOUNT)=true):∃ws:List Nat,l=ws.map (fun(z:Nat)=>(z:Int))∧ws=l.map Int.toNat∧∀z∈ws,z≤1000000000:=by
 rw[List.all_eq_true]at h
 have h2:∀w∈l,0≤w∧w≤1000000000:=fun w hw=>by
  have:=h w hw
  simp only[inside,Bool.and_eq_true,decide_eq_true_eq]at this
  exact this
 refine⟨l.map Int.toNat,?_,rfl,fun z hz=>?_⟩
 ·rw[List.map_map]
  conv=>lhs;rw[←List.map_id l]
  apply List.map_congr_left
  intro w hw
  have:=h2 w hw
  show w=((w.toNat:Nat):Int)
  omega
 ·obtain⟨w,hw,rfl⟩:=List.mem_map.mp hz
  have:=h2 w hw
  omega
theorem all_weights:∀(r:List Int),allIn (List.replicate r.length .weight) r=r.all fun w=>inside w 0 AMOUNT
 |[]=>rfl
 |a::r=>by
  have ih:=all_weights r
  show(inK .weight a&&allIn (List.replicate r.length .weight) r)=(inside a 0 AMOUNT&&r.all fun w=>inside w 0 AMOUNT)
  rw[ih]
  rfl
theorem dec24(x:Int)(r:List Int):jg 24 (x::(r.length:Int)::r) [[24,x],r]:=by
 have e:allIn (kindsOf 24 (x::(r.length:Int)::r)) (x::(r.length:Int)::r)=(inside x (-1000000000000) 1000000000000&&(decide (1≤r.length)&&(decide (r.length≤HANDS)&&r.all fun w=>inside w 0 AMOUNT))):=by
  show(inK .whole x&&(inK .many (r.length:Int)&&allIn (List.replicate r.length .weight) r))=_
  rw[all_weights]
  have e2:inK .many (r.length:Int)=(decide (1≤r.length)&&decide (r.length≤HANDS)):=by
   unfold inK rg HANDS
   rw[Bool.eq_iff_iff]
   simp only[Bool.and_eq_true,decide_eq_true_eq]
   omega
  rw[e2,Bool.and_assoc]
  rfl
 refine lZ e rfl fun h=>?_
 simp only[Bool.and_eq_true,decide_eq_true_eq]at h
 obtain⟨h1,h2,h3,h4⟩:=h
 obtain⟨ws,e1,e2,e3⟩:=all_map h4
 rw[←e2,e1,List.length_map]
 have h3':r.length≤32:=h3
 rw[e1,List.length_map]at h3'
 exact .split x ws h3' e3
theorem dec_of{p:Nat}{zs:List Int}{c:List (List Int)}(h:Flat p zs c):jg p zs c:=match h with
 |.split x r _=>dec24 x r
 |.plain p zs hp hl=>match p,hp,hl with
  |0,_,hl=>match zs,(show zs.length=6 from hl)with|[a,b,c,d,e,f],_=>dec0 a b c d e f
  |1,_,hl=>match zs,(show zs.length=0 from hl)with|[],_=>dec1
  |2,_,hl=>match zs,(show zs.length=3 from hl)with|[a,b,c],_=>dec2 a b c
  |3,_,hl=>match zs,(show zs.length=3 from hl)with|[a,b,c],_=>dec3 a b c
  |4,_,hl=>match zs,(show zs.length=3 from hl)with|[a,b,c],_=>dec4 a b c
  |5,_,hl=>match zs,(show zs.length=2 from hl)with|[a,b],_=>dec5 a b
  |6,_,hl=>match zs,(show zs.length=4 from hl)with|[a,b,c,d],_=>dec6 a b c d
  |7,_,hl=>match zs,(show zs.length=5 from hl)with|[a,b,c,d,e],_=>dec7 a b c d e
  |8,_,hl=>match zs,(show zs.length=1 from hl)with|[a],_=>dec8 a
  |9,_,hl=>match zs,(show zs.length=1 from hl)with|[a],_=>dec9 a
  |10,_,hl=>match zs,(show zs.length=1 from hl)with|[a],_=>dec10 a
  |11,_,hl=>match zs,(show zs.length=2 from hl)with|[a,b],_=>dec11 a b
  |12,_,hl=>match zs,(show zs.length=3 from hl)with|[a,b,c],_=>dec12 a b c
  |13,_,hl=>match zs,(show zs.length=2 from hl)with|[a,b],_=>dec13 a b
  |14,_,hl=>match zs,(show zs.length=1 from hl)with|[a],_=>dec14 a
  |15,_,hl=>match zs,(show zs.length=1 from hl)with|[a],_=>dec15 a
  |16,_,hl=>match zs,(show zs.length=2 from hl)with|[a,b],_=>dec16 a b
  |17,_,hl=>match zs,(show zs.length=1 from hl)with|[a],_=>dec17 a
  |18,_,hl=>match zs,(show zs.length=1 from hl)with|[a],_=>dec18 a
  |19,_,hl=>match zs,(show zs.length=1 from hl)with|[a],_=>dec19 a
  |20,_,hl=>match zs,(show zs.length=1 from hl)with|[a],_=>dec20 a
  |21,_,hl=>match zs,(show zs.length=2 from hl)with|[a,b],_=>dec21 a b
  |22,_,hl=>match zs,(show zs.length=0 from hl)with|[],_=>dec22
  |23,_,hl=>match zs,(show zs.length=0 from hl)with|[],_=>dec23
  |p+24,hp,_=>absurd hp (by omega)
def Sh(c:List (List Int)):Prop:=(∃(n:Nat) (zs:List Int),n<24∧zs.length=(jQ n).length∧c=[(n:Int)::zs])∨∃x r,c=[[24,x],r]
theorem Flat.sh{n:Nat}{zs:List Int}{c:List (List Int)}(F:Flat n zs c):Sh c:=by
 cases F with
 |plain p zs hp hl=>exact .inl ⟨n,zs,hp,hl,rfl⟩
 |split x r h=>exact .inr ⟨x,r,rfl⟩
theorem Sh.elim{P:List (List Int)→Prop}{c:List (List Int)}(S:Sh c)(h0:∀a b c d e f,P [[0,a,b,c,d,e,f]])(h1:P [[1]])(h2:∀a b c,P [[2,a,b,c]])(h3:∀a b c,P [[3,a,b,c]])(h4:∀a b c,P [[4,a,b,c]])(h5:∀a b,P [[5,a,b]])(h6:∀a b c d,P [[6,a,b,c,d]])(h7:∀a b c d e,P [[7,a,b,c,d,e]])(h8:∀a,P [[8,a]])(h9:∀a,P [[9,a]])(h10:∀a,P [[10,a]])(h11:∀a b,P [[11,a,b]])(h12:∀a b c,P [[12,a,b,c]])(h13:∀a b,P [[13,a,b]])(h14:∀a,P [[14,a]])(h15:∀a,P [[15,a]])(h16:∀a b,P [[16,a,b]])(h17:∀a,P [[17,a]])(h18:∀a,P [[18,a]])(h19:∀a,P [[19,a]])(h20:∀a,P [[20,a]])(h21:∀a b,P [[21,a,b]])(h22:P [[22]])(h23:P [[23]])(h24:∀x r,P [[24,x],r]):P c:=match S with
 |.inr ⟨x,r,e⟩=>e ▸ h24 x r
 |.inl ⟨n,zs,hn,hl,e⟩=>e ▸ match n,hn,hl with
  |0,_,hl=>match zs,(show zs.length=6 from hl)with|[a,b,c,d,e,f],_=>h0 a b c d e f
  |1,_,hl=>match zs,(show zs.length=0 from hl)with|[],_=>h1
  |2,_,hl=>match zs,(show zs.length=3 from hl)with|[a,b,c],_=>h2 a b c
  |3,_,hl=>match zs,(show zs.length=3 from hl)with|[a,b,c],_=>h3 a b c
  |4,_,hl=>match zs,(show zs.length=3 from hl)with|[a,b,c],_=>h4 a b c
  |5,_,hl=>match zs,(show zs.length=2 from hl)with|[a,b],_=>h5 a b
  |6,_,hl=>match zs,(show zs.length=4 from hl)with|[a,b,c,d],_=>h6 a b c d
  |7,_,hl=>match zs,(show zs.length=5 from hl)with|[a,b,c,d,e],_=>h7 a b c d e
  |8,_,hl=>match zs,(show zs.length=1 from hl)with|[a],_=>h8 a
  |9,_,hl=>match zs,(show zs.length=1 from hl)with|[a],_=>h9 a
  |10,_,hl=>match zs,(show zs.length=1 from hl)with|[a],_=>h10 a
  |11,_,hl=>match zs,(show zs.length=2 from hl)with|[a,b],_=>h11 a b
  |12,_,hl=>match zs,(show zs.length=3 from hl)with|[a,b,c],_=>h12 a b c
  |13,_,hl=>match zs,(show zs.length=2 from hl)with|[a,b],_=>h13 a b
  |14,_,hl=>match zs,(show zs.length=1 from hl)with|[a],_=>h14 a
  |15,_,hl=>match zs,(show zs.length=1 from hl)with|[a],_=>h15 a
  |16,_,hl=>match zs,(show zs.length=2 from hl)with|[a,b],_=>h16 a b
  |17,_,hl=>match zs,(show zs.length=1 from hl)with|[a],_=>h17 a
  |18,_,hl=>match zs,(show zs.length=1 from hl)with|[a],_=>h18 a
  |19,_,hl=>match zs,(show zs.length=1 from hl)with|[a],_=>h19 a
  |20,_,hl=>match zs,(show zs.length=1 from hl)with|[a],_=>h20 a
  |21,_,hl=>match zs,(show zs.length=2 from hl)with|[a,b],_=>h21 a b
  |22,_,hl=>match zs,(show zs.length=0 from hl)with|[],_=>h22
  |23,_,hl=>match zs,(show zs.length=0 from hl)with|[],_=>h23
  |n+24,h,_=>absurd h (by omega)
theorem whole_id{c:List (List Int)}(S:Sh c):PyVbemaj.whole c=c:=by
 apply S.elim (P:=fun c=>PyVbemaj.whole c=c) <;> (intros;rfl)
theorem decode_in{c:List (List Int)}{d:Call}(S:Sh c):decode c=some d→CallIn d∧SplitIn d:=by
 apply S.elim (P:=fun c=>decode c=some d→CallIn d∧SplitIn d)
 all_goals (
  intros
  rename_i h
  first
   |(obtain⟨g,e⟩:=guard_some h
     subst e
     refine⟨?_,?_⟩
     first
      |exact True.intro
      |(simp only[Bool.and_eq_true,isP,isQ,isBit,isPrice,isAmount,inside_iff,PRICE,AMOUNT]at g;simp only[CallIn];first|omega|(refine⟨by simp,by omega,fun h=>?_⟩;omega))
     first
      |exact True.intro
      |(simp only[Bool.and_eq_true,decide_eq_true_eq]at g;show(List.map _ _).length≤32;rw[List.length_map];exact g.2.2.1))
   |(obtain rfl:=Option.some.inj h;exact⟨True.intro,True.intro⟩))
theorem wf_step{s:State}{c:List (List Int)}(S:Sh c)(W:Wf s):Wf (stepNumbers s c).1:=by
 unfold stepNumbers
 cases e:decode c with
 |none=>exact W
 |some d=>
  show Wf (step s d).1
  unfold step
  split
  ·exact W
  ·rename_i k
   cases q:does s d with
   |error x=>exact W
   |ok x=>
    obtain⟨t,l⟩:=x
    refine wf_does W (decode_in S e).1 ?_ q
    cases h1:s.opened with
    |true=>exact .inl rfl
    |false=>
     cases h2:isOpens d with
     |true=>exact .inr rfl
     |false=>exact absurd ⟨h1,h2⟩ k
theorem ans_len{s:State}{c:List (List Int)}(S:Sh c)(W:Wf s):(stepNumbers s c).2.length≤400:=by
 unfold stepNumbers
 cases e:decode c with
 |none=>simp
 |some d=>
  dsimp only
  unfold step
  split
  ·simp
  ·cases q:does s d with
   |error _=>simp
   |ok x=>
    obtain⟨t,l⟩:=x
    have:=does_len W (decode_in S e).2 q
    dsimp only
    rw[List.length_cons]
    omega
theorem shape_of{p:Int}{rest t:List Int}{c:List (List Int)}(h:PyFlat.call PyVbemaj.shape (p::rest)=some (c,t)):∃n:Nat,p=(n:Int)∧n<25∧(n≠24→PyVbemaj.shape ((n:Nat):Int)=some ((jQ n).length,0)):=by
 cases e:PyVbemaj.shape p with
 |none=>unfold PyFlat.call at h;dsimp only at h;rw[e]at h;cases h
 |some x=>
  have hz:0≤p∧p<25:=by
   by_cases z:0≤p∧p<25
   ·exact z
   ·exfalso
    have:PyVbemaj.shape p=none:=by
     unfold PyVbemaj.shape
     repeat rw[if_neg (by omega)]
    rw[this]at e
    cases e
  refine⟨p.toNat,by omega,by omega,fun h24=>?_⟩
  have hn24:p.toNat<24:=by omega
  generalize p.toNat=n at hn24
  match n,hn24 with
  |0,_|1,_|2,_|3,_|4,_|5,_|6,_|7,_|8,_|9,_|10,_|11,_|12,_|13,_|14,_|15,_|16,_|17,_|18,_|19,_|20,_|21,_|22,_|23,_=>rfl
  |n+24,h=>exact absurd h (by omega)
theorem sh_call{p:Int}{rest t:List Int}{c:List (List Int)}(h:PyFlat.call PyVbemaj.shape (p::rest)=some (c,t)):Sh c:=by
 obtain⟨n,rfl,hn,hsh⟩:=shape_of h
 by_cases h24:n=24
 ·subst h24
  obtain⟨x,m,r',rfl,h0,h1,rfl,rfl⟩:=call_row (p:=((24:Nat):Int)) rfl h
  exact .inr ⟨x,_,rfl⟩
 ·obtain⟨h1,rfl,rfl⟩:=call_plain (hsh h24) h
  exact .inl ⟨n,_,by omega,by rw[List.length_take];omega,rfl⟩
theorem sh_all:∀(f:Nat) {l:List Int}{cs:List (List (List Int))},PyFlat.calls PyVbemaj.shape f l=some cs→∀c∈cs,Sh c
 |f,[],cs,h,c,hc=>by rw[calls_nil h]at hc;cases hc
 |f,p::r,cs,h,c,hc=>by
  obtain⟨c',t,f',cs',h1,h2,rfl,hf⟩:=calls_cons h
  rcases List.mem_cons.mp hc with rfl|hc
  ·exact sh_call h1
  ·exact sh_all f' h2 c hc
termination_by f=>f
theorem request{l:List Int}(h:PyVbemaj.answers_asked l=true):∃cs,PyFlat.calls PyVbemaj.shape l.length l=some cs∧cs.length≤400∧(∀c∈cs,VbemajNeutral.asked1 c=true)∧PyVbemaj.answers l=PyFlat.told (PyFlat.played stepNumbers start cs):=by
 unfold PyVbemaj.answers_asked at h
 unfold PyVbemaj.answers
 unfold PyVbemaj.calls at *
 cases e:PyFlat.calls PyVbemaj.shape l.length l with
 |none=>rw[e]at h;cases h
 |some cs=>
  rw[e]at h
  dsimp only at h ⊢
  have ew:cs.map PyVbemaj.whole=cs:=by
   conv=>rhs;rw[←List.map_id cs]
   exact List.map_congr_left fun c hc=>whole_id (sh_all _ e c hc)
  rw[ew]at h ⊢
  rw[Bool.and_eq_true]at h
  have h2:=h.2
  unfold VbemajNeutral.asked at h2
  rw[Bool.and_eq_true]at h2
  exact⟨cs,rfl,of_decide_eq_true h.1,List.all_eq_true.mp h2.1,rfl⟩
end QM
namespace Q
open PySem PySem.Spec PyProof.Rows L2
def top(i:Nat):Stmt:=PySem.Challenge.pw_quarterhouse_s01_answers.main.body.getD i (.Pass ⟨0,0,0,0⟩)
abbrev Sc(N P:List Str)(s:Stmt):Prop:=oU N P (aG s)
theorem sK{N P:List Str}{s:Stmt}(a:(aG s).kind=.function:=by rfl)(b:(aG s).isCoroutine=false:=by rfl)(c:(aG s).isGenerator=false:=by rfl)(d:N.Nodup:=by decide +kernel)(e:N.take P.length=P:=by rfl)
  (f:∀x∈P,(aG s).names.lookup x=some .local∨(aG s).names.lookup x=some .cell:=by decide +kernel) (g:∀y∈(aG s).names,y.2≠.free:=by decide +kernel):Sc N P s:=⟨a,b,c,d,e,f,g⟩
def Bd(x q:Str)(P:List Str)(s:Stmt):Prop:=∀(kV doc pm:Value) (an:Option Addr) (cdv ct:Value) (us:List Value),us.length=P.length→bindArgs (PySem.W.fnOf x q (gb s) (dO s) (aG s) .none kV doc pm an cdv ct) ⟨us,[]⟩=pure (P.zip us)
def Bn(x q:Str)(P:List Str)(s:Stmt)(us:List Value):Prop:=∀(kV doc pm:Value) (an:Option Addr) (cdv ct:Value),bindArgs (PySem.W.fnOf x q (gb s) (dO s) (aG s) .none kV doc pm an cdv ct) ⟨us,[]⟩=pure (P.zip us)
theorem b0{x q:Str}{P:List Str}{s:Stmt}(hP:P.length=0:=by rfl)(h:Bn x q P s []:=by exact fun _ _ _ _ _ _=>rfl):Bd x q P s:=fun kV doc pm an cdv ct us hl=>match us,hl.trans hP with|[],_=>h kV doc pm an cdv ct
theorem b1{x q:Str}{P:List Str}{s:Stmt}(hP:P.length=1:=by rfl)(h:∀a,Bn x q P s [a]:=by exact fun _ _ _ _ _ _ _=>rfl):Bd x q P s:=fun kV doc pm an cdv ct us hl=>match us,hl.trans hP with|[a],_=>h a kV doc pm an cdv ct
theorem b2{x q:Str}{P:List Str}{s:Stmt}(hP:P.length=2:=by rfl)(h:∀a b,Bn x q P s [a,b]:=by exact fun _ _ _ _ _ _ _ _=>rfl):Bd x q P s:=fun kV doc pm an cdv ct us hl=>match us,hl.trans hP with|[a,b],_=>h a b kV doc pm an cdv ct
theorem b3{x q:Str}{P:List Str}{s:Stmt}(hP:P.length=3:=by rfl)(h:∀a b c,Bn x q P s [a,b,c]:=by exact fun _ _ _ _ _ _ _ _ _=>rfl):Bd x q P s:=fun kV doc pm an cdv ct us hl=>match us,hl.trans hP with|[a,b,c],_=>h a b c kV doc pm an cdv ct
theorem b4{x q:Str}{P:List Str}{s:Stmt}(hP:P.length=4:=by rfl)(h:∀a b c d,Bn x q P s [a,b,c,d]:=by exact fun _ _ _ _ _ _ _ _ _ _=>rfl):Bd x q P s:=fun kV doc pm an cdv ct us hl=>match us,hl.trans hP with|[a,b,c,d],_=>h a b c d kV doc pm an cdv ct
theorem b5{x q:Str}{P:List Str}{s:Stmt}(hP:P.length=5:=by rfl)(h:∀a b c d e,Bn x q P s [a,b,c,d,e]:=by exact fun _ _ _ _ _ _ _ _ _ _ _=>rfl):Bd x q P s:=fun kV doc pm an cdv ct us hl=>match us,hl.trans hP with|[a,b,c,d,e],_=>h a b c d e kV doc pm an cdv ct
theorem b6{x q:Str}{P:List Str}{s:Stmt}(hP:P.length=6:=by rfl)(h:∀a b c d e f,Bn x q P s [a,b,c,d,e,f]:=by exact fun _ _ _ _ _ _ _ _ _ _ _ _=>rfl):Bd x q P s:=fun kV doc pm an cdv ct us hl=>match us,hl.trans hP with|[a,b,c,d,e,f],_=>h a b c d e f kV doc pm an cdv ct
theorem b7{x q:Str}{P:List Str}{s:Stmt}(hP:P.length=7:=by rfl)(h:∀a b c d e f g,Bn x q P s [a,b,c,d,e,f,g]:=by exact fun _ _ _ _ _ _ _ _ _ _ _ _ _=>rfl):Bd x q P s:=fun kV doc pm an cdv ct us hl=>match us,hl.trans hP with|[a,b,c,d,e,f,g],_=>h a b c d e f g kV doc pm an cdv ct
abbrev s_shared:Stmt:=top 1
theorem sc_shared:Sc ["whole","weights","share"] ["whole","weights"] s_shared:=sK
theorem bd_shared:Bd "shared" "shared" ["whole","weights"] s_shared:=b2
abbrev cZ:Stmt:=top 2
theorem bO:Sc ["whole","weights","total","shares","weight","remainders","lacking","places","place"] ["whole","weights"] cZ:=sK
theorem bd_shared_above:Bd "shared_above" "shared_above" ["whole","weights"] cZ:=b2
abbrev kj:Stmt:=inClass (top 4) 0
theorem sc_Rules_init:Sc ["self","means","two_prices","low","high","threshold","add_on"] ["self","means","two_prices","low","high","threshold","add_on"] kj:=sK
theorem bd_Rules_init:Bd "__init__" "Rules.__init__" ["self","means","two_prices","low","high","threshold","add_on"] kj:=b7
abbrev iV:Stmt:=inClass (top 5) 0
theorem sc_Reserve_init:Sc ["self","quarter","hand","up","much","price"] ["self","quarter","hand","up","much","price"] iV:=sK
theorem bd_Reserve_init:Bd "__init__" "Reserve.__init__" ["self","quarter","hand","up","much","price"] iV:=b6
abbrev kE:Stmt:=inClass (top 6) 0
theorem sc_House_init:Sc ["self"] ["self"] kE:=sK
theorem bd_House_init:Bd "__init__" "House.__init__" ["self"] kE:=b1
abbrev cI:Stmt:=inClass (top 7) 0
theorem cB:Sc ["self","house","quarter","call","key"] ["self","house","quarter"] cI:=sK
theorem bd_QuarterNow_init:Bd "__init__" "QuarterNow.__init__" ["self","house","quarter"] cI:=b3
abbrev kI:Stmt:=top 8
theorem sc_market_key:Sc ["hand"] ["hand"] kI:=sK
theorem bd_market_key:Bd "market_key" "market_key" ["hand"] kI:=b1
abbrev jB:Stmt:=top 9
theorem sc_metered_key:Sc ["hand"] ["hand"] jB:=sK
theorem bd_metered_key:Bd "metered_key" "metered_key" ["hand"] jB:=b1
abbrev kJ:Stmt:=top 10
theorem sc_weight_key:Sc ["hand"] ["hand"] kJ:=sK
theorem bd_weight_key:Bd "weight_key" "weight_key" ["hand"] kJ:=b1
abbrev mL:Stmt:=top 11
theorem sc_ahead_key:Sc [] [] mL:=sK
theorem bd_ahead_key:Bd "ahead_key" "ahead_key" [] mL:=b0
abbrev gZ:Stmt:=top 12
theorem sc_nominated_key:Sc ["hand","to"] ["hand","to"] gZ:=sK
theorem bd_nominated_key:Bd "nominated_key" "nominated_key" ["hand","to"] gZ:=b2
abbrev s_entry:Stmt:=top 13
theorem sc_entry:Sc ["now","key"] ["now","key"] s_entry:=sK
theorem bd_entry:Bd "entry" "entry" ["now","key"] s_entry:=b2
abbrev fZ:Stmt:=top 14
theorem jX:Sc ["now","hand","key"] ["now","hand"] fZ:=sK
theorem bd_nominated_to:Bd "nominated_to" "nominated_to" ["now","hand"] fZ:=b2
abbrev iW:Stmt:=top 15
theorem sc_hand_numbers:Sc ["now"] ["now"] iW:=sK
theorem bd_hand_numbers:Bd "hand_numbers" "hand_numbers" ["now"] iW:=b1
abbrev lM:Stmt:=top 16
theorem sc_has_hand:Sc ["house","hand"] ["house","hand"] lM:=sK
theorem bd_has_hand:Bd "has_hand" "has_hand" ["house","hand"] lM:=b2
abbrev mO:Stmt:=top 17
theorem sc_is_locked:Sc ["house","quarter"] ["house","quarter"] mO:=sK
theorem bd_is_locked:Bd "is_locked" "is_locked" ["house","quarter"] mO:=b2
abbrev fJ:Stmt:=top 18
theorem jt:Sc ["house","entries"] ["house"] fJ:=sK
theorem bd_count_entries:Bd "count_entries" "count_entries" ["house"] fJ:=b1
abbrev oW:Stmt:=top 19
theorem sc_is_entry:Sc ["house","quarter","key"] ["house","quarter","key"] oW:=sK
theorem bd_is_entry:Bd "is_entry" "is_entry" ["house","quarter","key"] oW:=b3
abbrev mQ:Stmt:=top 20
theorem sc_set_entry:Sc ["house","quarter","key","number","entries"] ["house","quarter","key","number"] mQ:=sK
theorem bd_set_entry:Bd "set_entry" "set_entry" ["house","quarter","key","number"] mQ:=b4
abbrev jC:Stmt:=inClass (top 22) 0
theorem sc_Prices_init:Sc ["self","direction","price","short_price","long_price"] ["self","direction","price","short_price","long_price"] jC:=sK
theorem bd_Prices_init:Bd "__init__" "Prices.__init__" ["self","direction","price","short_price","long_price"] jC:=b5
abbrev s_matched:Stmt:=top 23
theorem sc_matched:Sc ["now","hand","other","there","back"] ["now","hand","other"] s_matched:=sK
theorem bd_matched:Bd "matched" "matched" ["now","hand","other"] s_matched:=b3
abbrev gU:Stmt:=top 24
theorem lO:Sc ["now","hand","other"] ["now","hand"] gU:=sK
theorem bd_matched_sum:Bd "matched_sum" "matched_sum" ["now","hand"] gU:=b2
abbrev oX:Stmt:=top 25
theorem sc_position:Sc ["now","hand"] ["now","hand"] oX:=sK
theorem bd_position:Bd "position" "position" ["now","hand"] oX:=b2
abbrev jM:Stmt:=top 26
theorem sc_own_calls:Sc ["now","hand","call"] ["now","hand"] jM:=sK
theorem bd_own_calls:Bd "own_calls" "own_calls" ["now","hand"] jM:=b2
abbrev fK:Stmt:=top 27
theorem ju:Sc ["calls","up","call"] ["calls","up"] fK:=sK
theorem bd_amount_called:Bd "amount_called" "amount_called" ["calls","up"] fK:=b2
abbrev kO:Stmt:=top 28
theorem sc_surplus_up:Sc ["calls"] ["calls"] kO:=sK
theorem bd_surplus_up:Bd "surplus_up" "surplus_up" ["calls"] kO:=b1
abbrev s_called:Stmt:=top 29
theorem sc_called:Sc ["now","hand"] ["now","hand"] s_called:=sK
theorem bd_called:Bd "called" "called" ["now","hand"] s_called:=b2
abbrev mR:Stmt:=top 30
theorem sc_imbalance:Sc ["now","hand"] ["now","hand"] mR:=sK
theorem bd_imbalance:Bd "imbalance" "imbalance" ["now","hand"] mR:=b2
abbrev gC:Stmt:=top 31
theorem sc_brought_within:Sc ["rules","price"] ["rules","price"] gC:=sK
theorem bd_brought_within:Bd "brought_within" "brought_within" ["rules","price"] gC:=b2
abbrev jD:Stmt:=top 32
theorem sc_ahead_price:Sc ["now"] ["now"] jD:=sK
theorem bd_ahead_price:Bd "ahead_price" "ahead_price" ["now"] jD:=b1
abbrev iY:Stmt:=top 33
theorem sc_direction_of:Sc ["now","surplus"] ["now"] iY:=sK
theorem bd_direction_of:Bd "direction_of" "direction_of" ["now"] iY:=b1
abbrev gk:Stmt:=top 34
theorem gV:Sc ["calls","call"] ["calls"] gk:=sK
theorem bd_mean_price:Bd "mean_price" "mean_price" ["calls"] gk:=b1
abbrev jq:Stmt:=top 35
theorem iD:Sc ["now","calls","call","price"] ["now"] jq:=sK
theorem bd_price_up:Bd "price_up" "price_up" ["now"] jq:=b1
abbrev gn:Stmt:=top 36
theorem fM:Sc ["now","calls","call","price"] ["now"] gn:=sK
theorem bd_price_down:Bd "price_down" "price_down" ["now"] gn:=b1
abbrev g8:Stmt:=top 37
theorem sc_quarter_price:Sc ["now","direction"] ["now","direction"] g8:=sK
theorem bd_quarter_price:Bd "quarter_price" "quarter_price" ["now","direction"] g8:=b2
abbrev mU:Stmt:=top 38
theorem kW:Sc ["now","direction","price","ahead"] ["now"] mU:=sK
theorem bd_prices_of:Bd "prices_of" "prices_of" ["now"] mU:=b1
abbrev d7:Stmt:=top 39
theorem jj:Sc ["now","hand","prices","amount"] ["now","hand","prices"] d7:=sK
theorem bd_owed_for_imbalance:Bd "owed_for_imbalance" "owed_for_imbalance" ["now","hand","prices"] d7:=b3
abbrev cQ:Stmt:=top 40
theorem bJ:Sc ["now","hand","calls","got","call","paid"] ["now","hand"] cQ:=sK
theorem bd_owed_for_reserve:Bd "owed_for_reserve" "owed_for_reserve" ["now","hand"] cQ:=b2
abbrev oY:Stmt:=top 41
theorem sc_gross_of:Sc ["now","hand","prices"] ["now","hand","prices"] oY:=sK
theorem bd_gross_of:Bd "gross_of" "gross_of" ["now","hand","prices"] oY:=b3
abbrev eU:Stmt:=top 42
theorem fW:Sc ["now","prices","hand"] ["now"] eU:=sK
theorem bd_gross_of_hands:Bd "gross_of_hands" "gross_of_hands" ["now"] eU:=b1
abbrev dI:Stmt:=top 43
theorem gM:Sc ["now","hand"] ["now"] dI:=sK
theorem bd_weights_of_hands:Bd "weights_of_hands" "weights_of_hands" ["now"] dI:=b1
abbrev gD:Stmt:=top 44
theorem sc_shares_of_rest:Sc ["now","gross"] ["now","gross"] gD:=sK
theorem bd_shares_of_rest:Bd "shares_of_rest" "shares_of_rest" ["now","gross"] gD:=b2
abbrev lN:Stmt:=top 45
theorem jN:Sc ["now","gross","owed","own","share"] ["now"] lN:=sK
theorem bd_owed_now:Bd "owed_now" "owed_now" ["now"] lN:=b1
abbrev s_growth:Stmt:=top 47
theorem oh:Sc ["before","after","known","number","earlier"] ["before","after"] s_growth:=sK
theorem bd_growth:Bd "growth" "growth" ["before","after"] s_growth:=b2
abbrev iT:Stmt:=top 48
theorem jE:Sc ["house","quarter","owed","number"] ["house","quarter"] iT:=sK
theorem bd_is_pending:Bd "is_pending" "is_pending" ["house","quarter"] iT:=b2
abbrev s_listed:Stmt:=top 49
theorem lA:Sc ["numbers","answer","number","place"] ["numbers"] s_listed:=sK
theorem bd_listed:Bd "listed" "listed" ["numbers"] s_listed:=b1
abbrev iZ:Stmt:=top 91
theorem sc_ask_position:Sc ["now","hand"] ["now","hand"] iZ:=sK
theorem bd_ask_position:Bd "ask_position" "ask_position" ["now","hand"] iZ:=b2
abbrev jF:Stmt:=top 92
theorem sc_ask_matched:Sc ["house","hand","other","quarter"] ["house","hand","other","quarter"] jF:=sK
theorem bd_ask_matched:Bd "ask_matched" "ask_matched" ["house","hand","other","quarter"] jF:=b4
abbrev ig:Stmt:=top 93
theorem sc_ask_imbalance:Sc ["now","hand"] ["now","hand"] ig:=sK
theorem bd_ask_imbalance:Bd "ask_imbalance" "ask_imbalance" ["now","hand"] ig:=b2
abbrev kY:Stmt:=top 94
theorem sc_ask_prices:Sc ["now","prices"] ["now"] kY:=sK
theorem bd_ask_prices:Bd "ask_prices" "ask_prices" ["now"] kY:=b1
abbrev mV:Stmt:=top 95
theorem sc_ask_fresh:Sc ["now"] ["now"] mV:=sK
theorem bd_ask_fresh:Bd "ask_fresh" "ask_fresh" ["now"] mV:=b1
abbrev mW:Stmt:=top 96
theorem sc_ask_parts:Sc ["now","hand","share"] ["now","hand"] mW:=sK
theorem bd_ask_parts:Bd "ask_parts" "ask_parts" ["now","hand"] mW:=b2
abbrev kZ:Stmt:=top 97
theorem sc_ask_booked:Sc ["house","quarter"] ["house","quarter"] kZ:=sK
theorem bd_ask_booked:Bd "ask_booked" "ask_booked" ["house","quarter"] kZ:=b2
abbrev gW:Stmt:=top 98
theorem lQ:Sc ["house","hand","numbers"] ["house","hand"] gW:=sK
theorem bd_ask_account:Bd "ask_account" "ask_account" ["house","hand"] gW:=b2
abbrev jG:Stmt:=top 99
theorem sc_merit_order:Sc ["number","call"] ["number","call"] jG:=sK
theorem bd_merit_order:Bd "merit_order" "merit_order" ["number","call"] jG:=b2
abbrev dX:Stmt:=top 100
theorem fD:Sc ["house","quarter","numbers","number","call","answer"] ["house","quarter"] dX:=sK
theorem bd_ask_merit:Bd "ask_merit" "ask_merit" ["house","quarter"] dX:=b2
abbrev gq:Stmt:=top 101
theorem cX:Sc ["now","imbalances","hand","positions","gross","weights"] ["now"] gq:=sK
theorem bd_ask_system:Bd "ask_system" "ask_system" ["now"] gq:=b1
abbrev jc:Stmt:=top 102
theorem sc_is_unmatched:Sc ["now","hand","other"] ["now","hand","other"] jc:=sK
theorem bd_is_unmatched:Bd "is_unmatched" "is_unmatched" ["now","hand","other"] jc:=b3
abbrev fL:Stmt:=top 103
theorem eV:Sc ["now","hand","others","other","answer"] ["now","hand"] fL:=sK
theorem bd_ask_unmatched:Bd "ask_unmatched" "ask_unmatched" ["now","hand"] fL:=b2
abbrev gY:Stmt:=top 104
theorem lR:Sc ["house","quarters","quarter"] ["house"] gY:=sK
theorem bd_ask_pending:Bd "ask_pending" "ask_pending" ["house"] gY:=b1
abbrev oZ:Stmt:=top 105
theorem sc_ask_sums:Sc ["house"] ["house"] oZ:=sK
theorem bd_ask_sums:Bd "ask_sums" "ask_sums" ["house"] oZ:=b1
abbrev mX:Stmt:=top 106
theorem sc_ask_split:Sc ["whole","weights"] ["whole","weights"] mX:=sK
theorem bd_ask_split:Bd "ask_split" "ask_split" ["whole","weights"] mX:=b2
abbrev s_begin:Stmt:=top 108
theorem sc_begin:Sc ["house","rules"] ["house","rules"] s_begin:=sK
theorem bd_begin:Bd "begin" "begin" ["house","rules"] s_begin:=b2
abbrev o7:Stmt:=top 109
theorem sc_add_hand:Sc ["house"] ["house"] o7:=sK
theorem bd_add_hand:Bd "add_hand" "add_hand" ["house"] o7:=b1
abbrev fX:Stmt:=top 110
theorem sc_is_beyond_rules:Sc ["house","price"] ["house","price"] fX:=sK
theorem bd_is_beyond_rules:Bd "is_beyond_rules" "is_beyond_rules" ["house","price"] fX:=b2
abbrev s_tell:Stmt:=top 111
theorem sc_tell:Sc ["house","quarter","key","number","is_one_more"] ["house","quarter","key","number"] s_tell:=sK
theorem bd_tell:Bd "tell" "tell" ["house","quarter","key","number"] s_tell:=b4
abbrev jd:Stmt:=top 112
theorem sc_tell_of_hand:Sc ["house","hand","quarter","key","number"] ["house","hand","quarter","key","number"] jd:=sK
theorem bd_tell_of_hand:Bd "tell_of_hand" "tell_of_hand" ["house","hand","quarter","key","number"] jd:=b5
abbrev lq:Stmt:=top 113
theorem sc_tell_ahead:Sc ["house","quarter","price"] ["house","quarter","price"] lq:=sK
theorem bd_tell_ahead:Bd "tell_ahead" "tell_ahead" ["house","quarter","price"] lq:=b3
abbrev s_nominate:Stmt:=top 114
theorem sc_nominate:Sc ["house","hand","to","quarter","amount"] ["house","hand","to","quarter","amount"] s_nominate:=sK
theorem bd_nominate:Bd "nominate" "nominate" ["house","hand","to","quarter","amount"] s_nominate:=b5
abbrev jH:Stmt:=top 115
theorem sc_add_reserve:Sc ["house","call"] ["house","call"] jH:=sK
theorem bd_add_reserve:Bd "add_reserve" "add_reserve" ["house","call"] jH:=b2
abbrev je:Stmt:=top 116
theorem sc_drop_reserve:Sc ["house","number"] ["house","number"] je:=sK
theorem bd_drop_reserve:Bd "drop_reserve" "drop_reserve" ["house","number"] je:=b2
abbrev s_settle:Stmt:=top 117
theorem sc_settle:Sc ["house","quarter","before","owed"] ["house","quarter"] s_settle:=sK
theorem bd_settle:Bd "settle" "settle" ["house","quarter"] s_settle:=b2
abbrev s_lock:Stmt:=top 118
theorem sc_lock:Sc ["house","quarter"] ["house","quarter"] s_lock:=sK
theorem bd_lock:Bd "lock" "lock" ["house","quarter"] s_lock:=b2
abbrev ou:Stmt:=top 120
theorem iy:Sc ["calls","house","answered","place","end","answer"] ["calls"] ou:=sK
theorem bd_answers:Bd "answers" "answers" ["calls"] ou:=b1
abbrev jJ:Stmt:=top 121
theorem sc_end_of_call:Sc ["calls","place","end"] ["calls","place"] jJ:=sK
theorem bd_end_of_call:Bd "end_of_call" "end_of_call" ["calls","place"] jJ:=b2
abbrev mY:Stmt:=top 122
theorem sc_answer_of:Sc ["house","number","given"] ["house","number","given"] mY:=sK
theorem bd_answer_of:Bd "answer_of" "answer_of" ["house","number","given"] mY:=b3
abbrev iU:Stmt:=top 123
theorem fO:Sc ["number","given","kinds","kind","argument"] ["number","given"] iU:=sK
theorem bd_all_within:Bd "all_within" "all_within" ["number","given"] iU:=b2
abbrev mZ:Stmt:=top 124
theorem sc_is_within:Sc ["bounds","number"] ["bounds","number"] mZ:=sK
theorem bd_is_within:Bd "is_within" "is_within" ["bounds","number"] mZ:=b2
abbrev gF:Stmt:=top 125
theorem sc_answer_telling:Sc ["house","number","given"] ["house","number","given"] gF:=sK
theorem bd_answer_telling:Bd "answer_telling" "answer_telling" ["house","number","given"] gF:=b3
abbrev s_hand_key:Stmt:=top 126
theorem sc_hand_key:Sc ["number","hand"] ["number","hand"] s_hand_key:=sK
theorem bd_hand_key:Bd "hand_key" "hand_key" ["number","hand"] s_hand_key:=b2
abbrev gG:Stmt:=top 127
theorem sc_answer_booking:Sc ["house","number","given"] ["house","number","given"] gG:=sK
theorem bd_answer_booking:Bd "answer_booking" "answer_booking" ["house","number","given"] gG:=b3
abbrev iu:Stmt:=top 128
theorem sc_answer_asking:Sc ["house","number","given"] ["house","number","given"] iu:=sK
theorem bd_answer_asking:Bd "answer_asking" "answer_asking" ["house","number","given"] iu:=b3
abbrev gH:Stmt:=top 129
theorem m7:Sc ["house","number","hand","quarter","now"] ["house","number","hand","quarter"] gH:=sK
theorem bd_answer_of_hand:Bd "answer_of_hand" "answer_of_hand" ["house","number","hand","quarter"] gH:=b4
abbrev eG:Stmt:=top 130
theorem jO:Sc ["house","number","quarter","now"] ["house","number","quarter"] eG:=sK
theorem bd_answer_of_quarter:Bd "answer_of_quarter" "answer_of_quarter" ["house","number","quarter"] eG:=b3
structure dz where
 rules:Addr
 res:Addr
 house:Addr
 now:Addr
 prices:Addr
structure Txt(K:PySem.W.Frag)(mg:Str→Option Value)(A:dz):Prop where
 iJ:mg "len"=none
 jK:mg "sum"=none
 b_all:mg "all"=none
 b_any:mg "any"=none
 b_max:mg "max"=none
 b_min:mg "min"=none
 b_list:mg "list"=none
 b_range:mg "range"=none
 b_enumerate:mg "enumerate"=none
 b_zip:mg "zip"=none
 b_sorted:mg "sorted"=none
 cR:Cls K A.rules
 cE:Cls K A.res
 cH:Cls K A.house
 cN:Cls K A.now
 cP:Cls K A.prices
 nR:∀f∈(["means","two_prices","low","high","threshold","add_on"]:List Str),jl K A.rules f
 nE:∀f∈(["quarter","hand","up","much","price"]:List Str),jl K A.res f
 nH:∀f∈(["rules","hands","entries","reserves","reserves_told","booked","locked"]:List Str),jl K A.house f
 nN:∀f∈(["rules","hands","entries","calls","hands_told"]:List Str),jl K A.now f
 nP:∀f∈(["direction","price","short_price","long_price"]:List Str),jl K A.prices f
def lC(kind p w:Nat):List Key:=match kind with
 |0=>[.inr "market",.inl (p:Nat),.inl 0]
 |1=>[.inr "metered",.inl (p:Nat),.inl 0]
 |2=>[.inr "weight",.inl (p:Nat),.inl 0]
 |3=>[.inr "ahead",.inl 0,.inl 0]
 |_=>[.inr "nominated",.inl (p:Nat),.inl (w:Nat)]
abbrev gT:=Nat→Nat→Nat→Int
structure j6(n:Nat)(g:gT)(ents:List (List Key×Int)):Prop where
 nd:(ents.map (·.1)).Nodup
 key:∀e∈ents,∃kind p w,QM.Valid n kind p w∧e.1=lC kind p w∧e.2=g kind p w∧e.2≠0
 all:∀kind p w,QM.Valid n kind p w→g kind p w≠0→(lC kind p w,g kind p w)∈ents
 off:∀p,g 4 p p=0
 few:ents.length≤96
abbrev entV(ents:List (List Key×Int)):List (List Key×V):=ents.map fun e=>(e.1,V.int e.2)
theorem lk_of{ents:List (List Key×Int)}{k:List Key}:(∀e∈ents,e.1≠k)→cW (entV ents) k=none:=by
 induction ents with
 |nil=>intro _;rfl
 |cons a l ih=>
  intro h
  show cW ((a.1,V.int a.2)::entV l) k=none
  rw[iM (h a List.mem_cons_self)]
  exact ih fun e he=>h e (List.mem_cons_of_mem _ he)
theorem lk_in{ents:List (List Key×Int)}{k:List Key}{z:Int}:(ents.map (·.1)).Nodup→(k,z)∈ents→cW (entV ents) k=some (.int z):=by
 induction ents with
 |nil=>intro _ h;cases h
 |cons a l ih=>
  intro nd h
  obtain⟨n1,n2⟩:=List.nodup_cons.mp (show(a.1::l.map (·.1)).Nodup from nd)
  show cW ((a.1,V.int a.2)::entV l) k=_
  rcases List.mem_cons.mp h with e|h
  ·subst e
   rw[nO rfl]
  ·rw[iM,ih n2 h]
   intro e
   exact n1 (List.mem_map.mpr ⟨(k,z),h,e.symm⟩)
theorem kOf_inj{n kind p w kind' p' w':Nat}(v:QM.Valid n kind p w)(v':QM.Valid n kind' p' w')(h:lC kind p w=lC kind' p' w'):kind=kind'∧p=p'∧w=w':=by
 unfold QM.Valid at v v'
 have hk:kind≤4:=by omega
 have hk':kind'≤4:=by omega
 rcases kind with _|_|_|_|_|kind <;> rcases kind' with _|_|_|_|_|kind' <;> (try omega) <;> simp[lC]at h <;> first|omega|exact absurd h.1 (by decide)|exact absurd h (by decide)|(exfalso;revert h;decide)
theorem j6.get{n:Nat}{g:gT}{ents:List (List Key×Int)}(E:j6 n g ents){kind p w:Nat}(v:QM.Valid n kind p w):((cW (entV ents) (lC kind p w)).getD (.int 0))=.int (g kind p w):=by
 by_cases h:g kind p w=0
 ·rw[lk_of,h]
  ·rfl
  ·intro e he q
   obtain⟨kind',p',w',v',e1,e2,e3⟩:=E.key e he
   rw[e1]at q
   obtain⟨rfl,rfl,rfl⟩:=kOf_inj v' v q
   rw[e2]at e3
   exact e3 h
 ·rw[lk_in E.nd (E.all kind p w v h)]
  rfl
theorem j6.getOff{n:Nat}{g:gT}{ents:List (List Key×Int)}(E:j6 n g ents){p:Nat}(hp:1≤p∧p≤n):((cW (entV ents) (lC 4 p p)).getD (.int 0))=.int 0:=by
 rw[lk_of]
 ·rfl
 ·intro e he q
  obtain⟨kind',p',w',v',e1,e2,e3⟩:=E.key e he
  rw[e1]at q
  unfold QM.Valid at v'
  rcases kind' with _|_|_|_|_|kind' <;> (try omega) <;> simp[lC]at q <;> first|omega|exact absurd q.1 (by decide)|exact absurd q (by decide)|(exfalso;revert q;decide)
def fl(b:Bool):Int:=if b=true then 1 else 0
def rulesF(r:Vbemaj.Rules):List (Str×V):=[("means",.int (fl r.mean)),("two_prices",.int (fl r.dual)),("low",.int r.low),("high",.int r.high),("threshold",.int r.threshold),("add_on",.int r.addon)]
def resF(c:Vbemaj.Called):List (Str×V):=[("quarter",.int (c.q:Nat)),("hand",.int (c.p:Nat)),("up",.int (fl c.up)),("much",.int c.amount),("price",.int c.price)]
def mF(A:dz)(H:Hp)(a:Addr)(r:Vbemaj.Rules):Prop:=∃dx,H a=some (.ins A.rules dx (rulesF r))
def ResAt(A:dz)(H:Hp)(a:Addr)(c:Vbemaj.Called):Prop:=∃dx,H a=some (.ins A.res dx (resF c))
def oM(A:dz)(H:Hp)(as:List Addr)(cs:List Vbemaj.Called):Prop:=Paired (ResAt A H) as cs
def nowF(ra:Addr)(n:Nat)(d l tl:Addr):List (Str×V):=[("rules",.ref ra),("hands",.int (n:Nat)),("entries",.ref d),("calls",.ref l),("hands_told",.ref tl)]
def k1(k:List Key):V:=kV (k.getD 1 (.inl 0))
def toldV(ents:List (List Key×Int))(cs:List Vbemaj.Called):List V:=ents.map (fun e=>k1 e.1)++cs.map fun c=>V.int (c.p:Nat)
structure CsOk(n:Nat)(c:Vbemaj.Called):Prop where
 hand:1≤c.p∧c.p≤n
 amount:1≤c.amount∧c.amount≤1000000000
 price:-1000000≤c.price∧c.price≤1000000
structure NowWf(r:Vbemaj.Rules)(n:Nat)(g:gT)(cs:List Vbemaj.Called):Prop where
 nn:n≤32
 co:∀c∈cs,CsOk n c
 cf:cs.length≤64
 ro:QM.RulesOk r
 wt:∀p,0≤g 2 p 0∧g 2 p 0≤1000000000
structure NowAt(A:dz)(H:Hp)(a:Addr)(r:Vbemaj.Rules)(n:Nat)(g:gT)(cs:List Vbemaj.Called)(dx ra d l tl:Addr)(ents:List (List Key×Int))(as:List Addr):Prop where
 ob:H a=some (.ins A.now dx (nowF ra n d l tl))
 ru:mF A H ra r
 en:H d=some (.dT (entV ents))
 ok:j6 n g ents
 ls:H l=some (.lst (as.map V.ref))
 ca:oM A H as cs
 wf:NowWf r n g cs
 tt:H tl=some (.lst (toldV ents cs))
def Now(A:dz)(H:Hp)(a:Addr)(r:Vbemaj.Rules)(n:Nat)(g:gT)(cs:List Vbemaj.Called):Prop:=∃dx ra d l tl ents as,NowAt A H a r n g cs dx ra d l tl ents as
section
variable{A:dz}{τ:Hp→Prop}{H H':Hp}
theorem mF.ext{a:Addr}{r:Vbemaj.Rules}(x:mF A H a r)(e:Ext τ H H'):mF A H' a r:=let⟨dx,h⟩:=x;⟨dx,e.ins h⟩
theorem ResAt.ext{a:Addr}{c:Vbemaj.Called}(x:ResAt A H a c)(e:Ext τ H H'):ResAt A H' a c:=let⟨dx,h⟩:=x;⟨dx,e.ins h⟩
theorem oM.ext{as:List Addr}{cs:List Vbemaj.Called}(x:oM A H as cs)(e:Ext τ H H'):oM A H' as cs:=Paired.mapP x fun _ _ h=>h.ext e
theorem NowAt.ext{a:Addr}{r:Vbemaj.Rules}{n:Nat}{g:gT}{cs:List Vbemaj.Called}{dx ra d l tl:Addr}{ents:List (List Key×Int)}{as:List Addr}(x:NowAt A H a r n g cs dx ra d l tl ents as)(e:Ext τ H H'):
  NowAt A H' a r n g cs dx ra d l tl ents as:=⟨e.ins x.ob,x.ru.ext e,e.dT x.en,x.ok,e.lst x.ls,x.ca.ext e,x.wf,e.lst x.tt⟩
theorem Now.ext{a:Addr}{r:Vbemaj.Rules}{n:Nat}{g:gT}{cs:List Vbemaj.Called}(x:Now A H a r n g cs)(e:Ext τ H H'):Now A H' a r n g cs:=
 let⟨dx,ra,d,l,tl,ents,as,h⟩:=x;⟨dx,ra,d,l,tl,ents,as,h.ext e⟩
end
def Gives(τ:Hp→Prop)(v:V):Hp→VK→Prop:=fun H Q=>∀H',Ext τ H H'→Q v H'
def ni(τ:Hp→Prop)(xs:List V):Hp→VK→Prop:=fun H Q=>∀H' l,Ext τ H H'→H' l=some (.lst xs)→Q (.ref l) H'
def GivesT(τ:Hp→Prop)(xs:List V):Hp→VK→Prop:=fun H Q=>∀H' l,Ext τ H H'→H' l=some (.tup xs)→Q (.ref l) H'
variable{P:Program}{w:World}{K:PySem.W.Frag}{mg:Str→Option Value}{base:Heap}{A:dz}{τ:Hp→Prop}
def spKey(τ:Hp→Prop)(kind:Nat):Sp:=fun vs H Q _=>∃p:Nat,vs=[.int (p:Nat)]∧GivesT τ ((lC kind p 0).map kV) H Q
theorem ok_market_key(TB:bD τ)(D:aF K mg "market_key" kI):Has P w K mg base 1 "market_key" ["hand"] (spKey τ 0):=by
 refine Has.of D sc_market_key bd_market_key fun _ _ _ _ _ H vs Q E hr h=>?_
 obtain⟨p,rfl,k⟩:=h
 refine⟨_,(au (aD (m9 (aj m8 (aj (pv 0) (aj aH ak)))))),?_⟩
 exact⟨_,rfl,by show 3≤sizeLine;decide,fun t ht=>k _ t (.new TB ht) ao⟩
theorem ok_metered_key(TB:bD τ)(D:aF K mg "metered_key" jB):Has P w K mg base 1 "metered_key" ["hand"] (spKey τ 1):=by
 refine Has.of D sc_metered_key bd_metered_key fun _ _ _ _ _ H vs Q E hr h=>?_
 obtain⟨p,rfl,k⟩:=h
 refine⟨_,(au (aD (m9 (aj m8 (aj (pv 0) (aj aH ak)))))),?_⟩
 exact⟨_,rfl,by show 3≤sizeLine;decide,fun t ht=>k _ t (.new TB ht) ao⟩
theorem ok_weight_key(TB:bD τ)(D:aF K mg "weight_key" kJ):Has P w K mg base 1 "weight_key" ["hand"] (spKey τ 2):=by
 refine Has.of D sc_weight_key bd_weight_key fun _ _ _ _ _ H vs Q E hr h=>?_
 obtain⟨p,rfl,k⟩:=h
 refine⟨_,(au (aD (m9 (aj m8 (aj (pv 0) (aj aH ak)))))),?_⟩
 exact⟨_,rfl,by show 3≤sizeLine;decide,fun t ht=>k _ t (.new TB ht) ao⟩
def spAheadKey(τ:Hp→Prop):Sp:=fun vs H Q _=>vs=[]∧GivesT τ ((lC 3 0 0).map kV) H Q
theorem ok_ahead_key(TB:bD τ)(D:aF K mg "ahead_key" mL):Has P w K mg base 1 "ahead_key" [] (spAheadKey τ):=by
 refine Has.of D sc_ahead_key bd_ahead_key fun _ _ _ _ _ H vs Q E hr h=>?_
 obtain⟨rfl,k⟩:=h
 refine⟨_,(au (aD (m9 (aj m8 (aj aH (aj aH ak)))))),?_⟩
 exact⟨by show 3≤sizeLine;decide,fun t ht=>k _ t (.new TB ht) ao⟩
def spNomKey(τ:Hp→Prop):Sp:=fun vs H Q _=>∃p q:Nat,vs=[.int (p:Nat),.int (q:Nat)]∧GivesT τ ((lC 4 p q).map kV) H Q
theorem ok_nominated_key(TB:bD τ)(D:aF K mg "nominated_key" gZ):Has P w K mg base 1 "nominated_key" ["hand","to"] (spNomKey τ):=by
 refine Has.of D sc_nominated_key bd_nominated_key fun _ _ _ _ _ H vs Q E hr h=>?_
 obtain⟨p,q,rfl,k⟩:=h
 refine⟨_,(au (aD (m9 (aj m8 (aj (pv 0) (aj (pv 1) ak)))))),?_⟩
 exact⟨_,rfl,_,rfl,by show 3≤sizeLine;decide,fun t ht=>k _ t (.new TB ht) ao⟩
def j9(A:dz)(τ:Hp→Prop):Sp:=fun vs H Q _=>∃a t r n g cs kind p q,vs=[.ref a,.ref t]∧Now A H a r n g cs∧H t=some (.tup ((lC kind p q).map kV))∧(QM.Valid n kind p q∨(kind=4∧p=q∧1≤p∧p≤n))∧Gives τ (.int (g kind p q)) H Q
theorem ok_entry(T:Txt K mg A)(D:aF K mg "entry" s_entry):Has P w K mg base 1 "entry" ["now","key"] (j9 A τ):=by
 refine Has.of D sc_entry bd_entry fun _ _ _ _ _ H vs Q E hr h=>?_
 obtain⟨a,t,r,n,g,cs,kind,p,q,rfl,⟨dx,ra,d,l,tl,ents,as,N⟩,ht,hv,k⟩:=h
 have hu:=nM hr
 refine⟨_,(au (aD (pe_dget2 hu (aJ (pv 0) rfl) (pv 1) aH ⟨rfl,rfl,rfl,rfl⟩))),?_⟩
 refine⟨_,rfl,a,A.now,dx,_,_,rfl,N.ob,T.cN,T.nN _ (by decide),rfl,d,rfl,.inr ⟨_,.inl N.en⟩,_,rfl,_,iI.t N.en ht,?_⟩
 have e:((cW (entV ents) (lC kind p q)).getD (.int 0))=.int (g kind p q):=by
  rcases hv with hv|⟨rfl,rfl,h1,h2⟩
  ·exact N.ok.get hv
  ·rw[N.ok.getOff ⟨h1,h2⟩,N.ok.off]
 rw[e]
 exact k H (.refl H)
theorem min2(i j:Int):(if j<i then j else i)=min i j:=by split <;> omega
theorem max2(i j:Int):(if j>i then j else i)=max i j:=by split <;> omega
def InN(n p:Nat):Prop:=1≤p∧p≤n
def oA(A:dz)(τ:Hp→Prop):Sp:=fun vs H Q _=>∃a r n g cs p q,vs=[.ref a,.int (p:Nat),.int (q:Nat)]∧Now A H a r n g cs∧InN n p∧InN n q∧Gives τ (.int (Vbemaj.matched (g 4 p q) (g 4 q p))) H Q
theorem nomValid{n p q:Nat}(hp:InN n p)(hq:InN n q):QM.Valid n 4 p q∨(4=4∧p=q∧1≤p∧p≤n):=by
 unfold InN at hp hq
 unfold QM.Valid
 omega
theorem ok_matched(T:Txt K mg A)(D:aF K mg "matched" s_matched)(cu:Has P w K mg base 1 "entry" ["now","key"] (j9 A τ))(bA:Has P w K mg base 1 "nominated_key" ["hand","to"] (spNomKey τ)):
  Has P w K mg base 2 "matched" ["now","hand","other"] (oA A τ):=by
 refine Has.of D sc_matched bd_matched fun _ _ _ _ _ H vs Q E hr h=>?_
 obtain⟨a,r,n,g,cs,p,q,rfl,N,hp,hq,k⟩:=h
 refine⟨_,(aq (bw (i:=3) sc_matched.nd rfl (Or.inl rfl) (aC cu hr (aj (pv 0) (aj (aC bA hr (aj (pv 1) (aj (pv 2) ak))) ak)))) (aq (bw (i:=4) sc_matched.nd rfl (Or.inl rfl) (aC cu hr (aj (pv 0) (aj (aC bA hr (aj (pv 2) (aj (pv 1) ak))) ak)))) (aq (aZ (PW.pt (pw_and (aO op_gt (pv 3) aH (aV _)) (pw_and1 (aO op_lt (pv 4) aH (aV _))))) (au (aD (aU (call_min2 rfl) rfl T.b_min L2.boot_min (aj (pv 3) (aj (nJ jk (pv 4)) ak))))) aM) (aq (aZ (PW.pt (pw_and (aO op_lt (pv 3) aH (aV _)) (pw_and1 (aO op_gt (pv 4) aH (aV _))))) (au (aD (nJ jk (aU (call_min2 rfl) rfl T.b_min L2.boot_min (aj (nJ jk (pv 3)) (aj (pv 4) ak)))))) aM) (au (aD aH)))))),?_⟩
 refine⟨_,rfl,_,rfl,_,rfl,p,q,rfl,fun H1 t1 e1 h1=>?_⟩
 refine⟨a,t1,r,n,g,cs,4,p,q,rfl,N.ext e1,h1,nomValid hp hq,fun H2 e2=>?_⟩
 refine⟨_,rfl,_,rfl,_,rfl,q,p,rfl,fun H3 t3 e3 h3=>?_⟩
 have x3:=(e1.trans e2).trans e3
 refine⟨a,t3,r,n,g,cs,4,q,p,rfl,N.ext x3,h3,nomValid hq hp,fun H4 e4=>?_⟩
 have kk:=fun v (hv:v=V.int (Vbemaj.matched (g 4 p q) (g 4 q p)))=>hv ▸ k H4 (x3.trans e4)
 generalize g 4 p q=x at kk ⊢
 generalize g 4 q p=y at kk ⊢
 unfold Vbemaj.matched at kk
 refine⟨_,rfl,_,_,rfl,rfl,_,rfl,aP (fun c1=>?_) fun c1=>?_⟩
 ·have c1':0<x:=of_decide_eq_true c1
  refine⟨_,rfl,_,_,rfl,rfl,_,rfl,aP (fun c2=>?_) fun c2=>?_⟩
  ·have c2':y<0:=of_decide_eq_true c2
   refine⟨_,rfl,_,rfl,_,rfl,_,_,rfl,kk _ ?_⟩
   rw[min2,if_pos ⟨c1',c2'⟩]
  ·have c2':¬y<0:=fun z=>c2 (decide_eq_true z)
   refine⟨_,rfl,_,_,rfl,rfl,_,rfl,aP (fun c3=>?_) fun c3=>?_⟩
   ·have c3':x<0:=of_decide_eq_true c3
    omega
   ·refine iteF ?_
    refine kk _ ?_
    rw[if_neg (fun z=>c2' z.2),if_neg (fun z=>by have:=z.1;omega)]
 ·have c1':¬0<x:=fun z=>c1 (decide_eq_true z)
  refine iteF ?_
  refine⟨_,rfl,_,_,rfl,rfl,_,rfl,aP (fun c3=>?_) fun c3=>?_⟩
  ·have c3':x<0:=of_decide_eq_true c3
   refine⟨_,rfl,_,_,rfl,rfl,_,rfl,aP (fun c4=>?_) fun c4=>?_⟩
   ·have c4':0<y:=of_decide_eq_true c4
    refine⟨_,rfl,_,rfl,_,rfl,_,_,rfl,_,rfl,kk _ ?_⟩
    rw[min2,if_neg (fun z=>c1' z.1),if_pos ⟨c3',c4'⟩]
   ·have c4':¬0<y:=fun z=>c4 (decide_eq_true z)
    refine kk _ ?_
    rw[if_neg (fun z=>c1' z.1),if_neg (fun z=>c4' z.2)]
  ·have c3':¬x<0:=fun z=>c3 (decide_eq_true z)
   refine iteF ?_
   refine kk _ ?_
   rw[if_neg (fun z=>c1' z.1),if_neg (fun z=>c3' z.1)]
theorem bN{α β:Type}(f:α→Option β):∀(l:List α),(List.range l.length).filterMap (fun i=>(l[i]?).bind f)=l.filterMap f
 |[]=>rfl
 |a::l=>by
  rw[List.length_cons,List.range_succ_eq_map,List.filterMap_cons,List.filterMap_map]
  have ih:=bN f l
  have e:((fun i=>((a::l)[i]?).bind f)∘Nat.succ)=fun i=>(l[i]?).bind f:=rfl
  rw[e,ih]
  show(match (some a).bind f with|none=>_|some b=>_)=_
  rw[List.filterMap_cons]
  rfl
def j7(p:Nat)(e:List Key×Int):Option Nat:=match e.1 with
 |[.inr x,.inl i,.inl j]=>if x="nominated"∧i=(p:Int)then some j.toNat else none
 |_=>none
theorem nomOf_k{n kind p0 w0 p:Nat}{z:Int}(v:QM.Valid n kind p0 w0):j7 p (lC kind p0 w0,z)=if kind=4∧p0=p then some w0 else none:=by
 unfold QM.Valid at v
 rcases kind with _|_|_|_|_|kind
 ·simp[j7,lC];intro h;exact absurd h (by decide)
 ·simp[j7,lC];intro h;exact absurd h (by decide)
 ·simp[j7,lC];intro h;exact absurd h (by decide)
 ·simp[j7,lC];intro h;exact absurd h (by decide)
 ·simp[j7,lC];congr 1;exact propext ⟨fun h=>by omega,fun h=>by omega⟩
 ·omega
section
variable{n:Nat}{g:gT}{ents:List (List Key×Int)}{p:Nat}
theorem nom_in(E:j6 n g ents){w:Nat}(h:w∈ents.filterMap (j7 p)):InN n w∧w≠p:=by
 obtain⟨e,he,q⟩:=List.mem_filterMap.mp h
 obtain⟨kind,p0,w0,v,e1,e2,e3⟩:=E.key e he
 obtain⟨k,z⟩:=e
 have e1:k=lC kind p0 w0:=e1
 subst e1
 rw[nomOf_k v]at q
 unfold QM.Valid at v
 unfold InN
 by_cases c:kind=4∧p0=p
 ·rw[if_pos c]at q
  cases q
  omega
 ·rw[if_neg c]at q
  cases q
theorem nom_out(E:j6 n g ents)(hp:InN n p){w:Nat}(hw:InN n w)(h:w∉ents.filterMap (j7 p)):g 4 p w=0:=by
 unfold InN at hp hw
 by_cases e:p=w
 ·subst e;exact E.off p
 ·by_cases z:g 4 p w=0
  ·exact z
  ·have v:QM.Valid n 4 p w:=by unfold QM.Valid;omega
   refine absurd (List.mem_filterMap.mpr ⟨_,E.all 4 p w v z,?_⟩) h
   rw[nomOf_k v,if_pos ⟨rfl,rfl⟩]
theorem nom_nd(E:j6 n g ents):(ents.filterMap (j7 p)).Nodup:=by
 have h:ents.Pairwise fun a b=>a∈ents∧b∈ents∧a.1≠b.1:=by
  have q:ents.Pairwise fun a b=>a.1≠b.1:=List.pairwise_map.mp E.nd
  exact List.Pairwise.imp_of_mem (fun ha hb r=>⟨ha,hb,r⟩) q
 refine List.Pairwise.filterMap (j7 p) (fun a b r w hw w' hw'=>?_) h
 obtain⟨ha,hb,ne⟩:=r
 obtain⟨k1,p1,w1,v1,e1,_,_⟩:=E.key a ha
 obtain⟨k2,p2,w2,v2,e2,_,_⟩:=E.key b hb
 obtain⟨ka,za⟩:=a
 obtain⟨kb,zb⟩:=b
 have e1:ka=lC k1 p1 w1:=e1
 have e2:kb=lC k2 p2 w2:=e2
 subst e1 e2
 have hw:j7 p (lC k1 p1 w1,za)=some w:=hw
 have hw':j7 p (lC k2 p2 w2,zb)=some w':=hw'
 rw[nomOf_k v1]at hw
 rw[nomOf_k v2]at hw'
 by_cases c1:k1=4∧p1=p
 ·by_cases c2:k2=4∧p2=p
  ·rw[if_pos c1]at hw
   rw[if_pos c2]at hw'
   cases hw
   cases hw'
   intro e
   subst e
   exact ne (by rw[c1.1,c1.2,c2.1,c2.2])
  ·rw[if_neg c2]at hw';cases hw'
 ·rw[if_neg c1]at hw;cases hw
end
def vInt(k:Nat):V:=.int (k:Nat)
def spNomTo(A:dz)(τ:Hp→Prop):Sp:=fun vs H Q _=>∃a r n g cs p,vs=[.ref a,.int (p:Nat)]∧Now A H a r n g cs∧InN n p∧
 ∀ws:List Nat,ws.Nodup→(∀w∈ws,InN n w∧w≠p)→(∀w,InN n w→w∉ws→g 4 p w=0)→ni τ (ws.map vInt) H Q
theorem ok_nominated_to(TB:bD τ)(T:Txt K mg A)(D:aF K mg "nominated_to" fZ):Has P w K mg base 1 "nominated_to" ["now","hand"] (spNomTo A τ):=by
 refine Has.of D jX bd_nominated_to fun _ _ _ _ _ H vs Q E hr h=>?_
 obtain⟨a,r,n,g,cs,p,rfl,⟨dx,ra,d,l,tl,ents,as,N⟩,hp,k⟩:=h
 refine⟨_,(au (aD (pe_lock (fG (own:=[("key",2)]) rfl jX.nd (pi_keys (aJ (pv 0) rfl)) (show cV ["now","hand","key"] (aG fZ) _ _ from⟨rfl,by decide +kernel,by decide +kernel,by decide +kernel,by decide +kernel⟩) (fun _ _ _ _ _=>(aX (i:=2) jX.nd rfl (Or.inl rfl))) (fun _ _ _ _ _=>(f9 (PW.pt (pw_and (aO bT (bU (ix_tupK (K:=K) rfl) (pv 2) aH (fun _ _=>rfl)) m8 (aV _)) (pw_and1 (aO bT (bU (ix_tupK (K:=K) rfl) (pv 2) aH (fun _ _=>rfl)) (pv 1) (aV _))))))) (fun _ _ _ _ _=>(bU (ix_tupK (K:=K) rfl) (pv 2) aH (fun _ _=>rfl))))))),?_⟩
 refine⟨d,_,N.en,True.intro,fun od=>?_⟩
 have nad:a≠d:=bI N.ob N.en (fun z=>nomatch z)
 refine⟨_,rfl,a,A.now,dx,_,_,rfl,by rw[aB nad];exact N.ob,T.cN,T.nN _ (by decide),rfl,d,od,rfl,.inr ⟨_,ao,?_⟩⟩
 have few:(entV ents).length<sizeLine:=by
  have:=N.ok.few
  rw[List.length_map,sizeLine_eq]
  omega
 refine lc_keysT TB ao few (fun i=>(ents[i]?).bind fun e=>(j7 p e).map vInt) (fun i ky v q hi H' e hq R Nn h1 h2=>?_) fun D H' e hD hL=>?_
 ·rw[List.getElem?_map]at hi
  obtain⟨en,hen,he⟩:=Option.map_eq_some_iff.mp hi
  cases he
  obtain⟨kind,p0,w0,v0,e1,e2,e3⟩:=N.ok.key en (List.mem_of_getElem? hen)
  obtain⟨k0,z0⟩:=en
  have e1:k0=lC kind p0 w0:=e1
  subst e1
  have ho:((ents[i]?).bind fun e=>(j7 p e).map vInt)=(if kind=4∧p0=p then some w0 else none).map vInt:=by rw[hen,←nomOf_k (z:=z0) v0];rfl
  obtain⟨nm,b,c,hk,hnm,hb,hc⟩:∃(nm:Str) (b c:Int),(lC kind p0 w0).map kV=[.str nm,.int b,.int c]∧(nm="nominated"↔kind=4)∧(kind=4→b=p0)∧(kind=4→c=w0):=by
   unfold QM.Valid at v0
   rcases kind with _|_|_|_|_|kind
   ·exact⟨_,_,_,rfl,by decide,by omega,by omega⟩
   ·exact⟨_,_,_,rfl,by decide,by omega,by omega⟩
   ·exact⟨_,_,_,rfl,by decide,by omega,by omega⟩
   ·exact⟨_,_,_,rfl,by decide,by omega,by omega⟩
   ·exact⟨_,_,_,rfl,by decide,fun _=>rfl,fun _=>rfl⟩
   ·omega
  rw[hk]at hq
  refine⟨rfl,⟨_,rfl,q,_,0,_,rfl,rfl,jh.of hq,rfl,rfl,_,rfl,aP (fun c1=>?_) fun c1=>?_⟩⟩
  ·have c1':kind=4:=hnm.mp (by simpa using of_decide_eq_true c1)
   refine⟨_,rfl,q,_,1,_,rfl,rfl,jh.of hq,rfl,_,rfl,rfl,_,rfl,aP (fun c2=>?_) fun c2=>?_⟩
   ·have c2':b=p:=by simpa using of_decide_eq_true c2
    have c3:p0=p:=by have:=hb c1';omega
    refine⟨_,rfl,q,_,2,_,rfl,rfl,jh.of hq,rfl,h1 _ _ ?_ (.refl _)⟩
    rw[ho,if_pos ⟨c1',c3⟩,hc c1']
    rfl
   ·have c2':¬b=p:=fun z=>c2 (decide_eq_true (by rw[z]))
    refine h2 _ ?_ (.refl _)
    rw[ho,if_neg (fun z=>c2' (by have:=hb z.1;omega))]
    rfl
  ·have c1':¬kind=4:=fun z=>c1 (decide_eq_true (by rw[hnm.mpr z]))
   refine iteF (h2 _ ?_ (.refl _))
   rw[ho,if_neg (fun z=>c1' z.1)]
   rfl
 ·obtain⟨u1,u2⟩:=Ext.unlock (u:=.dT (entV ents)) TB True.intro (fun _ z=>nomatch z) N.en e
  refine⟨u1,k (ents.filterMap (j7 p)) (nom_nd N.ok) (fun w hw=>nom_in N.ok hw) (fun w hw hn=>nom_out N.ok hp hw hn) _ D u2 ?_⟩
  have nDd:D≠d:=fun z=>by rw[z,ao]at hD;cases hD
  rw[aB nDd,hL]
  have el:(entV ents).length=ents.length:=by rw[List.length_map]
  rw[el,bN (fun e=>(j7 p e).map vInt),List.map_filterMap]
theorem filt_true{α:Type}(l:List α):l.filter (fun _=>true)=l:=List.filter_eq_self.mpr fun _ _=>rfl
theorem hands_mem{n w:Nat}:w∈(List.range n).map (fun i=>i+1)↔InN n w:=by
 unfold InN
 rw[List.mem_map]
 constructor
 ·rintro⟨i,hi,rfl⟩
  have:=List.mem_range.mp hi
  omega
 ·intro h
  exact⟨w - 1,List.mem_range.mpr (by omega),by omega⟩
theorem hands_nd(n:Nat):((List.range n).map (fun i=>i+1)).Nodup:=by
 rw[List.nodup_iff_pairwise_ne,List.pairwise_map]
 exact List.Pairwise.imp (fun h e=>h (by omega)) (List.nodup_iff_pairwise_ne.mp List.nodup_range)
def mSum(n:Nat)(g:gT)(p:Nat):Int:=(((List.range n).map fun i=>i+1).map fun w=>Vbemaj.matched (g 4 p w) (g 4 w p)).sum
theorem mSum_eq{n:Nat}{g:gT}{p:Nat}{ws:List Nat}(nd:ws.Nodup)(h1:∀w∈ws,InN n w∧w≠p)(h2:∀w,InN n w→w∉ws→g 4 p w=0):(ws.map fun w=>Vbemaj.matched (g 4 p w) (g 4 w p)).sum=mSum n g p:=
 QM.sum_some (hands_nd n) nd (fun w hw=>hands_mem.mpr (h1 w hw).1) fun w hw hn=>by rw[h2 w (hands_mem.mp hw) hn,QM.matched_zero]
def spMSum(A:dz)(τ:Hp→Prop):Sp:=fun vs H Q _=>∃a r n g cs p,vs=[.ref a,.int (p:Nat)]∧Now A H a r n g cs∧InN n p∧Gives τ (.int (mSum n g p)) H Q
theorem sub_len:∀{m l:List Nat},m.Nodup→(∀x∈m,x∈l)→m.length≤l.length
 |[],l,_,_=>Nat.zero_le _
 |a::m,l,nd,h=>by
  obtain⟨n1,n2⟩:=List.nodup_cons.mp nd
  have ih:=sub_len (m:=m) (l:=l.erase a) n2 fun x hx=>(List.mem_erase_of_ne (fun(e:x=a)=>n1 (by rw[←e];exact hx))).mpr (h x (List.mem_cons_of_mem _ hx))
  have ha:=h a List.mem_cons_self
  rw[List.length_erase_of_mem ha]at ih
  have:0<l.length:=List.length_pos_of_mem ha
  rw[List.length_cons]
  omega
theorem nd_len{n:Nat}:∀{ws:List Nat},ws.Nodup→(∀w∈ws,InN n w)→ws.length≤n:=by
 intro ws nd h
 have:=sub_len nd fun w hw=>hands_mem.mpr (h w hw)
 simpa using this
theorem ok_matched_sum(TB:bD τ)(T:Txt K mg A)(D:aF K mg "matched_sum" gU)(dM:Has P w K mg base 2 "matched" ["now","hand","other"] (oA A τ))(eN:Has P w K mg base 1 "nominated_to" ["now","hand"] (spNomTo A τ)):
  Has P w K mg base 3 "matched_sum" ["now","hand"] (spMSum A τ):=by
 refine Has.of D lO bd_matched_sum fun _ _ _ _ _ H vs Q E hr h=>?_
 obtain⟨a,r,n,g,cs,p,rfl,N,hp,k⟩:=h
 refine⟨_,(au (aD (aU (cC rfl) rfl T.jK L2.boot_sum (aj (fG (own:=[("other",2)]) rfl lO.nd (bY (aC eN hr (aj (pv 0) (aj (pv 1) ak)))) (show cV ["now","hand","other"] (aG gU) _ _ from⟨rfl,by decide +kernel,by decide +kernel,by decide +kernel,by decide +kernel⟩) (fun _ _ _ _ _=>(aX (i:=2) lO.nd rfl (Or.inl rfl))) (fun _ _ _ _ _=>dD) (fun _ _ _ _ _=>(aC dM hr (aj (pv 0) (aj (pv 1) (aj (pv 2) ak)))))) ak)))),?_⟩
 refine⟨_,rfl,_,rfl,a,r,n,g,cs,p,rfl,N,hp,fun ws nd w1 w2 H1 l e1 hl=>?_⟩
 have hnn:n≤32:=by obtain⟨_,_,_,_,_,_,_,N'⟩:=N;exact N'.wf.nn
 have hwl:ws.length≤n:=nd_len nd fun w hw=>(w1 w hw).1
 refine⟨l,rfl,⟨_,bh.of hl⟩,lc_pure TB (bh.of hl) (by rw[List.length_map,sizeLine_eq];omega) (fun _=>true) (fun v=>match v with|.int i=>.int (Vbemaj.matched (g 4 p i.toNat) (g 4 i.toNat p))|x=>x) (fun i x hx H' e R Nn h1 h2=>?_) fun D H' e hD hL=>?_⟩
 ·rw[List.getElem?_map]at hx
  obtain⟨w0,hw0,rfl⟩:=Option.map_eq_some_iff.mp hx
  have hw:=w1 w0 (List.mem_of_getElem? hw0)
  refine⟨rfl,_,rfl,_,rfl,_,rfl,a,r,n,g,cs,p,w0,rfl,N.ext (e1.trans e),hp,hw.1,fun H2 e2=>?_⟩
  have:=h1 H2 e2 rfl
  simpa[vInt]using this
 ·refine⟨D,ws.map fun w=>Vbemaj.matched (g 4 p w) (g 4 w p),rfl,bh.of ?_,?_⟩
  ·rw[hL,filt_true,List.map_map,List.map_map]
   rfl
  ·rw[mSum_eq nd w1 w2]
   exact k H' (e1.trans e)
def pos(n:Nat)(g:gT)(p:Nat):Int:=g 0 p 0+mSum n g p
theorem val0{n kind p:Nat}(hp:InN n p)(hk:kind≤2):QM.Valid n kind p 0:=.inl ⟨hk,hp.1,hp.2,rfl⟩
def spPos(A:dz)(τ:Hp→Prop):Sp:=fun vs H Q _=>∃a r n g cs p,vs=[.ref a,.int (p:Nat)]∧Now A H a r n g cs∧InN n p∧Gives τ (.int (pos n g p)) H Q
theorem ok_position(T:Txt K mg A)(D:aF K mg "position" oX)(cu:Has P w K mg base 1 "entry" ["now","key"] (j9 A τ))(dG:Has P w K mg base 1 "market_key" ["hand"] (spKey τ 0))(fP:Has P w K mg base 3 "matched_sum" ["now","hand"] (spMSum A τ)):
  Has P w K mg base 4 "position" ["now","hand"] (spPos A τ):=by
 refine Has.of D sc_position bd_position fun _ _ _ _ _ H vs Q E hr h=>?_
 obtain⟨a,r,n,g,cs,p,rfl,N,hp,k⟩:=h
 refine⟨_,(au (aD (bR jT (aC cu hr (aj (pv 0) (aj (aC dG hr (aj (pv 1) ak)) ak))) (aC fP hr (aj (pv 0) (aj (pv 1) ak)))))),?_⟩
 refine⟨_,rfl,_,rfl,p,rfl,fun H1 t1 e1 h1=>?_⟩
 refine⟨a,t1,r,n,g,cs,0,p,0,rfl,N.ext e1,h1,.inl (val0 hp (by decide)),fun H2 e2=>?_⟩
 refine⟨_,rfl,_,rfl,a,r,n,g,cs,p,rfl,N.ext (e1.trans e2),hp,fun H3 e3=>?_⟩
 exact⟨_,_,rfl,rfl,k H3 ((e1.trans e2).trans e3)⟩
theorem dU{α β:Type}{F:α→β→Prop}:∀{l₁:List α}{l₂:List β},Paired F l₁ l₂→∀{i:Nat}{a:α},l₁[i]?=some a→∃b,l₂[i]?=some b∧F a b
 |_,_,.nil,i,a,h=>by simp at h
 |_,_,.cons r t,0,a,h=>by
  have e:=Option.some.inj h
  subst e
  exact⟨_,rfl,r⟩
 |_,_,.cons r t,i+1,a,h=>by
  obtain⟨b,h1,h2⟩:=dU t (i:=i) (a:=a) (by simpa using h)
  exact⟨b,by simpa using h1,h2⟩
def sel(q:Vbemaj.Called→Bool):List Addr→List Vbemaj.Called→List Addr
 |a::as,c::cs=>if q c=true then a::sel q as cs else sel q as cs
 |_,_=>[]
theorem sel_ok{A:dz}{H:Hp}(q:Vbemaj.Called→Bool):∀{as:List Addr}{cs:List Vbemaj.Called},oM A H as cs→oM A H (sel q as cs) (cs.filter q)
 |_,_,.nil=>.nil
 |_,_,.cons (a:=a) (b:=c) r t=>by
  unfold sel
  rw[List.filter_cons]
  by_cases h:q c=true
  ·rw[if_pos h,if_pos h];exact .cons r (sel_ok q t)
  ·rw[if_neg h,if_neg h];exact sel_ok q t
theorem oE(q:Vbemaj.Called→Bool){F:Addr→Vbemaj.Called→Prop}:∀{as:List Addr}{cs:List Vbemaj.Called},Paired F as cs→(List.range as.length).filterMap (fun i=>(cs[i]?).bind fun c=>if q c=true then(as[i]?).map V.ref else none)=(sel q as cs).map V.ref
 |_,_,.nil=>rfl
 |_,_,.cons (l₁:=as) (l₂:=cs) (a:=a) (b:=c) r t=>by
  have ih:=oE q t
  rw[List.length_cons,List.range_succ_eq_map,List.filterMap_cons,List.filterMap_map]
  have e:((fun i=>(((c::cs):List Vbemaj.Called)[i]?).bind fun d=>if q d=true then(((a::as):List Addr)[i]?).map V.ref else none)∘Nat.succ)=fun i=>(cs[i]?).bind fun d=>if q d=true then(as[i]?).map V.ref else none:=rfl
  rw[e,ih]
  show _=List.map V.ref (if q c=true then a::sel q as cs else sel q as cs)
  by_cases h:q c=true
  ·simp[h]
  ·simp[h]
def nj(A:dz)(H:Hp)(l:Addr)(cs:List Vbemaj.Called):Prop:=∃as,H l=some (.lst (as.map V.ref))∧oM A H as cs∧cs.length≤64
theorem nj.ext{A:dz}{τ:Hp→Prop}{H H':Hp}{l:Addr}{cs:List Vbemaj.Called}(x:nj A H l cs)(e:Ext τ H H'):nj A H' l cs:=let⟨as,h1,h2,h3⟩:=x;⟨as,e.lst h1,h2.ext e,h3⟩
theorem NowAt.calls{A:dz}{H:Hp}{a:Addr}{r:Vbemaj.Rules}{n:Nat}{g:gT}{cs:List Vbemaj.Called}{dx ra d l tl:Addr}{ents:List (List Key×Int)}{as:List Addr}(N:NowAt A H a r n g cs dx ra d l tl ents as):nj A H l cs:=⟨as,N.ls,N.ca,N.wf.cf⟩
def GivesC(A:dz)(τ:Hp→Prop)(cs:List Vbemaj.Called):Hp→VK→Prop:=fun H Q=>∀H' l,Ext τ H H'→nj A H' l cs→Q (.ref l) H'
def spOwn(A:dz)(τ:Hp→Prop):Sp:=fun vs H Q _=>∃a r n g cs p,vs=[.ref a,.int (p:Nat)]∧Now A H a r n g cs∧GivesC A τ (cs.filter fun c=>c.p==p) H Q
theorem ok_own_calls(TB:bD τ)(T:Txt K mg A)(D:aF K mg "own_calls" jM):Has P w K mg base 1 "own_calls" ["now","hand"] (spOwn A τ):=by
 refine Has.of D sc_own_calls bd_own_calls fun _ _ _ _ _ H vs Q E hr h=>?_
 obtain⟨a,r,n,g,cs,p,rfl,⟨dx,ra,d,l,tl,ents,as,N⟩,k⟩:=h
 refine⟨_,(au (aD (fG (own:=[("call",2)]) rfl sc_own_calls.nd (bY (aJ (pv 0) rfl)) (show cV ["now","hand","call"] (aG jM) _ _ from⟨rfl,by decide +kernel,by decide +kernel,by decide +kernel,by decide +kernel⟩) (fun _ _ _ _ _=>(aX (i:=2) sc_own_calls.nd rfl (Or.inl rfl))) (fun _ _ _ _ _=>(f9 (aO bT (dg (K:=K) rfl (pv 2) rfl) (pv 1) (aV _)))) (fun _ _ _ _ _=>(pv 2))))),?_⟩
 refine⟨_,rfl,a,A.now,dx,_,_,rfl,N.ob,T.cN,T.nN _ (by decide),rfl,l,rfl,⟨_,bh.of N.ls⟩,?_⟩
 have hlen:as.length=cs.length:=Paired.length N.ca
 refine dJ TB (bh.of N.ls) (by have:=N.wf.cf;rw[List.length_map,sizeLine_eq];omega) (fun i=>(cs[i]?).bind fun c=>if (c.p==p)=true then(as[i]?).map V.ref else none) (fun i x hx H' e R Nn h1 h2=>?_) fun D H' e hD hL=>?_
 ·rw[List.getElem?_map]at hx
  obtain⟨ai,hai,rfl⟩:=Option.map_eq_some_iff.mp hx
  obtain⟨c,hc,dr,hr'⟩:=dU N.ca hai
  rw[hc,hai]at h1 h2
  refine⟨rfl,_,rfl,ai,A.res,dr,_,_,rfl,e.ins hr',T.cE,T.nE _ (by decide),rfl,_,rfl,rfl,_,rfl,aP (fun c1=>?_) fun c1=>?_⟩
  ·have c1':((c.p:Nat):Int)=p:=by simpa using of_decide_eq_true c1
   refine⟨_,rfl,h1 _ _ ?_ (.refl _)⟩
   show(if (c.p==p)=true then some (V.ref ai)else none)=_
   rw[if_pos (by simp;omega)]
  ·refine h2 _ ?_ (.refl _)
   show(if (c.p==p)=true then some (V.ref ai)else none)=_
   rw[if_neg]
   intro z
   have z':c.p=p:=by simpa using z
   exact c1 (decide_eq_true (by rw[z']))
 ·rw[List.length_map,oE (fun c=>c.p==p) N.ca]at hL
  exact k H' D e ⟨_,hL,(sel_ok _ N.ca).ext e,Nat.le_trans (List.length_filter_le _ _) N.wf.cf⟩
def spAmt(A:dz)(τ:Hp→Prop):Sp:=fun vs H Q _=>∃l cs up,vs=[.ref l,.int (fl up)]∧nj A H l cs∧Gives τ (.int ((cs.filter fun c=>c.up==up).map fun c=>c.amount).sum) H Q
theorem fl_inj{a b:Bool}:(V.int (fl a)=V.int (fl b))↔a=b:=by cases a <;> cases b <;> simp[fl]
theorem ok_amount_called(TB:bD τ)(T:Txt K mg A)(D:aF K mg "amount_called" fK):Has P w K mg base 1 "amount_called" ["calls","up"] (spAmt A τ):=by
 refine Has.of D ju bd_amount_called fun _ _ _ _ _ H vs Q E hr h=>?_
 obtain⟨l,cs,up,rfl,⟨as,hl,hres,hfew⟩,k⟩:=h
 refine⟨_,(au (aD (aU (cC rfl) rfl T.jK L2.boot_sum (aj (fG (own:=[("call",2)]) rfl ju.nd (bY (pv 0)) (show cV ["calls","up","call"] (aG fK) _ _ from⟨rfl,by decide +kernel,by decide +kernel,by decide +kernel,by decide +kernel⟩) (fun _ _ _ _ _=>(aX (i:=2) ju.nd rfl (Or.inl rfl))) (fun _ _ _ _ _=>(f9 (aO bT (dg (K:=K) rfl (pv 2) rfl) (pv 1) (aV _)))) (fun _ _ _ _ _=>(dg (K:=K) rfl (pv 2) rfl))) ak)))),?_⟩
 refine⟨_,rfl,l,rfl,⟨_,bh.of hl⟩,?_⟩
 have hlen:as.length=cs.length:=Paired.length hres
 refine dJ TB (bh.of hl) (by rw[List.length_map,sizeLine_eq];omega) (fun i=>(cs[i]?).bind fun c=>if (c.up==up)=true then some (V.int c.amount)else none) (fun i x hx H' e R Nn h1 h2=>?_) fun D H' e hD hL=>?_
 ·rw[List.getElem?_map]at hx
  obtain⟨ai,hai,rfl⟩:=Option.map_eq_some_iff.mp hx
  obtain⟨c,hc,dr,hr'⟩:=dU hres hai
  rw[hc]at h1 h2
  refine⟨rfl,_,rfl,ai,A.res,dr,_,_,rfl,e.ins hr',T.cE,T.nE _ (by decide),rfl,_,rfl,rfl,_,rfl,aP (fun c1=>?_) fun c1=>?_⟩
  ·have c1':c.up=up:=fl_inj.mp (of_decide_eq_true c1)
   refine⟨_,rfl,ai,A.res,dr,_,_,rfl,e.ins hr',T.cE,T.nE _ (by decide),rfl,h1 _ _ ?_ (.refl _)⟩
   show(if (c.up==up)=true then some (V.int c.amount)else none)=_
   rw[if_pos (by simp[c1'])]
  ·refine h2 _ ?_ (.refl _)
   show(if (c.up==up)=true then some (V.int c.amount)else none)=_
   rw[if_neg]
   intro z
   have z':c.up=up:=by simpa using z
   exact c1 (decide_eq_true (by rw[z']))
 ·rw[List.length_map,hlen,bN]at hL
  refine⟨D,(cs.filter fun c=>c.up==up).map fun c=>c.amount,rfl,bh.of ?_,k H' e⟩
  rw[hL,List.map_map]
  congr 2
  generalize cs=l
  induction l with
  |nil=>rfl
  |cons c l ih=>
   rw[List.filterMap_cons,List.filter_cons]
   by_cases h:(c.up==up)=true
   ·rw[if_pos h,if_pos h,List.map_cons,←ih];rfl
   ·rw[if_neg h,if_neg h,←ih]
theorem ups_eq(cs:List Vbemaj.Called):(cs.filter fun c=>c.up==true)=Vbemaj.ups cs:=by
 unfold Vbemaj.ups
 congr 1
 funext c
 cases c.up <;> rfl
theorem downs_eq(cs:List Vbemaj.Called):(cs.filter fun c=>c.up==false)=Vbemaj.downs cs:=by
 unfold Vbemaj.downs
 congr 1
 funext c
 cases c.up <;> rfl
def handOf(n:Nat)(g:gT)(cs:List Vbemaj.Called)(p:Nat):Vbemaj.Hand:=⟨pos n g p,g 1 p 0,(g 2 p 0).toNat,cs.filter fun c=>c.p==p⟩
def sur(cs:List Vbemaj.Called):Int:=Vbemaj.sumAmount (Vbemaj.ups cs) - Vbemaj.sumAmount (Vbemaj.downs cs)
def spSur(A:dz)(τ:Hp→Prop):Sp:=fun vs H Q _=>∃l cs,vs=[.ref l]∧nj A H l cs∧Gives τ (.int (sur cs)) H Q
theorem ok_surplus_up(D:aF K mg "surplus_up" kO)(cJ:Has P w K mg base 1 "amount_called" ["calls","up"] (spAmt A τ)):Has P w K mg base 2 "surplus_up" ["calls"] (spSur A τ):=by
 refine Has.of D sc_surplus_up bd_surplus_up fun _ _ _ _ _ H vs Q E hr h=>?_
 obtain⟨l,cs,rfl,C,k⟩:=h
 refine⟨_,(au (aD (bR lG (aC cJ hr (aj (pv 0) (aj aH ak))) (aC cJ hr (aj (pv 0) (aj aH ak)))))),?_⟩
 refine⟨_,rfl,l,cs,true,rfl,C,fun H1 e1=>?_⟩
 refine⟨_,rfl,l,cs,false,rfl,C.ext e1,fun H2 e2=>?_⟩
 refine⟨_,_,rfl,rfl,?_⟩
 rw[ups_eq,downs_eq]
 exact k H2 (e1.trans e2)
def spCalled(A:dz)(τ:Hp→Prop):Sp:=fun vs H Q _=>∃a r n g cs p,vs=[.ref a,.int (p:Nat)]∧Now A H a r n g cs∧Gives τ (.int (Vbemaj.calledOf (cs.filter fun c=>c.p==p))) H Q
theorem ok_called(D:aF K mg "called" s_called)(cA:Has P w K mg base 2 "surplus_up" ["calls"] (spSur A τ))(iG:Has P w K mg base 1 "own_calls" ["now","hand"] (spOwn A τ)):Has P w K mg base 3 "called" ["now","hand"] (spCalled A τ):=by
 refine Has.of D sc_called bd_called fun _ _ _ _ _ H vs Q E hr h=>?_
 obtain⟨a,r,n,g,cs,p,rfl,N,k⟩:=h
 refine⟨_,(au (aD (aC cA hr (aj (aC iG hr (aj (pv 0) (aj (pv 1) ak))) ak)))),?_⟩
 refine⟨_,rfl,_,rfl,a,r,n,g,cs,p,rfl,N,fun H4 l e4 C=>?_⟩
 refine⟨l,_,rfl,C,fun H5 e5=>?_⟩
 have kk:=k H5 (e4.trans e5)
 rw[QM.calledOf_eq]at kk
 exact kk
def spImb(A:dz)(τ:Hp→Prop):Sp:=fun vs H Q _=>∃a r n g cs p,vs=[.ref a,.int (p:Nat)]∧Now A H a r n g cs∧InN n p∧Gives τ (.int (Vbemaj.imbalance (handOf n g cs p))) H Q
theorem ok_imbalance(D:aF K mg "imbalance" mR)(cu:Has P w K mg base 1 "entry" ["now","key"] (j9 A τ))(fQ:Has P w K mg base 1 "metered_key" ["hand"] (spKey τ 1))(fB:Has P w K mg base 4 "position" ["now","hand"] (spPos A τ))
  (nT:Has P w K mg base 3 "called" ["now","hand"] (spCalled A τ)):Has P w K mg base 5 "imbalance" ["now","hand"] (spImb A τ):=by
 refine Has.of D sc_imbalance bd_imbalance fun _ _ _ _ _ H vs Q E hr h=>?_
 obtain⟨a,r,n,g,cs,p,rfl,N,hp,k⟩:=h
 refine⟨_,(au (aD (bR lG (bR lG (aC cu hr (aj (pv 0) (aj (aC fQ hr (aj (pv 1) ak)) ak))) (aC fB hr (aj (pv 0) (aj (pv 1) ak)))) (aC nT hr (aj (pv 0) (aj (pv 1) ak)))))),?_⟩
 refine⟨_,rfl,_,rfl,p,rfl,fun H1 t1 e1 h1=>?_⟩
 refine⟨a,t1,r,n,g,cs,1,p,0,rfl,N.ext e1,h1,.inl (val0 hp (by decide)),fun H2 e2=>?_⟩
 have x2:=e1.trans e2
 refine⟨_,rfl,_,rfl,a,r,n,g,cs,p,rfl,N.ext x2,hp,fun H3 e3=>?_⟩
 have x3:=x2.trans e3
 refine⟨_,_,rfl,rfl,?_⟩
 refine⟨_,rfl,_,rfl,a,r,n,g,cs,p,rfl,N.ext x3,fun H4 e4=>?_⟩
 exact⟨_,_,rfl,rfl,k H4 (x3.trans e4)⟩
def spClamp(A:dz)(τ:Hp→Prop):Sp:=fun vs H Q _=>∃ra r x,vs=[.ref ra,.int x]∧mF A H ra r∧Gives τ (.int (Vbemaj.clamp r x)) H Q
theorem ok_brought_within(T:Txt K mg A)(D:aF K mg "brought_within" gC):Has P w K mg base 1 "brought_within" ["rules","price"] (spClamp A τ):=by
 refine Has.of D sc_brought_within bd_brought_within fun _ _ _ _ _ H vs Q E hr h=>?_
 obtain⟨ra,r,x,rfl,⟨dx,R⟩,k⟩:=h
 refine⟨_,(au (aD (aU (call_max2 rfl) rfl T.b_max L2.boot_max (aj (aJ (pv 0) rfl) (aj (aU (call_min2 rfl) rfl T.b_min L2.boot_min (aj (aJ (pv 0) rfl) (aj (pv 1) ak))) ak))))),?_⟩
 refine⟨_,rfl,ra,A.rules,dx,_,_,rfl,R,T.cR,T.nR _ (by decide),rfl,?_⟩
 refine⟨_,rfl,ra,A.rules,dx,_,_,rfl,R,T.cR,T.nR _ (by decide),rfl,_,rfl,_,_,rfl,_,_,rfl,?_⟩
 rw[min2,max2]
 exact k H (.refl H)
def spAhead(A:dz)(τ:Hp→Prop):Sp:=fun vs H Q _=>∃a r n g cs,vs=[.ref a]∧Now A H a r n g cs∧Gives τ (.int (Vbemaj.clamp r (g 3 0 0))) H Q
theorem ok_ahead_price(T:Txt K mg A)(D:aF K mg "ahead_price" jD)(cu:Has P w K mg base 1 "entry" ["now","key"] (j9 A τ))(iH:Has P w K mg base 1 "ahead_key" [] (spAheadKey τ))(cO:Has P w K mg base 1 "brought_within" ["rules","price"] (spClamp A τ)):
  Has P w K mg base 2 "ahead_price" ["now"] (spAhead A τ):=by
 refine Has.of D sc_ahead_price bd_ahead_price fun _ _ _ _ _ H vs Q E hr h=>?_
 obtain⟨a,r,n,g,cs,rfl,N,k⟩:=h
 have ⟨dx,ra,d,l,tl,ents,as,N0⟩:=N
 refine⟨_,(au (aD (aC cO hr (aj (aJ (pv 0) rfl) (aj (aC cu hr (aj (pv 0) (aj (pe_own0 iH hr) ak))) ak))))),?_⟩
 refine⟨_,rfl,a,A.now,dx,_,_,rfl,N0.ob,T.cN,T.nN _ (by decide),rfl,?_⟩
 refine⟨_,rfl,rfl,fun H1 t1 e1 h1=>?_⟩
 refine⟨a,t1,r,n,g,cs,3,0,0,rfl,N.ext e1,h1,.inl (.inr (.inl ⟨rfl,rfl,rfl⟩)),fun H2 e2=>?_⟩
 exact⟨ra,r,_,rfl,N0.ru.ext (e1.trans e2),fun H3 e3=>k H3 ((e1.trans e2).trans e3)⟩
def spDir(A:dz)(τ:Hp→Prop):Sp:=fun vs H Q _=>∃a r n g cs,vs=[.ref a]∧Now A H a r n g cs∧Gives τ (.int (Vbemaj.direction cs)) H Q
theorem ok_direction_of(T:Txt K mg A)(D:aF K mg "direction_of" iY)(cA:Has P w K mg base 2 "surplus_up" ["calls"] (spSur A τ)):Has P w K mg base 3 "direction_of" ["now"] (spDir A τ):=by
 refine Has.of D sc_direction_of bd_direction_of fun _ _ _ _ _ H vs Q E hr h=>?_
 obtain⟨a,r,n,g,cs,rfl,N,k⟩:=h
 have ⟨dx,ra,d,l,tl,ents,as,N0⟩:=N
 refine⟨_,(aq (bw (i:=1) sc_direction_of.nd rfl (Or.inl rfl) (aC cA hr (aj (aJ (pv 0) rfl) ak))) (aq (aZ (aO op_gt (pv 1) aH (aV _)) (au (aD aH)) aM) (aq (aZ (aO op_lt (pv 1) aH (aV _)) (au (aD (nJ jk aH))) aM) (au (aD aH))))),?_⟩
 refine⟨_,rfl,a,A.now,dx,_,_,rfl,N0.ob,T.cN,T.nN _ (by decide),rfl,?_⟩
 refine⟨l,cs,rfl,N0.calls,fun H1 e1=>?_⟩
 have kk:=fun v (hv:v=V.int (Vbemaj.direction cs))=>hv ▸ k H1 e1
 unfold Vbemaj.direction at kk
 refine⟨_,rfl,_,_,rfl,rfl,_,rfl,aP (fun c1=>?_) fun c1=>?_⟩
 ·have c1':0<sur cs:=of_decide_eq_true c1
  refine kk _ ?_
  unfold sur at c1'
  rw[if_pos (by omega)]
 ·have c1':¬0<sur cs:=fun z=>c1 (decide_eq_true z)
  refine⟨_,rfl,_,_,rfl,rfl,_,rfl,aP (fun c2=>?_) fun c2=>?_⟩
  ·have c2':sur cs<0:=of_decide_eq_true c2
   refine⟨_,rfl,kk _ ?_⟩
   unfold sur at c1' c2'
   rw[if_neg (by omega),if_pos (by omega)]
  ·have c2':¬sur cs<0:=fun z=>c2 (decide_eq_true z)
   refine kk _ ?_
   unfold sur at c1' c2'
   rw[if_neg (by omega),if_neg (by omega)]
theorem vals_range(f:Vbemaj.Called→Int)(cs:List Vbemaj.Called):(List.range cs.length).filterMap (fun i=>(cs[i]?).bind fun c=>some (V.int (f c)))=(cs.map f).map V.int:=by
 rw[bN,List.filterMap_eq_map',List.map_map]
 rfl
theorem vals_rangeF(q:Vbemaj.Called→Bool)(f:Vbemaj.Called→Int)(cs:List Vbemaj.Called):(List.range cs.length).filterMap (fun i=>(cs[i]?).bind fun c=>if q c=true then some (V.int (f c))else none)=((cs.filter q).map f).map V.int:=by
 rw[bN]
 induction cs with
 |nil=>rfl
 |cons c l ih=>
  rw[List.filterMap_cons,List.filter_cons]
  by_cases h:q c=true
  ·rw[if_pos h,if_pos h,List.map_cons,List.map_cons,←ih]
  ·rw[if_neg h,if_neg h,←ih]
theorem sum_le{b:Int}:∀{l:List Int},(∀x∈l,x≤b)→0≤b→l.sum≤l.length*b
 |[],_,_=>by simp
 |a::l,h,hb=>by
  have ih:=sum_le (l:=l) (fun x hx=>h x (List.mem_cons_of_mem _ hx)) hb
  have h1:=h a List.mem_cons_self
  rw[List.sum_cons,List.length_cons]
  have:((l.length+1:Nat):Int)*b=l.length*b+b:=by rw[Int.natCast_add,Int.add_mul];simp
  omega
theorem price_mul{n:Nat}{c:Vbemaj.Called}(h:CsOk n c):CMul c.price c.amount:=.inl ⟨by have:=h.price;omega,by have:=h.price;omega⟩
def spMean(A:dz)(τ:Hp→Prop):Sp:=fun vs H Q _=>∃l cs n,vs=[.ref l]∧nj A H l cs∧cs≠[]∧(∀c∈cs,CsOk n c)∧Gives τ (.int (Vbemaj.meanOf cs)) H Q
theorem ok_mean_price(TB:bD τ)(T:Txt K mg A)(D:aF K mg "mean_price" gk):Has P w K mg base 1 "mean_price" ["calls"] (spMean A τ):=by
 refine Has.of D gV bd_mean_price fun _ _ _ _ _ H vs Q E hr h=>?_
 obtain⟨l,cs,n,rfl,⟨as,hl,hres,hfew⟩,hne,hok,k⟩:=h
 refine⟨_,(au (aD (bR op_fdivB (aU (cC rfl) rfl T.jK L2.boot_sum (aj (fG (own:=[("call",1)]) rfl gV.nd (bY (pv 0)) (show cV ["calls","call"] (aG gk) _ _ from⟨rfl,by decide +kernel,by decide +kernel,by decide +kernel,by decide +kernel⟩) (fun _ _ _ _ _=>(aX (i:=1) gV.nd rfl (Or.inl rfl))) (fun _ _ _ _ _=>dD) (fun _ _ _ _ _=>(bR op_mul (dg (K:=K) rfl (pv 1) rfl) (dg (K:=K) rfl (pv 1) rfl)))) ak)) (aU (cC rfl) rfl T.jK L2.boot_sum (aj (fG (own:=[("call",1)]) rfl gV.nd (bY (pv 0)) (show cV ["calls","call"] (aG gk) _ _ from⟨rfl,by decide +kernel,by decide +kernel,by decide +kernel,by decide +kernel⟩) (fun _ _ _ _ _=>(aX (i:=1) gV.nd rfl (Or.inl rfl))) (fun _ _ _ _ _=>dD) (fun _ _ _ _ _=>(dg (K:=K) rfl (pv 1) rfl))) ak))))),?_⟩
 refine⟨_,rfl,l,rfl,⟨_,bh.of hl⟩,?_⟩
 have hlen:as.length=cs.length:=Paired.length hres
 have hsz:(as.map V.ref).length<sizeLine:=by rw[List.length_map,sizeLine_eq];omega
 refine dJ TB (bh.of hl) hsz (fun i=>(cs[i]?).bind fun c=>some (V.int (c.price*c.amount))) (fun i x hx H' e R Nn h1 h2=>?_) fun D1 H1 e1 hD1 hL1=>?_
 ·rw[List.getElem?_map]at hx
  obtain⟨ai,hai,rfl⟩:=Option.map_eq_some_iff.mp hx
  obtain⟨c,hc,dr,hr'⟩:=dU hres hai
  rw[hc]at h1
  refine⟨rfl,?_⟩
  refine⟨_,rfl,ai,A.res,dr,_,_,rfl,e.ins hr',T.cE,T.nE _ (by decide),rfl,_,rfl,ai,A.res,dr,_,_,rfl,e.ins hr',T.cE,T.nE _ (by decide),rfl,_,_,rfl,rfl,price_mul (hok c (List.mem_of_getElem? hc)),h1 _ _ rfl (.refl _)⟩
 rw[List.length_map,hlen,vals_range (fun c=>c.price*c.amount)]at hL1
 refine⟨D1,cs.map fun c=>c.price*c.amount,rfl,bh.of hL1,?_⟩
 refine⟨_,rfl,l,rfl,⟨_,bh.of (e1.lst hl)⟩,?_⟩
 refine dJ TB (bh.of (e1.lst hl)) hsz (fun i=>(cs[i]?).bind fun c=>some (V.int c.amount)) (fun i x hx H' e R Nn h1 h2=>?_) fun D2 H2 e2 hD2 hL2=>?_
 ·rw[List.getElem?_map]at hx
  obtain⟨ai,hai,rfl⟩:=Option.map_eq_some_iff.mp hx
  obtain⟨c,hc,dr,hr'⟩:=dU hres hai
  rw[hc]at h1
  exact⟨rfl,_,rfl,ai,A.res,dr,_,_,rfl,(e1.trans e).ins hr',T.cE,T.nE _ (by decide),rfl,h1 _ _ rfl (.refl _)⟩
 rw[List.length_map,hlen,vals_range (fun c=>c.amount)]at hL2
 refine⟨D2,cs.map fun c=>c.amount,rfl,bh.of hL2,?_⟩
 have kk:=k H2 (e1.trans e2)
 rw[QM.mean_eq (fun c hc=>(hok c hc).amount.1) hne]at kk
 refine⟨_,_,rfl,rfl,⟨?_,?_⟩,kk⟩
 ·have:=(QM.jA fun c hc=>(hok c hc).amount.1).2 hne
  unfold Vbemaj.sumAmount at this
  omega
 ·have:=sum_le (l:=cs.map fun c=>c.amount) (b:=1000000000) (fun x hx=>by obtain⟨c,hc,rfl⟩:=List.mem_map.mp hx;exact (hok c hc).amount.2) (by decide)
  rw[List.length_map]at this
  have h3:((cs.length:Nat):Int)*1000000000≤64*1000000000:=by omega
  omega
theorem ups_mem{c:Vbemaj.Called}{cs:List Vbemaj.Called}(h:c∈Vbemaj.ups cs):c∈cs:=(List.mem_filter.mp h).1
theorem downs_mem{c:Vbemaj.Called}{cs:List Vbemaj.Called}(h:c∈Vbemaj.downs cs):c∈cs:=(List.mem_filter.mp h).1
def spUp(A:dz)(τ:Hp→Prop):Sp:=fun vs H Q _=>∃a r n g cs,vs=[.ref a]∧Now A H a r n g cs∧Vbemaj.ups cs≠[]∧Gives τ (.int ((if r.mean=true then Vbemaj.meanOf (Vbemaj.ups cs)else Vbemaj.greatest (Vbemaj.ups cs))+(if r.threshold≤sur cs then r.addon else 0))) H Q
theorem ok_price_up(TB:bD τ)(T:Txt K mg A)(D:aF K mg "price_up" jq)(gw:Has P w K mg base 1 "mean_price" ["calls"] (spMean A τ))(cA:Has P w K mg base 2 "surplus_up" ["calls"] (spSur A τ)):Has P w K mg base 3 "price_up" ["now"] (spUp A τ):=by
 refine Has.of D iD bd_price_up fun _ _ _ _ _ H vs Q E hr h=>?_
 obtain⟨a,r,n,g,cs,rfl,N,hne,k⟩:=h
 have ⟨dx,ra,d,l,tl,ents,as,N0⟩:=N
 refine⟨_,(aq (lH (i:=1) (own:=[("call",2)]) rfl iD.nd rfl rfl rfl (bY (aJ (pv 0) rfl)) (show cV ["now","calls","call","price"] (aG jq) _ _ from⟨rfl,by decide +kernel,by decide +kernel,by decide +kernel,by decide +kernel⟩) (fun _ _ _ _ _=>(aX (i:=2) iD.nd rfl (Or.inl rfl))) (fun _ _ _ _ _=>(f9 (aO bT (dg (K:=K) rfl (pv 2) rfl) aH (aV _)))) (fun _ _ _ _ _=>(pv 2))) (aq (bw (i:=3) iD.nd rfl (Or.inl rfl) (pe_ifExp (aO bT (aJ (aJ (pv 0) rfl) rfl) aH (aV _)) (aC gw hr (aj (pv 1) ak)) (aU (call_maxL rfl) rfl T.b_max L2.boot_max (aj (fG (own:=[("call",2)]) rfl iD.nd (bY (pv 1)) (show cV ["now","calls","call","price"] (aG jq) _ _ from⟨rfl,by decide +kernel,by decide +kernel,by decide +kernel,by decide +kernel⟩) (fun _ _ _ _ _=>(aX (i:=2) iD.nd rfl (Or.inl rfl))) (fun _ _ _ _ _=>dD) (fun _ _ _ _ _=>(dg (K:=K) rfl (pv 2) rfl))) ak)))) (aq (aZ (aO op_ge (aC cA hr (aj (aJ (pv 0) rfl) ak)) (aJ (aJ (pv 0) rfl) rfl) (aV _)) (au (aD (bR jT (pv 3) (aJ (aJ (pv 0) rfl) rfl)))) aM) (au (aD (pv 3)))))),?_⟩
 refine⟨_,rfl,a,A.now,dx,_,_,rfl,N0.ob,T.cN,T.nN _ (by decide),rfl,l,rfl,⟨_,bh.of N0.ls⟩,?_⟩
 have hlen:as.length=cs.length:=Paired.length N0.ca
 refine dJ TB (bh.of N0.ls) (by have:=N0.wf.cf;rw[List.length_map,sizeLine_eq];omega) (fun i=>(cs[i]?).bind fun c=>if (c.up==true)=true then(as[i]?).map V.ref else none) (fun i x hx H' e R Nn h1 h2=>?_) fun D1 H1 e1 hD hL=>?_
 ·rw[List.getElem?_map]at hx
  obtain⟨ai,hai,rfl⟩:=Option.map_eq_some_iff.mp hx
  obtain⟨c,hc,dr,hr'⟩:=dU N0.ca hai
  rw[hc,hai]at h1 h2
  refine⟨rfl,_,rfl,ai,A.res,dr,_,_,rfl,e.ins hr',T.cE,T.nE _ (by decide),rfl,rfl,_,rfl,aP (fun c1=>?_) fun c1=>?_⟩
  ·have c1':c.up=true:=fl_inj.mp (of_decide_eq_true c1)
   refine⟨_,rfl,h1 _ _ ?_ (.refl _)⟩
   show(if (c.up==true)=true then some (V.ref ai)else none)=_
   rw[if_pos (by simp[c1'])]
  ·refine h2 _ ?_ (.refl _)
   show(if (c.up==true)=true then some (V.ref ai)else none)=_
   rw[if_neg]
   intro z
   have z':c.up=true:=by simpa using z
   exact c1 (decide_eq_true (by rw[z'];rfl))
 rw[List.length_map,oE (fun c=>c.up==true) N0.ca]at hL
 have C1:nj A H1 D1 (Vbemaj.ups cs):=by
  rw[←ups_eq]
  exact⟨_,hL,(sel_ok _ N0.ca).ext e1,Nat.le_trans (List.length_filter_le _ _) N0.wf.cf⟩
 have hmean:(r.mean=true)↔(V.int (fl r.mean)=V.int 1):=by cases r.mean <;> simp[fl]
 obtain⟨dr,R⟩:=N0.ru
 refine⟨_,rfl,a,A.now,dx,_,_,rfl,e1.ins N0.ob,T.cN,T.nN _ (by decide),rfl,ra,A.rules,dr,_,_,rfl,e1.ins R,T.cR,T.nR _ (by decide),rfl,rfl,_,rfl,aP (fun c1=>?_) fun c1=>?_⟩
 ·have c1':=hmean.mpr (of_decide_eq_true c1)
  refine⟨_,rfl,D1,_,n,rfl,C1,hne,fun c hc=>N0.wf.co c (ups_mem hc),fun H2 e2=>?_⟩
  rw[if_pos c1']at k
  refine⟨_,rfl,a,A.now,dx,_,_,rfl,(e1.trans e2).ins N0.ob,T.cN,T.nN _ (by decide),rfl,l,cs,rfl,N0.calls.ext (e1.trans e2),fun H3 e3=>?_⟩
  have x3:=(e1.trans e2).trans e3
  refine⟨_,rfl,a,A.now,dx,_,_,rfl,x3.ins N0.ob,T.cN,T.nN _ (by decide),rfl,ra,A.rules,dr,_,_,rfl,x3.ins R,T.cR,T.nR _ (by decide),rfl,_,_,rfl,rfl,_,rfl,aP (fun c2=>?_) fun c2=>?_⟩
  ·have c2':r.threshold≤sur cs:=of_decide_eq_true c2
   rw[if_pos c2']at k
   refine⟨_,rfl,_,rfl,a,A.now,dx,_,_,rfl,x3.ins N0.ob,T.cN,T.nN _ (by decide),rfl,ra,A.rules,dr,_,_,rfl,x3.ins R,T.cR,T.nR _ (by decide),rfl,_,_,rfl,rfl,k H3 x3⟩
  ·have c2':¬r.threshold≤sur cs:=fun z=>c2 (decide_eq_true z)
   rw[if_neg c2',Int.add_zero]at k
   exact⟨_,rfl,k H3 x3⟩
 ·have c1':¬r.mean=true:=fun z=>c1 (decide_eq_true (hmean.mp z))
  have ⟨as1,hl1,hres1,hfew1⟩:=C1
  have hlen1:as1.length=(Vbemaj.ups cs).length:=Paired.length hres1
  refine⟨_,rfl,D1,rfl,⟨_,bh.of hl1⟩,?_⟩
  refine dJ TB (bh.of hl1) (by rw[List.length_map,sizeLine_eq];omega) (fun i=>((Vbemaj.ups cs)[i]?).bind fun c=>some (V.int c.price)) (fun i x hx H' e R' Nn h1 h2=>?_) fun D2 H2 e2 hD2 hL2=>?_
  ·rw[List.getElem?_map]at hx
   obtain⟨ai,hai,rfl⟩:=Option.map_eq_some_iff.mp hx
   obtain⟨c,hc,dr',hr'⟩:=dU hres1 hai
   rw[hc]at h1
   exact⟨rfl,_,rfl,ai,A.res,dr',_,_,rfl,e.ins hr',T.cE,T.nE _ (by decide),rfl,h1 _ _ rfl (.refl _)⟩
  rw[List.length_map,hlen1,vals_range (fun c=>c.price)]at hL2
  obtain⟨c0,cl,ec⟩:=List.exists_cons_of_ne_nil hne
  rw[if_neg c1',ec,QM.greatest_eq]at k
  rw[ec,List.map_cons]at hL2
  refine⟨D2,_,_,rfl,bh.of hL2,?_⟩
  refine⟨_,rfl,a,A.now,dx,_,_,rfl,(e1.trans e2).ins N0.ob,T.cN,T.nN _ (by decide),rfl,l,cs,rfl,N0.calls.ext (e1.trans e2),fun H3 e3=>?_⟩
  have x3:=(e1.trans e2).trans e3
  refine⟨_,rfl,a,A.now,dx,_,_,rfl,x3.ins N0.ob,T.cN,T.nN _ (by decide),rfl,ra,A.rules,dr,_,_,rfl,x3.ins R,T.cR,T.nR _ (by decide),rfl,_,_,rfl,rfl,_,rfl,aP (fun c2=>?_) fun c2=>?_⟩
  ·have c2':r.threshold≤sur cs:=of_decide_eq_true c2
   rw[if_pos c2']at k
   refine⟨_,rfl,_,rfl,a,A.now,dx,_,_,rfl,x3.ins N0.ob,T.cN,T.nN _ (by decide),rfl,ra,A.rules,dr,_,_,rfl,x3.ins R,T.cR,T.nR _ (by decide),rfl,_,_,rfl,rfl,k H3 x3⟩
  ·have c2':¬r.threshold≤sur cs:=fun z=>c2 (decide_eq_true z)
   rw[if_neg c2',Int.add_zero]at k
   exact⟨_,rfl,k H3 x3⟩
def spDown(A:dz)(τ:Hp→Prop):Sp:=fun vs H Q _=>∃a r n g cs,vs=[.ref a]∧Now A H a r n g cs∧Vbemaj.downs cs≠[]∧Gives τ (.int ((if r.mean=true then Vbemaj.meanOf (Vbemaj.downs cs)else Vbemaj.least (Vbemaj.downs cs)) - (if r.threshold≤-sur cs then r.addon else 0))) H Q
theorem ok_price_down(TB:bD τ)(T:Txt K mg A)(D:aF K mg "price_down" gn)(gw:Has P w K mg base 1 "mean_price" ["calls"] (spMean A τ))(cA:Has P w K mg base 2 "surplus_up" ["calls"] (spSur A τ)):Has P w K mg base 3 "price_down" ["now"] (spDown A τ):=by
 refine Has.of D fM bd_price_down fun _ _ _ _ _ H vs Q E hr h=>?_
 obtain⟨a,r,n,g,cs,rfl,N,hne,k⟩:=h
 have ⟨dx,ra,d,l,tl,ents,as,N0⟩:=N
 refine⟨_,(aq (lH (i:=1) (own:=[("call",2)]) rfl fM.nd rfl rfl rfl (bY (aJ (pv 0) rfl)) (show cV ["now","calls","call","price"] (aG gn) _ _ from⟨rfl,by decide +kernel,by decide +kernel,by decide +kernel,by decide +kernel⟩) (fun _ _ _ _ _=>(aX (i:=2) fM.nd rfl (Or.inl rfl))) (fun _ _ _ _ _=>(f9 (aO bT (dg (K:=K) rfl (pv 2) rfl) aH (aV _)))) (fun _ _ _ _ _=>(pv 2))) (aq (bw (i:=3) fM.nd rfl (Or.inl rfl) (pe_ifExp (aO bT (aJ (aJ (pv 0) rfl) rfl) aH (aV _)) (aC gw hr (aj (pv 1) ak)) (aU (call_minL rfl) rfl T.b_min L2.boot_min (aj (fG (own:=[("call",2)]) rfl fM.nd (bY (pv 1)) (show cV ["now","calls","call","price"] (aG gn) _ _ from⟨rfl,by decide +kernel,by decide +kernel,by decide +kernel,by decide +kernel⟩) (fun _ _ _ _ _=>(aX (i:=2) fM.nd rfl (Or.inl rfl))) (fun _ _ _ _ _=>dD) (fun _ _ _ _ _=>(dg (K:=K) rfl (pv 2) rfl))) ak)))) (aq (aZ (aO op_ge (nJ jk (aC cA hr (aj (aJ (pv 0) rfl) ak))) (aJ (aJ (pv 0) rfl) rfl) (aV _)) (au (aD (bR lG (pv 3) (aJ (aJ (pv 0) rfl) rfl)))) aM) (au (aD (pv 3)))))),?_⟩
 refine⟨_,rfl,a,A.now,dx,_,_,rfl,N0.ob,T.cN,T.nN _ (by decide),rfl,l,rfl,⟨_,bh.of N0.ls⟩,?_⟩
 have hlen:as.length=cs.length:=Paired.length N0.ca
 refine dJ TB (bh.of N0.ls) (by have:=N0.wf.cf;rw[List.length_map,sizeLine_eq];omega) (fun i=>(cs[i]?).bind fun c=>if (c.up==false)=true then(as[i]?).map V.ref else none) (fun i x hx H' e R Nn h1 h2=>?_) fun D1 H1 e1 hD hL=>?_
 ·rw[List.getElem?_map]at hx
  obtain⟨ai,hai,rfl⟩:=Option.map_eq_some_iff.mp hx
  obtain⟨c,hc,dr,hr'⟩:=dU N0.ca hai
  rw[hc,hai]at h1 h2
  refine⟨rfl,_,rfl,ai,A.res,dr,_,_,rfl,e.ins hr',T.cE,T.nE _ (by decide),rfl,rfl,_,rfl,aP (fun c1=>?_) fun c1=>?_⟩
  ·have c1':c.up=false:=fl_inj.mp (of_decide_eq_true c1)
   refine⟨_,rfl,h1 _ _ ?_ (.refl _)⟩
   show(if (c.up==false)=true then some (V.ref ai)else none)=_
   rw[if_pos (by simp[c1'])]
  ·refine h2 _ ?_ (.refl _)
   show(if (c.up==false)=true then some (V.ref ai)else none)=_
   rw[if_neg]
   intro z
   have z':c.up=false:=by simpa using z
   exact c1 (decide_eq_true (by rw[z'];rfl))
 rw[List.length_map,oE (fun c=>c.up==false) N0.ca]at hL
 have C1:nj A H1 D1 (Vbemaj.downs cs):=by
  rw[←downs_eq]
  exact⟨_,hL,(sel_ok _ N0.ca).ext e1,Nat.le_trans (List.length_filter_le _ _) N0.wf.cf⟩
 have hmean:(r.mean=true)↔(V.int (fl r.mean)=V.int 1):=by cases r.mean <;> simp[fl]
 obtain⟨dr,R⟩:=N0.ru
 refine⟨_,rfl,a,A.now,dx,_,_,rfl,e1.ins N0.ob,T.cN,T.nN _ (by decide),rfl,ra,A.rules,dr,_,_,rfl,e1.ins R,T.cR,T.nR _ (by decide),rfl,rfl,_,rfl,aP (fun c1=>?_) fun c1=>?_⟩
 ·have c1':=hmean.mpr (of_decide_eq_true c1)
  refine⟨_,rfl,D1,_,n,rfl,C1,hne,fun c hc=>N0.wf.co c (downs_mem hc),fun H2 e2=>?_⟩
  rw[if_pos c1']at k
  refine⟨_,rfl,a,A.now,dx,_,_,rfl,(e1.trans e2).ins N0.ob,T.cN,T.nN _ (by decide),rfl,l,cs,rfl,N0.calls.ext (e1.trans e2),fun H3 e3=>?_⟩
  have x3:=(e1.trans e2).trans e3
  refine⟨_,rfl,_,rfl,a,A.now,dx,_,_,rfl,x3.ins N0.ob,T.cN,T.nN _ (by decide),rfl,ra,A.rules,dr,_,_,rfl,x3.ins R,T.cR,T.nR _ (by decide),rfl,_,_,rfl,rfl,_,rfl,aP (fun c2=>?_) fun c2=>?_⟩
  ·have c2':r.threshold≤-sur cs:=of_decide_eq_true c2
   rw[if_pos c2']at k
   refine⟨_,rfl,_,rfl,a,A.now,dx,_,_,rfl,x3.ins N0.ob,T.cN,T.nN _ (by decide),rfl,ra,A.rules,dr,_,_,rfl,x3.ins R,T.cR,T.nR _ (by decide),rfl,_,_,rfl,rfl,k H3 x3⟩
  ·have c2':¬r.threshold≤-sur cs:=fun z=>c2 (decide_eq_true z)
   rw[if_neg c2',Int.sub_zero]at k
   exact⟨_,rfl,k H3 x3⟩
 ·have c1':¬r.mean=true:=fun z=>c1 (decide_eq_true (hmean.mp z))
  have ⟨as1,hl1,hres1,hfew1⟩:=C1
  have hlen1:as1.length=(Vbemaj.downs cs).length:=Paired.length hres1
  refine⟨_,rfl,D1,rfl,⟨_,bh.of hl1⟩,?_⟩
  refine dJ TB (bh.of hl1) (by rw[List.length_map,sizeLine_eq];omega) (fun i=>((Vbemaj.downs cs)[i]?).bind fun c=>some (V.int c.price)) (fun i x hx H' e R' Nn h1 h2=>?_) fun D2 H2 e2 hD2 hL2=>?_
  ·rw[List.getElem?_map]at hx
   obtain⟨ai,hai,rfl⟩:=Option.map_eq_some_iff.mp hx
   obtain⟨c,hc,dr',hr'⟩:=dU hres1 hai
   rw[hc]at h1
   exact⟨rfl,_,rfl,ai,A.res,dr',_,_,rfl,e.ins hr',T.cE,T.nE _ (by decide),rfl,h1 _ _ rfl (.refl _)⟩
  rw[List.length_map,hlen1,vals_range (fun c=>c.price)]at hL2
  obtain⟨c0,cl,ec⟩:=List.exists_cons_of_ne_nil hne
  rw[if_neg c1',ec,QM.least_eq]at k
  rw[ec,List.map_cons]at hL2
  refine⟨D2,_,_,rfl,bh.of hL2,?_⟩
  refine⟨_,rfl,a,A.now,dx,_,_,rfl,(e1.trans e2).ins N0.ob,T.cN,T.nN _ (by decide),rfl,l,cs,rfl,N0.calls.ext (e1.trans e2),fun H3 e3=>?_⟩
  have x3:=(e1.trans e2).trans e3
  refine⟨_,rfl,_,rfl,a,A.now,dx,_,_,rfl,x3.ins N0.ob,T.cN,T.nN _ (by decide),rfl,ra,A.rules,dr,_,_,rfl,x3.ins R,T.cR,T.nR _ (by decide),rfl,_,_,rfl,rfl,_,rfl,aP (fun c2=>?_) fun c2=>?_⟩
  ·have c2':r.threshold≤-sur cs:=of_decide_eq_true c2
   rw[if_pos c2']at k
   refine⟨_,rfl,_,rfl,a,A.now,dx,_,_,rfl,x3.ins N0.ob,T.cN,T.nN _ (by decide),rfl,ra,A.rules,dr,_,_,rfl,x3.ins R,T.cR,T.nR _ (by decide),rfl,_,_,rfl,rfl,k H3 x3⟩
  ·have c2':¬r.threshold≤-sur cs:=fun z=>c2 (decide_eq_true z)
   rw[if_neg c2',Int.sub_zero]at k
   exact⟨_,rfl,k H3 x3⟩
theorem iw{f:Str}{v:V}:∀{fs:List (Str×V)}{n:Nat},fs.length<n→(aN f v fs).length<n+1
 |[],n,h=>by show 1<n+1;have:0<n:=h;omega
 |(g,x)::r,n,h=>by
  unfold aN
  split
  ·exact Nat.lt_succ_of_lt h
  ·have h':r.length+1<n:=h
   have:=iw (f:=f) (v:=v) (fs:=r) (n:=n - 1) (by omega)
   show(aN f v r).length+1<n+1
   omega
def spQp(A:dz)(τ:Hp→Prop):Sp:=fun vs H Q _=>∃a r n g cs,vs=[.ref a,.int (Vbemaj.direction cs)]∧Now A H a r n g cs∧Gives τ (.int (Vbemaj.priceOf r (g 3 0 0) cs)) H Q
theorem ok_quarter_price(T:Txt K mg A)(D:aF K mg "quarter_price" g8)(cO:Has P w K mg base 1 "brought_within" ["rules","price"] (spClamp A τ))(h_price_up:Has P w K mg base 3 "price_up" ["now"] (spUp A τ))(h_price_down:Has P w K mg base 3 "price_down" ["now"] (spDown A τ))(fU:Has P w K mg base 2 "ahead_price" ["now"] (spAhead A τ)):
  Has P w K mg base 4 "quarter_price" ["now","direction"] (spQp A τ):=by
 refine Has.of D sc_quarter_price bd_quarter_price fun _ _ _ _ _ H vs Q E hr h=>?_
 obtain⟨a,r,n,g,cs,rfl,N,k⟩:=h
 have ⟨dx,ra,d,l,tl,ents,as,N0⟩:=N
 refine⟨_,(aq (aZ (aO bT (pv 1) aH (aV _)) (au (aD (aC cO hr (aj (aJ (pv 0) rfl) (aj (aC h_price_up hr (aj (pv 0) ak)) ak))))) aM) (aq (aZ (aO bT (pv 1) (nJ jk aH) (aV _)) (au (aD (aC cO hr (aj (aJ (pv 0) rfl) (aj (aC h_price_down hr (aj (pv 0) ak)) ak))))) aM) (au (aD (aC fU hr (aj (pv 0) ak)))))),?_⟩
 have am:∀c∈cs,1≤c.amount:=fun c hc=>(N0.wf.co c hc).amount.1
 refine⟨_,rfl,rfl,_,rfl,aP (fun c1=>?_) fun c1=>?_⟩
 ·have c1':Vbemaj.direction cs=1:=by simpa using of_decide_eq_true c1
  unfold Vbemaj.priceOf at k
  rw[if_pos c1']at k
  refine⟨_,rfl,a,A.now,dx,_,_,rfl,N0.ob,T.cN,T.nN _ (by decide),rfl,_,rfl,a,r,n,g,cs,rfl,N,?_,fun H1 e1=>?_⟩
  ·refine QM.ups_ne am ?_
   unfold Vbemaj.direction at c1'
   split at c1'
   ·assumption
   ·split at c1' <;> omega
  ·exact⟨ra,r,_,rfl,N0.ru.ext e1,fun H2 e2=>k H2 (e1.trans e2)⟩
 have c1':¬Vbemaj.direction cs=1:=fun z=>c1 (decide_eq_true (by rw[z]))
 refine⟨_,rfl,_,rfl,rfl,_,rfl,aP (fun c2=>?_) fun c2=>?_⟩
 ·have c2':Vbemaj.direction cs=-1:=by simpa using of_decide_eq_true c2
  unfold Vbemaj.priceOf at k
  rw[if_neg c1',if_pos c2']at k
  refine⟨_,rfl,a,A.now,dx,_,_,rfl,N0.ob,T.cN,T.nN _ (by decide),rfl,_,rfl,a,r,n,g,cs,rfl,N,?_,fun H1 e1=>?_⟩
  ·refine QM.downs_ne am ?_
   unfold Vbemaj.direction at c2'
   split at c2'
   ·omega
   ·split at c2'
    ·assumption
    ·omega
  ·refine⟨ra,r,_,rfl,N0.ru.ext e1,fun H2 e2=>?_⟩
   have es:-sur cs=Vbemaj.sumAmount (Vbemaj.downs cs) - Vbemaj.sumAmount (Vbemaj.ups cs):=by unfold sur;omega
   rw[es]
   exact k H2 (e1.trans e2)
 have c2':¬Vbemaj.direction cs=-1:=fun z=>c2 (decide_eq_true (by rw[z]))
 unfold Vbemaj.priceOf at k
 rw[if_neg c1',if_neg c2']at k
 exact⟨_,rfl,a,r,n,g,cs,rfl,N,k⟩
def pricesF(d p s l:Int):List (Str×V):=[("direction",.int d),("price",.int p),("short_price",.int s),("long_price",.int l)]
def spPrices(A:dz):Sp:=fun vs H Q _=>∃x dx d p s l,vs=[.ref x,.int d,.int p,.int s,.int l]∧H x=some (.ins A.prices dx [])∧Q .non (upd H x (.ins A.prices dx (pricesF d p s l)))
theorem ok_Prices(T:Txt K mg A)(D:jU K mg "Prices" "Prices.__init__" A.prices jC):lD P w K mg base 1 "Prices" A.prices ["self","direction","price","short_price","long_price"] (spPrices A):=by
 refine lD.of D sc_Prices_init bd_Prices_init fun _ _ _ _ s H vs Q E hr h=>?_
 obtain⟨x,dx,d,p,s,l,rfl,hx,k⟩:=h
 refine⟨_,(aq (cG (pv 0) (pv 1) rfl) (aq (cG (pv 0) (pv 2) rfl) (aq (cG (pv 0) (pv 3) rfl) (au (cG (pv 0) (pv 4) rfl))))),?_⟩
 refine⟨_,rfl,_,rfl,x,A.prices,dx,_,rfl,hx,T.cP,T.nP _ (by decide),by decide,?_⟩
 refine⟨_,rfl,_,rfl,x,A.prices,dx,_,rfl,ao,T.cP,T.nP _ (by decide),iw (by decide),?_⟩
 rw[dB]
 refine⟨_,rfl,_,rfl,x,A.prices,dx,_,rfl,ao,T.cP,T.nP _ (by decide),iw (iw (by decide)),?_⟩
 rw[dB]
 refine⟨_,rfl,_,rfl,x,A.prices,dx,_,rfl,ao,T.cP,T.nP _ (by decide),iw (iw (iw (by decide))),?_⟩
 rw[dB]
 exact k
def nU(A:dz)(H:Hp)(x:Addr)(r:Vbemaj.Rules)(ah:Int)(cs:List Vbemaj.Called):Prop:=∃dx,H x=some (.ins A.prices dx (pricesF (Vbemaj.direction cs) (Vbemaj.priceOf r ah cs) (Vbemaj.shortPrice r ah cs) (Vbemaj.longPrice r ah cs)))
theorem nU.ext{H H':Hp}{x:Addr}{r:Vbemaj.Rules}{ah:Int}{cs:List Vbemaj.Called}(h:nU A H x r ah cs)(e:Ext τ H H'):nU A H' x r ah cs:=let⟨dx,h⟩:=h;⟨dx,e.ins h⟩
def spPof(A:dz)(τ:Hp→Prop):Sp:=fun vs H Q _=>∃a r n g cs,vs=[.ref a]∧Now A H a r n g cs∧∀H' x,Ext τ H H'→nU A H' x r (g 3 0 0) cs→Q (.ref x) H'
theorem ok_prices_of(TB:bD τ)(T:Txt K mg A)(D:aF K mg "prices_of" mU)(lU:Has P w K mg base 3 "direction_of" ["now"] (spDir A τ))(jY:Has P w K mg base 4 "quarter_price" ["now","direction"] (spQp A τ))(h_Prices:lD P w K mg base 1 "Prices" A.prices ["self","direction","price","short_price","long_price"] (spPrices A))(fU:Has P w K mg base 2 "ahead_price" ["now"] (spAhead A τ)):
  Has P w K mg base 5 "prices_of" ["now"] (spPof A τ):=by
 refine Has.of D kW bd_prices_of fun _ _ _ _ _ H vs Q E hr h=>?_
 obtain⟨a,r,n,g,cs,rfl,N,k⟩:=h
 have ⟨dx,ra,d,l,tl,ents,as,N0⟩:=N
 obtain⟨dr,R⟩:=N0.ru
 refine⟨_,(aq (bw (i:=1) kW.nd rfl (Or.inl rfl) (aC lU hr (aj (pv 0) ak))) (aq (bw (i:=2) kW.nd rfl (Or.inl rfl) (aC jY hr (aj (pv 0) (aj (pv 1) ak)))) (aq (aZ (aO bT (aJ (aJ (pv 0) rfl) rfl) aH (aV _)) (au (aD (iQ h_Prices hr (aj (pv 1) (aj (pv 2) (aj (pv 2) (aj (pv 2) ak))))))) aM) (aq (bw (i:=3) kW.nd rfl (Or.inl rfl) (aC fU hr (aj (pv 0) ak))) (au (aD (iQ h_Prices hr (aj (pv 1) (aj (pv 2) (aj (aU (call_max2 rfl) rfl T.b_max L2.boot_max (aj (pv 2) (aj (pv 3) ak))) (aj (aU (call_min2 rfl) rfl T.b_min L2.boot_min (aj (pv 2) (aj (pv 3) ak))) ak))))))))))),?_⟩
 refine⟨_,rfl,a,r,n,g,cs,rfl,N,fun H1 e1=>?_⟩
 refine⟨_,rfl,_,rfl,a,r,n,g,cs,rfl,N.ext e1,fun H2 e2=>?_⟩
 have x2:=e1.trans e2
 have hdual:(r.dual=false)↔(V.int (fl r.dual)=V.int 0):=by cases r.dual <;> simp[fl]
 refine⟨_,rfl,a,A.now,dx,_,_,rfl,x2.ins N0.ob,T.cN,T.nN _ (by decide),rfl,ra,A.rules,dr,_,_,rfl,x2.ins R,T.cR,T.nR _ (by decide),rfl,rfl,_,rfl,aP (fun c1=>?_) fun c1=>?_⟩
 ·have c1':=hdual.mpr (of_decide_eq_true c1)
  have e1:Vbemaj.shortPrice r (g 3 0 0) cs=Vbemaj.priceOf r (g 3 0 0) cs:=by unfold Vbemaj.shortPrice;rw[c1'];rfl
  have e2:Vbemaj.longPrice r (g 3 0 0) cs=Vbemaj.priceOf r (g 3 0 0) cs:=by unfold Vbemaj.longPrice;rw[c1'];rfl
  refine⟨_,rfl,_,rfl,_,rfl,_,rfl,fun x dy hx hy hne=>⟨x,dy,_,_,_,_,rfl,ao,rfl,?_⟩⟩
  rw[dB]
  refine k _ x ((x2.then TB hy).then TB (by rw[aB hne.symm];exact hx)) ⟨dy,?_⟩
  rw[ao,e1,e2]
 ·have c1':r.dual=true:=by
   cases q:r.dual with
   |true=>rfl
   |false=>exact absurd (decide_eq_true (hdual.mp q)) c1
  refine⟨_,rfl,a,r,n,g,cs,rfl,N.ext x2,fun H3 e3=>?_⟩
  have x3:=x2.trans e3
  refine⟨_,rfl,_,rfl,_,rfl,_,rfl,_,_,rfl,_,rfl,_,rfl,_,_,rfl,?_⟩
  rw[min2,max2]
  have e1:Vbemaj.shortPrice r (g 3 0 0) cs=max (Vbemaj.priceOf r (g 3 0 0) cs) (Vbemaj.clamp r (g 3 0 0)):=by unfold Vbemaj.shortPrice;rw[c1'];rfl
  have e2:Vbemaj.longPrice r (g 3 0 0) cs=min (Vbemaj.priceOf r (g 3 0 0) cs) (Vbemaj.clamp r (g 3 0 0)):=by unfold Vbemaj.longPrice;rw[c1'];rfl
  refine fun x dy hx hy hne=>⟨x,dy,_,_,_,_,rfl,ao,rfl,?_⟩
  rw[dB]
  refine k _ x ((x3.then TB hy).then TB (by rw[aB hne.symm];exact hx)) ⟨dy,?_⟩
  rw[ao,e1,e2]
theorem clamp_in{r:Vbemaj.Rules}(h:QM.RulesOk r)(x:Int):-1000000≤Vbemaj.clamp r x∧Vbemaj.clamp r x≤1000000:=by
 have:=h.lo;have:=h.hi;have:=h.le
 unfold Vbemaj.clamp
 omega
theorem price_in{r:Vbemaj.Rules}(h:QM.RulesOk r)(x:Int)(cs:List Vbemaj.Called):-1000000≤Vbemaj.priceOf r x cs∧Vbemaj.priceOf r x cs≤1000000:=by
 unfold Vbemaj.priceOf
 split
 ·exact clamp_in h _
 ·split
  ·exact clamp_in h _
  ·exact clamp_in h _
theorem short_in{r:Vbemaj.Rules}(h:QM.RulesOk r)(x:Int)(cs:List Vbemaj.Called):-1000000≤Vbemaj.shortPrice r x cs∧Vbemaj.shortPrice r x cs≤1000000:=by
 have h1:=price_in h x cs
 have h2:=clamp_in h x
 unfold Vbemaj.shortPrice
 split <;> omega
theorem long_in{r:Vbemaj.Rules}(h:QM.RulesOk r)(x:Int)(cs:List Vbemaj.Called):-1000000≤Vbemaj.longPrice r x cs∧Vbemaj.longPrice r x cs≤1000000:=by
 have h1:=price_in h x cs
 have h2:=clamp_in h x
 unfold Vbemaj.longPrice
 split <;> omega
def spOwI(A:dz)(τ:Hp→Prop):Sp:=fun vs H Q _=>∃a x r n g cs p,vs=[.ref a,.int (p:Nat),.ref x]∧Now A H a r n g cs∧nU A H x r (g 3 0 0) cs∧InN n p∧Gives τ (.int (Vbemaj.owes (Vbemaj.shortPrice r (g 3 0 0) cs) (Vbemaj.longPrice r (g 3 0 0) cs) (Vbemaj.imbalance (handOf n g cs p)))) H Q
theorem ok_owed_for_imbalance(T:Txt K mg A)(D:aF K mg "owed_for_imbalance" d7)(dY:Has P w K mg base 5 "imbalance" ["now","hand"] (spImb A τ)):Has P w K mg base 6 "owed_for_imbalance" ["now","hand","prices"] (spOwI A τ):=by
 refine Has.of D jj bd_owed_for_imbalance fun _ _ _ _ _ H vs Q E hr h=>?_
 obtain⟨a,x,r,n,g,cs,p,rfl,N,⟨dp,Px⟩,hp,k⟩:=h
 refine⟨_,(aq (bw (i:=3) jj.nd rfl (Or.inl rfl) (aC dY hr (aj (pv 0) (aj (pv 1) ak)))) (aq (aZ (aO op_lt (pv 3) aH (aV _)) (au (aD (bR op_mul (nJ jk (pv 3)) (aJ (pv 2) rfl)))) aM) (au (aD (bR op_mul (nJ jk (pv 3)) (aJ (pv 2) rfl)))))),?_⟩
 refine⟨_,rfl,_,rfl,a,r,n,g,cs,p,rfl,N,hp,fun H1 e1=>?_⟩
 have hN:=N
 obtain⟨dx,ra,d,l,tl,ents,as,N0⟩:=hN
 refine⟨_,rfl,_,_,rfl,rfl,_,rfl,aP (fun c1=>?_) fun c1=>?_⟩
 ·have c1':Vbemaj.imbalance (handOf n g cs p)<0:=of_decide_eq_true c1
  unfold Vbemaj.owes at k
  rw[if_pos c1']at k
  exact⟨_,rfl,_,rfl,_,rfl,x,A.prices,dp,_,_,rfl,e1.ins Px,T.cP,T.nP _ (by decide),rfl,_,_,rfl,rfl,.inr (by have:=short_in N0.wf.ro (g 3 0 0) cs;omega),k H1 e1⟩
 ·have c1':¬Vbemaj.imbalance (handOf n g cs p)<0:=fun z=>c1 (decide_eq_true z)
  unfold Vbemaj.owes at k
  rw[if_neg c1',←Int.neg_mul]at k
  exact⟨_,rfl,_,rfl,_,rfl,x,A.prices,dp,_,_,rfl,e1.ins Px,T.cP,T.nP _ (by decide),rfl,_,_,rfl,rfl,.inr (by have:=long_in N0.wf.ro (g 3 0 0) cs;omega),k H1 e1⟩
def spOwR(A:dz)(τ:Hp→Prop):Sp:=fun vs H Q _=>∃a r n g cs p,vs=[.ref a,.int (p:Nat)]∧Now A H a r n g cs∧Gives τ (.int (Vbemaj.reserve (cs.filter fun c=>c.p==p))) H Q
theorem ok_owed_for_reserve(TB:bD τ)(T:Txt K mg A)(D:aF K mg "owed_for_reserve" cQ)(iG:Has P w K mg base 1 "own_calls" ["now","hand"] (spOwn A τ)):Has P w K mg base 2 "owed_for_reserve" ["now","hand"] (spOwR A τ):=by
 refine Has.of D bJ bd_owed_for_reserve fun _ _ _ _ _ H vs Q E hr h=>?_
 obtain⟨a,r,n,g,cs,p,rfl,N,k⟩:=h
 refine⟨_,(aq (bw (i:=2) bJ.nd rfl (Or.inl rfl) (aC iG hr (aj (pv 0) (aj (pv 1) ak)))) (aq (bw (i:=3) bJ.nd rfl (Or.inl rfl) (aU (cC rfl) rfl T.jK L2.boot_sum (aj (fG (own:=[("call",4)]) rfl bJ.nd (bY (pv 2)) (show cV ["now","hand","calls","got","call","paid"] (aG cQ) _ _ from⟨rfl,by decide +kernel,by decide +kernel,by decide +kernel,by decide +kernel⟩) (fun _ _ _ _ _=>(aX (i:=4) bJ.nd rfl (Or.inl rfl))) (fun _ _ _ _ _=>(f9 (aO bT (dg (K:=K) rfl (pv 4) rfl) aH (aV _)))) (fun _ _ _ _ _=>(bR op_mul (dg (K:=K) rfl (pv 4) rfl) (dg (K:=K) rfl (pv 4) rfl)))) ak))) (aq (bw (i:=5) bJ.nd rfl (Or.inl rfl) (aU (cC rfl) rfl T.jK L2.boot_sum (aj (fG (own:=[("call",4)]) rfl bJ.nd (bY (pv 2)) (show cV ["now","hand","calls","got","call","paid"] (aG cQ) _ _ from⟨rfl,by decide +kernel,by decide +kernel,by decide +kernel,by decide +kernel⟩) (fun _ _ _ _ _=>(aX (i:=4) bJ.nd rfl (Or.inl rfl))) (fun _ _ _ _ _=>(f9 (aO bT (dg (K:=K) rfl (pv 4) rfl) aH (aV _)))) (fun _ _ _ _ _=>(bR op_mul (dg (K:=K) rfl (pv 4) rfl) (dg (K:=K) rfl (pv 4) rfl)))) ak))) (au (aD (bR lG (pv 5) (pv 3))))))),?_⟩
 refine⟨_,rfl,_,rfl,a,r,n,g,cs,p,rfl,N,fun H1 l e1 C=>?_⟩
 have hok:∀c∈(cs.filter fun c=>c.p==p),CsOk n c:=fun c hc=>by
  obtain⟨dx,ra,d,l,tl,ents,as,N0⟩:=N
  exact N0.wf.co c (List.mem_filter.mp hc).1
 obtain⟨as,hl,hres,hfew⟩:=C
 have hlen:as.length=(cs.filter fun c=>c.p==p).length:=Paired.length hres
 have hsz:(as.map V.ref).length<sizeLine:=by rw[List.length_map,sizeLine_eq];omega
 refine⟨_,rfl,l,rfl,⟨_,bh.of hl⟩,?_⟩
 refine dJ TB (bh.of hl) hsz (fun i=>((cs.filter fun c=>c.p==p)[i]?).bind fun c=>if (c.up==true)=true then some (V.int (c.price*c.amount))else none) (fun i x hx H' e R Nn h1 h2=>?_) fun D1 H2 e2 hD1 hLD1=>?_
 ·rw[List.getElem?_map]at hx
  obtain⟨ai,hai,rfl⟩:=Option.map_eq_some_iff.mp hx
  obtain⟨c,hc,dr,hr'⟩:=dU hres hai
  rw[hc]at h1 h2
  have hr2:H' ai=some (.ins A.res dr (resF c)):=e.ins hr'
  refine⟨rfl,_,rfl,ai,A.res,dr,_,_,rfl,hr2,T.cE,T.nE _ (by decide),rfl,rfl,_,rfl,aP (fun c1=>?_) fun c1=>?_⟩
  ·have c1':c.up=true:=fl_inj.mp (of_decide_eq_true c1)
   refine⟨_,rfl,ai,A.res,dr,_,_,rfl,hr2,T.cE,T.nE _ (by decide),rfl,_,rfl,ai,A.res,dr,_,_,rfl,hr2,T.cE,T.nE _ (by decide),rfl,_,_,rfl,rfl,price_mul (hok c (List.mem_of_getElem? hc)),h1 _ _ ?_ (.refl _)⟩
   show(if (c.up==true)=true then some (V.int (c.price*c.amount))else none)=_
   rw[if_pos (by simp[c1'])]
  ·refine h2 _ ?_ (.refl _)
   show(if (c.up==true)=true then some (V.int (c.price*c.amount))else none)=_
   rw[if_neg]
   intro z
   have z':c.up=true:=by simpa using z
   exact c1 (decide_eq_true (by rw[z'];rfl))
 rw[List.length_map,hlen,vals_rangeF (fun c=>c.up==true) (fun c=>c.price*c.amount)]at hLD1
 refine⟨D1,((cs.filter fun c=>c.p==p).filter fun c=>c.up==true).map fun c=>c.price*c.amount,rfl,bh.of hLD1,?_⟩
 refine⟨_,rfl,l,rfl,⟨_,bh.of (e2.lst hl)⟩,?_⟩
 refine dJ TB (bh.of (e2.lst hl)) hsz (fun i=>((cs.filter fun c=>c.p==p)[i]?).bind fun c=>if (c.up==false)=true then some (V.int (c.price*c.amount))else none) (fun i x hx H' e R Nn h1 h2=>?_) fun D2 H3 e3 hD2 hLD2=>?_
 ·rw[List.getElem?_map]at hx
  obtain⟨ai,hai,rfl⟩:=Option.map_eq_some_iff.mp hx
  obtain⟨c,hc,dr,hr'⟩:=dU hres hai
  rw[hc]at h1 h2
  have hr2:H' ai=some (.ins A.res dr (resF c)):=(e2.trans e).ins hr'
  refine⟨rfl,_,rfl,ai,A.res,dr,_,_,rfl,hr2,T.cE,T.nE _ (by decide),rfl,rfl,_,rfl,aP (fun c1=>?_) fun c1=>?_⟩
  ·have c1':c.up=false:=fl_inj.mp (of_decide_eq_true c1)
   refine⟨_,rfl,ai,A.res,dr,_,_,rfl,hr2,T.cE,T.nE _ (by decide),rfl,_,rfl,ai,A.res,dr,_,_,rfl,hr2,T.cE,T.nE _ (by decide),rfl,_,_,rfl,rfl,price_mul (hok c (List.mem_of_getElem? hc)),h1 _ _ ?_ (.refl _)⟩
   show(if (c.up==false)=true then some (V.int (c.price*c.amount))else none)=_
   rw[if_pos (by simp[c1'])]
  ·refine h2 _ ?_ (.refl _)
   show(if (c.up==false)=true then some (V.int (c.price*c.amount))else none)=_
   rw[if_neg]
   intro z
   have z':c.up=false:=by simpa using z
   exact c1 (decide_eq_true (by rw[z'];rfl))
 rw[List.length_map,hlen,vals_rangeF (fun c=>c.up==false) (fun c=>c.price*c.amount)]at hLD2
 refine⟨D2,((cs.filter fun c=>c.p==p).filter fun c=>c.up==false).map fun c=>c.price*c.amount,rfl,bh.of hLD2,?_⟩
 refine⟨_,rfl,_,rfl,_,_,rfl,rfl,?_⟩
 have kk:=k H3 ((e1.trans e2).trans e3)
 rw[QM.reserve_eq,←ups_eq,←downs_eq]at kk
 exact kk
def spHn(A:dz)(τ:Hp→Prop):Sp:=fun vs H Q _=>∃a r n g cs,vs=[.ref a]∧Now A H a r n g cs∧ni τ ((List.range n).map fun i=>V.int ((i+1:Nat):Int)) H Q
theorem ok_hand_numbers(TB:bD τ)(T:Txt K mg A)(D:aF K mg "hand_numbers" iW):Has P w K mg base 1 "hand_numbers" ["now"] (spHn A τ):=by
 refine Has.of D sc_hand_numbers bd_hand_numbers fun _ _ _ _ _ H vs Q E hr h=>?_
 obtain⟨a,r,n,g,cs,rfl,N,k⟩:=h
 refine⟨_,(au (aD (pe_callTy (call_list_rng rfl) rfl T.b_list L2.boot_list (aj (pe_rangeV2 rfl T.b_range (aj aH (aj (bR jT (aJ (pv 0) rfl) aH) ak))) ak)))),?_⟩
 have ⟨dx,ra,d,l,tl,ents,as,N0⟩:=N
 have hn:=N0.wf.nn
 refine⟨_,rfl,a,A.now,dx,_,_,rfl,N0.ob,T.cN,T.nN _ (by decide),rfl,_,_,rfl,rfl,_,_,rfl,fun r1 hr1=>?_⟩
 refine⟨r1,_,_,rfl,ao,⟨by omega,by omega,by omega,by omega⟩,by omega,fun l1 hl1=>?_⟩
 refine k _ l1 ((Ext.new TB hr1).then TB hl1) ?_
 rw[ao]
 have e1:((n:Int)+1 - 1).toNat=n:=by omega
 rw[e1]
 have e2:(fun k:Nat=>V.int (1+(k:Int)))=fun i:Nat=>V.int ((i+1:Nat):Int):=by funext i;congr 1;omega
 rw[e2]
theorem filterMap_some{α β:Type}(f:α→β):∀(l:List α),l.filterMap (fun x=>some (f x))=l.map f
 |[]=>rfl
 |a::l=>by rw[List.filterMap_cons,List.map_cons,←filterMap_some f l]
def bM(r:Vbemaj.Rules)(n:Nat)(g:gT)(cs:List Vbemaj.Called):List Int:=(List.range n).map fun i=>Vbemaj.gross r (g 3 0 0) cs (handOf n g cs (i+1))
theorem none_told{n:Nat}{g:gT}{ents:List (List Key×Int)}{cs:List Vbemaj.Called}{p:Nat}(E:j6 n g ents)(hp:InN n p)(h:inV (.int (p:Nat)) (toldV ents cs)=false):(∀kind w,QM.Valid n kind p w→g kind p w=0)∧(cs.filter fun c=>c.p==p)=[]:=by
 unfold inV at h
 rw[List.any_eq_false]at h
 constructor
 ·intro kind w v
  by_cases z:g kind p w=0
  ·exact z
  ·exfalso
   have m:=E.all kind p w v z
   refine h (k1 (lC kind p w)) (List.mem_append_left _ (List.mem_map.mpr ⟨_,m,rfl⟩)) ?_
   unfold QM.Valid at v
   have hp1:=hp.1
   rcases kind with _|_|_|_|_|kind <;> (try omega) <;> simp[k1,lC,kV,eqV]
 ·rw[List.filter_eq_nil_iff]
  intro c hc z
  have e:c.p=p:=by simpa using z
  refine h (V.int (c.p:Nat)) (List.mem_append_right _ (List.mem_map.mpr ⟨c,hc,rfl⟩)) ?_
  rw[e]
  simp[eqV]
theorem gross_none{r:Vbemaj.Rules}{n:Nat}{g:gT}{ents:List (List Key×Int)}{cs:List Vbemaj.Called}{p:Nat}(E:j6 n g ents)(hp:InN n p)(h:inV (.int (p:Nat)) (toldV ents cs)=false):Vbemaj.gross r (g 3 0 0) cs (handOf n g cs p)=0:=by
 obtain⟨h1,h2⟩:=none_told E hp h
 have hm:mSum n g p=0:=by
  rw[←mSum_eq (ws:=[]) List.nodup_nil (fun w hw=>nomatch hw) fun w hw _=>?_]
  ·rfl
  ·by_cases e:p=w
   ·subst e;exact E.off p
   ·exact h1 4 w (.inr (.inr ⟨rfl,hp.1,hp.2,hw.1,hw.2,e⟩))
 have hi:Vbemaj.imbalance (handOf n g cs p)=0:=by
  unfold Vbemaj.imbalance handOf pos
  simp only[h2,hm,h1 0 0 (val0 hp (by decide)),h1 1 0 (val0 hp (by decide))]
  rfl
 have hc:(handOf n g cs p).calls=[]:=h2
 unfold Vbemaj.gross
 rw[hi,hc]
 unfold Vbemaj.owes Vbemaj.reserve
 simp
theorem told_flat{ents:List (List Key×Int)}{cs:List Vbemaj.Called}:(toldV ents cs).all flatV=true:=by
 rw[List.all_eq_true]
 intro v hv
 rcases List.mem_append.mp hv with hv|hv
 ·obtain⟨e,_,rfl⟩:=List.mem_map.mp hv
  show flatV (k1 e.1)=true
  unfold k1
  cases e.1.getD 1 (.inl 0) <;> rfl
 ·obtain⟨c,_,rfl⟩:=List.mem_map.mp hv
  rfl
def spGo(A:dz)(τ:Hp→Prop):Sp:=fun vs H Q _=>∃a x r n g cs p,vs=[.ref a,.int (p:Nat),.ref x]∧Now A H a r n g cs∧nU A H x r (g 3 0 0) cs∧InN n p∧Gives τ (.int (Vbemaj.gross r (g 3 0 0) cs (handOf n g cs p))) H Q
theorem ok_gross_of(T:Txt K mg A)(D:aF K mg "gross_of" oY)(cD:Has P w K mg base 6 "owed_for_imbalance" ["now","hand","prices"] (spOwI A τ))(cT:Has P w K mg base 2 "owed_for_reserve" ["now","hand"] (spOwR A τ)):
  Has P w K mg base 7 "gross_of" ["now","hand","prices"] (spGo A τ):=by
 refine Has.of D sc_gross_of bd_gross_of fun _ _ _ _ _ H vs Q E hr h=>?_
 obtain⟨a,x,r,n,g,cs,p,rfl,N,hx,hp,k⟩:=h
 have ⟨dx,ra,d,l,tl,ents,as,N0⟩:=N
 refine⟨_,(aq (aZ (aO op_notIn_seq (pv 1) (aJ (pv 0) rfl) (by first|exact aV _|rfl)) (au (aD aH)) aM) (au (aD (bR jT (aC cD hr (aj (pv 0) (aj (pv 1) (aj (pv 2) ak)))) (aC cT hr (aj (pv 0) (aj (pv 1) ak))))))),?_⟩
 refine⟨_,rfl,_,rfl,a,A.now,dx,_,_,rfl,N0.ob,T.cN,T.nN _ (by decide),rfl,tl,_,rfl,.inl (bh.of N0.tt),rfl,told_flat,_,rfl,aP (fun c1=>?_) fun c1=>?_⟩
 ·have c1':inV (.int (p:Nat)) (toldV ents cs)=false:=by simpa using c1
  rw[gross_none N0.ok hp c1']at k
  exact k H (.refl H)
 ·refine⟨_,rfl,_,rfl,_,rfl,a,x,r,n,g,cs,p,rfl,N,hx,hp,fun H4 e4=>?_⟩
  refine⟨_,rfl,_,rfl,a,r,n,g,cs,p,rfl,N.ext e4,fun H5 e5=>?_⟩
  exact⟨_,_,rfl,rfl,k _ (e4.trans e5)⟩
def spGr(A:dz)(τ:Hp→Prop):Sp:=fun vs H Q _=>∃a r n g cs,vs=[.ref a]∧Now A H a r n g cs∧ni τ ((bM r n g cs).map V.int) H Q
theorem ok_gross_of_hands(TB:bD τ)(T:Txt K mg A)(D:aF K mg "gross_of_hands" eU)(dZ:Has P w K mg base 5 "prices_of" ["now"] (spPof A τ))(h_gross_of:Has P w K mg base 7 "gross_of" ["now","hand","prices"] (spGo A τ))(bZ:Has P w K mg base 1 "hand_numbers" ["now"] (spHn A τ)):
  Has P w K mg base 8 "gross_of_hands" ["now"] (spGr A τ):=by
 refine Has.of D fW bd_gross_of_hands fun _ _ _ _ _ H vs Q E hr h=>?_
 obtain⟨a,r,n,g,cs,rfl,N,k⟩:=h
 have hn:n≤32:=by obtain⟨dx,ra,d,l,tl,ents,as,N0⟩:=N;exact N0.wf.nn
 refine⟨_,(aq (bw (i:=1) fW.nd rfl (Or.inr rfl) (aC dZ hr (aj (pv 0) ak))) (au (aD (fG (own:=[("hand",2)]) rfl fW.nd (bY (aC bZ hr (aj (pv 0) ak))) (show cV ["now","prices","hand"] (aG eU) _ _ from⟨rfl,by decide +kernel,by decide +kernel,by decide +kernel,by decide +kernel⟩) (fun _ _ _ _ _=>(aX (i:=2) fW.nd rfl (Or.inl rfl))) (fun _ _ _ _ _=>dD) (fun _ _ _ _ _=>(aC h_gross_of hr (aj (pv 0) (aj (pv 2) (aj (pv 1) ak))))))))),?_⟩
 refine⟨_,rfl,a,r,n,g,cs,rfl,N,fun H1 x e1 hx=>?_⟩
 refine⟨_,rfl,a,r,n,g,cs,rfl,N.ext e1,fun H2 l e2 hl=>?_⟩
 have x2:=e1.trans e2
 refine⟨l,rfl,⟨_,bh.of hl⟩,?_⟩
 refine dJ TB (bh.of hl) (by rw[List.length_map,List.length_range,sizeLine_eq];omega) (fun i=>some (V.int (Vbemaj.gross r (g 3 0 0) cs (handOf n g cs (i+1))))) (fun i y hy H' e R Nn h1 h2=>?_) fun D1 H3 e3 hD1 hL1=>?_
 ·rw[List.getElem?_map]at hy
  obtain⟨i',hi',rfl⟩:=Option.map_eq_some_iff.mp hy
  obtain⟨hlt,rfl⟩:=List.getElem?_eq_some_iff.mp hi'
  rw[List.getElem_range]
  have hlt':i<n:=by simpa using hlt
  refine⟨rfl,_,rfl,_,rfl,_,rfl,a,x,r,n,g,cs,i+1,rfl,(N.ext x2).ext e,(hx.ext e2).ext e,⟨by omega,by omega⟩,fun H4 e4=>?_⟩
  exact h1 _ _ rfl e4
 ·rw[List.length_map,List.length_range,filterMap_some]at hL1
  refine k _ D1 (x2.trans e3) ?_
  rw[hL1]
  unfold bM
  rw[List.map_map]
  rfl
def IsDefL(K:PySem.W.Frag)(mg:Str→Option Value)(base:Heap)(x:Str)(st:Stmt)(tb:Addr):Prop:=
 ∃(f:Addr) (fd:FuncData) (c:Addr) (oc:Value) (od:Option Addr) (kV doc pm:Value) (an:Option Addr) (ct:Value) (osl:Array (Option Value)),mg x=some (.ref f)∧
  fd=PySem.W.fnOf x x (gb st) (dO st) (aG st) .none kV doc pm an (.ref c) ct∧K.lookup f=some ⟨oc,od,.func fd,osl⟩∧PySem.W.codeIn K (.ref c) x=true∧PySem.W.keepIn K (.ref f)=true∧mz mg base c tb
theorem Has.ofL{P:Program}{w:World}{K:PySem.W.Frag}{mg:Str→Option Value}{base:Heap}{x:Str}{st:Stmt}{N ps:List Str}{k:Nat}{sp:Sp}{tb:Addr}(D:IsDefL K mg base x st tb)(S:oU N ps (aG st))
  (hb:∀(kV doc pm:Value) (an:Option Addr) (cdv ct:Value) (us:List Value),us.length=ps.length→bindArgs (PySem.W.fnOf x x (gb st) (dO st) (aG st) .none kV doc pm an cdv ct) ⟨us,[]⟩=pure (ps.zip us))
  (hbody:∀(f c:Addr) (A:Around) (outer:List Env) (s:Shared) (H:Hp) (vs:List V) (Q:VK) (E:XK),mz mg base c tb→fV k (A.deeper (envOfC x (aG st) s.heap.objs.size f (.ref c)))→sp vs H Q E→
   ∃t,PSs (cxOf CX0 P w K mg base N x (aG st) f (.ref c) A outer s H E).nox (dO st) t∧t { nx:=fun _ H'=>Q .non H',rt:=Q } (start N vs) H) (len:∀vs H Q E,sp vs H Q E→vs.length=ps.length:=by intro vs H Q E h;repeat (first|(obtain⟨rfl,_⟩:=h;rfl)|obtain⟨_,h⟩:=h)):Has P w K mg base (k+1) x ps sp:=by
 obtain⟨f,fd,c,oc,od,kV,doc,pm,an,ct,osl,hm,rfl,lk,hcd,kp,L⟩:=D
 refine⟨f,_,hm,kp,.all (hb kV doc pm an _ ct),fn_of lk hcd S len fun A outer s H vs Q E hr hsp=>?_⟩
 obtain⟨t,h,q⟩:=hbody f c A outer s H vs Q E L hr hsp
 exact⟨t,h.nox,q⟩
theorem cut_take(xs:List V)(m:Nat):cutV xs none (some ((m:Nat):Int))=xs.take m:=by
 unfold cutV
 rw[HT.sIx_none,HT.sIx_nat,List.drop_zero,Nat.sub_zero,←List.take_take,List.take_length]
abbrev lpS:Pos:={ line:=13,col:=45,endLine:=13,endCol:=71 }
abbrev lqS:Str:=("shared_above"++".<locals>.")++"<lambda>"
abbrev lpM:Pos:={ line:=262,col:=38,endLine:=262,endCol:=93 }
abbrev lqM:Str:=("ask_merit"++".<locals>.")++"<lambda>"
structure Tb where
 s:Addr
 m:Addr
def aQ(tb:Tb)(H:Hp):Prop:=fj tb.s lpS lqS H∧fj tb.m lpM lqM H∧tb.s≠tb.m
theorem dF{tb:Tb}:bD (aQ tb) where
 mono:=fun H H' k x=>⟨tab_ok.mono H H' k x.1,tab_ok.mono H H' k x.2.1,x.2.2⟩
 soft:=fun H a o o' h so x=>⟨tab_ok.soft H a o o' h so x.1,tab_ok.soft H a o o' h so x.2.1,x.2.2⟩
theorem tab_other{P P':Addr}{l l':Pos}{q q':Str}{H H':Hp}(x:fj P l q H)(y:fj P' l' q' H)(n:P≠P')(k:∀b o,H b=some o→b≠P→H' b=some o):fj P' l' q' H':=by
 obtain⟨ps,h1,_⟩:=x
 obtain⟨ps',h2,h3,h4⟩:=y
 refine⟨ps',k _ _ h2 n.symm,h3,?_⟩
 rcases h4 with h4|⟨c,h4,h5⟩
 ·exact .inl h4
 ·exact .inr ⟨c,h4,k _ _ h5 fun z=>by rw[z,h1]at h5;cases h5⟩
theorem Ext.srt{τ:Hp→Prop}{P:Addr}{H H0 H2:Hp}(x:Ext τ H H0)(t0:∃ps,H0 P=some (.tbl ps))(k:∀b o,H0 b=some o→b≠P→H2 b=some o)(t2:τ H2):Ext τ H H2:=by
 refine⟨fun b o e n=>k b o (x.keep b o e n) fun z=>?_,fun _=>t2⟩
 subst z
 obtain⟨ps,h⟩:=t0
 rw[x.keep _ o e n]at h
 exact n ps (Option.some.inj h)
variable{tb:Tb}
def spShA(tb:Tb):Sp:=fun vs H Q _=>∃l whole ws,vs=[.int (whole:Nat),.ref l]∧H l=some (.lst (ws.map fun(z:Nat)=>V.int z))∧ws.length≤32∧(∀z∈ws,z≤1000000000)∧ws.sum≠0∧aQ tb H∧
 ni (aQ tb) ((Vbemaj.split whole ws).map fun(z:Nat)=>V.int z) H Q
theorem ok_shared_above(T:Txt K mg A)(D:IsDefL K mg base "shared_above" cZ tb.s):Has P w K mg base 1 "shared_above" ["whole","weights"] (spShA tb):=by
 refine Has.ofL D bO bd_shared_above fun f c A' _ s H vs Q E hL hr h=>?_
 obtain⟨l,whole,ws,rfl,hl,hlen,hmax,hsum,htab,k⟩:=h
 have hroom:(A'.deeper (envOfC "shared_above" (aG cZ) s.heap.objs.size f (.ref c))).depth<recursionLimit:=by have:=hr.dp;omega
 refine⟨_,(aq (bw (i:=2) bO.nd rfl (Or.inr rfl) (aU (cC rfl) rfl T.jK L2.boot_sum (aj (pv 1) ak))) (aq (lH (i:=3) (own:=[("weight",4)]) rfl bO.nd rfl rfl rfl (bY (pv 1)) (show cV ["whole","weights","total","shares","weight","remainders","lacking","places","place"] (aG cZ) _ _ from⟨rfl,by decide +kernel,by decide +kernel,by decide +kernel,by decide +kernel⟩) (fun _ _ _ _ _=>(aX (i:=4) bO.nd rfl (Or.inl rfl))) (fun _ _ _ _ _=>dD) (fun _ _ _ _ _=>(bR op_fdivB (bR op_mul (pv 0) (pv 4)) (pv 2)))) (aq (bw (i:=5) bO.nd rfl (Or.inr rfl) (fG (own:=[("weight",4)]) rfl bO.nd (bY (pv 1)) (show cV ["whole","weights","total","shares","weight","remainders","lacking","places","place"] (aG cZ) _ _ from⟨rfl,by decide +kernel,by decide +kernel,by decide +kernel,by decide +kernel⟩) (fun _ _ _ _ _=>(aX (i:=4) bO.nd rfl (Or.inl rfl))) (fun _ _ _ _ _=>dD) (fun _ _ _ _ _=>(bR op_mod (bR op_mul (pv 0) (pv 4)) (pv 2))))) (aq (bw (i:=6) bO.nd rfl (Or.inl rfl) (bR lG (pv 0) (aU (cC rfl) rfl T.jK L2.boot_sum (aj (pv 3) ak)))) (aq (bw (i:=7) bO.nd rfl (Or.inl rfl) (pe_sortedNeg (i:=5) (x:="remainders") (y:="at") rfl hroom hL rfl rfl T.b_sorted rfl T.b_range rfl rfl (aj (aU bL rfl T.iJ PySem.boot_len (aj (pv 1) ak)) ak) ⟨rfl,rfl,rfl,by decide +kernel,rfl,rfl,by decide +kernel,rfl,rfl,rfl,fun _ _ _ _ _ _=>rfl⟩ rfl)) (aq (ps_for PassesOwn.never rfl (bY (pe_slice sl_list (pv 7) po_none (po_some (pv 6)))) (aX (i:=8) bO.nd rfl (Or.inl rfl)) (au (ps_asg (bR jT (bU bf (pv 3) (pv 8) (fun _ _=>rfl)) aH) (pg_sub (pv 3) (pv 8) set_list)))) (au (aD (pv 3))))))))),?_⟩
 have TB:bD (aQ tb):=dF
 have hsz:(ws.map fun(z:Nat)=>V.int z).length<sizeLine:=by rw[List.length_map,sizeLine_eq];omega
 have ew:(ws.map fun(z:Nat)=>V.int z)=(ws.map fun(z:Nat)=>(z:Int)).map V.int:=by rw[List.map_map];rfl
 have hpos:(0:Int)<((ws.sum:Nat):Int):=by omega
 have hbig:ws.sum≤32*1000000000:=by
  have h1:=sum_le (l:=ws.map fun(z:Nat)=>(z:Int)) (b:=1000000000) (fun x hx=>by obtain⟨z,hz,rfl⟩:=List.mem_map.mp hx;have:=hmax z hz;omega) (by decide)
  rw[QM.jL,List.length_map]at h1
  have h3:((ws.length:Nat):Int)*1000000000≤32*1000000000:=by omega
  omega
 refine⟨_,rfl,l,ws.map fun(z:Nat)=>(z:Int),rfl,bh.of (by rw[←ew];exact hl),?_⟩
 rw[QM.jL]
 refine⟨_,rfl,l,rfl,⟨_,bh.of hl⟩,?_⟩
 refine dJ TB (bh.of hl) hsz (fun i=>some (V.int ((whole*Vbemaj.nth ws i/ws.sum:Nat):Int))) (fun i x hx H' e R Nn h1 h2=>?_) fun D1 H1 e1 hD1 hL1=>?_
 ·rw[List.getElem?_map]at hx
  obtain⟨z,hz,rfl⟩:=Option.map_eq_some_iff.mp hx
  have hz':=hmax z (List.mem_of_getElem? hz)
  have en:Vbemaj.nth ws i=z:=by unfold Vbemaj.nth;rw[hz];rfl
  rw[en]at h1
  refine⟨rfl,_,rfl,_,rfl,_,_,rfl,rfl,.inr (by omega),_,rfl,_,_,rfl,rfl,⟨by omega,by omega⟩,h1 _ _ ?_ (.refl _)⟩
  congr 2
 rw[List.length_map,filterMap_some]at hL1
 refine⟨_,rfl,l,rfl,⟨_,bh.of (e1.lst hl)⟩,?_⟩
 refine dJ TB (bh.of (e1.lst hl)) hsz (fun i=>some (V.int ((whole*Vbemaj.nth ws i%ws.sum:Nat):Int))) (fun i x hx H' e R Nn h1 h2=>?_) fun D2 H2 e2 hD2 hL2=>?_
 ·rw[List.getElem?_map]at hx
  obtain⟨z,hz,rfl⟩:=Option.map_eq_some_iff.mp hx
  have hz':=hmax z (List.mem_of_getElem? hz)
  have en:Vbemaj.nth ws i=z:=by unfold Vbemaj.nth;rw[hz];rfl
  rw[en]at h1
  refine⟨rfl,_,rfl,_,rfl,_,_,rfl,rfl,.inr (by omega),_,rfl,_,_,rfl,rfl,hpos,h1 _ _ ?_ (.refl _)⟩
  congr 2
 rw[List.length_map,filterMap_some]at hL2
 have x2:=e1.trans e2
 have es:((List.range ws.length).map fun i=>V.int ((whole*Vbemaj.nth ws i/ws.sum:Nat):Int))=((List.range ws.length).map fun i=>((whole*Vbemaj.nth ws i/ws.sum:Nat):Int)).map V.int:=by rw[List.map_map];rfl
 have es2:((List.range ws.length).map fun i=>((whole*Vbemaj.nth ws i/ws.sum:Nat):Int)).sum=(((ws.map fun w=>whole*w/ws.sum).sum:Nat):Int):=by
  rw[←QM.jL,List.map_map]
  congr 1
  apply List.ext_getElem?
  intro i
  rw[List.getElem?_map,List.getElem?_map]
  by_cases hi:i<ws.length
  ·rw[List.getElem?_range hi,List.getElem?_eq_getElem hi]
   unfold Vbemaj.nth
   simp[hi]
  ·rw[List.getElem?_eq_none (by rw[List.length_range];omega),List.getElem?_eq_none (by omega)]
   rfl
 have hle:=QM.div_sum_le' (whole:=whole) hsum
 refine⟨_,rfl,_,rfl,D1,_,rfl,bh.of (by rw[e2.lst hL1,es]),_,_,rfl,rfl,?_⟩
 rw[es2]
 let rs:List Int:=(List.range ws.length).map fun i=>((whole*Vbemaj.nth ws i%ws.sum:Nat):Int)
 have er:((List.range ws.length).map fun i=>V.int ((whole*Vbemaj.nth ws i%ws.sum:Nat):Int))=rs.map V.int:=by rw[List.map_map];rfl
 rw[er]at hL2
 have hrl:rs.length=ws.length:=by rw[List.length_map,List.length_range]
 refine⟨_,rfl,l,_,rfl,.inl (bh.of (x2.lst hl)),_,rfl,by omega,by rw[List.length_map];omega,fun rg hr0=>?_⟩
 refine⟨rg,H2,ws.length,D2,rs,rfl,hr0,by rw[List.length_map],by omega,rfl,hL2,hrl,(x2.tb htab).1,fun D3 ns' H3 hD3 hk3 t3 hL3 hp hs hf=>?_⟩
 have x3:Ext (aQ tb) H H3:=Ext.srt x2 (let⟨ps,h,_⟩:=(x2.tb htab).1;⟨ps,h⟩) hk3 ⟨t3,tab_other (x2.tb htab).1 (x2.tb htab).2.1 (x2.tb htab).2.2 hk3,(x2.tb htab).2.2⟩
 have n1:∀{b:Addr}{xs:List V},H2 b=some (.lst xs)→b≠tb.s:=fun{b xs} h z=>by
  obtain⟨ps,h',_⟩:=(x2.tb htab).1
  rw[z,h']at h;cases h
 obtain⟨ps,rfl,hp',hs'⟩:=QM.places_of (key:=jm rs) (r:=fun k=>whole*Vbemaj.nth ws k%ws.sum) (fun i hi=>by
  unfold jm
  rw[Int.toNat_natCast,List.getD_eq_getElem?_getD,List.getElem?_map,List.getElem?_range hi]
  rfl) hp hs hf
 have hsp:=QM.split_eq (whole:=whole) hsum hp' hs'
 have nd:ps.Nodup:=(hp'.nodup_iff).mpr List.nodup_range
 have hin:∀z∈ps,z<ws.length:=fun z hz=>List.mem_range.mp (hp'.mem_iff.mp hz)
 generalize hm:whole - (ws.map fun w=>whole*w/ws.sum).sum=m at hsp
 have em:((whole:Int) - (((ws.map fun w=>whole*w/ws.sum).sum:Nat):Int))=((m:Nat):Int):=by omega
 refine⟨_,rfl,_,rfl,_,rfl,D3,_,rfl,bh.of hL3,fun D4 hD4=>?_⟩
 rw[em,cut_take]
 refine⟨D4,rfl,⟨_,bh.of ao⟩,?_⟩
 have hD14:D1≠D4:=aL (hk3 D1 _ (e2.lst hL1) (n1 (e2.lst hL1))) hD4
 let bs:Nat→Int:=fun i=>((whole*Vbemaj.nth ws i/ws.sum:Nat):Int)
 have hx4:Ext (aQ tb) H (upd H3 D4 (.lst ((((ps.map fun(k:Nat)=>(k:Int)).map V.int).take m)))):=x3.then TB hD4
 refine for_list (xs:=((ps.map fun(k:Nat)=>(k:Int)).map V.int).take m) (fun i σ Hi=>σ.length=9∧σ[3]?=some (some (.ref D1))∧Ext (aQ tb) H Hi∧Hi D1=some (.lst ((QM.bumped bs ws.length ((ps.take m).take i)).map V.int))∧Hi D4=some (.lst (((ps.map fun(k:Nat)=>(k:Int)).map V.int).take m)))
  ⟨rfl,rfl,hx4,?_,ao⟩ (fun i σ Hi _ h=>bh.of h.2.2.2.2) (fun i x σ Hi hx h=>?_) fun σ Hi h=>?_
 ·rw[aB hD14,hk3 D1 _ (e2.lst hL1) (n1 (e2.lst hL1)),es,List.take_zero,QM.bumped_nil]
 ·obtain⟨g1,g2,g3,g4,g5⟩:=h
  rw[List.getElem?_take]at hx
  by_cases him:i<m
  ·rw[if_pos him,List.getElem?_map,List.getElem?_map]at hx
   obtain⟨z,hz,rfl⟩:=Option.map_eq_some_iff.mp hx
   obtain⟨q,hq,rfl⟩:=Option.map_eq_some_iff.mp hz
   have hqm:q∈ps:=List.mem_of_getElem? hq
   have hql:=hin q hqm
   have hqt:(ps.take m)[i]?=some q:=by rw[List.getElem?_take,if_pos him,hq]
   have hnin:q∉(ps.take m).take i:=by
    intro z
    have nd':((ps.take m).take i++[q]).Nodup:=by
     rw[←fY hqt]
     exact (nd.sublist (List.take_sublist _ _)).sublist (List.take_sublist _ _)
    exact (List.nodup_append.mp nd').2.2 q z q (List.mem_singleton.mpr rfl) rfl
   have h3:(σ.set 8 (some (V.int ((q:Nat):Int))))[3]?=some (some (.ref D1)):=by rw[List.getElem?_set_ne (by decide)];exact g2
   have h8:(σ.set 8 (some (V.int ((q:Nat):Int))))[8]?=some (some (V.int ((q:Nat):Int))):=by rw[List.getElem?_set_self (by rw[g1];decide)]
   have hb:((QM.bumped bs ws.length ((ps.take m).take i)).map V.int)[q]?=some (V.int (bs q)):=by
    rw[List.getElem?_map,QM.oV hql,if_neg hnin]
    simp
   have hix:ixN ((QM.bumped bs ws.length ((ps.take m).take i)).map V.int).length ((q:Nat):Int)=some q:=by
    rw[List.length_map,QM.jz]
    unfold ixN
    rw[if_pos (by omega),if_pos (by omega),Int.toNat_natCast]
   refine⟨_,h3,_,h8,D1,_,_,_,rfl,rfl,bh.of g4,mC hb,_,_,rfl,rfl,_,h3,_,h8,D1,_,_,q,rfl,rfl,g4,hix,?_⟩
   refine⟨by rw[List.length_set];exact g1,h3,?_,?_,by rw[aB hD14.symm];exact g5⟩
   ·exact g3.over TB hD1 g4 True.intro
   ·rw[ao,←List.map_set,QM.bumped_step hql hnin,fY hqt]
  ·rw[if_neg him]at hx
   cases hx
 ·obtain⟨g1,g2,g3,g4,g5⟩:=h
  refine⟨_,g2,k Hi D1 g3 ?_⟩
  rw[g4]
  have el:(((ps.map fun(k:Nat)=>(k:Int)).map V.int).take m).length=(ps.take m).length:=by rw[List.length_take,List.length_take,List.length_map,List.length_map]
  rw[el,List.take_length,hsp,List.map_map]
  rfl
end Q
namespace L2
open PySem PySem.Spec PyProof.Rows
theorem pg_tupK{X:Cx}{K:PySem.W.Frag}{pos:Pos}{es:List Expr}{k:Nat}{t:TGs}{n:Nat}(hK:X.K=K)(hc:X.calm=true)(h:PGs X es t)
  (hn:(assignEach es X.env).length=n:=by rfl) (hst:(assignEach es X.env).findIdx? (·.1)=none:=by rfl):PG X (.Tuple es k pos) (gTup K n t):=by subst hK;exact pg_tup hc h hn hst
section
variable{τ:Hp→Prop}
theorem lc_zipS{K:PySem.W.Frag}{a b:Addr}{xs ys:List V}{g:TG}{tt:TT}{te:TE}{vs:List Nat}{σ:St}{H1:Hp}{Qd:Addr→Hp→Prop}(T:bD τ)(ha:bh K H1 a xs)(hb:bh K H1 b ys)(hl:xs.length=ys.length)(sz:xs.length<sizeLine)(out:Nat→Option V)
  (hs:∀(i:Nat) (x y:V) (q:Addr),xs[i]?=some x→ys[i]?=some y→∀H',Ext τ H1 H'→H' q=some (.tup [x,y])→∀(R:V→Hp→Prop) (N:Hp→Prop),(∀v H4,out i=some v→Ext τ H' H4→R v H4)→(∀H3,out i=none→Ext τ H' H3→N H3)→
   g (.ref q) (wipe σ vs) H' fun σ2 H2=>wipe σ2 vs=wipe σ vs∧tt σ2 H2 fun b H3=>if b=true then te σ2 H3 R else N H3)
  (hQ:∀D H',Ext τ H1 H'→H1 D=none→H' D=some (.lst ((List.range xs.length).filterMap out))→Qd D H'):
  ∀D,H1 D=none→∃W:Nat→Nat→Hp→Prop,(∃m,W 0 m (upd H1 D (.lst [])))∧∀i m H,W i m H→
   ((ItzS K a b).stop i H∧Qd D H)∨((ItzS K a b).go i H∧∃Nx:Hp→Prop,(∀H',Nx H'→∃m',m'<m∧W (i+1) m' H')∧∀x H',(ItzS K a b).yld i H x H'→g x (wipe σ vs) H' fun σ2 H2=>wipe σ2 vs=wipe σ vs∧tt σ2 H2 fun b H3=>
    if b=true then te σ2 H3 fun y H4=>∃acc,H4 D=some (.lst acc)∧acc.length<sizeLine∧Nx (upd H4 D (.lst (acc++[y])))else Nx H3):=
 lc_it (J:=ItzS K a b) T sz out (fun i v H=>∃x y q,xs[i]?=some x∧ys[i]?=some y∧v=.ref q∧H q=some (.tup [x,y]))
  (fun i H hi e=>⟨xs,ys,xs[i],ys[i]'(by omega),e.seq ha,e.seq hb,List.getElem?_eq_getElem hi,List.getElem?_eq_getElem (by omega)⟩) (fun H e=>⟨xs,ys,e.seq ha,e.seq hb,Nat.le_refl _,by omega⟩)
  (fun i H x H' hi e y=>by
   obtain⟨q,u,v,rfl,h1,rfl,h2,h3⟩:=y
   exact⟨.new T h1,u,v,q,h2 xs (e.seq ha),h3 ys (e.seq hb),rfl,ao⟩)
  (fun i x hi H' e yl R N h1 h2=>by obtain⟨u,v,q,y1,y2,rfl,y3⟩:=yl;exact hs i u v q y1 y2 H' e y3 R N h1 h2) hQ
end
end L2
namespace Q
open PySem PySem.Spec PyProof.Rows L2
variable{P:Program}{w:World}{K:PySem.W.Frag}{mg:Str→Option Value}{base:Heap}{A:dz}{tb:Tb}
theorem natV(u:List Nat):(u.map fun(z:Nat)=>V.int z)=(u.map fun(z:Nat)=>(z:Int)).map V.int:=by rw[List.map_map];rfl
theorem range_int(L:List Int):(List.range L.length).filterMap (fun i=>(L[i]?).map V.int)=L.map V.int:=by
 have q:=bN (fun z=>some (V.int z)) L
 rw[filterMap_some]at q
 rw[←q]
 congr 1
 funext i
 cases L[i]? <;> rfl
theorem split_zero{x:Int}{l:List Nat}(h:l.sum=0):∀z∈Vbemaj.splitInt x l,z=0:=by
 have e:∀k,Vbemaj.split k l=l.map fun _=>0:=fun k=>by unfold Vbemaj.split;simp only[if_pos h]
 intro z hz
 unfold Vbemaj.splitInt at hz
 split at hz <;> rw[e]at hz <;> simp at hz <;> omega
theorem rep_zero:∀k:Nat,(List.replicate k [V.int 0]).flatten=List.replicate k (V.int 0)
 |0=>rfl
 |k+1=>by rw[List.replicate_succ,List.flatten_cons,rep_zero k,List.replicate_succ];rfl
theorem map_zero:∀{l:List Int},(∀z∈l,z=0)→l.map V.int=List.replicate l.length (V.int 0)
 |[],_=>rfl
 |a::l,h=>by rw[List.map_cons,map_zero fun z hz=>h z (List.mem_cons_of_mem _ hz),List.length_cons,List.replicate_succ,h a List.mem_cons_self]
def spSh(tb:Tb):Sp:=fun vs H Q _=>∃l whole ws,vs=[.int whole,.ref l]∧H l=some (.lst (ws.map fun(z:Nat)=>V.int z))∧ws.length≤32∧(∀z∈ws,z≤1000000000)∧aQ tb H∧
 ni (aQ tb) ((Vbemaj.splitInt whole ws).map V.int) H Q
theorem ok_shared(T:Txt K mg A)(D:aF K mg "shared" s_shared)(jf:Has P w K mg base 1 "shared_above" ["whole","weights"] (spShA tb)):Has P w K mg base 2 "shared" ["whole","weights"] (spSh tb):=by
 refine Has.of D sc_shared bd_shared fun _ _ _ _ _ H vs Q E hr h=>?_
 obtain⟨l,whole,ws,rfl,hl,hlen,hmax,htab,k⟩:=h
 have TB:bD (aQ tb):=dF
 refine⟨_,(aq (aZ (aO bT (aU (cC rfl) rfl T.jK L2.boot_sum (aj (pv 1) ak)) aH (aV _)) (au (aD (bR op_rep (aW (aj aH ak)) (aU bL rfl T.iJ PySem.boot_len (aj (pv 1) ak))))) aM) (aq (aZ (aO op_lt (pv 0) aH (aV _)) (au (aD (fG (own:=[("share",2)]) rfl sc_shared.nd (bY (aC jf hr (aj (nJ jk (pv 0)) (aj (pv 1) ak)))) (show cV ["whole","weights","share"] (aG s_shared) _ _ from⟨rfl,by decide +kernel,by decide +kernel,by decide +kernel,by decide +kernel⟩) (fun _ _ _ _ _=>(aX (i:=2) sc_shared.nd rfl (Or.inl rfl))) (fun _ _ _ _ _=>dD) (fun _ _ _ _ _=>(nJ jk (pv 2)))))) aM) (au (aD (aC jf hr (aj (pv 0) (aj (pv 1) ak))))))),?_⟩
 have ew2:=natV ws
 refine⟨_,rfl,l,_,rfl,bh.of (by rw[←ew2];exact hl),?_⟩
 rw[QM.jL]
 refine⟨rfl,_,rfl,aP (fun c0=>?_) fun c0=>?_⟩
 ·have c0':ws.sum=0:=by
   have:=of_decide_eq_true c0
   simp at this
   omega
  refine⟨by show 1≤sizeLine;rw[sizeLine_eq];decide,fun p1 hp1=>?_⟩
  have e1:Ext (aQ tb) H (upd H p1 (.lst [.int 0])):=.new TB hp1
  refine⟨_,rfl,l,_,rfl,.inl (bh.of (e1.lst hl)),p1,_,_,rfl,rfl,ao,by omega,by rw[List.length_map];omega,?_,fun p2 hp2=>?_⟩
  ·rw[List.length_map,sizeLine_eq]
   show 1*_≤_
   omega
  ·refine k _ p2 (e1.then TB hp2) ?_
   rw[ao,List.length_map]
   refine congrArg (fun z=>some (HO.lst z)) ?_
   have hz:=split_zero (x:=whole) c0'
   have hl2:(Vbemaj.splitInt whole ws).length=ws.length:=QM.fH ..
   rw[Int.toNat_natCast,rep_zero ws.length,←hl2,←map_zero hz]
 have hsum:ws.sum≠0:=fun z=>c0 (decide_eq_true (by rw[z];rfl))
 refine⟨_,rfl,_,_,rfl,rfl,_,rfl,aP (fun c1=>?_) fun c1=>?_⟩
 ·have c1':whole<0:=of_decide_eq_true c1
  unfold Vbemaj.splitInt at k
  rw[if_pos c1']at k
  refine⟨_,rfl,_,rfl,_,rfl,l,(-whole).toNat,ws,by rw[Int.toNat_of_nonneg (by omega)];rfl,hl,hlen,hmax,hsum,htab,fun H1 l1 e1 hl1=>?_⟩
  have hsz:((Vbemaj.split (-whole).toNat ws).map fun(z:Nat)=>V.int z).length<sizeLine:=by
   rw[List.length_map,sizeLine_eq]
   unfold Vbemaj.split
   simp only[if_neg hsum,List.length_map,List.length_range]
   omega
  refine⟨l1,rfl,⟨_,bh.of hl1⟩,?_⟩
  refine dJ TB (bh.of hl1) hsz (fun i=>((Vbemaj.split (-whole).toNat ws)[i]?).map fun(z:Nat)=>V.int (-(z:Int))) (fun i x hx H' e R Nn h1 h2=>?_) fun D1 H2 e2 hD hL=>?_
  ·rw[List.getElem?_map]at hx
   obtain⟨z,hz,rfl⟩:=Option.map_eq_some_iff.mp hx
   rw[hz]at h1
   exact⟨rfl,_,rfl,_,rfl,h1 _ _ rfl (.refl _)⟩
  ·refine k H2 D1 (e1.trans e2) ?_
   rw[hL,List.length_map]
   have q:=bN (fun(z:Nat)=>some (V.int (-(z:Int)))) (Vbemaj.split (-whole).toNat ws)
   rw[filterMap_some]at q
   rw[List.map_map]
   refine congrArg (fun z=>some (HO.lst z)) (Eq.trans ?_ q)
   congr 1
   funext i
   cases (Vbemaj.split (-whole).toNat ws)[i]? <;> rfl
 ·have c1':¬whole<0:=fun z=>c1 (decide_eq_true z)
  unfold Vbemaj.splitInt at k
  rw[if_neg c1',List.map_map]at k
  exact⟨_,rfl,_,rfl,l,whole.toNat,ws,by rw[Int.toNat_of_nonneg (by omega)];rfl,hl,hlen,hmax,hsum,htab,k⟩
def hnds(n:Nat)(g:gT)(cs:List Vbemaj.Called):List Vbemaj.Hand:=(List.range n).map fun i=>handOf n g cs (i+1)
def lE(n:Nat)(g:gT):List Nat:=(List.range n).map fun i=>(g 2 (i+1) 0).toNat
theorem wsOf_len{n:Nat}{g:gT}:(lE n g).length=n:=by unfold lE;rw[List.length_map,List.length_range]
def spWh(A:dz)(τ:Hp→Prop):Sp:=fun vs H Q _=>∃a r n g cs,vs=[.ref a]∧Now A H a r n g cs∧ni τ ((lE n g).map fun(z:Nat)=>V.int z) H Q
theorem ok_weights_of_hands{τ:Hp→Prop}(TB:bD τ)(T:Txt K mg A)(D:aF K mg "weights_of_hands" dI)(cu:Has P w K mg base 1 "entry" ["now","key"] (j9 A τ))(gA:Has P w K mg base 1 "weight_key" ["hand"] (spKey τ 2))
  (bZ:Has P w K mg base 1 "hand_numbers" ["now"] (spHn A τ)):Has P w K mg base 2 "weights_of_hands" ["now"] (spWh A τ):=by
 refine Has.of D gM bd_weights_of_hands fun _ _ _ _ _ H vs Q E hr h=>?_
 obtain⟨a,r,n,g,cs,rfl,N,k⟩:=h
 have hn:n≤32:=by obtain⟨dx,ra,d,l,tl,ents,as,N0⟩:=N;exact N0.wf.nn
 have hwt:∀p,0≤g 2 p 0∧g 2 p 0≤1000000000:=by obtain⟨dx,ra,d,l,tl,ents,as,N0⟩:=N;exact N0.wf.wt
 refine⟨_,(au (aD (fG (own:=[("hand",1)]) rfl gM.nd (bY (aC bZ hr (aj (pv 0) ak))) (show cV ["now","hand"] (aG dI) _ _ from⟨rfl,by decide +kernel,by decide +kernel,by decide +kernel,by decide +kernel⟩) (fun _ _ _ _ _=>(aX (i:=1) gM.nd rfl (Or.inl rfl))) (fun _ _ _ _ _=>dD) (fun _ _ _ _ _=>(aC cu hr (aj (pv 0) (aj (aC gA hr (aj (pv 1) ak)) ak))))))),?_⟩
 refine⟨_,rfl,a,r,n,g,cs,rfl,N,fun H2 lh e2 hlh=>?_⟩
 refine⟨lh,rfl,⟨_,bh.of hlh⟩,?_⟩
 refine dJ TB (bh.of hlh) (by rw[List.length_map,List.length_range,sizeLine_eq];omega) (fun i=>some (V.int ((g 2 (i+1) 0).toNat:Nat))) (fun i y hy H' e R Nn h1 h2=>?_) fun D1 H3 e3 hD1 hL1=>?_
 ·rw[List.getElem?_map]at hy
  obtain⟨i',hi',rfl⟩:=Option.map_eq_some_iff.mp hy
  obtain⟨hlt,rfl⟩:=List.getElem?_eq_some_iff.mp hi'
  rw[List.getElem_range]
  have hlt':i<n:=by simpa using hlt
  refine⟨rfl,_,rfl,_,rfl,i+1,rfl,fun H4 t4 e4 h4=>?_⟩
  refine⟨a,t4,r,n,g,cs,2,i+1,0,rfl,((N.ext e2).ext e).ext e4,h4,.inl (val0 ⟨by omega,by omega⟩ (by decide)),fun H5 e5=>?_⟩
  refine h1 _ _ ?_ (e4.trans e5)
  rw[Int.toNat_of_nonneg (hwt (i+1)).1]
 ·refine k H3 D1 (e2.trans e3) ?_
  rw[hL1,List.length_map,List.length_range,filterMap_some]
  unfold lE
  rw[List.map_map]
  rfl
def spRest(A:dz)(tb:Tb):Sp:=fun vs H Q _=>∃(a lg:Addr) (r:Vbemaj.Rules) (n:Nat) (g:gT) (cs:List Vbemaj.Called) (gs:List Int),vs=[.ref a,.ref lg]∧Now A H a r n g cs∧H lg=some (.lst (gs.map V.int))∧aQ tb H∧ni (aQ tb) ((Vbemaj.splitInt (-gs.sum) (lE n g)).map V.int) H Q
theorem ok_shares_of_rest(T:Txt K mg A)(D:aF K mg "shares_of_rest" gD)(cU:Has P w K mg base 2 "weights_of_hands" ["now"] (spWh A (aQ tb)))(nW:Has P w K mg base 2 "shared" ["whole","weights"] (spSh tb)):Has P w K mg base 3 "shares_of_rest" ["now","gross"] (spRest A tb):=by
 refine Has.of D sc_shares_of_rest bd_shares_of_rest fun _ _ _ _ _ H vs Q E hr h=>?_
 obtain⟨a,lg,r,n,g,cs,gs,rfl,N,hlg,htab,k⟩:=h
 have hn:n≤32:=by obtain⟨dx,ra,d,l,tl,ents,as,N0⟩:=N;exact N0.wf.nn
 have hwt:∀p,0≤g 2 p 0∧g 2 p 0≤1000000000:=by obtain⟨dx,ra,d,l,tl,ents,as,N0⟩:=N;exact N0.wf.wt
 refine⟨_,(au (aD (aC nW hr (aj (nJ jk (aU (cC rfl) rfl T.jK L2.boot_sum (aj (pv 1) ak))) (aj (aC cU hr (aj (pv 0) ak)) ak))))),?_⟩
 refine⟨_,rfl,lg,_,rfl,bh.of hlg,_,rfl,_,rfl,a,r,n,g,cs,rfl,N,fun H2 lw e2 hlw=>?_⟩
 refine⟨lw,_,lE n g,rfl,hlw,by rw[wsOf_len];exact hn,fun z hz=>?_,e2.tb htab,fun H3 ls e3 hls=>k H3 ls (e2.trans e3) hls⟩
 unfold lE at hz
 obtain⟨i,_,rfl⟩:=List.mem_map.mp hz
 have:=hwt (i+1)
 omega
def spOwed(A:dz)(tb:Tb):Sp:=fun vs H Q _=>∃a r n g cs,vs=[.ref a]∧Now A H a r n g cs∧aQ tb H∧ni (aQ tb) ((Vbemaj.settled r (g 3 0 0) cs (hnds n g cs)).map V.int) H Q
theorem settled_eq(r:Vbemaj.Rules)(n:Nat)(g:gT)(cs:List Vbemaj.Called):Vbemaj.settled r (g 3 0 0) cs (hnds n g cs)=(if (lE n g).sum=0 then -(bM r n g cs).sum else 0)::((bM r n g cs).zip (Vbemaj.splitInt (-(bM r n g cs).sum) (lE n g))).map fun x=>x.1+x.2:=by
 have eg:(hnds n g cs).map (Vbemaj.gross r (g 3 0 0) cs)=bM r n g cs:=by unfold hnds bM;rw[List.map_map];rfl
 have ew:(hnds n g cs).map (fun h=>h.weight)=lE n g:=by unfold hnds lE;rw[List.map_map];rfl
 unfold Vbemaj.settled
 simp only[eg,ew]
theorem grossOf_len{r:Vbemaj.Rules}{n:Nat}{g:gT}{cs:List Vbemaj.Called}:(bM r n g cs).length=n:=by unfold bM;rw[List.length_map,List.length_range]
theorem ok_owed_now(T:Txt K mg A)(D:aF K mg "owed_now" lN)(bQ:Has P w K mg base 8 "gross_of_hands" ["now"] (spGr A (aQ tb)))(dH:Has P w K mg base 3 "shares_of_rest" ["now","gross"] (spRest A tb)):Has P w K mg base 9 "owed_now" ["now"] (spOwed A tb):=by
 refine Has.of D jN bd_owed_now fun _ _ _ _ _ H vs Q E hr h=>?_
 obtain⟨a,r,n,g,cs,rfl,N,htab,k⟩:=h
 have TB:bD (aQ tb):=dF
 have hn:n≤32:=by obtain⟨dx,ra,d,l,tl,ents,as,N0⟩:=N;exact N0.wf.nn
 have hgl:=grossOf_len (r:=r) (n:=n) (g:=g) (cs:=cs)
 have hsl:(Vbemaj.splitInt (-(bM r n g cs).sum) (lE n g)).length=n:=by rw[QM.fH,wsOf_len]
 have hno:=QM.nobody (gs:=bM r n g cs) (ws:=lE n g) (by rw[hgl,wsOf_len]) (by rw[hsl,wsOf_len]) split_zero
 rw[settled_eq,←hno]at k
 refine⟨_,(aq (bw (i:=1) jN.nd rfl (Or.inl rfl) (aC bQ hr (aj (pv 0) ak))) (aq (lH (i:=2) (own:=[("own",3),("share",4)]) rfl jN.nd rfl rfl rfl (pi_zipS rfl T.b_zip (aj (pv 1) (aj (aC dH hr (aj (pv 0) (aj (pv 1) ak))) ak))) (show cV ["now","gross","owed","own","share"] (aG lN) _ _ from⟨rfl,by decide +kernel,by decide +kernel,by decide +kernel,by decide +kernel⟩) (fun _ _ _ _ _=>(pg_tupK (K:=K) (n:=2) rfl rfl (gQ (aX (i:=3) jN.nd rfl (Or.inl rfl) (by first|exact .inl rfl|exact .inr rfl)) (gQ (aX (i:=4) jN.nd rfl (Or.inl rfl) (by first|exact .inl rfl|exact .inr rfl)) pgs_nil)))) (fun _ _ _ _ _=>dD) (fun _ _ _ _ _=>(bR jT (pv 3) (pv 4)))) (au (aD (bR op_cat (aW (aj (nJ jk (aU (cC rfl) rfl T.jK L2.boot_sum (aj (pv 2) ak))) ak)) (pv 2)))))),?_⟩
 refine⟨_,rfl,a,r,n,g,cs,rfl,N,fun H1 lg e1 hlg=>?_⟩
 refine⟨_,rfl,_,rfl,_,rfl,a,lg,r,n,g,cs,_,rfl,N.ext e1,hlg,e1.tb htab,fun H4 ls e4 hls=>?_⟩
 have x4:=e1.trans e4
 have hlg4:=e4.lst hlg
 refine⟨lg,ls,_,_,rfl,bh.of hlg4,bh.of hls,?_⟩
 refine lc_zipS TB (bh.of hlg4) (bh.of hls) (by rw[List.length_map,List.length_map,hgl,hsl]) (by rw[List.length_map,hgl,sizeLine_eq];omega)
  (fun i=>((((bM r n g cs).zip (Vbemaj.splitInt (-(bM r n g cs).sum) (lE n g))).map fun x=>x.1+x.2)[i]?).map V.int) (fun i x y q hx hy H' e hq R Nn h1 h2=>?_) fun D2 H6 e6 hD2 hL2=>?_
 ·rw[List.getElem?_map]at hx hy
  obtain⟨u,hu,rfl⟩:=Option.map_eq_some_iff.mp hx
  obtain⟨v,hv,rfl⟩:=Option.map_eq_some_iff.mp hy
  refine⟨q,_,rfl,jh.of hq,rfl,_,_,rfl,_,_,rfl,rfl,rfl,_,rfl,_,rfl,_,_,rfl,rfl,h1 _ _ ?_ (.refl _)⟩
  have hz:((bM r n g cs).zip (Vbemaj.splitInt (-(bM r n g cs).sum) (lE n g)))[i]?=some (u,v):=List.getElem?_zip_eq_some.mpr ⟨hu,hv⟩
  rw[List.getElem?_map,hz]
  rfl
 ·have el:(((bM r n g cs).zip (Vbemaj.splitInt (-(bM r n g cs).sum) (lE n g))).map fun x=>x.1+x.2).length=n:=by rw[List.length_map,List.length_zip,hgl,hsl];omega
  have el2:=range_int (((bM r n g cs).zip (Vbemaj.splitInt (-(bM r n g cs).sum) (lE n g))).map fun x=>x.1+x.2)
  rw[el]at el2
  rw[List.length_map,hgl,el2]at hL2
  have x6:=x4.trans e6
  refine⟨_,rfl,D2,_,rfl,bh.of hL2,_,rfl,by show 1≤sizeLine;rw[sizeLine_eq];decide,fun p1 hp1=>?_⟩
  refine⟨_,rfl,p1,D2,_,_,rfl,rfl,ao,by rw[aB (aL hL2 hp1)];exact hL2,?_,fun p3 hp3=>?_⟩
  ·rw[List.length_map,el,sizeLine_eq]
   show 1+n≤_
   omega
  ·refine k _ p3 ((x6.then TB hp1).then TB hp3) ?_
   rw[ao]
   rfl
end Q
namespace L2
open PySem PySem.Spec PyProof.Rows
theorem for_it{J:It}{n:Nat}{g:TG}{tb:TS}{D:Ends}{σ:St}{H:Hp}(Pv:Nat→St→Hp→Prop)(h0:Pv 0 σ H)(hgo:∀i σ H,i<n→Pv i σ H→J.go i H)(hst:∀σ H,Pv n σ H→J.stop n H)
  (hs:∀i σ H x H',i<n→Pv i σ H→J.yld i H x H'→g x σ H' fun σ2 H2=>tb { D with nx:=Pv (i+1),ct:=Pv (i+1),bk:=D.nx } σ2 H2) (hd:∀σ H,Pv n σ H→D.nx σ H):
  ∃W:Nat→Nat→St→Hp→Prop,(∃m,W 0 m σ H)∧∀i m σ H,W i m σ H→
   (J.stop i H∧D.nx σ H)∨(J.go i H∧∃N:St→Hp→Prop,(∀σ' H',N σ' H'→∃m',m'<m∧W (i+1) m' σ' H')∧∀x H',J.yld i H x H'→g x σ H' fun σ2 H2=>tb { D with nx:=N,ct:=N,bk:=D.nx } σ2 H2):=by
 refine⟨fun i m σ H=>m=n - i∧i≤n∧Pv i σ H,⟨n,by simp,Nat.zero_le _,h0⟩,?_⟩
 rintro i m σ H ⟨rfl,hi,p⟩
 by_cases hlt:i<n
 ·exact .inr ⟨hgo i σ H hlt p,Pv (i+1),fun σ' H' p'=>⟨n - (i+1),by omega,rfl,hlt,p'⟩,fun x H' y=>hs i σ H x H' hlt p y⟩
 ·have e:i=n:=by omega
  subst e
  exact .inl ⟨hst σ H p,hd σ H p⟩
structure ExtBut(τ:Hp→Prop)(p:Addr)(H H':Hp):Prop where
 keep:∀b o,H b=some o→(∀ps,o≠.tbl ps)→b≠p→H' b=some o
 tb:τ H→τ H'
section
variable{τ:Hp→Prop}{H H0 H1 H2:Hp}{p a:Addr}{o o':HO}
theorem ExtBut.refl:ExtBut τ p H H:=⟨fun _ _ e _ _=>e,fun t=>t⟩
theorem ExtBut.ext(x:ExtBut τ p H H1)(y:Ext τ H1 H2):ExtBut τ p H H2:=⟨fun b o e n m=>y.keep b o (x.keep b o e n m) n,fun t=>y.tb (x.tb t)⟩
theorem ExtBut.over(T:bD τ)(x:ExtBut τ p H H1)(h:H1 p=some o)(so:Soft o):ExtBut τ p H (upd H1 p o'):=
 ⟨fun b u e n m=>by rw[aB m];exact x.keep b u e n m,fun t=>T.soft _ _ _ _ h so (x.tb t)⟩
theorem Ext.but(T:bD τ)(x:Ext τ H H0)(h:H0 p=none)(y:ExtBut τ p (upd H0 p o) H2):Ext τ H H2:=by
 have z:Ext τ H0 (upd H0 p o):=.new T h
 refine⟨fun b u e n=>?_,fun t=>y.tb (z.tb (x.tb t))⟩
 have e0:=x.keep b u e n
 exact y.keep b u (z.keep b u e0 n) n (aL e0 h)
theorem ExtBut.lst{xs:List V}(x:ExtBut τ p H H1)(h:H a=some (.lst xs))(n:a≠p):H1 a=some (.lst xs):=x.keep _ _ h (fun _ z=>nomatch z) n
end
end L2
namespace Q
open PySem PySem.Spec PyProof.Rows L2
variable{P:Program}{w:World}{K:PySem.W.Frag}{mg:Str→Option Value}{base:Heap}{A:dz}{τ:Hp→Prop}
def spGrow(τ:Hp→Prop):Sp:=fun vs H Q _=>∃b a bs as,vs=[.ref b,.ref a]∧H b=some (.lst (bs.map V.int))∧H a=some (.lst (as.map V.int))∧bs.length≤as.length∧as.length≤33∧ni τ ((Vbemaj.less as bs).map V.int) H Q
theorem ok_growth(TB:bD τ)(T:Txt K mg A)(D:aF K mg "growth" s_growth):Has P w K mg base 1 "growth" ["before","after"] (spGrow τ):=by
 refine Has.of D oh bd_growth fun _ _ _ _ _ H vs Q E hr h=>?_
 obtain⟨b,a,bs,as,rfl,hb,ha,hle,hmax,k⟩:=h
 refine⟨_,(aq (bw (i:=2) oh.nd rfl (Or.inl rfl) (bR op_cat (pv 0) (bR op_rep (aW (aj aH ak)) (bR lG (aU bL rfl T.iJ PySem.boot_len (aj (pv 1) ak)) (aU bL rfl T.iJ PySem.boot_len (aj (pv 0) ak)))))) (au (aD (fG (own:=[("number",3),("earlier",4)]) rfl oh.nd (pi_zipS rfl T.b_zip (aj (pv 1) (aj (pv 2) ak))) (show cV ["before","after","known","number","earlier"] (aG s_growth) _ _ from⟨rfl,by decide +kernel,by decide +kernel,by decide +kernel,by decide +kernel⟩) (fun _ _ _ _ _=>(pg_tupK (K:=K) (n:=2) rfl rfl (gQ (aX (i:=3) oh.nd rfl (Or.inl rfl) (by first|exact .inl rfl|exact .inr rfl)) (gQ (aX (i:=4) oh.nd rfl (Or.inl rfl) (by first|exact .inl rfl|exact .inr rfl)) pgs_nil)))) (fun _ _ _ _ _=>dD) (fun _ _ _ _ _=>(bR lG (pv 3) (pv 4))))))),?_⟩
 refine⟨_,rfl,by show 1≤sizeLine;rw[sizeLine_eq];decide,fun p1 hp1=>?_⟩
 have e1:Ext τ H (upd H p1 (.lst [.int 0])):=.new TB hp1
 refine⟨_,rfl,a,_,rfl,.inl (bh.of (e1.lst ha)),_,rfl,b,_,rfl,.inl (bh.of (e1.lst hb)),_,_,rfl,rfl,?_⟩
 rw[List.length_map,List.length_map]
 refine⟨p1,_,_,rfl,rfl,ao,by omega,by omega,?_,fun p2 hp2=>?_⟩
 ·show 1*_≤sizeLine
  rw[sizeLine_eq];omega
 have e2:=e1.then TB (o:=.lst (List.replicate ((as.length:Int) - (bs.length:Int)).toNat [V.int 0]).flatten) hp2
 have er:(List.replicate ((as.length:Int) - (bs.length:Int)).toNat [V.int 0]).flatten=(List.replicate (as.length - bs.length) (0:Int)).map V.int:=by
  have:((as.length:Int) - (bs.length:Int)).toNat=as.length - bs.length:=by omega
  rw[this,List.map_replicate]
  generalize as.length - bs.length=m
  induction m with
  |zero=>rfl
  |succ m ih=>rw[List.replicate_succ,List.replicate_succ,List.flatten_cons,ih];rfl
 refine⟨b,p2,_,_,rfl,rfl,e2.lst hb,ao,?_,fun p3 hp3=>?_⟩
 ·rw[er,List.length_map,List.length_map,List.length_replicate,sizeLine_eq];omega
 have e3:=e2.then TB (o:=.lst (bs.map V.int++(List.replicate ((as.length:Int) - (bs.length:Int)).toNat [V.int 0]).flatten)) hp3
 rw[er,←List.map_append]at e3 ⊢
 have hll:(bs++List.replicate (as.length - bs.length) (0:Int)).length=as.length:=by rw[List.length_append,List.length_replicate];omega
 refine⟨_,rfl,_,rfl,a,p3,_,_,rfl,bh.of (e3.lst ha),bh.of ao,?_⟩
 refine lc_zipS TB (bh.of (e3.lst ha)) (bh.of ao) (by rw[List.length_map,List.length_map,hll]) (by rw[List.length_map,sizeLine_eq];omega) (fun i=>((Vbemaj.less as bs)[i]?).map V.int) (fun i x y q hx hy H' e hq R Nn h1 h2=>?_) fun D2 H6 e6 hD2 hL2=>?_
 ·rw[List.getElem?_map]at hx hy
  obtain⟨u,hu,rfl⟩:=Option.map_eq_some_iff.mp hx
  obtain⟨v,hv,rfl⟩:=Option.map_eq_some_iff.mp hy
  refine⟨q,_,rfl,jh.of hq,rfl,_,_,rfl,_,_,rfl,rfl,rfl,_,rfl,_,rfl,_,_,rfl,rfl,h1 _ _ ?_ (.refl _)⟩
  have hz:(as.zip (bs++List.replicate (as.length - bs.length) 0))[i]?=some (u,v):=List.getElem?_zip_eq_some.mpr ⟨hu,hv⟩
  rw[QM.less_eq hle,List.getElem?_map,hz]
  rfl
 ·refine k _ D2 (e3.trans e6) ?_
  have el:(Vbemaj.less as bs).length=as.length:=by rw[QM.less_eq hle,List.length_map,List.length_zip,hll];omega
  have el2:=range_int (Vbemaj.less as bs)
  rw[el]at el2
  rw[hL2,List.length_map,el2]
def spListed(τ:Hp→Prop):Sp:=fun vs H Q _=>∃a as,vs=[.ref a]∧H a=some (.lst (as.map V.int))∧as.length≤33∧ni τ ((Vbemaj.nonzero as).map V.int) H Q
theorem ok_listed(TB:bD τ)(T:Txt K mg A)(D:aF K mg "listed" s_listed):Has P w K mg base 1 "listed" ["numbers"] (spListed τ):=by
 refine Has.of D lA bd_listed fun _ _ _ _ _ H vs Q E hr h=>?_
 obtain⟨a,as,rfl,ha,hmax,k⟩:=h
 refine⟨_,(aq (bw (i:=1) lA.nd rfl (Or.inl rfl) (aW (aj (aU bL rfl T.iJ PySem.boot_len (aj (fG (own:=[("number",2)]) rfl lA.nd (bY (pv 0)) (show cV ["numbers","answer","number","place"] (aG s_listed) _ _ from⟨rfl,by decide +kernel,by decide +kernel,by decide +kernel,by decide +kernel⟩) (fun _ _ _ _ _=>(aX (i:=2) lA.nd rfl (Or.inl rfl))) (fun _ _ _ _ _=>(f9 (aO op_ne (pv 2) aH (aV _)))) (fun _ _ _ _ _=>(pv 2))) ak)) ak))) (aq (ps_for PassesOwn.never rfl (pi_enum rfl T.b_enumerate (aj (pv 0) ak)) (pg_tup rfl (gQ (aX (i:=3) lA.nd rfl (Or.inl rfl) (by first|exact .inl rfl|exact .inr rfl)) (gQ (aX (i:=2) lA.nd rfl (Or.inl rfl) (by first|exact .inl rfl|exact .inr rfl)) pgs_nil))) (au (aZ (aO op_ne (pv 2) aH (aV _)) (aq (j8 (pe_bm PySem.F.plainAttrs_list PySem.F.slot_list_append PySem.F.type_list_append mt_append (pv 1) (aj (pv 3) ak))) (au (j8 (pe_bm PySem.F.plainAttrs_list PySem.F.slot_list_append PySem.F.type_list_append mt_append (pv 1) (aj (pv 2) ak))))) aM))) (au (aD (pv 1))))),?_⟩
 refine⟨_,rfl,a,rfl,⟨_,bh.of ha⟩,?_⟩
 refine dJ TB (bh.of ha) (by rw[List.length_map,sizeLine_eq];omega) (fun i=>(as[i]?).bind fun z=>if z=0 then none else some (V.int z)) (fun i x hx H' e R Nn h1 h2=>?_) fun D1 H1 e1 hD1 hL=>?_
 ·rw[List.getElem?_map]at hx
  obtain⟨u,hu,rfl⟩:=Option.map_eq_some_iff.mp hx
  rw[hu]at h1 h2
  refine⟨rfl,_,rfl,rfl,_,rfl,aP (fun c1=>?_) fun c1=>?_⟩
  ·have c1':¬u=0:=fun z=>by rw[z]at c1;simp at c1
   refine⟨_,rfl,h1 _ _ ?_ (.refl _)⟩
   show(if u=0 then none else some (V.int u))=_
   rw[if_neg c1']
  ·have c1':u=0:=by
    by_cases z:u=0
    ·exact z
    ·exact absurd (by simp[z]) c1
   refine h2 _ ?_ (.refl _)
   show(if u=0 then none else some (V.int u))=_
   rw[if_pos c1']
 have eL:(List.range (as.map V.int).length).filterMap (fun i=>(as[i]?).bind fun z=>if z=0 then none else some (V.int z))=(as.filter fun z=>decide (z≠0)).map V.int:=by
  rw[List.length_map,bN]
  clear ha hmax k e1 hL
  induction as with
  |nil=>rfl
  |cons z u ih=>
   rw[List.filterMap_cons,List.filter_cons]
   by_cases hz:z=0
   ·simp[hz,ih]
   ·simp[hz,ih]
 rw[eL]at hL
 refine⟨D1,_,rfl,.inl (bh.of hL),by show 1≤sizeLine;rw[sizeLine_eq];decide,fun p1 hp1=>?_⟩
 have e2:=e1.then TB (o:=.lst [V.int (((as.filter fun z=>decide (z≠0)).map V.int).length:Nat)]) hp1
 have hap:a≠p1:=aL (e1.lst ha) hp1
 refine⟨_,rfl,a,_,rfl,bh.of (e2.lst ha),?_⟩
 let acc:Nat→List Int:=fun i=>Vbemaj.nat (as.filter fun z=>decide (z≠0)).length::(QM.bW 0 (as.take i)).flatten
 have hacc:∀i,i≤as.length→(acc i).length≤1+2*i:=fun i hi=>by
  show((QM.bW 0 (as.take i)).flatten).length+1≤1+2*i
  clear e1 e2 hL ha k
  induction i with
  |zero=>simp[QM.bW]
  |succ i ih=>
   have ih:=ih (by omega)
   rw[fY (List.getElem?_eq_getElem (by omega:i<as.length)),QM.listed_snoc,List.flatten_append,List.length_append]
   generalize (QM.bW 0 (as.take i)).flatten.length=m at ih ⊢
   split
   ·show m+0+1≤_;omega
   ·show m+2+1≤_;omega
 refine for_it (J:=Ite K a) (n:=as.length) (fun i σ Hi=>σ.length=4∧σ[1]?=some (some (.ref p1))∧ExtBut τ p1 (upd H1 p1 (.lst [V.int (((as.filter fun z=>decide (z≠0)).map V.int).length:Nat)])) Hi∧Hi p1=some (.lst ((acc i).map V.int)))
  ⟨rfl,rfl,.refl,by rw[ao,List.length_map];rfl⟩ (fun i σ Hi hi h=>?_) (fun σ Hi h=>?_) (fun i σ Hi x H' hi h y=>?_) fun σ Hi h=>?_
 ·exact⟨_,_,bh.of (h.2.2.1.lst (e2.lst ha) hap),by rw[List.getElem?_map,List.getElem?_eq_getElem hi];rfl⟩
 ·exact⟨_,bh.of (h.2.2.1.lst (e2.lst ha) hap),by rw[List.length_map];exact Nat.le_refl _⟩
 ·obtain⟨g1,g2,g3,g4⟩:=h
  obtain⟨q,u,rfl,hq,rfl,hx⟩:=y
  have hx:=hx _ (bh.of (g3.lst (e2.lst ha) hap))
  rw[List.getElem?_map,List.getElem?_eq_getElem hi]at hx
  have hu:V.int as[i]=u:=by simpa using hx
  subst hu
  have ey:Ext τ Hi (upd Hi q (.tup [.int ((i:Nat):Int),V.int as[i]])):=.new TB hq
  have g3':=g3.ext ey
  have g4':=ey.lst g4
  refine⟨q,_,rfl,jh.of ao,rfl,_,_,rfl,_,_,rfl,rfl,?_⟩
  have s1:(((σ.set 3 (some (V.int ((i:Nat):Int)))).set 2 (some (V.int as[i])))[1]?)=some (some (.ref p1)):=by rw[List.getElem?_set_ne (by decide),List.getElem?_set_ne (by decide)];exact g2
  have s2:(((σ.set 3 (some (V.int ((i:Nat):Int)))).set 2 (some (V.int as[i])))[2]?)=some (some (V.int as[i])):=by rw[List.getElem?_set_self (by rw[List.length_set,g1];decide)]
  have s3:(((σ.set 3 (some (V.int ((i:Nat):Int)))).set 2 (some (V.int as[i])))[3]?)=some (some (V.int ((i:Nat):Int))):=by rw[List.getElem?_set_ne (by decide),List.getElem?_set_self (by rw[g1];decide)]
  have s4:((σ.set 3 (some (V.int ((i:Nat):Int)))).set 2 (some (V.int as[i]))).length=4:=by rw[List.length_set,List.length_set];exact g1
  have ha1:=hacc i (Nat.le_of_lt hi)
  have hnext:(acc (i+1))=acc i++if as[i]=0 then[] else[Vbemaj.nat i,as[i]]:=by
   show _::_=_
   rw[fY (List.getElem?_eq_getElem hi),QM.listed_snoc,List.flatten_append,List.length_take,Nat.min_eq_left (Nat.le_of_lt hi)]
   by_cases z:as[i]=0
   ·simp[z,acc]
   ·simp[z,acc]
  refine⟨_,s2,rfl,_,rfl,aP (fun c1=>?_) fun c1=>?_⟩
  ·have c1':¬as[i]=0:=fun z=>by rw[z]at c1;simp at c1
   refine⟨_,s1,.inl ⟨rfl,_,bh.of g4'⟩,_,s3,p1,_,_,rfl,rfl,g4',by rw[List.length_map,sizeLine_eq];omega,?_⟩
   refine⟨_,s1,.inl ⟨rfl,_,bh.of ao⟩,_,s2,p1,_,_,rfl,rfl,ao,by rw[List.length_append,List.length_map,sizeLine_eq];show _+1<_;omega,?_⟩
   refine⟨s4,s1,(g3'.over TB g4' True.intro).over TB ao True.intro,?_⟩
   rw[ao,hnext,if_neg c1',List.map_append,List.append_assoc]
   rfl
  ·have c1':as[i]=0:=by
    by_cases z:as[i]=0
    ·exact z
    ·exact absurd (by simp[z]) c1
   refine⟨s4,s1,g3',?_⟩
   rw[hnext,if_pos c1',List.append_nil]
   exact g4'
 ·obtain⟨g1,g2,g3,g4⟩:=h
  refine⟨_,g2,k Hi p1 (Ext.but TB e1 hp1 g3) ?_⟩
  rw[g4,QM.nonzero_eq]
  show some (HO.lst ((Vbemaj.nat _::(QM.bW 0 (as.take as.length)).flatten).map V.int))=_
  rw[List.take_length]
  unfold Vbemaj.rows
  rw[QM.listed_len]
abbrev QE:=Nat×Addr×List Vbemaj.Entry
abbrev QB:=Nat×Addr×List Int
def eK(x:Vbemaj.Entry):List Key×Int:=(lC x.kind x.p x.w,x.amount)
def eKV(x:Vbemaj.Entry):List Key×V:=(lC x.kind x.p x.w,V.int x.amount)
theorem entV_eK(l:List Vbemaj.Entry):entV (l.map eK)=l.map eKV:=by
 show(l.map eK).map _=_
 rw[List.map_map]
 rfl
def kN(q:Nat):Key:=.inl ((q:Nat):Int)
theorem kN_inj{a b:Nat}(h:kN a=kN b):a=b:=by
 unfold kN at h
 have:=Sum.inl.inj h
 omega
def oN(ra:V)(n:Nat)(E R:Addr)(told:Nat)(B L:Addr):List (Str×V):=[("rules",ra),("hands",.int (n:Nat)),("entries",.ref E),("reserves",.ref R),("reserves_told",.int (told:Nat)),("booked",.ref B),("locked",.ref L)]
def bV:List Vbemaj.Called→List Addr→List (Key×V)
 |c::cs,a::as=>(kN c.num,.ref a)::bV cs as
 |_,_=>[]
def gJ(es:List QE):List (Key×V):=es.map fun e=>(kN e.1,.ref e.2.1)
def eX(bs:List QB):List (Key×V):=bs.map fun b=>(kN b.1,.ref b.2.1)
def lockV(ls:List Nat):List (Key×V):=ls.map fun q=>(kN q,.bl true)
structure aR(A:dz)(H:Hp)(h:Addr)(s:Vbemaj.State)(dh:Addr)(ra:V)(E R B L:Addr)(es:List QE)(as:List Addr)(bs:List QB)(ls:List Nat):Prop where
 ob:H h=some (.ins A.house dh (oN ra s.hands E R s.given B L))
 ru1:s.opened=true→∃a,ra=.ref a∧mF A H a s.rules
 ru0:s.opened=false→ra=.non
 en:H E=some (.dK (gJ es))
 enq:(es.map (·.1)).Nodup
 ena:(es.map (·.2.1)).Nodup
 enr:∀e∈es,e.1<10000
 enD:∀e∈es,H e.2.1=some (.dT (e.2.2.map eKV))
 eno:∀e∈es,∀x∈e.2.2,x.q=e.1
 ent:(es.flatMap (·.2.2)).Perm s.table
 re:H R=some (.dK (bV s.calls as))
 rea:oM A H as s.calls
 bo:H B=some (.dK (eX bs))
 bol:∀b∈bs,H b.2.1=some (.lst (b.2.2.map V.int))
 bop:(bs.map fun b=>(b.1,b.2.2)).Perm (s.booked.map fun b=>(b.q,b.amounts))
 lo:H L=some (.dK (lockV ls))
 lon:ls.Nodup
 lop:∀q,q∈ls↔Vbemaj.isLocked s q=true
 apart:[E,R,B,L].Nodup
def aY(A:dz)(H:Hp)(h:Addr)(s:Vbemaj.State):Prop:=∃dh ra E R B L es as bs ls,aR A H h s dh ra E R B L es as bs ls
def Fixed(A:dz):HO→Prop
 |.lst _=>True
 |.tup _=>True
 |.d8 _ _=>True
 |.ins C _ _=>C≠A.house
 |_=>False
structure Kept(A:dz)(τ:Hp→Prop)(H H':Hp):Prop where
 keep:∀b o,H b=some o→Fixed A o→H' b=some o
 tb:τ H→τ H'
section
variable{A:dz}{τ:Hp→Prop}{H H' H1 H2:Hp}
theorem Kept.refl:Kept A τ H H:=⟨fun _ _ e _=>e,fun t=>t⟩
theorem Kept.trans(x:Kept A τ H H1)(y:Kept A τ H1 H2):Kept A τ H H2:=⟨fun b o e f=>y.keep b o (x.keep b o e f) f,fun t=>y.tb (x.tb t)⟩
theorem Ext.kept(x:Ext τ H H1):Kept A τ H H1:=⟨fun b o e f=>x.keep b o e fun ps z=>by subst z;exact f,x.tb⟩
theorem Kept.upd{a:Addr}{o o':HO}(T:bD τ)(h:H a=some o)(so:Soft o)(nf:¬Fixed A o):Kept A τ H (upd H a o'):=
 ⟨fun b u e f=>by
  rw[aB]
  ·exact e
  ·intro z;subst z;rw[h]at e;cases e;exact nf f,fun t=>T.soft _ _ _ _ h so t⟩
theorem Kept.lst{a:Addr}{xs:List V}(x:Kept A τ H H1)(h:H a=some (.lst xs)):H1 a=some (.lst xs):=x.keep _ _ h True.intro
theorem Kept.tup{a:Addr}{xs:List V}(x:Kept A τ H H1)(h:H a=some (.tup xs)):H1 a=some (.tup xs):=x.keep _ _ h True.intro
theorem aR.ext{h dh E R B L:Addr}{s:Vbemaj.State}{ra:V}{es:List QE}{as:List Addr}{bs:List QB}{ls:List Nat}(x:aR A H h s dh ra E R B L es as bs ls)(e:Ext τ H H'):aR A H' h s dh ra E R B L es as bs ls:=
 ⟨e.ins x.ob,fun o=>let⟨a,h1,h2⟩:=x.ru1 o;⟨a,h1,h2.ext e⟩,x.ru0,e.dK x.en,x.enq,x.ena,x.enr,fun y hy=>e.dT (x.enD y hy),x.eno,x.ent,e.dK x.re,x.rea.ext e,e.dK x.bo,fun b hb=>e.lst (x.bol b hb),x.bop,e.dK x.lo,x.lon,x.lop,x.apart⟩
theorem aY.ext{h:Addr}{s:Vbemaj.State}(x:aY A H h s)(e:Ext τ H H'):aY A H' h s:=let⟨dh,ra,E,R,B,L,es,as,bs,ls,x⟩:=x;⟨dh,ra,E,R,B,L,es,as,bs,ls,x.ext e⟩
end
theorem mG{α:Type}{f:α→Nat}{g:α→V}:∀{l:List α},(l.map f).Nodup→∀{x:α},x∈l→cW (l.map fun y=>(kN (f y),g y)) (kN (f x))=some (g x)
 |[],_,_,h=>nomatch h
 |a::l,nd,x,h=>by
  obtain⟨n1,n2⟩:=List.nodup_cons.mp (show(f a::l.map f).Nodup from nd)
  rw[List.map_cons]
  rcases List.mem_cons.mp h with rfl|h
  ·rw[nO rfl]
  ·rw[iM,mG n2 h]
   intro e
   exact n1 (List.mem_map.mpr ⟨x,h,(kN_inj e).symm⟩)
theorem lJ{α:Type}{f:α→Nat}{g:α→V}{q:Nat}:∀{l:List α},(∀x∈l,f x≠q)→cW (l.map fun y=>(kN (f y),g y)) (kN q)=none
 |[],_=>rfl
 |a::l,h=>by
  rw[List.map_cons,iM,lJ fun x hx=>h x (List.mem_cons_of_mem _ hx)]
  intro e
  exact h a List.mem_cons_self (kN_inj e)
theorem put_new{α:Type}{f:α→Nat}{g:α→V}{q:Nat}{v:V}{l:List α}(h:∀x∈l,f x≠q):putK (l.map fun y=>(kN (f y),g y)) (kN q) v=(l.map fun y=>(kN (f y),g y))++[(kN q,v)]:=by
 unfold putK
 rw[valV_any,lJ h]
 rfl
section
variable{A:dz}{H:Hp}{h dh E R B L:Addr}{s:Vbemaj.State}{ra:V}{es:List QE}{as:List Addr}{bs:List QB}{ls:List Nat}
theorem aR.all_apart(x:aR A H h s dh ra E R B L es as bs ls)(W:QM.Wf s):QM.Apart (es.flatMap (·.2.2)):=QM.apart_symm x.ent.symm W.tab.apart
theorem aR.in_table(x:aR A H h s dh ra E R B L es as bs ls){e:QE}(he:e∈es){y:Vbemaj.Entry}(hy:y∈e.2.2):y∈s.table:=x.ent.mem_iff.mp (List.mem_flatMap.mpr ⟨e,he,hy⟩)
theorem sub_flat{es:List QE}{e:QE}(he:e∈es):List.Sublist e.2.2 (es.flatMap (·.2.2)):=by
 induction es with
 |nil=>cases he
 |cons a l ih=>
  rw[List.flatMap_cons]
  rcases List.mem_cons.mp he with rfl|h
  ·exact List.sublist_append_left _ _
  ·exact (ih h).trans (List.sublist_append_right _ _)
theorem nodup_key{l:List QE}:(l.map (·.1)).Nodup→∀{a b:QE},a∈l→b∈l→a.1=b.1→a=b:=by
 induction l with
 |nil=>intro _ a b h;cases h
 |cons c l ih=>
  intro nd a b ha hb e
  obtain⟨n1,n2⟩:=List.nodup_cons.mp (show(c.1::l.map (·.1)).Nodup from nd)
  rcases List.mem_cons.mp ha with rfl|ha'
  ·rcases List.mem_cons.mp hb with rfl|hb'
   ·rfl
   ·exact absurd (List.mem_map.mpr ⟨b,hb',e.symm⟩) n1
  ·rcases List.mem_cons.mp hb with rfl|hb'
   ·exact absurd (List.mem_map.mpr ⟨a,ha',e⟩) n1
   ·exact ih n2 ha' hb' e
theorem off_zero(W:QM.Wf s)(p q:Nat):Vbemaj.get s 4 p p q=0:=by
 by_cases z:Vbemaj.get s 4 p p q=0
 ·exact z
 ·obtain⟨y,hy,h1,h2,h3,_⟩:=QM.got_ne (l:=s.table) z
  have v:=(W.ent y hy).val
  rw[h1,h2,h3]at v
  unfold QM.Valid at v
  omega
theorem aR.entOk(x:aR A H h s dh ra E R B L es as bs ls)(W:QM.Wf s){e:QE}(he:e∈es):j6 s.hands (fun k p w=>Vbemaj.get s k p w e.1) (e.2.2.map eK) where
 nd:=by
  have a1:QM.Apart e.2.2:=(x.all_apart W).sublist (sub_flat he)
  rw[List.map_map]
  refine List.pairwise_map.mpr (List.Pairwise.imp_of_mem (fun{y z} hy hz q=>?_) a1)
  intro k
  obtain⟨k1,k2,k3⟩:=kOf_inj (W.ent y (x.in_table he hy)).val (W.ent z (x.in_table he hz)).val k
  have:Vbemaj.same y z=true:=QM.same_iff.mpr ⟨k1,k2,k3,by rw[x.eno e he y hy,x.eno e he z hz]⟩
  rw[this]at q
  cases q
 key:=fun u hu=>by
  obtain⟨y,hy,rfl⟩:=List.mem_map.mp hu
  have ht:=x.in_table he hy
  refine⟨y.kind,y.p,y.w,(W.ent y ht).val,rfl,?_,(W.ent y ht).ne⟩
  show y.amount=Vbemaj.get s y.kind y.p y.w e.1
  rw[←x.eno e he y hy,QM.get_got,QM.got_mem W.tab.apart ht]
 all:=fun k p w v z=>by
  obtain⟨y,hy,h1,h2,h3,h4,h5⟩:=QM.got_ne (l:=s.table) z
  obtain⟨e',he',hy'⟩:=List.mem_flatMap.mp (x.ent.mem_iff.mpr hy)
  have:e'=e:=nodup_key x.enq he' he (by rw[←x.eno e' he' y hy',h4])
  subst this
  refine List.mem_map.mpr ⟨y,hy',?_⟩
  unfold eK
  rw[h1,h2,h3,h5]
  rfl
 off:=fun p=>off_zero W p e.1
 few:=by
  rw[List.length_map]
  have h1:=(sub_flat he).length_le
  rw[x.ent.length_eq]at h1
  have:=W.few
  omega
theorem aR.entNo(x:aR A H h s dh ra E R B L es as bs ls)(W:QM.Wf s){q:Nat}(hq:∀e∈es,e.1≠q):j6 s.hands (fun k p w=>Vbemaj.get s k p w q) [] where
 nd:=.nil
 key:=fun u hu=>nomatch hu
 all:=fun k p w v z=>by
  obtain⟨y,hy,h1,h2,h3,h4,h5⟩:=QM.got_ne (l:=s.table) z
  obtain⟨e',he',hy'⟩:=List.mem_flatMap.mp (x.ent.mem_iff.mpr hy)
  exact absurd (by rw[←x.eno e' he' y hy',h4]) (hq e' he')
 off:=fun p=>off_zero W p q
 few:=Nat.zero_le _
end
theorem aR.but{A:dz}{τ:Hp→Prop}{H H':Hp}{h dh E R B L p C d:Addr}{s:Vbemaj.State}{ra:V}{es:List QE}{as:List Addr}{bs:List QB}{ls:List Nat}(x:aR A H h s dh ra E R B L es as bs ls)(e:ExtBut τ p H H')(hp:H p=some (.ins C d [])):aR A H' h s dh ra E R B L es as bs ls:=by
 have ki:∀{a C' d':Addr}{f:Str×V}{fs:List (Str×V)},H a=some (.ins C' d' (f::fs))→H' a=some (.ins C' d' (f::fs)):=fun{a C' d' f fs} q=>e.keep _ _ q (fun _ z=>nomatch z) (bI q hp fun z=>nomatch z)
 have kk:∀{a:Addr}{kvs:List (Key×V)},H a=some (.dK kvs)→H' a=some (.dK kvs):=fun{a kvs} q=>e.keep _ _ q (fun _ z=>nomatch z) (bI q hp fun z=>nomatch z)
 have kt:∀{a:Addr}{kvs:List (List Key×V)},H a=some (.dT kvs)→H' a=some (.dT kvs):=fun{a kvs} q=>e.keep _ _ q (fun _ z=>nomatch z) (bI q hp fun z=>nomatch z)
 have kl:∀{a:Addr}{xs:List V},H a=some (.lst xs)→H' a=some (.lst xs):=fun{a kvs} q=>e.keep _ _ q (fun _ z=>nomatch z) (bI q hp fun z=>nomatch z)
 exact⟨ki x.ob,fun o=>let⟨a,h1,dr,h2⟩:=x.ru1 o;⟨a,h1,dr,ki h2⟩,x.ru0,kk x.en,x.enq,x.ena,x.enr,fun y hy=>kt (x.enD y hy),x.eno,x.ent,kk x.re,Paired.mapP x.rea fun _ _ ⟨dr,hr⟩=>⟨dr,ki hr⟩,kk x.bo,fun b hb=>kl (x.bol b hb),x.bop,kk x.lo,x.lon,x.lop,x.apart⟩
theorem jV{H:Hp}{p x C d:Addr}{kvs:List (Key×V)}{fs:List (Str×V)}{o:HO}(h:H p=some (.dK kvs))(hx:H x=some (.ins C d fs)):(upd H x o) p=some (.dK kvs):=by rw[aB (bI h hx fun z=>nomatch z)];exact h
theorem dT_upd{H:Hp}{p x C d:Addr}{kvs:List (List Key×V)}{fs:List (Str×V)}{o:HO}(h:H p=some (.dT kvs))(hx:H x=some (.ins C d fs)):(upd H x o) p=some (.dT kvs):=by rw[aB (bI h hx fun z=>nomatch z)];exact h
theorem oF:∀{cs:List Vbemaj.Called}{as:List Addr},as.length=cs.length→(bV cs as).length=cs.length
 |[],[],_=>rfl
 |[],_::_,h=>nomatch h
 |_::_,[],h=>nomatch h
 |c::cs,a::as,h=>by
  show(bV cs as).length+1=cs.length+1
  rw[oF (by simpa using h)]
theorem resKV_get:∀{cs:List Vbemaj.Called}{as:List Addr},as.length=cs.length→∀{i:Nat}{k:Key}{v:V},(bV cs as)[i]?=some (k,v)→∃c a,cs[i]?=some c∧as[i]?=some a∧v=.ref a
 |[],[],_,i,k,v,h=>by simp[bV]at h
 |[],_::_,h,_,_,_,_=>nomatch h
 |_::_,[],h,_,_,_,_=>nomatch h
 |c::cs,a::as,h,0,k,v,e=>by
  have e':(kN c.num,V.ref a)=(k,v):=Option.some.inj e
  exact⟨c,a,rfl,rfl,(Prod.mk.inj e').2.symm⟩
 |c::cs,a::as,h,i+1,k,v,e=>by
  obtain⟨c',a',h1,h2,h3⟩:=resKV_get (cs:=cs) (as:=as) (by simpa using h) (i:=i) (k:=k) (v:=v) e
  exact⟨c',a',by simpa using h1,by simpa using h2,h3⟩
theorem get_wt{s:Vbemaj.State}(W:QM.Wf s)(p q:Nat):0≤Vbemaj.get s 2 p 0 q∧Vbemaj.get s 2 p 0 q≤1000000000:=by
 by_cases z:Vbemaj.get s 2 p 0 q=0
 ·rw[z];decide
 ·obtain⟨y,hy,h1,h2,h3,h4,h5⟩:=QM.got_ne (l:=s.table) z
  have e:=W.ent y hy
  have:=e.wt h1
  have h5':y.amount=Vbemaj.get s 2 p 0 q:=h5
  have:=e.amt
  omega
def spRules(A:dz):Sp:=fun vs H Q _=>∃x dx r,vs=[.ref x,.int (fl r.mean),.int (fl r.dual),.int r.low,.int r.high,.int r.threshold,.int r.addon]∧H x=some (.ins A.rules dx [])∧Q .non (upd H x (.ins A.rules dx (rulesF r)))
theorem ok_Rules(T:Txt K mg A)(D:jU K mg "Rules" "Rules.__init__" A.rules kj):lD P w K mg base 1 "Rules" A.rules ["self","means","two_prices","low","high","threshold","add_on"] (spRules A):=by
 refine lD.of D sc_Rules_init bd_Rules_init fun _ _ _ _ _ H vs Q E hr h=>?_
 obtain⟨x,dx,r,rfl,hx,k⟩:=h
 refine⟨_,(aq (cG (pv 0) (pv 1) rfl) (aq (cG (pv 0) (pv 2) rfl) (aq (cG (pv 0) (pv 3) rfl) (aq (cG (pv 0) (pv 4) rfl) (aq (cG (pv 0) (pv 5) rfl) (au (cG (pv 0) (pv 6) rfl))))))),?_⟩
 refine⟨_,rfl,_,rfl,x,A.rules,dx,_,rfl,hx,T.cR,T.nR _ (by decide),by decide,?_⟩
 refine⟨_,rfl,_,rfl,x,A.rules,dx,_,rfl,ao,T.cR,T.nR _ (by decide),iw (by decide),?_⟩
 rw[dB]
 refine⟨_,rfl,_,rfl,x,A.rules,dx,_,rfl,ao,T.cR,T.nR _ (by decide),iw (iw (by decide)),?_⟩
 rw[dB]
 refine⟨_,rfl,_,rfl,x,A.rules,dx,_,rfl,ao,T.cR,T.nR _ (by decide),iw (iw (iw (by decide))),?_⟩
 rw[dB]
 refine⟨_,rfl,_,rfl,x,A.rules,dx,_,rfl,ao,T.cR,T.nR _ (by decide),iw (iw (iw (iw (by decide)))),?_⟩
 rw[dB]
 refine⟨_,rfl,_,rfl,x,A.rules,dx,_,rfl,ao,T.cR,T.nR _ (by decide),iw (iw (iw (iw (iw (by decide))))),?_⟩
 rw[dB]
 exact k
def spReserve(A:dz):Sp:=fun vs H Q _=>∃x dx c,vs=[.ref x,.int (c.q:Nat),.int (c.p:Nat),.int (fl c.up),.int c.amount,.int c.price]∧H x=some (.ins A.res dx [])∧Q .non (upd H x (.ins A.res dx (resF c)))
theorem ok_Reserve(T:Txt K mg A)(D:jU K mg "Reserve" "Reserve.__init__" A.res iV):lD P w K mg base 1 "Reserve" A.res ["self","quarter","hand","up","much","price"] (spReserve A):=by
 refine lD.of D sc_Reserve_init bd_Reserve_init fun _ _ _ _ _ H vs Q E hr h=>?_
 obtain⟨x,dx,c,rfl,hx,k⟩:=h
 refine⟨_,(aq (cG (pv 0) (pv 1) rfl) (aq (cG (pv 0) (pv 2) rfl) (aq (cG (pv 0) (pv 3) rfl) (aq (cG (pv 0) (pv 4) rfl) (au (cG (pv 0) (pv 5) rfl)))))),?_⟩
 refine⟨_,rfl,_,rfl,x,A.res,dx,_,rfl,hx,T.cE,T.nE _ (by decide),by decide,?_⟩
 refine⟨_,rfl,_,rfl,x,A.res,dx,_,rfl,ao,T.cE,T.nE _ (by decide),iw (by decide),?_⟩
 rw[dB]
 refine⟨_,rfl,_,rfl,x,A.res,dx,_,rfl,ao,T.cE,T.nE _ (by decide),iw (iw (by decide)),?_⟩
 rw[dB]
 refine⟨_,rfl,_,rfl,x,A.res,dx,_,rfl,ao,T.cE,T.nE _ (by decide),iw (iw (iw (by decide))),?_⟩
 rw[dB]
 refine⟨_,rfl,_,rfl,x,A.res,dx,_,rfl,ao,T.cE,T.nE _ (by decide),iw (iw (iw (iw (by decide)))),?_⟩
 rw[dB]
 exact k
def spHouse(A:dz)(τ:Hp→Prop):Sp:=fun vs H Q _=>∃x dx,vs=[.ref x]∧H x=some (.ins A.house dx [])∧∀H',ExtBut τ x H H'→aY A H' x Vbemaj.start→Q .non H'
theorem ok_House(TB:bD τ)(T:Txt K mg A)(D:jU K mg "House" "House.__init__" A.house kE):lD P w K mg base 1 "House" A.house ["self"] (spHouse A τ):=by
 refine lD.of D sc_House_init bd_House_init fun _ _ _ _ _ H vs Q E hr h=>?_
 obtain⟨x,dx,rfl,hx,k⟩:=h
 refine⟨_,(aq (cG (pv 0) pe_non rfl) (aq (cG (pv 0) aH rfl) (aq (cG (pv 0) pe_dnewK rfl) (aq (cG (pv 0) pe_dnewK rfl) (aq (cG (pv 0) aH rfl) (aq (cG (pv 0) pe_dnewK rfl) (au (cG (pv 0) pe_dnewK rfl)))))))),?_⟩
 have b0:ExtBut τ x H H:=.refl
 refine⟨_,rfl,x,A.house,dx,_,rfl,hx,T.cH,T.nH _ (by decide),by decide,?_⟩
 have b1:=b0.over TB hx True.intro (o':=.ins A.house dx (aN "rules" .non []))
 refine⟨_,rfl,x,A.house,dx,_,rfl,ao,T.cH,T.nH _ (by decide),iw (by decide),?_⟩
 have b2:=b1.over TB ao True.intro (o':=.ins A.house dx (aN "hands" (.int 0) (aN "rules" .non [])))
 generalize e2:upd (upd H x (.ins A.house dx (aN "rules" .non []))) x (.ins A.house dx (aN "hands" (.int 0) (aN "rules" .non [])))=H2 at b2
 have x2:H2 x=some (.ins A.house dx (aN "hands" (.int 0) (aN "rules" .non []))):=by rw[←e2,ao]
 intro E hE
 have n3:Ext τ H2 (upd H2 E (.dK [])):=.new TB hE
 refine⟨_,rfl,x,A.house,dx,_,rfl,n3.ins x2,T.cH,T.nH _ (by decide),iw (iw (by decide)),?_⟩
 have b3:=(b2.ext n3).over TB (n3.ins x2) True.intro (o':=.ins A.house dx (aN "entries" (.ref E) (aN "hands" (.int 0) (aN "rules" .non []))))
 have y3:=jV (o:=.ins A.house dx (aN "entries" (.ref E) (aN "hands" (.int 0) (aN "rules" .non [])))) (ao (H:=H2) (a:=E) (o:=.dK [])) (n3.ins x2)
 generalize e3:upd (upd H2 E (.dK [])) x (.ins A.house dx (aN "entries" (.ref E) (aN "hands" (.int 0) (aN "rules" .non []))))=H3 at b3 y3
 have x3:H3 x=some (.ins A.house dx (aN "entries" (.ref E) (aN "hands" (.int 0) (aN "rules" .non [])))):=by rw[←e3,ao]
 intro R hR
 have n4:Ext τ H3 (upd H3 R (.dK [])):=.new TB hR
 refine⟨_,rfl,x,A.house,dx,_,rfl,n4.ins x3,T.cH,T.nH _ (by decide),iw (iw (iw (by decide))),?_⟩
 have nER:E≠R:=aL y3 hR
 have b4:=(b3.ext n4).over TB (n4.ins x3) True.intro (o':=.ins A.house dx (aN "reserves" (.ref R) (aN "entries" (.ref E) (aN "hands" (.int 0) (aN "rules" .non [])))))
 have y4:=jV (o:=.ins A.house dx (aN "reserves" (.ref R) (aN "entries" (.ref E) (aN "hands" (.int 0) (aN "rules" .non []))))) (n4.dK y3) (n4.ins x3)
 have z4:=jV (o:=.ins A.house dx (aN "reserves" (.ref R) (aN "entries" (.ref E) (aN "hands" (.int 0) (aN "rules" .non []))))) (ao (H:=H3) (a:=R) (o:=.dK [])) (n4.ins x3)
 generalize e4:upd (upd H3 R (.dK [])) x (.ins A.house dx (aN "reserves" (.ref R) (aN "entries" (.ref E) (aN "hands" (.int 0) (aN "rules" .non [])))))=H4 at b4 y4 z4
 have x4:H4 x=some (.ins A.house dx (aN "reserves" (.ref R) (aN "entries" (.ref E) (aN "hands" (.int 0) (aN "rules" .non []))))):=by rw[←e4,ao]
 refine⟨_,rfl,x,A.house,dx,_,rfl,x4,T.cH,T.nH _ (by decide),iw (iw (iw (iw (by decide)))),?_⟩
 have b5:=b4.over TB x4 True.intro (o':=.ins A.house dx (aN "reserves_told" (.int 0) (aN "reserves" (.ref R) (aN "entries" (.ref E) (aN "hands" (.int 0) (aN "rules" .non []))))))
 have y5:=jV (o:=.ins A.house dx (aN "reserves_told" (.int 0) (aN "reserves" (.ref R) (aN "entries" (.ref E) (aN "hands" (.int 0) (aN "rules" .non [])))))) y4 x4
 have z5:=jV (o:=.ins A.house dx (aN "reserves_told" (.int 0) (aN "reserves" (.ref R) (aN "entries" (.ref E) (aN "hands" (.int 0) (aN "rules" .non [])))))) z4 x4
 generalize e5:upd H4 x (.ins A.house dx (aN "reserves_told" (.int 0) (aN "reserves" (.ref R) (aN "entries" (.ref E) (aN "hands" (.int 0) (aN "rules" .non []))))))=H5 at b5 y5 z5
 have x5:H5 x=some (.ins A.house dx (aN "reserves_told" (.int 0) (aN "reserves" (.ref R) (aN "entries" (.ref E) (aN "hands" (.int 0) (aN "rules" .non [])))))):=by rw[←e5,ao]
 intro B hB
 have n6:Ext τ H5 (upd H5 B (.dK [])):=.new TB hB
 have nEB:E≠B:=aL y5 hB
 have nRB:R≠B:=aL z5 hB
 refine⟨_,rfl,x,A.house,dx,_,rfl,n6.ins x5,T.cH,T.nH _ (by decide),iw (iw (iw (iw (iw (by decide))))),?_⟩
 have b6:=(b5.ext n6).over TB (n6.ins x5) True.intro (o':=.ins A.house dx (aN "booked" (.ref B) (aN "reserves_told" (.int 0) (aN "reserves" (.ref R) (aN "entries" (.ref E) (aN "hands" (.int 0) (aN "rules" .non [])))))))
 have y6:=jV (o:=.ins A.house dx (aN "booked" (.ref B) (aN "reserves_told" (.int 0) (aN "reserves" (.ref R) (aN "entries" (.ref E) (aN "hands" (.int 0) (aN "rules" .non []))))))) (n6.dK y5) (n6.ins x5)
 have z6:=jV (o:=.ins A.house dx (aN "booked" (.ref B) (aN "reserves_told" (.int 0) (aN "reserves" (.ref R) (aN "entries" (.ref E) (aN "hands" (.int 0) (aN "rules" .non []))))))) (n6.dK z5) (n6.ins x5)
 have u6:=jV (o:=.ins A.house dx (aN "booked" (.ref B) (aN "reserves_told" (.int 0) (aN "reserves" (.ref R) (aN "entries" (.ref E) (aN "hands" (.int 0) (aN "rules" .non []))))))) (ao (H:=H5) (a:=B) (o:=.dK [])) (n6.ins x5)
 generalize e6:upd (upd H5 B (.dK [])) x (.ins A.house dx (aN "booked" (.ref B) (aN "reserves_told" (.int 0) (aN "reserves" (.ref R) (aN "entries" (.ref E) (aN "hands" (.int 0) (aN "rules" .non [])))))))=H6 at b6 y6 z6 u6
 have x6:H6 x=some (.ins A.house dx (aN "booked" (.ref B) (aN "reserves_told" (.int 0) (aN "reserves" (.ref R) (aN "entries" (.ref E) (aN "hands" (.int 0) (aN "rules" .non []))))))):=by rw[←e6,ao]
 intro L hL
 have n7:Ext τ H6 (upd H6 L (.dK [])):=.new TB hL
 have nEL:E≠L:=aL y6 hL
 have nRL:R≠L:=aL z6 hL
 have nBL:B≠L:=aL u6 hL
 refine⟨_,rfl,x,A.house,dx,_,rfl,n7.ins x6,T.cH,T.nH _ (by decide),iw (iw (iw (iw (iw (iw (by decide)))))),?_⟩
 refine k _ ((b6.ext n7).over TB (n7.ins x6) True.intro) ⟨dx,.non,E,R,B,L,[],[],[],[],?_⟩
 exact {
  ob:=by rw[ao];rfl
  ru1:=fun o=>nomatch o
  ru0:=fun _=>rfl
  en:=jV (n7.dK y6) (n7.ins x6)
  enq:=.nil
  ena:=.nil
  enr:=fun _ z=>nomatch z
  enD:=fun _ z=>nomatch z
  eno:=fun _ z=>nomatch z
  ent:=.refl _
  re:=jV (n7.dK z6) (n7.ins x6)
  rea:=.nil
  bo:=jV (n7.dK u6) (n7.ins x6)
  bol:=fun _ z=>nomatch z
  bop:=.refl _
  lo:=jV ao (n7.ins x6)
  lon:=.nil
  lop:=fun q=>⟨fun z=>(nomatch z),fun z=>(nomatch z)⟩
  apart:=by simp[nER,nEB,nEL,nRB,nRL,nBL] }
def spQN(A:dz)(τ:Hp→Prop):Sp:=fun vs H Q _=>∃x dx h s q,vs=[.ref x,.ref h,.int (q:Nat)]∧H x=some (.ins A.now dx [])∧aY A H h s∧QM.Wf s∧s.opened=true∧
 ∀H',ExtBut τ x H H'→Now A H' x s.rules s.hands (fun k p w=>Vbemaj.get s k p w q) (Vbemaj.callsAt s q)→Q .non H'
theorem ok_QuarterNow(TB:bD τ)(T:Txt K mg A)(D:jU K mg "QuarterNow" "QuarterNow.__init__" A.now cI):lD P w K mg base 1 "QuarterNow" A.now ["self","house","quarter"] (spQN A τ):=by
 refine lD.of D cB bd_QuarterNow_init fun f _ _ _ _ H vs Q E hr h=>?_
 obtain⟨x,dx,h,s,q,rfl,hx,⟨dh,ra,Ed,R,B,L,es,as,bs,ls,HO⟩,W,op,k⟩:=h
 have hu:=nM hr
 refine⟨_,(aq (cG (pv 0) (aJ (pv 1) rfl) rfl) (aq (cG (pv 0) (aJ (pv 1) rfl) rfl) (aq (cG (pv 0) (pe_dget2 hu (aJ (pv 1) rfl) (pv 2) pe_dnewT ⟨rfl,rfl,rfl,rfl⟩) rfl) (aq (cG (pv 0) (pe_lock (fG (own:=[("call",3)]) rfl cB.nd (pi_values (aJ (pv 1) rfl)) (show cV ["self","house","quarter","call","key"] (aG cI) _ _ from⟨rfl,by decide +kernel,by decide +kernel,by decide +kernel,by decide +kernel⟩) (fun _ _ _ _ _=>(aX (i:=3) cB.nd rfl (Or.inl rfl))) (fun _ _ _ _ _=>(f9 (aO bT (dg (K:=K) rfl (pv 3) rfl) (pv 2) (aV _)))) (fun _ _ _ _ _=>(pv 3)))) rfl) (au (cG (pv 0) (bR op_cat (pe_lock (fG (own:=[("key",4)]) rfl cB.nd (pi_keys (aJ (pv 0) rfl)) (show cV ["self","house","quarter","call","key"] (aG cI) _ _ from⟨rfl,by decide +kernel,by decide +kernel,by decide +kernel,by decide +kernel⟩) (fun _ _ _ _ _=>(aX (i:=4) cB.nd rfl (Or.inl rfl))) (fun _ _ _ _ _=>dD) (fun _ _ _ _ _=>(bU (ix_tupK (K:=K) rfl) (pv 4) aH (fun _ _=>rfl))))) (fG (own:=[("call",3)]) rfl cB.nd (bY (aJ (pv 0) rfl)) (show cV ["self","house","quarter","call","key"] (aG cI) _ _ from⟨rfl,by decide +kernel,by decide +kernel,by decide +kernel,by decide +kernel⟩) (fun _ _ _ _ _=>(aX (i:=3) cB.nd rfl (Or.inl rfl))) (fun _ _ _ _ _=>dD) (fun _ _ _ _ _=>(dg (K:=K) rfl (pv 3) rfl)))) rfl)))))),?_⟩
 obtain⟨rr,rfl,dr0,RU⟩:=HO.ru1 op
 have b0:ExtBut τ x H H:=.refl
 refine⟨_,rfl,h,A.house,dh,_,_,rfl,HO.ob,T.cH,T.nH _ (by decide),rfl,_,rfl,x,A.now,dx,_,rfl,hx,T.cN,T.nN _ (by decide),by decide,?_⟩
 have b1:=b0.over TB hx True.intro (o':=.ins A.now dx (aN "rules" (.ref rr) []))
 generalize e1:upd H x (.ins A.now dx (aN "rules" (.ref rr) []))=H1 at b1
 have x1:H1 x=some (.ins A.now dx (aN "rules" (.ref rr) [])):=by rw[←e1,ao]
 have O1:=HO.but b1 hx
 refine⟨_,rfl,h,A.house,dh,_,_,rfl,O1.ob,T.cH,T.nH _ (by decide),rfl,_,rfl,x,A.now,dx,_,rfl,x1,T.cN,T.nN _ (by decide),iw (by decide),?_⟩
 have b2:=b1.over TB x1 True.intro (o':=.ins A.now dx (aN "hands" (.int (s.hands:Nat)) (aN "rules" (.ref rr) [])))
 generalize e2:upd H1 x (.ins A.now dx (aN "hands" (.int (s.hands:Nat)) (aN "rules" (.ref rr) [])))=H2 at b2
 have x2:H2 x=some (.ins A.now dx (aN "hands" (.int (s.hands:Nat)) (aN "rules" (.ref rr) []))):=by rw[←e2,ao]
 have O2:=HO.but b2 hx
 refine⟨_,rfl,h,A.house,dh,_,_,rfl,O2.ob,T.cH,T.nH _ (by decide),rfl,Ed,rfl,.inl ⟨_,Rd.of O2.en⟩,_,rfl,fun p3 hp3=>?_⟩
 have n3:Ext τ H2 (upd H2 p3 (.dT [])):=.new TB hp3
 have O2':=O2.ext n3
 refine⟨_,iI.k (k:=kN q) O2'.en,?_⟩
 obtain⟨dd,ents,hd,hT,hok⟩:∃(dd:Addr) (ents:List Vbemaj.Entry),(cW (gJ es) (kN q)).getD (.ref p3)=.ref dd∧(upd H2 p3 (.dT [])) dd=some (.dT (ents.map eKV))∧j6 s.hands (fun k p w=>Vbemaj.get s k p w q) (ents.map eK):=by
  by_cases hq:∃e∈es,e.1=q
  ·obtain⟨e,he,rfl⟩:=hq
   refine⟨e.2.1,e.2.2,?_,O2'.enD e he,O2'.entOk W he⟩
   unfold gJ
   rw[mG (f:=fun(e:QE)=>e.1) (g:=fun(e:QE)=>V.ref e.2.1) HO.enq he]
   rfl
  ·refine⟨p3,[],?_,ao,O2'.entNo W fun e he z=>hq ⟨e,he,z⟩⟩
   unfold gJ
   rw[lJ (f:=fun(e:QE)=>e.1) (g:=fun(e:QE)=>V.ref e.2.1) fun e he z=>hq ⟨e,he,z⟩]
   rfl
 rw[hd]
 refine⟨_,rfl,x,A.now,dx,_,rfl,n3.ins x2,T.cN,T.nN _ (by decide),iw (iw (by decide)),?_⟩
 have b3:=(b2.ext n3).over TB (n3.ins x2) True.intro (o':=.ins A.now dx (aN "entries" (.ref dd) (aN "hands" (.int (s.hands:Nat)) (aN "rules" (.ref rr) []))))
 have hT3:=dT_upd (o:=.ins A.now dx (aN "entries" (.ref dd) (aN "hands" (.int (s.hands:Nat)) (aN "rules" (.ref rr) [])))) hT (n3.ins x2)
 generalize e3:upd (upd H2 p3 (.dT [])) x (.ins A.now dx (aN "entries" (.ref dd) (aN "hands" (.int (s.hands:Nat)) (aN "rules" (.ref rr) []))))=H3 at b3 hT3
 have x3:H3 x=some (.ins A.now dx (aN "entries" (.ref dd) (aN "hands" (.int (s.hands:Nat)) (aN "rules" (.ref rr) [])))):=by rw[←e3,ao]
 have O3:=HO.but b3 hx
 refine⟨R,_,O3.re,True.intro,fun od=>?_⟩
 have nhR:h≠R:=bI O3.ob O3.re (fun z=>nomatch z)
 refine⟨_,rfl,h,A.house,dh,_,_,rfl,by rw[aB nhR];exact O3.ob,T.cH,T.nH _ (by decide),rfl,R,od,_,rfl,ao,?_⟩
 have hlen:as.length=s.calls.length:=Paired.length HO.rea
 have hrl:(bV s.calls as).length=s.calls.length:=oF hlen
 have nR:∀{ai dr:Addr}{c:Vbemaj.Called},H3 ai=some (.ins A.res dr (resF c))→(upd H3 R (.d8 od (.dK (bV s.calls as)))) ai=some (.ins A.res dr (resF c)):=fun{ai dr c} q=>by rw[aB (bI q O3.re fun z=>nomatch z)];exact q
 refine lc_vals TB ao (by rw[hrl,sizeLine_eq];have:=W.most;omega) (fun i=>(s.calls[i]?).bind fun c=>if (c.q==q)=true then(as[i]?).map V.ref else none) (fun i ky v hi H' e R' Nn h1 h2=>?_) fun D4 H4 e4 hD4 hL4=>?_
 ·obtain⟨c,ai,hc,hai,rfl⟩:=resKV_get hlen hi
  obtain⟨c',hc',dr,hr'⟩:=dU O3.rea hai
  rw[hc]at hc'
  cases hc'
  rw[hc,hai]at h1 h2
  refine⟨rfl,_,rfl,ai,A.res,dr,_,_,rfl,e.ins (nR hr'),T.cE,T.nE _ (by decide),rfl,_,rfl,rfl,_,rfl,aP (fun c1=>?_) fun c1=>?_⟩
  ·have c1':((c.q:Nat):Int)=q:=by simpa using of_decide_eq_true c1
   refine⟨_,rfl,h1 _ _ ?_ (.refl _)⟩
   show(if (c.q==q)=true then some (V.ref ai)else none)=_
   rw[if_pos (by simp;omega)]
  ·refine h2 _ ?_ (.refl _)
   show(if (c.q==q)=true then some (V.ref ai)else none)=_
   rw[if_neg]
   intro z
   have z':c.q=q:=by simpa using z
   exact c1 (decide_eq_true (by rw[z']))
 ·rw[hrl,←hlen,oE (fun c=>c.q==q) HO.rea]at hL4
  obtain⟨hf,eu⟩:=Ext.unlock (u:=.dK (bV s.calls as)) TB True.intro (fun _ z=>nomatch z) O3.re e4
  refine⟨hf,_,rfl,x,A.now,dx,_,rfl,eu.ins x3,T.cN,T.nN _ (by decide),iw (iw (iw (by decide))),?_⟩
  have b4:=(b3.ext eu).over TB (eu.ins x3) True.intro (o':=.ins A.now dx (aN "calls" (.ref D4) (aN "entries" (.ref dd) (aN "hands" (.int (s.hands:Nat)) (aN "rules" (.ref rr) [])))))
  have hD4R:D4≠R:=bI hL4 hf (fun z=>nomatch z)
  have hL5:(upd H4 R (.dK (bV s.calls as))) D4=some (.lst ((sel (fun c=>c.q==q) as s.calls).map V.ref)):=by rw[aB hD4R];exact hL4
  have hL6:(upd (upd H4 R (.dK (bV s.calls as))) x (.ins A.now dx (aN "calls" (.ref D4) (aN "entries" (.ref dd) (aN "hands" (.int (s.hands:Nat)) (aN "rules" (.ref rr) [])))))) D4=some (.lst ((sel (fun c=>c.q==q) as s.calls).map V.ref)):=by
   rw[aB (bI hL5 (eu.ins x3) fun z=>nomatch z)];exact hL5
  have hT5:=dT_upd (o:=.ins A.now dx (aN "calls" (.ref D4) (aN "entries" (.ref dd) (aN "hands" (.int (s.hands:Nat)) (aN "rules" (.ref rr) []))))) (eu.dT hT3) (eu.ins x3)
  generalize e5:upd (upd H4 R (.dK (bV s.calls as))) x (.ins A.now dx (aN "calls" (.ref D4) (aN "entries" (.ref dd) (aN "hands" (.int (s.hands:Nat)) (aN "rules" (.ref rr) [])))))=H5 at b4 hT5 hL6
  have x5:H5 x=some (.ins A.now dx (aN "calls" (.ref D4) (aN "entries" (.ref dd) (aN "hands" (.int (s.hands:Nat)) (aN "rules" (.ref rr) []))))):=by rw[←e5,ao]
  have O5:=HO.but b4 hx
  have few:ents.length≤96:=by have:=hok.few;rw[List.length_map]at this;exact this
  refine⟨dd,_,hT5,True.intro,fun od5=>?_⟩
  have nxd:x≠dd:=bI x5 hT5 (fun z=>nomatch z)
  refine⟨_,rfl,x,A.now,dx,_,_,rfl,by rw[aB nxd];exact x5,T.cN,T.nN _ (by decide),rfl,dd,od5,rfl,.inr ⟨_,ao,?_⟩⟩
  refine lc_keysT TB ao (by rw[List.length_map,sizeLine_eq];omega) (fun i=>(ents[i]?).bind fun e=>some (k1 (eK e).1)) (fun i ky v q5 hi H' e hq R' Nn h1 h2=>?_) fun D6 H6 e6 hD6 hL7=>?_
  ·rw[List.getElem?_map]at hi
   obtain⟨en,hen,he⟩:=Option.map_eq_some_iff.mp hi
   cases he
   rw[hen]at h1
   obtain⟨k0,b0',c0,hk,hb0⟩:∃k0 b0' c0,(lC en.kind en.p en.w).map kV=[k0,b0',c0]∧k1 (lC en.kind en.p en.w)=b0':=by
    rcases en.kind with _|_|_|_|kind <;> exact⟨_,_,_,rfl,rfl⟩
   rw[hk]at hq
   exact⟨rfl,_,rfl,q5,_,1,_,rfl,rfl,jh.of hq,rfl,h1 _ _ (congrArg some hb0) (.refl _)⟩
  obtain⟨u1,u2⟩:=Ext.unlock (u:=.dT (ents.map eKV)) TB True.intro (fun _ z=>nomatch z) hT5 e6
  have nDd:D6≠dd:=fun z=>by rw[z,ao]at hD6;cases hD6
  have hL8:(upd H6 dd (.dT (ents.map eKV))) D6=some (.lst ((ents.map eK).map fun e=>k1 e.1)):=by
   rw[aB nDd,hL7,List.length_map,bN (fun e=>some (k1 (eK e).1)),filterMap_some,List.map_map]
   rfl
  refine⟨u1,?_⟩
  have O6:=O5.ext u2
  have hres:=sel_ok (fun c=>c.q==q) O6.rea
  have hsl:(sel (fun c=>c.q==q) as s.calls).length=(Vbemaj.callsAt s q).length:=Paired.length hres
  have hcl:(Vbemaj.callsAt s q).length≤64:=Nat.le_trans (List.length_filter_le _ _) W.most
  refine⟨_,rfl,x,A.now,dx,_,_,rfl,u2.ins x5,T.cN,T.nN _ (by decide),rfl,D4,rfl,⟨_,bh.of (u2.lst hL6)⟩,?_⟩
  refine dJ TB (bh.of (u2.lst hL6)) (by rw[List.length_map,sizeLine_eq];omega) (fun i=>((Vbemaj.callsAt s q)[i]?).bind fun c=>some (V.int (c.p:Nat))) (fun i y hy H' e R' Nn h1 h2=>?_) fun D9 H9 e9 hD9 hL9=>?_
  ·rw[List.getElem?_map]at hy
   obtain⟨ai,hai,rfl⟩:=Option.map_eq_some_iff.mp hy
   obtain⟨c,hc,dr,hr'⟩:=dU hres hai
   have hc':(Vbemaj.callsAt s q)[i]?=some c:=hc
   rw[hc']at h1
   exact⟨rfl,_,rfl,ai,A.res,dr,_,_,rfl,e.ins hr',T.cE,T.nE _ (by decide),rfl,h1 _ _ rfl (.refl _)⟩
  rw[List.length_map,hsl,bN (fun c=>some (V.int ((c:Vbemaj.Called).p:Nat))),filterMap_some]at hL9
  have x9:=u2.trans e9
  refine⟨D6,D9,_,_,rfl,rfl,e9.lst hL8,hL9,?_,fun p10 hp10=>?_⟩
  ·rw[List.length_map,List.length_map,List.length_map,sizeLine_eq]
   omega
  have n10:Ext τ H5 (upd H9 p10 (.lst (((ents.map eK).map fun e=>k1 e.1)++(Vbemaj.callsAt s q).map fun c=>V.int (c.p:Nat)))):=x9.then TB hp10
  refine⟨_,rfl,x,A.now,dx,_,rfl,n10.ins x5,T.cN,T.nN _ (by decide),iw (iw (iw (iw (by decide)))),?_⟩
  have b11:=(b4.ext n10).over TB (n10.ins x5) True.intro (o':=.ins A.now dx (aN "hands_told" (.ref p10) (aN "calls" (.ref D4) (aN "entries" (.ref dd) (aN "hands" (.int (s.hands:Nat)) (aN "rules" (.ref rr) []))))))
  have O11:=HO.but b11 hx
  have hLn:∀{b:Addr}{xs:List V}{o:L2.HO},(upd H9 p10 (.lst (((ents.map eK).map fun e=>k1 e.1)++(Vbemaj.callsAt s q).map fun c=>V.int (c.p:Nat)))) b=some (.lst xs)→(upd (upd H9 p10 (.lst (((ents.map eK).map fun e=>k1 e.1)++(Vbemaj.callsAt s q).map fun c=>V.int (c.p:Nat)))) x o) b=some (.lst xs):=
   fun{b xs o} h=>by rw[aB (bI h (n10.ins x5) fun z=>nomatch z)];exact h
  refine k _ b11 ⟨dx,rr,dd,D4,p10,ents.map eK,sel (fun c=>c.q==q) as s.calls,?_⟩
  exact {
   ob:=by rw[ao];rfl
   ru:=by obtain⟨a',e',h'⟩:=O11.ru1 op;cases e';exact h'
   en:=by rw[entV_eK];exact dT_upd (n10.dT hT5) (n10.ins x5)
   ok:=hok
   ls:=hLn (n10.lst hL6)
   ca:=sel_ok _ O11.rea
   wf:={
    nn:=W.hands
    co:=fun c hc=>by
     have hc':=W.call c (List.mem_filter.mp hc).1
     exact⟨hc'.hand,hc'.amount,hc'.price⟩
    cf:=Nat.le_trans (List.length_filter_le _ _) W.most
    ro:=W.rules op
    wt:=fun p=>get_wt W p q }
   tt:=hLn ao }
section
variable{A:dz}{H:Hp}{h dh E R B L:Addr}{s:Vbemaj.State}{ra:V}{es:List QE}{as:List Addr}{bs:List QB}{ls:List Nat}
theorem aR.es_len(x:aR A H h s dh ra E R B L es as bs ls):es.length≤10000:=by
 have:=x.enq.length_le_of_subset (l₂:=List.range 10000) fun q hq=>by
  obtain⟨e,he,rfl⟩:=List.mem_map.mp hq
  exact List.mem_range.mpr (x.enr e he)
 rw[List.length_map,List.length_range]at this
 exact this
theorem aR.locked(x:aR A H h s dh ra E R B L es as bs ls)(q:Nat):(cW (lockV ls) (kN q)).isSome=Vbemaj.isLocked s q:=by
 unfold lockV
 by_cases hq:q∈ls
 ·rw[(x.lop q).mp hq,mG (f:=fun(q:Nat)=>q) (g:=fun _=>V.bl true) (by rw[show(fun(q:Nat)=>q)=id from rfl,List.map_id];exact x.lon) hq]
  rfl
 ·rw[lJ (f:=fun(q:Nat)=>q) (g:=fun _=>V.bl true) fun y hy z=>hq (by rw[←z];exact hy)]
  cases e:Vbemaj.isLocked s q with
  |false=>rfl
  |true=>exact absurd ((x.lop q).mpr e) hq
theorem same_key{n:Nat}{x y:Vbemaj.Entry}(vx:QM.Valid n x.kind x.p x.w)(vy:QM.Valid n y.kind y.p y.w)(hq:y.q=x.q):(eKV y).1=lC x.kind x.p x.w↔Vbemaj.same x y=true:=by
 constructor
 ·intro e
  obtain⟨k1,k2,k3⟩:=kOf_inj vy vx e
  exact QM.same_iff.mpr ⟨k1.symm,k2.symm,k3.symm,hq.symm⟩
 ·intro e
  obtain⟨k1,k2,k3,_⟩:=QM.same_iff.mp e
  unfold eKV
  rw[k1,k2,k3]
theorem putK_eKV{n:Nat}{x:Vbemaj.Entry}{l:List Vbemaj.Entry}(vx:QM.Valid n x.kind x.p x.w)(hl:∀y∈l,QM.Valid n y.kind y.p y.w∧y.q=x.q):putK (l.map eKV) (lC x.kind x.p x.w) (.int x.amount)=(QM.putE x l).map eKV:=by
 unfold putK QM.putE
 have e1:((l.map eKV).any fun kv=>decide (kv.1=lC x.kind x.p x.w))=l.any fun y=>Vbemaj.same x y:=by
  rw[List.any_map]
  induction l with
  |nil=>rfl
  |cons a l ih=>
   rw[List.any_cons,List.any_cons,ih fun y hy=>hl y (List.mem_cons_of_mem _ hy)]
   congr 1
   have:=same_key vx (hl a List.mem_cons_self).1 (hl a List.mem_cons_self).2
   show decide ((eKV a).1=lC x.kind x.p x.w)=_
   rw[Bool.eq_iff_iff,decide_eq_true_iff]
   exact this
 rw[e1]
 split
 ·rw[List.map_map,List.map_map]
  apply List.map_congr_left
  intro y hy
  have:=same_key vx (hl y hy).1 (hl y hy).2
  show(if (eKV y).1=lC x.kind x.p x.w then((eKV y).1,V.int x.amount)else eKV y)=eKV (if Vbemaj.same x y=true then x else y)
  by_cases c:Vbemaj.same x y=true
  ·rw[if_pos (this.mpr c),if_pos c,this.mpr c]
   rfl
  ·rw[if_neg (fun z=>c (this.mp z)),if_neg c]
 ·rw[List.map_append]
  rfl
theorem dropK_eKV{n:Nat}{x:Vbemaj.Entry}{l:List Vbemaj.Entry}(vx:QM.Valid n x.kind x.p x.w)(hl:∀y∈l,QM.Valid n y.kind y.p y.w∧y.q=x.q):mq (l.map eKV) (lC x.kind x.p x.w)=(l.filter fun y=>!Vbemaj.same x y).map eKV:=by
 unfold mq
 rw[List.filter_map]
 congr 1
 apply List.filter_congr
 intro y hy
 have:=same_key vx (hl y hy).1 (hl y hy).2
 show decide (¬(eKV y).1=lC x.kind x.p x.w)=_
 rw[Bool.eq_iff_iff,decide_eq_true_iff,this]
 cases Vbemaj.same x y <;> simp
theorem aR.quarter(x:aR A H h s dh ra E R B L es as bs ls)(W:QM.Wf s){p3:Addr}(hp:H p3=some (.dT []))(q:Nat):
  ∃(dd:Addr) (ents:List Vbemaj.Entry),(cW (gJ es) (kN q)).getD (.ref p3)=.ref dd∧H dd=some (.dT (ents.map eKV))∧j6 s.hands (fun k p w=>Vbemaj.get s k p w q) (ents.map eK):=by
 by_cases hq:∃e∈es,e.1=q
 ·obtain⟨e,he,rfl⟩:=hq
  refine⟨e.2.1,e.2.2,?_,x.enD e he,x.entOk W he⟩
  unfold gJ
  rw[mG (f:=fun(e:QE)=>e.1) (g:=fun(e:QE)=>V.ref e.2.1) x.enq he]
  rfl
 ·refine⟨p3,[],?_,hp,x.entNo W fun e he z=>hq ⟨e,he,z⟩⟩
  unfold gJ
  rw[lJ (f:=fun(e:QE)=>e.1) (g:=fun(e:QE)=>V.ref e.2.1) fun e he z=>hq ⟨e,he,z⟩]
  rfl
theorem j6.isSome{n:Nat}{g:gT}{ents:List (List Key×Int)}(x:j6 n g ents){kind p w:Nat}(v:QM.Valid n kind p w):(cW (entV ents) (lC kind p w)).isSome=decide (g kind p w≠0):=by
 by_cases c:g kind p w=0
 ·rw[lk_of]
  ·simp[c]
  ·intro e he q
   obtain⟨kind',p',w',v',e1,e2,e3⟩:=x.key e he
   rw[e1]at q
   obtain⟨rfl,rfl,rfl⟩:=kOf_inj v' v q
   rw[e2]at e3
   exact e3 c
 ·rw[lk_in x.nd (x.all kind p w v c)]
  simp[c]
theorem aR.addq(x:aR A H h s dh ra E R B L es as bs ls){p q:Nat}(hp:H p=some (.dT []))(hn:∀e∈es,e.1≠q)(hna:∀e∈es,e.2.1≠p)(hq:q<10000):
  aR A (upd H E (.dK (putK (gJ es) (kN q) (.ref p)))) h s dh ra E R B L (es++[(q,p,[])]) as bs ls:=by
 obtain⟨⟨nR,nB,nL⟩,a2⟩:(E≠R∧E≠B∧E≠L)∧True:=by have:=x.apart;simp at this;exact⟨⟨this.1.1,this.1.2.1,this.1.2.2⟩,True.intro⟩
 have ki:∀{a C d:Addr}{fs:List (Str×V)},H a=some (.ins C d fs)→(upd H E (.dK (putK (gJ es) (kN q) (.ref p)))) a=some (.ins C d fs):=fun z=>by rw[aB (bI z x.en fun z=>nomatch z)];exact z
 have kt:∀{a:Addr}{kvs:List (List Key×V)},H a=some (.dT kvs)→(upd H E (.dK (putK (gJ es) (kN q) (.ref p)))) a=some (.dT kvs):=fun z=>by rw[aB (bI z x.en fun z=>nomatch z)];exact z
 exact {
  ob:=ki x.ob
  ru1:=fun o=>let⟨a,h1,dr,h2⟩:=x.ru1 o;⟨a,h1,dr,ki h2⟩
  ru0:=x.ru0
  en:=by
   rw[ao]
   unfold gJ
   rw[put_new (f:=fun(e:QE)=>e.1) (g:=fun(e:QE)=>V.ref e.2.1) hn,List.map_append]
   rfl
  enq:=by
   rw[List.map_append]
   refine List.nodup_append.mpr ⟨x.enq,by simp,fun a ha b hb z=>?_⟩
   obtain⟨e,he,rfl⟩:=List.mem_map.mp ha
   simp at hb
   exact hn e he (z.trans hb)
  ena:=by
   rw[List.map_append]
   refine List.nodup_append.mpr ⟨x.ena,by simp,fun a ha b hb z=>?_⟩
   obtain⟨e,he,rfl⟩:=List.mem_map.mp ha
   simp at hb
   exact hna e he (z.trans hb)
  enr:=fun e he=>by
   rcases List.mem_append.mp he with he|he
   ·exact x.enr e he
   ·simp at he;rw[he];exact hq
  enD:=fun e he=>by
   rcases List.mem_append.mp he with he|he
   ·exact kt (x.enD e he)
   ·simp at he;rw[he];exact kt hp
  eno:=fun e he=>by
   rcases List.mem_append.mp he with he|he
   ·exact x.eno e he
   ·simp at he;rw[he];intro y hy;cases hy
  ent:=by rw[List.flatMap_append];simpa using x.ent
  re:=by rw[aB (fun z=>nR z.symm)];exact x.re
  rea:=Paired.mapP x.rea fun _ _ ⟨dr,hr⟩=>⟨dr,ki hr⟩
  bo:=by rw[aB (fun z=>nB z.symm)];exact x.bo
  bol:=fun b hb=>by rw[aB (bI (x.bol b hb) x.en fun z=>nomatch z)];exact x.bol b hb
  bop:=x.bop
  lo:=by rw[aB (fun z=>nL z.symm)];exact x.lo
  lon:=x.lon
  lop:=x.lop
  apart:=x.apart }
theorem aR.told{pre post:List QE}{l l':List Vbemaj.Entry}{d q kind p w:Nat}{a:Int}(x:aR A H h s dh ra E R B L (pre++(q,d,l)::post) as bs ls)(W:QM.Wf s)
  (hl:l'.Perm (if a=0 then l.filter (fun y=>!Vbemaj.same ⟨kind,p,w,q,a⟩ y)else⟨kind,p,w,q,a⟩::l.filter fun y=>!Vbemaj.same ⟨kind,p,w,q,a⟩ y)):
  aR A (upd H d (.dT (l'.map eKV))) h { s with table:=Vbemaj.told ⟨kind,p,w,q,a⟩ s.table } dh ra E R B L (pre++(q,d,l')::post) as bs ls:=by
 have hd:H d=some (.dT (l.map eKV)):=x.enD (q,d,l) (by simp)
 have ki:∀{a C d':Addr}{fs:List (Str×V)},H a=some (.ins C d' fs)→(upd H d (.dT (l'.map eKV))) a=some (.ins C d' fs):=fun z=>by rw[aB (bI z hd fun z=>nomatch z)];exact z
 have kk:∀{a:Addr}{kvs:List (Key×V)},H a=some (.dK kvs)→(upd H d (.dT (l'.map eKV))) a=some (.dK kvs):=fun z=>by rw[aB (bI z hd fun z=>nomatch z)];exact z
 have mm:∀e,e∈pre++(q,d,l')::post→e=(q,d,l')∨(e∈pre++(q,d,l)::post∧e.2.1≠d∧e.1≠q):=fun e he=>by
  have n1:=x.ena
  have n2:=x.enq
  rw[List.map_append,List.map_cons]at n1 n2
  obtain⟨_,n1b,n1c⟩:=List.nodup_append.mp n1
  obtain⟨_,n2b,n2c⟩:=List.nodup_append.mp n2
  rcases List.mem_append.mp he with he|he
  ·exact .inr ⟨List.mem_append_left _ he,fun z=>n1c _ (List.mem_map.mpr ⟨e,he,rfl⟩) d List.mem_cons_self z,fun z=>n2c _ (List.mem_map.mpr ⟨e,he,rfl⟩) q List.mem_cons_self z⟩
  ·rcases List.mem_cons.mp he with he|he
   ·exact .inl he
   ·exact .inr ⟨List.mem_append_right _ (List.mem_cons_of_mem _ he),fun z=>(List.nodup_cons.mp n1b).1 (List.mem_map.mpr ⟨e,he,z⟩),fun z=>(List.nodup_cons.mp n2b).1 (List.mem_map.mpr ⟨e,he,z⟩)⟩
 have hall:∀y∈l',y.q=q:=fun y hy=>by
  have hy':=hl.mem_iff.mp hy
  split at hy'
  ·exact x.eno (q,d,l) (by simp) y (List.mem_filter.mp hy').1
  ·rcases List.mem_cons.mp hy' with rfl|hy'
   ·rfl
   ·exact x.eno (q,d,l) (by simp) y (List.mem_filter.mp hy').1
 exact {
  ob:=ki x.ob
  ru1:=fun o=>let⟨a,h1,dr,h2⟩:=x.ru1 o;⟨a,h1,dr,ki h2⟩
  ru0:=x.ru0
  en:=by
   rw[kk x.en]
   unfold gJ
   rw[List.map_append,List.map_append]
   rfl
  enq:=by have:=x.enq;rw[List.map_append]at *;exact this
  ena:=by have:=x.ena;rw[List.map_append]at *;exact this
  enr:=fun e he=>by
   rcases mm e he with rfl|⟨he,_⟩
   ·exact x.enr (q,d,l) (by simp)
   ·exact x.enr e he
  enD:=fun e he=>by
   rcases mm e he with rfl|⟨he,hne,_⟩
   ·exact ao
   ·rw[aB hne];exact x.enD e he
  eno:=fun e he=>by
   rcases mm e he with rfl|⟨he,hne,_⟩
   ·exact hall
   ·exact x.eno e he
  ent:=by
   have ht:=x.ent
   rw[List.flatMap_append,List.flatMap_cons]at ht ⊢
   refine QM.told_of W.tab ht (fun y hy=>?_) (fun y hy=>?_) hl
   ·obtain⟨e,he,hy⟩:=List.mem_flatMap.mp hy
    rcases mm e (List.mem_append_left _ he)with rfl|⟨he',_,hne⟩
    ·have n2:=x.enq
     rw[List.map_append,List.map_cons]at n2
     exact absurd rfl ((List.nodup_append.mp n2).2.2 q (List.mem_map.mpr ⟨_,he,rfl⟩) q List.mem_cons_self)
    ·rw[x.eno e he' y hy];exact hne
   ·obtain⟨e,he,hy⟩:=List.mem_flatMap.mp hy
    rcases mm e (List.mem_append_right _ (List.mem_cons_of_mem _ he))with rfl|⟨he',_,hne⟩
    ·have n2:=x.enq
     rw[List.map_append,List.map_cons]at n2
     exact absurd (List.mem_map.mpr ⟨_,he,rfl⟩) (List.nodup_cons.mp (List.nodup_append.mp n2).2.1).1
    ·rw[x.eno e he' y hy];exact hne
  re:=kk x.re
  rea:=Paired.mapP x.rea fun _ _ ⟨dr,hr⟩=>⟨dr,ki hr⟩
  bo:=kk x.bo
  bol:=fun b hb=>by rw[aB (bI (x.bol b hb) hd fun z=>nomatch z)];exact x.bol b hb
  bop:=x.bop
  lo:=kk x.lo
  lon:=x.lon
  lop:=x.lop
  apart:=x.apart }
end
def lB(A:dz)(τ:Hp→Prop):Sp:=fun vs H Q _=>∃h s p,vs=[.ref h,.int (p:Nat)]∧aY A H h s∧1≤p∧Gives τ (.bl (Vbemaj.isHand s p)) H Q
theorem ok_has_hand(T:Txt K mg A)(D:aF K mg "has_hand" lM):Has P w K mg base 1 "has_hand" ["house","hand"] (lB A τ):=by
 refine Has.of D sc_has_hand bd_has_hand fun _ _ _ _ _ H vs Q E hr h=>?_
 obtain⟨h,s,p,rfl,⟨dh,ra,Ed,R,B,L,es,as,bs,ls,HO⟩,hp,k⟩:=h
 refine⟨_,(au (aD (oR op_le (pv 1) (aJ (pv 0) rfl) (aV _)))),?_⟩
 refine⟨_,rfl,_,rfl,h,A.house,dh,_,_,rfl,HO.ob,T.cH,T.nH _ (by decide),rfl,_,_,rfl,rfl,?_⟩
 have e:Vbemaj.isHand s p=decide (((p:Nat):Int)≤(s.hands:Nat)):=by
  unfold Vbemaj.isHand
  rw[decide_eq_true hp,Bool.true_and,Bool.eq_iff_iff,decide_eq_true_iff,decide_eq_true_iff]
  omega
 have kk:=k H (.refl H)
 rw[e]at kk
 exact kk
def iz(A:dz)(τ:Hp→Prop):Sp:=fun vs H Q _=>∃h s q,vs=[.ref h,.int (q:Nat)]∧aY A H h s∧Gives τ (.bl (Vbemaj.isLocked s q)) H Q
theorem ok_is_locked(T:Txt K mg A)(D:aF K mg "is_locked" mO):Has P w K mg base 1 "is_locked" ["house","quarter"] (iz A τ):=by
 refine Has.of D sc_is_locked bd_is_locked fun _ _ _ _ _ H vs Q E hr h=>?_
 obtain⟨h,s,q,rfl,⟨dh,ra,Ed,R,B,L,es,as,bs,ls,HO⟩,k⟩:=h
 have hu:=nM hr
 refine⟨_,(au (aD (pe_cmp (pc_din hu (pv 1) (aJ (pv 0) rfl))))),?_⟩
 refine⟨_,rfl,_,rfl,h,A.house,dh,_,_,rfl,HO.ob,T.cH,T.nH _ (by decide),rfl,L,_,rfl,iI.k (k:=kN q) HO.lo,?_⟩
 rw[HO.locked]
 exact k H (.refl H)
def spCount(A:dz)(τ:Hp→Prop):Sp:=fun vs H Q _=>∃h s,vs=[.ref h]∧aY A H h s∧Gives τ (.int (s.table.length:Nat)) H Q
theorem ok_count_entries(TB:bD τ)(T:Txt K mg A)(D:aF K mg "count_entries" fJ):Has P w K mg base 1 "count_entries" ["house"] (spCount A τ):=by
 refine Has.of D jt bd_count_entries fun _ _ _ _ _ H vs Q E hr h=>?_
 obtain⟨h,s,rfl,⟨dh,ra,Ed,R,B,L,es,as,bs,ls,HO⟩,k⟩:=h
 refine⟨_,(au (aD (aU (cC rfl) rfl T.jK L2.boot_sum (aj (pe_lock (fG (own:=[("entries",1)]) rfl jt.nd (pi_values (aJ (pv 0) rfl)) (show cV ["house","entries"] (aG fJ) _ _ from⟨rfl,by decide +kernel,by decide +kernel,by decide +kernel,by decide +kernel⟩) (fun _ _ _ _ _=>(aX (i:=1) jt.nd rfl (Or.inl rfl))) (fun _ _ _ _ _=>dD) (fun _ _ _ _ _=>(aU n8 rfl T.iJ PySem.boot_len (aj (pv 1) ak))))) ak)))),?_⟩
 have nhE:h≠Ed:=bI HO.ob HO.en (fun z=>nomatch z)
 refine⟨Ed,_,HO.en,True.intro,fun od=>?_⟩
 refine⟨_,rfl,h,A.house,dh,_,_,rfl,by rw[aB nhE];exact HO.ob,T.cH,T.nH _ (by decide),rfl,Ed,od,_,rfl,ao,?_⟩
 have el:(gJ es).length=es.length:=by unfold gJ;rw[List.length_map]
 refine lc_vals TB ao (by rw[el,sizeLine_eq];have:=HO.es_len;omega) (fun i=>(es[i]?).bind fun e=>some (V.int ((e.2.2.length:Nat):Int))) (fun i ky v hi H' e R' Nn h1 h2=>?_) fun D4 H4 e4 hD4 hL4=>?_
 ·unfold gJ at hi
  rw[List.getElem?_map]at hi
  obtain⟨e0,he0,he⟩:=Option.map_eq_some_iff.mp hi
  cases he
  rw[he0]at h1
  have hd:=HO.enD e0 (List.mem_of_getElem? he0)
  have hd':H' e0.2.1=some (.dT (e0.2.2.map eKV)):=e.dT (by rw[aB (bI hd HO.en fun z=>nomatch z)];exact hd)
  refine⟨rfl,_,rfl,e0.2.1,_,rfl,.inr ⟨_,hd',rfl⟩,h1 _ _ ?_ (.refl _)⟩
  rw[List.length_map]
  rfl
 ·rw[el,bN,filterMap_some]at hL4
  obtain⟨hf,eu⟩:=Ext.unlock (u:=.dK (gJ es)) TB True.intro (fun _ z=>nomatch z) HO.en e4
  have hL5:(upd H4 Ed (.dK (gJ es))) D4=some (.lst ((es.map fun e=>((e.2.2.length:Nat):Int)).map V.int)):=by
   rw[aB (bI hL4 hf fun z=>nomatch z),hL4,List.map_map]
   rfl
  refine⟨hf,D4,_,rfl,bh.of hL5,?_⟩
  have e1:(es.map fun e=>((e.2.2.length:Nat):Int)).sum=((s.table.length:Nat):Int):=by
   rw[←HO.ent.length_eq,List.length_flatMap,←QM.jL,List.map_map]
   rfl
  rw[e1]
  exact k _ eu
def spIsEntry(A:dz)(τ:Hp→Prop):Sp:=fun vs H Q _=>∃h t s q kind p w,vs=[.ref h,.int (q:Nat),.ref t]∧aY A H h s∧QM.Wf s∧H t=some (.tup ((lC kind p w).map kV))∧QM.Valid s.hands kind p w∧Gives τ (.bl (decide (Vbemaj.get s kind p w q≠0))) H Q
theorem ok_is_entry(TB:bD τ)(T:Txt K mg A)(D:aF K mg "is_entry" oW):Has P w K mg base 1 "is_entry" ["house","quarter","key"] (spIsEntry A τ):=by
 refine Has.of D sc_is_entry bd_is_entry fun _ _ _ _ _ H vs Q E hr h=>?_
 obtain⟨h,t,s,q,kind,p,w,rfl,⟨dh,ra,Ed,R,B,L,es,as,bs,ls,HO⟩,W,ht,hv,k⟩:=h
 have hu:=nM hr
 refine⟨_,(au (aD (pe_cmp (pc_din hu (pv 2) (pe_dget2 hu (aJ (pv 0) rfl) (pv 1) pe_dnewT ⟨rfl,rfl,rfl,rfl⟩))))),?_⟩
 refine⟨_,rfl,_,rfl,h,A.house,dh,_,_,rfl,HO.ob,T.cH,T.nH _ (by decide),rfl,Ed,rfl,.inl ⟨_,Rd.of HO.en⟩,_,rfl,fun p3 hp3=>?_⟩
 have n3:Ext τ H (upd H p3 (.dT [])):=.new TB hp3
 have O3:=HO.ext n3
 refine⟨_,iI.k (k:=kN q) O3.en,?_⟩
 obtain⟨dd,ents,hd,hT,hok⟩:=O3.quarter W ao q
 rw[hd]
 refine⟨dd,_,rfl,iI.t hT (n3.tup ht),?_⟩
 rw[←entV_eK,hok.isSome hv]
 exact k _ n3
def spSet(A:dz)(τ:Hp→Prop):Sp:=fun vs H Q _=>∃h t s q kind p w a,vs=[.ref h,.int (q:Nat),.ref t,.int a]∧aY A H h s∧QM.Wf s∧q<10000∧H t=some (.tup ((lC kind p w).map kV))∧QM.Valid s.hands kind p w∧
 ∀H',Kept A τ H H'→aY A H' h { s with table:=Vbemaj.told ⟨kind,p,w,q,a⟩ s.table }→Q .non H'
theorem ok_set_entry(TB:bD τ)(T:Txt K mg A)(D:aF K mg "set_entry" mQ):Has P w K mg base 1 "set_entry" ["house","quarter","key","number"] (spSet A τ):=by
 refine Has.of D sc_set_entry bd_set_entry fun f _ _ _ _ H vs Q E hr h=>?_
 obtain⟨h,t,s,q,kind,p,w,a,rfl,⟨dh,ra,Ed,R,B,L,es,as,bs,ls,HO⟩,W,hq,ht,hv,k⟩:=h
 have hu:=nM hr
 refine⟨_,(aq (bw (i:=4) sc_set_entry.nd rfl (Or.inl rfl) (pe_dsetd (aJ (pv 0) rfl) (pv 1) pe_dnewT ⟨rfl,rfl,rfl,rfl⟩)) (au (aZ (aO bT (pv 3) aH (aV _)) (au (j8 (pe_dpopT hu (pv 4) (pv 2) aH ⟨rfl,rfl,rfl,rfl⟩))) (au (ps_dput hu (pv 4) (pv 2) (pv 3) rfl))))),?_⟩
 refine⟨_,rfl,h,A.house,dh,_,_,rfl,HO.ob,T.cH,T.nH _ (by decide),rfl,Ed,rfl,.inl ⟨_,Rd.of HO.en⟩,_,rfl,fun p3 hp3=>?_⟩
 have n3:Ext τ H (upd H p3 (.dT [])):=.new TB hp3
 have O3:=HO.ext n3
 have fin:∀(H4:Hp) (d:Addr) (l:List Vbemaj.Entry) (pre post:List QE),Kept A τ H H4→aR A H4 h s dh ra Ed R B L (pre++(q,d,l)::post) as bs ls→
   (tIfS (tTest (tOp rEq (tVar 3) (tC (V.int 0)))) (tDrop (tDPopT (tVar 4) (tVar 2) (tC (V.int 0)))) (sDPut (tVar 4) (tVar 2) (tVar 3))) { nx:=fun _ H'=>Q .non H',rt:=Q } ((start ["house","quarter","key","number","entries"] [.ref h,.int (q:Nat),.ref t,.int a]).set 4 (some (.ref d))) H4:=fun H4 d l pre post kp O4=>by
  have hd:H4 d=some (.dT (l.map eKV)):=O4.enD (q,d,l) (by simp)
  have ht4:=kp.tup ht
  have hl:∀y∈l,QM.Valid s.hands y.kind y.p y.w∧y.q=q:=fun y hy=>⟨(W.ent y (O4.in_table (e:=(q,d,l)) (by simp) hy)).val,O4.eno (q,d,l) (by simp) y hy⟩
  have few:l.length≤96:=by have:=(O4.entOk W (e:=(q,d,l)) (by simp)).few;rw[List.length_map]at this;exact this
  have ap:QM.Apart l:=(O4.all_apart W).sublist (sub_flat (e:=(q,d,l)) (by simp))
  refine⟨_,rfl,rfl,_,rfl,aP (fun c1=>?_) fun c1=>?_⟩
  ·have c1':a=0:=by simpa using of_decide_eq_true c1
   refine⟨_,rfl,d,rfl,.inr ⟨_,Rd.of hd⟩,_,rfl,l.map eKV,lC kind p w,t,hd,rfl,ht4,fun v hv'=>?_,fun hv'=>?_⟩
   ·refine k _ (kp.trans (.upd TB hd True.intro fun z=>z)) ?_
    rw[dropK_eKV (x:=⟨kind,p,w,q,a⟩) hv hl]
    exact⟨dh,ra,Ed,R,B,L,_,as,bs,ls,O4.told W (by rw[if_pos c1'])⟩
   ·have hnone:∀y∈l,Vbemaj.same ⟨kind,p,w,q,a⟩ y=false:=fun y hy=>by
     cases e:Vbemaj.same ⟨kind,p,w,q,a⟩ y with
     |false=>rfl
     |true=>
      have hk:=(same_key (x:=⟨kind,p,w,q,a⟩) hv (hl y hy).1 (hl y hy).2).mpr e
      have:=valV_any (lC kind p w) (l.map eKV)
      rw[hv']at this
      have h2:=List.any_eq_false.mp this (eKV y) (List.mem_map.mpr ⟨y,hy,rfl⟩)
      exact absurd (decide_eq_true hk) h2
    have hh:=O4.told (l':=l) (kind:=kind) (p:=p) (w:=w) (a:=a) W (by
     rw[if_pos c1',QM.dW fun y hy=>by rw[hnone y hy];rfl])
    have eu:upd H4 d (.dT (l.map eKV))=H4:=by
     funext b
     by_cases hb:b=d
     ·subst hb;rw[ao,hd]
     ·rw[aB hb]
    rw[eu]at hh
    exact k _ kp ⟨dh,ra,Ed,R,B,L,_,as,bs,ls,hh⟩
  ·have c1':¬a=0:=fun z=>c1 (decide_eq_true (by rw[z]))
   refine⟨_,rfl,_,rfl,_,rfl,d,_,rfl,DPut.t hd ht4 (by rw[List.length_map,sizeLine_eq];omega),?_⟩
   refine k _ (kp.trans (.upd TB hd True.intro fun z=>z)) ?_
   rw[putK_eKV (x:=⟨kind,p,w,q,a⟩) hv hl]
   exact⟨dh,ra,Ed,R,B,L,_,as,bs,ls,O4.told W (by rw[if_neg c1'];exact QM.putE_perm ap)⟩
 refine⟨gJ es,kN q,O3.en,rfl,by unfold gJ;rw[List.length_map,sizeLine_eq];have:=HO.es_len;omega,fun v hv'=>?_,fun hv'=>?_⟩
 ·by_cases hq':∃e∈es,e.1=q
  ·obtain⟨e,he,he1⟩:=hq'
   have e2:=mG (f:=fun(e:QE)=>e.1) (g:=fun(e:QE)=>V.ref e.2.1) HO.enq he
   unfold gJ at hv'
   rw[←he1,e2]at hv'
   cases hv'
   obtain⟨pre,post,epp⟩:=List.append_of_mem he
   obtain⟨q0,d0,l0⟩:=e
   have he1:q0=q:=he1
   subst he1
   rw[epp]at O3
   exact fin _ d0 l0 pre post (Ext.kept n3) O3
  ·unfold gJ at hv'
   rw[lJ (f:=fun(e:QE)=>e.1) (g:=fun(e:QE)=>V.ref e.2.1) fun e he z=>hq' ⟨e,he,z⟩]at hv'
   cases hv'
 ·have hn:∀e∈es,e.1≠q:=fun e he z=>by
   have e2:=mG (f:=fun(e:QE)=>e.1) (g:=fun(e:QE)=>V.ref e.2.1) HO.enq he
   unfold gJ at hv'
   rw[←z,e2]at hv'
   cases hv'
  have O4:=O3.addq ao hn (fun e he z=>by have:=HO.enD e he;rw[z,hp3]at this;cases this) hq
  exact fin _ p3 [] es [] ((Ext.kept n3).trans (.upd TB O3.en True.intro fun z=>z)) O4
structure TxtC(K:PySem.W.Frag)(mg:Str→Option Value)(A:dz):Prop extends Txt K mg A where
 g_OPEN:∃t,mg "OPEN"=some (.int (0) t)
 g_HAND:∃t,mg "HAND"=some (.int (1) t)
 g_MARKET:∃t,mg "MARKET"=some (.int (2) t)
 g_METER:∃t,mg "METER"=some (.int (3) t)
 g_AHEAD:∃t,mg "AHEAD"=some (.int (5) t)
 g_NOMINATE:∃t,mg "NOMINATE"=some (.int (6) t)
 g_RESERVE:∃t,mg "RESERVE"=some (.int (7) t)
 g_UNRESERVE:∃t,mg "UNRESERVE"=some (.int (8) t)
 g_SETTLE:∃t,mg "SETTLE"=some (.int (9) t)
 g_POSITION:∃t,mg "POSITION"=some (.int (11) t)
 g_MATCHED:∃t,mg "MATCHED"=some (.int (12) t)
 g_IMBALANCE:∃t,mg "IMBALANCE"=some (.int (13) t)
 g_PRICES:∃t,mg "PRICES"=some (.int (14) t)
 g_FRESH:∃t,mg "FRESH"=some (.int (15) t)
 g_PARTS:∃t,mg "PARTS"=some (.int (16) t)
 g_BOOKED:∃t,mg "BOOKED"=some (.int (17) t)
 g_ACCOUNT:∃t,mg "ACCOUNT"=some (.int (18) t)
 g_MERIT:∃t,mg "MERIT"=some (.int (19) t)
 g_PENDING:∃t,mg "PENDING"=some (.int (22) t)
 g_SUMS:∃t,mg "SUMS"=some (.int (23) t)
 g_SPLIT:∃t,mg "SPLIT"=some (.int (24) t)
 g_MOST_HANDS:∃t,mg "MOST_HANDS"=some (.int (32) t)
 g_MOST_ENTRIES:∃t,mg "MOST_ENTRIES"=some (.int (96) t)
 g_MOST_RESERVES:∃t,mg "MOST_RESERVES"=some (.int (64) t)
 g_MOST_RESERVES_TOLD:∃t,mg "MOST_RESERVES_TOLD"=some (.int (1000000000) t)
 g_MOST_BOOKED:∃t,mg "MOST_BOOKED"=some (.int (64) t)
 bx:∃t,mg "ACCEPTED"=some (.int (0) t)
 g_OUT_OF_RANGE:∃t,mg "OUT_OF_RANGE"=some (.int (-1) t)
 g_NOT_OPEN:∃t,mg "NOT_OPEN"=some (.int (-2) t)
 g_OPEN_ALREADY:∃t,mg "OPEN_ALREADY"=some (.int (-3) t)
 g_HIGH_BELOW_LOW:∃t,mg "HIGH_BELOW_LOW"=some (.int (-4) t)
 eO:∃t,mg "NO_SUCH_HAND"=some (.int (-5) t)
 g_FULL:∃t,mg "FULL"=some (.int (-6) t)
 g_LOCKED:∃t,mg "LOCKED"=some (.int (-7) t)
 g_NO_SUCH_RESERVE:∃t,mg "NO_SUCH_RESERVE"=some (.int (-8) t)
 jP:∃t,mg "PRICE_BEYOND_RULES"=some (.int (-9) t)
 g_SAME_HAND:∃t,mg "SAME_HAND"=some (.int (-10) t)
 g_NOT_AS_BOOKED:∃t,mg "NOT_AS_BOOKED"=some (.int (-11) t)
def gP(s:Vbemaj.State):Vbemaj.Res→Vbemaj.State×List Int
 |.error e=>(s,[e])
 |.ok (t,l)=>(t,0::l)
def Ans(A:dz)(τ:Hp→Prop)(H:Hp)(h:Addr)(r:Vbemaj.State×List Int)(Q:VK):Prop:=∀H' l,Kept A τ H H'→aY A H' h r.1→H' l=some (.lst (r.2.map V.int))→Q (.ref l) H'
theorem Ans.ext{A:dz}{τ:Hp→Prop}{H H1:Hp}{h:Addr}{r:Vbemaj.State×List Int}{Q:VK}(x:Ans A τ H h r Q)(e:Kept A τ H H1):Ans A τ H1 h r Q:=fun H' l k o q=>x H' l (e.trans k) o q
theorem house_ne_res{a b c d n t E R B L:Nat}{ra:V}{x:Vbemaj.Called}:HO.ins a b (resF x)≠HO.ins c d (oN ra n E R t B L):=fun z=>by
 injection z with _ _ z
 injection z with z _
 injection z with z _
 exact absurd z (by decide)
theorem house_ne_rules{a b c d n t E R B L:Nat}{ra:V}{x:Vbemaj.Rules}:HO.ins a b (rulesF x)≠HO.ins c d (oN ra n E R t B L):=fun z=>by
 injection z with _ _ z
 injection z with z _
 injection z with z _
 exact absurd z (by decide)
theorem aR.reob{A:dz}{H:Hp}{h dh E R B L:Addr}{s s':Vbemaj.State}{ra ra':V}{es:List QE}{as:List Addr}{bs:List QB}{ls:List Nat}(x:aR A H h s dh ra E R B L es as bs ls)
  (h1:s'.table=s.table) (h2:s'.calls=s.calls) (h3:s'.booked=s.booked)
  (ru1:s'.opened=true→∃a,ra'=.ref a∧mF A H a s'.rules) (ru0:s'.opened=false→ra'=.non):aR A (upd H h (.ins A.house dh (oN ra' s'.hands E R s'.given B L))) h s' dh ra' E R B L es as bs ls:=by
 have kk:∀{a:Addr}{kvs:List (Key×V)},H a=some (.dK kvs)→(upd H h (.ins A.house dh (oN ra' s'.hands E R s'.given B L))) a=some (.dK kvs):=fun z=>by rw[aB (bI z x.ob fun z=>nomatch z)];exact z
 have kt:∀{a:Addr}{kvs:List (List Key×V)},H a=some (.dT kvs)→(upd H h (.ins A.house dh (oN ra' s'.hands E R s'.given B L))) a=some (.dT kvs):=fun z=>by rw[aB (bI z x.ob fun z=>nomatch z)];exact z
 exact {
  ob:=ao
  ru1:=fun o=>by
   obtain⟨a,e,dr,hr⟩:=ru1 o
   exact⟨a,e,dr,by rw[aB (bI hr x.ob house_ne_rules)];exact hr⟩
  ru0:=ru0
  en:=kk x.en
  enq:=x.enq
  ena:=x.ena
  enr:=x.enr
  enD:=fun e he=>kt (x.enD e he)
  eno:=x.eno
  ent:=by rw[h1];exact x.ent
  re:=by rw[h2];exact kk x.re
  rea:=by rw[h2];exact Paired.mapP x.rea fun _ _ ⟨dr,hr⟩=>⟨dr,by rw[aB (bI hr x.ob house_ne_res)];exact hr⟩
  bo:=kk x.bo
  bol:=fun b hb=>by rw[aB (bI (x.bol b hb) x.ob fun z=>nomatch z)];exact x.bol b hb
  bop:=by rw[h3];exact x.bop
  lo:=kk x.lo
  lon:=x.lon
  lop:=fun q=>by unfold Vbemaj.isLocked Vbemaj.bookedAt;rw[h3];exact x.lop q
  apart:=x.apart }
theorem Ans.new{H:Hp}{h l:Addr}{s:Vbemaj.State}{xs:List Int}{vs:List V}{Q:VK}(TB:bD τ)(k:Ans A τ H h (s,xs) Q)(ho:aY A H h s)(hl:H l=none)(e:vs=xs.map V.int):Q (.ref l) (upd H l (.lst vs)):=by
 subst e
 have x:Ext τ H (upd H l (.lst (xs.map V.int))):=.new TB hl
 exact k _ l (Ext.kept x) (ho.ext x) ao
theorem eF{v:V}:[v].length≤sizeLine:=by show 1≤sizeLine;rw[sizeLine_eq];decide
theorem few2{v u:V}:[v,u].length≤sizeLine:=by show 2≤sizeLine;rw[sizeLine_eq];decide
def spBegin(A:dz)(τ:Hp→Prop):Sp:=fun vs H Q _=>∃h ra s r,vs=[.ref h,.ref ra]∧aY A H h s∧mF A H ra r∧Ans A τ H h (gP s (Vbemaj.does s (.opens r.mean r.dual r.low r.high r.threshold r.addon))) Q
theorem ok_begin(TB:bD τ)(T:TxtC K mg A)(D:aF K mg "begin" s_begin):Has P w K mg base 1 "begin" ["house","rules"] (spBegin A τ):=by
 refine Has.of D sc_begin bd_begin fun _ _ _ _ _ H vs Q E hr h=>?_
 obtain⟨h,rr,s,r,rfl,ho,⟨dr,RA⟩,k⟩:=h
 have ⟨dh,ra,Ed,R,B,L,es,as,bs,ls,O⟩:=ho
 refine⟨_,(aq (aZ (pt_cmp (pc_notN (aJ (pv 0) rfl))) (au (aD (aW (aj (aK rfl T.g_OPEN_ALREADY) ak)))) aM) (aq (aZ (aO op_lt (aJ (pv 1) rfl) (aJ (pv 1) rfl) (aV _)) (au (aD (aW (aj (aK rfl T.g_HIGH_BELOW_LOW) ak)))) aM) (aq (cG (pv 0) (pv 1) rfl) (au (aD (aW (aj (aK rfl T.bx) ak))))))),?_⟩
 refine⟨_,rfl,h,A.house,dh,_,_,rfl,O.ob,T.cH,T.nH _ (by decide),rfl,_,rfl,aP (fun c1=>?_) fun c1=>?_⟩
 ·have op:s.opened=true:=by
   cases e:s.opened with
   |true=>rfl
   |false=>rw[O.ru0 e]at c1;exact absurd c1 (by decide)
  refine⟨eF,fun l hl=>Ans.new TB (s:=s) (xs:=[-3]) ?_ ho hl rfl⟩
  dsimp only[Vbemaj.does]at k
  rw[if_pos op]at k
  exact k
 ·have op:s.opened=false:=by
   cases e:s.opened with
   |false=>rfl
   |true=>obtain⟨a',rfl,_⟩:=O.ru1 e;exact absurd rfl c1
  dsimp only[Vbemaj.does]at k
  rw[if_neg (by rw[op];decide)]at k
  refine⟨_,rfl,rr,A.rules,dr,_,_,rfl,RA,T.cR,T.nR _ (by decide),rfl,_,rfl,rr,A.rules,dr,_,_,rfl,RA,T.cR,T.nR _ (by decide),rfl,_,_,rfl,rfl,_,rfl,aP (fun c2=>?_) fun c2=>?_⟩
  ·have c2':r.high<r.low:=of_decide_eq_true c2
   rw[if_pos c2']at k
   exact⟨eF,fun l hl=>Ans.new TB (s:=s) (xs:=[-4]) k ho hl rfl⟩
  ·have c2':¬r.high<r.low:=fun z=>c2 (decide_eq_true z)
   rw[if_neg c2']at k
   refine⟨_,rfl,_,rfl,h,A.house,dh,_,rfl,O.ob,T.cH,T.nH _ (by decide),(by show 7<1000;decide),eF,fun l hl=>?_⟩
   have kp:Kept A τ H (upd H h (.ins A.house dh (oN (.ref rr) s.hands Ed R s.given B L))):=.upd TB O.ob True.intro (fun z=>z rfl)
   refine Ans.new TB (xs:=[0]) (k.ext kp) ?_ hl rfl
   exact⟨dh,.ref rr,Ed,R,B,L,es,as,bs,ls,O.reob (s':={ s with opened:=true,rules:=r }) rfl rfl rfl (fun _=>⟨rr,rfl,dr,RA⟩) fun z=>(nomatch z)⟩
def spAddHand(A:dz)(τ:Hp→Prop):Sp:=fun vs H Q _=>∃h s,vs=[.ref h]∧aY A H h s∧QM.Wf s∧Ans A τ H h (gP s (Vbemaj.does s .hand)) Q
theorem ok_add_hand(TB:bD τ)(T:TxtC K mg A)(D:aF K mg "add_hand" o7):Has P w K mg base 1 "add_hand" ["house"] (spAddHand A τ):=by
 refine Has.of D sc_add_hand bd_add_hand fun _ _ _ _ _ H vs Q E hr h=>?_
 obtain⟨h,s,rfl,ho,W,k⟩:=h
 have ⟨dh,ra,Ed,R,B,L,es,as,bs,ls,O⟩:=ho
 refine⟨_,(aq (aZ (aO bT (aJ (pv 0) rfl) (aK rfl T.g_MOST_HANDS) (aV _)) (au (aD (aW (aj (aK rfl T.g_FULL) ak)))) aM) (aq (cG (pv 0) (bR jT (aJ (pv 0) rfl) aH) rfl) (au (aD (aW (aj (aK rfl T.bx) (aj (aJ (pv 0) rfl) ak))))))),?_⟩
 dsimp only[Vbemaj.does]at k
 have hw:=W.hands
 refine⟨_,rfl,h,A.house,dh,_,_,rfl,O.ob,T.cH,T.nH _ (by decide),rfl,rfl,_,rfl,aP (fun c1=>?_) fun c1=>?_⟩
 ·have c1':((s.hands:Nat):Int)=32:=by simpa using of_decide_eq_true c1
  rw[if_pos (by show 32≤s.hands;omega)]at k
  exact⟨eF,fun l hl=>Ans.new TB (s:=s) (xs:=[-6]) k ho hl rfl⟩
 ·have c1':¬((s.hands:Nat):Int)=32:=fun z=>c1 (decide_eq_true (by rw[z]))
  rw[if_neg (by show ¬32≤s.hands;omega)]at k
  refine⟨_,rfl,h,A.house,dh,_,_,rfl,O.ob,T.cH,T.nH _ (by decide),rfl,_,_,rfl,rfl,_,rfl,h,A.house,dh,_,rfl,O.ob,T.cH,T.nH _ (by decide),(by show 7<1000;decide),?_⟩
  refine⟨_,rfl,h,A.house,dh,_,_,rfl,ao,T.cH,T.nH _ (by decide),rfl,few2,fun l hl=>?_⟩
  have kp:Kept A τ H (upd H h (.ins A.house dh (oN ra (s.hands+1) Ed R s.given B L))):=.upd TB O.ob True.intro (fun z=>z rfl)
  refine Ans.new TB (k.ext kp) ?_ hl rfl
  exact⟨dh,ra,Ed,R,B,L,es,as,bs,ls,O.reob (s':={ s with hands:=s.hands+1 }) rfl rfl rfl O.ru1 O.ru0⟩
def spBeyond(A:dz)(τ:Hp→Prop):Sp:=fun vs H Q _=>∃h s x,vs=[.ref h,.int x]∧aY A H h s∧s.opened=true∧Gives τ (.bl (Vbemaj.outside s.rules x)) H Q
theorem ok_is_beyond_rules(T:TxtC K mg A)(D:aF K mg "is_beyond_rules" fX):Has P w K mg base 1 "is_beyond_rules" ["house","price"] (spBeyond A τ):=by
 refine Has.of D sc_is_beyond_rules bd_is_beyond_rules fun _ _ _ _ _ H vs Q E hr h=>?_
 obtain⟨h,s,x,rfl,⟨dh,ra,Ed,R,B,L,es,as,bs,ls,O⟩,op,k⟩:=h
 refine⟨_,(au (aD (pe_or (oR op_lt (pv 1) (aJ (aJ (pv 0) rfl) rfl) (aV _)) (pe_one (oR op_gt (pv 1) (aJ (aJ (pv 0) rfl) rfl) (aV _)))))),?_⟩
 obtain⟨rr,rfl,dr,RA⟩:=O.ru1 op
 have kk:=fun v (hv:v=V.bl (Vbemaj.outside s.rules x))=>hv ▸ k H (.refl H)
 unfold Vbemaj.outside at kk
 refine⟨_,rfl,_,rfl,h,A.house,dh,_,_,rfl,O.ob,T.cH,T.nH _ (by decide),rfl,rr,A.rules,dr,_,_,rfl,RA,T.cR,T.nR _ (by decide),rfl,_,_,rfl,rfl,_,rfl,aP (fun c1=>?_) fun c1=>?_⟩
 ·refine kk _ ?_
  rw[c1,Bool.true_or]
 ·refine⟨_,rfl,_,rfl,h,A.house,dh,_,_,rfl,O.ob,T.cH,T.nH _ (by decide),rfl,rr,A.rules,dr,_,_,rfl,RA,T.cR,T.nR _ (by decide),rfl,_,_,rfl,rfl,kk _ ?_⟩
  have c1':decide (x<s.rules.low)=false:=by cases e:decide (x<s.rules.low) <;> simp_all
  rw[c1',Bool.false_or]
def spTell(A:dz)(τ:Hp→Prop):Sp:=fun vs H Q _=>∃h t s q kind p w a,vs=[.ref h,.int (q:Nat),.ref t,.int a]∧aY A H h s∧QM.Wf s∧q<10000∧H t=some (.tup ((lC kind p w).map kV))∧QM.Valid s.hands kind p w∧
 Ans A τ H h (gP s (if Vbemaj.isLocked s q=true then .error (-7)else if Vbemaj.ENTRIES<(Vbemaj.told ⟨kind,p,w,q,a⟩ s.table).length then .error (-6)else .ok ({ s with table:=Vbemaj.told ⟨kind,p,w,q,a⟩ s.table },[]))) Q
theorem ok_tell(TB:bD τ)(T:TxtC K mg A)(D:aF K mg "tell" s_tell)(bF:Has P w K mg base 1 "is_locked" ["house","quarter"] (iz A τ))(h_is_entry:Has P w K mg base 1 "is_entry" ["house","quarter","key"] (spIsEntry A τ))(dN:Has P w K mg base 1 "count_entries" ["house"] (spCount A τ))
  (h_set_entry:Has P w K mg base 1 "set_entry" ["house","quarter","key","number"] (spSet A τ)):Has P w K mg base 2 "tell" ["house","quarter","key","number"] (spTell A τ):=by
 refine Has.of D sc_tell bd_tell fun _ _ _ _ _ H vs Q E hr h=>?_
 obtain⟨h,t,s,q,kind,p,w,a,rfl,ho,W,hq,ht,hv,k⟩:=h
 refine⟨_,(aq (aZ (d9 (aC bF hr (aj (pv 0) (aj (pv 1) ak)))) (au (aD (aW (aj (aK rfl T.g_LOCKED) ak)))) aM) (aq (bw (i:=4) sc_tell.nd rfl (Or.inl rfl) (pe_and (oR op_ne (pv 3) aH (aV _)) (pe_one (pe_not (aC h_is_entry hr (aj (pv 0) (aj (pv 1) (aj (pv 2) ak)))))))) (aq (aZ (PW.pt (pw_and (d9 (pv 4)) (pw_and1 (aO bT (aC dN hr (aj (pv 0) ak)) (aK rfl T.g_MOST_ENTRIES) (aV _))))) (au (aD (aW (aj (aK rfl T.g_FULL) ak)))) aM) (aq (j8 (aC h_set_entry hr (aj (pv 0) (aj (pv 1) (aj (pv 2) (aj (pv 3) ak)))))) (au (aD (aW (aj (aK rfl T.bx) ak)))))))),?_⟩
 have few:=W.few
 have tl:=QM.told_len (x:=⟨kind,p,w,q,a⟩) W.tab
 rw[QM.any_same (x:=⟨kind,p,w,q,a⟩) (fun y hy=>(W.ent y hy).ne) W.tab.apart]at tl
 have eg:QM.got s.table kind p w q=Vbemaj.get s kind p w q:=rfl
 dsimp only at tl
 rw[eg]at tl
 refine⟨_,rfl,_,rfl,h,s,q,rfl,ho,fun H1 e1=>⟨_,rfl,aP (fun c1=>?_) fun c1=>?_⟩⟩
 ·rw[if_pos c1]at k
  exact⟨eF,fun l hl=>Ans.new TB (s:=s) (xs:=[-7]) (k.ext (Ext.kept e1)) (ho.ext e1) hl rfl⟩
 rw[if_neg c1]at k
 have fin:∀(H2:Hp) (m:V),Ext τ H H2→¬Vbemaj.ENTRIES<(Vbemaj.told ⟨kind,p,w,q,a⟩ s.table).length→
   (tSeq (tDrop (tCall (spSet A τ) [] E0 (tCons (tVar 0) (tCons (tVar 1) (tCons (tVar 2) (tCons (tVar 3) tNil)))))) (tRet (tLst (tCons (tC (V.int 0)) tNil)))) { nx:=fun _ H'=>Q .non H',rt:=Q } ((start ["house","quarter","key","number","is_one_more"] [.ref h,.int (q:Nat),.ref t,.int a]).set 4 (some m)) H2:=fun H2 m e2 hE=>by
  rw[if_neg hE]at k
  refine⟨_,rfl,_,rfl,_,rfl,_,rfl,h,t,s,q,kind,p,w,a,rfl,ho.ext e2,W,hq,e2.tup ht,hv,fun H3 k3 o3=>?_⟩
  exact⟨eF,fun l hl=>Ans.new TB (xs:=[0]) (k.ext ((Ext.kept e2).trans k3)) o3 hl rfl⟩
 refine⟨_,rfl,rfl,_,rfl,aP (fun c2=>?_) fun c2=>?_⟩
 ·have c2':¬a=0:=fun z=>by rw[z]at c2;simp at c2
  rw[if_neg c2']at tl
  refine⟨_,rfl,_,rfl,_,rfl,h,t,s,q,kind,p,w,rfl,ho.ext e1,W,e1.tup ht,hv,fun H2 e2=>?_⟩
  have x2:=e1.trans e2
  refine⟨_,rfl,_,rfl,_,rfl,aP (fun c3=>?_) fun c3=>?_⟩
  ·have c3':Vbemaj.get s kind p w q=0:=by
    by_cases z:Vbemaj.get s kind p w q=0
    ·exact z
    ·rw[decide_eq_true z]at c3;cases c3
   rw[decide_eq_false (fun z=>z c3'),if_neg (by decide)]at tl
   refine⟨_,rfl,h,s,rfl,ho.ext x2,fun H3 e3=>?_⟩
   have x3:=x2.trans e3
   refine⟨rfl,_,rfl,aP (fun c4=>?_) fun c4=>?_⟩
   ·have c4':((s.table.length:Nat):Int)=96:=by simpa using of_decide_eq_true c4
    rw[if_pos (by rw[tl];show 96<_;omega)]at k
    exact⟨eF,fun l hl=>Ans.new TB (s:=s) (xs:=[-6]) (k.ext (Ext.kept x3)) (ho.ext x3) hl rfl⟩
   ·have c4':¬((s.table.length:Nat):Int)=96:=fun z=>c4 (decide_eq_true (by rw[z]))
    exact fin H3 _ x3 (by rw[tl];show ¬96<_;omega)
  ·have c3':¬Vbemaj.get s kind p w q=0:=fun z=>c3 (by rw[decide_eq_false (fun y=>y z)];rfl)
   rw[decide_eq_true c3',if_pos rfl]at tl
   exact fin H2 _ x2 (by rw[tl];show ¬96<_;omega)
 ·have c2':a=0:=by
   by_cases z:a=0
   ·exact z
   ·exact absurd (by simp[z]) c2
  rw[if_pos c2']at tl
  refine⟨_,rfl,_,rfl,iteF ?_⟩
  exact fin H1 _ e1 (by rw[tl];show ¬96<_;omega)
theorem does_tell(s:Vbemaj.State)(kind p w q:Nat)(a:Int):Vbemaj.does s (.tell kind p w q a)=if (kind≠3∧Vbemaj.isHand s p=false)∨(kind=4∧Vbemaj.isHand s w=false)then .error (-5)else if kind=4∧p=w then .error (-10)else if kind=3∧Vbemaj.outside s.rules a=true then .error (-9)
  else if Vbemaj.isLocked s q=true then .error (-7)else if Vbemaj.ENTRIES<(Vbemaj.told ⟨kind,p,w,q,a⟩ s.table).length then .error (-6)else .ok ({ s with table:=Vbemaj.told ⟨kind,p,w,q,a⟩ s.table },[]):=rfl
theorem iB{s:Vbemaj.State}{p:Nat}:Vbemaj.isHand s p=true↔1≤p∧p≤s.hands:=by simp[Vbemaj.isHand]
def spTellOf(A:dz)(τ:Hp→Prop):Sp:=fun vs H Q _=>∃h t s p q kind a,vs=[.ref h,.int (p:Nat),.int (q:Nat),.ref t,.int a]∧aY A H h s∧QM.Wf s∧q<10000∧1≤p∧kind≤2∧H t=some (.tup ((lC kind p 0).map kV))∧Ans A τ H h (gP s (Vbemaj.does s (.tell kind p 0 q a))) Q
theorem ok_tell_of_hand(TB:bD τ)(T:TxtC K mg A)(D:aF K mg "tell_of_hand" jd)(bG:Has P w K mg base 1 "has_hand" ["house","hand"] (lB A τ))(oO:Has P w K mg base 2 "tell" ["house","quarter","key","number"] (spTell A τ)):Has P w K mg base 3 "tell_of_hand" ["house","hand","quarter","key","number"] (spTellOf A τ):=by
 refine Has.of D sc_tell_of_hand bd_tell_of_hand fun _ _ _ _ _ H vs Q E hr h=>?_
 obtain⟨h,t,s,p,q,kind,a,rfl,ho,W,hq,hp,hk,ht,k⟩:=h
 refine⟨_,(aq (aZ (oK (d9 (aC bG hr (aj (pv 0) (aj (pv 1) ak))))) (au (aD (aW (aj (aK rfl T.eO) ak)))) aM) (au (aD (aC oO hr (aj (pv 0) (aj (pv 2) (aj (pv 3) (aj (pv 4) ak)))))))),?_⟩
 rw[does_tell]at k
 refine⟨_,rfl,_,rfl,h,s,p,rfl,ho,hp,fun H1 e1=>⟨_,rfl,aP (fun c1=>?_) fun c1=>?_⟩⟩
 ·have c1':Vbemaj.isHand s p=false:=by simpa using c1
  rw[if_pos (.inl ⟨by omega,c1'⟩)]at k
  exact⟨eF,fun l hl=>Ans.new TB (s:=s) (xs:=[-5]) (k.ext (Ext.kept e1)) (ho.ext e1) hl rfl⟩
 ·have c1':Vbemaj.isHand s p=true:=by simpa using c1
  have hp':=iB.mp c1'
  rw[if_neg (by rw[c1'];intro z;rcases z with⟨_,z⟩|⟨z,_⟩;cases z;omega),if_neg (by omega),if_neg (by omega)]at k
  exact⟨_,rfl,_,rfl,_,rfl,_,rfl,h,t,s,q,kind,p,0,a,rfl,ho.ext e1,W,hq,e1.tup ht,.inl ⟨hk,hp'.1,hp'.2,rfl⟩,k.ext (Ext.kept e1)⟩
def spTellAh(A:dz)(τ:Hp→Prop):Sp:=fun vs H Q _=>∃h s q a,vs=[.ref h,.int (q:Nat),.int a]∧aY A H h s∧QM.Wf s∧s.opened=true∧q<10000∧Ans A τ H h (gP s (Vbemaj.does s (.tell 3 0 0 q a))) Q
theorem ok_tell_ahead(TB:bD τ)(T:TxtC K mg A)(D:aF K mg "tell_ahead" lq)(dj:Has P w K mg base 1 "is_beyond_rules" ["house","price"] (spBeyond A τ))(oO:Has P w K mg base 2 "tell" ["house","quarter","key","number"] (spTell A τ))(iH:Has P w K mg base 1 "ahead_key" [] (spAheadKey τ)):
  Has P w K mg base 3 "tell_ahead" ["house","quarter","price"] (spTellAh A τ):=by
 refine Has.of D sc_tell_ahead bd_tell_ahead fun _ _ _ _ _ H vs Q E hr h=>?_
 obtain⟨h,s,q,a,rfl,ho,W,op,hq,k⟩:=h
 refine⟨_,(aq (aZ (d9 (aC dj hr (aj (pv 0) (aj (pv 2) ak)))) (au (aD (aW (aj (aK rfl T.jP) ak)))) aM) (au (aD (aC oO hr (aj (pv 0) (aj (pv 1) (aj (pe_own0 iH hr) (aj (pv 2) ak)))))))),?_⟩
 rw[does_tell,if_neg (by omega),if_neg (by omega)]at k
 refine⟨_,rfl,_,rfl,h,s,a,rfl,ho,op,fun H1 e1=>⟨_,rfl,aP (fun c1=>?_) fun c1=>?_⟩⟩
 ·rw[if_pos ⟨rfl,c1⟩]at k
  exact⟨eF,fun l hl=>Ans.new TB (s:=s) (xs:=[-9]) (k.ext (Ext.kept e1)) (ho.ext e1) hl rfl⟩
 ·rw[if_neg (fun z=>c1 z.2)]at k
  refine⟨_,rfl,_,rfl,rfl,fun H2 t e2 h2=>?_⟩
  have x2:=e1.trans e2
  exact⟨_,rfl,h,t,s,q,3,0,0,a,rfl,ho.ext x2,W,hq,h2,.inr (.inl ⟨rfl,rfl,rfl⟩),k.ext (Ext.kept x2)⟩
def spNominate(A:dz)(τ:Hp→Prop):Sp:=fun vs H Q _=>∃h s p w q a,vs=[.ref h,.int (p:Nat),.int (w:Nat),.int (q:Nat),.int a]∧aY A H h s∧QM.Wf s∧q<10000∧1≤p∧1≤w∧Ans A τ H h (gP s (Vbemaj.does s (.tell 4 p w q a))) Q
theorem ok_nominate(TB:bD τ)(T:TxtC K mg A)(D:aF K mg "nominate" s_nominate)(bG:Has P w K mg base 1 "has_hand" ["house","hand"] (lB A τ))(oO:Has P w K mg base 2 "tell" ["house","quarter","key","number"] (spTell A τ))(bA:Has P w K mg base 1 "nominated_key" ["hand","to"] (spNomKey τ)):
  Has P w K mg base 3 "nominate" ["house","hand","to","quarter","amount"] (spNominate A τ):=by
 refine Has.of D sc_nominate bd_nominate fun _ _ _ _ _ H vs Q E hr h=>?_
 obtain⟨h,s,p,w,q,a,rfl,ho,W,hq,hp,hw,k⟩:=h
 refine⟨_,(aq (aZ (PW.pt (pw_or (oK (d9 (aC bG hr (aj (pv 0) (aj (pv 1) ak))))) (pw_or1 (oK (d9 (aC bG hr (aj (pv 0) (aj (pv 2) ak)))))))) (au (aD (aW (aj (aK rfl T.eO) ak)))) aM) (aq (aZ (aO bT (pv 1) (pv 2) (aV _)) (au (aD (aW (aj (aK rfl T.g_SAME_HAND) ak)))) aM) (au (aD (aC oO hr (aj (pv 0) (aj (pv 3) (aj (aC bA hr (aj (pv 1) (aj (pv 2) ak))) (aj (pv 4) ak))))))))),?_⟩
 rw[does_tell]at k
 have no:∀(H1:Hp),Ext τ H H1→(Vbemaj.isHand s p=false∨Vbemaj.isHand s w=false)→∀l,H1 l=none→Q (.ref l) (upd H1 l (.lst [V.int (-5)])):=fun H1 e1 hn l hl=>by
  rw[if_pos (by rcases hn with z|z;exact .inl ⟨by decide,z⟩;exact .inr ⟨rfl,z⟩)]at k
  exact Ans.new TB (s:=s) (xs:=[-5]) (k.ext (Ext.kept e1)) (ho.ext e1) hl rfl
 refine⟨_,rfl,_,rfl,h,s,p,rfl,ho,hp,fun H1 e1=>⟨_,rfl,aP (fun c1=>iteT ?_) fun c1=>?_⟩⟩
 ·exact⟨eF,no H1 e1 (.inl (by simpa using c1))⟩
 have c1':Vbemaj.isHand s p=true:=by simpa using c1
 refine⟨_,rfl,_,rfl,h,s,w,rfl,ho.ext e1,hw,fun H2 e2=>⟨_,rfl,aP (fun c2=>?_) fun c2=>?_⟩⟩
 ·exact⟨eF,no H2 (e1.trans e2) (.inr (by simpa using c2))⟩
 have c2':Vbemaj.isHand s w=true:=by simpa using c2
 have x2:=e1.trans e2
 rw[if_neg (by rw[c1',c2'];intro z;rcases z with⟨_,z⟩|⟨_,z⟩ <;> cases z)]at k
 refine⟨_,rfl,_,rfl,rfl,_,rfl,aP (fun c3=>?_) fun c3=>?_⟩
 ·have c3':((p:Nat):Int)=w:=by simpa using of_decide_eq_true c3
  rw[if_pos ⟨rfl,by omega⟩]at k
  exact⟨eF,fun l hl=>Ans.new TB (s:=s) (xs:=[-10]) (k.ext (Ext.kept x2)) (ho.ext x2) hl rfl⟩
 ·have c3':¬p=w:=fun z=>c3 (decide_eq_true (by rw[z]))
  rw[if_neg (fun z=>c3' z.2),if_neg (by omega)]at k
  have hp':=iB.mp c1'
  have hw':=iB.mp c2'
  refine⟨_,rfl,_,rfl,_,rfl,_,rfl,p,w,rfl,fun H3 t e3 h3=>?_⟩
  have x3:=x2.trans e3
  exact⟨_,rfl,h,t,s,q,4,p,w,a,rfl,ho.ext x3,W,hq,h3,.inr (.inr ⟨rfl,hp'.1,hp'.2,hw'.1,hw'.2,c3'⟩),k.ext (Ext.kept x3)⟩
theorem resKV_snoc{c:Vbemaj.Called}{a:Addr}:∀{cs:List Vbemaj.Called}{as:List Addr},as.length=cs.length→bV (cs++[c]) (as++[a])=bV cs as++[(kN c.num,.ref a)]
 |[],[],_=>rfl
 |[],_::_,h=>nomatch h
 |_::_,[],h=>nomatch h
 |d::cs,b::as,h=>by
  show(kN d.num,V.ref b)::bV (cs++[c]) (as++[a])=_
  rw[resKV_snoc (by simpa using h)]
  rfl
theorem resKV_none{n:Nat}:∀{cs:List Vbemaj.Called}{as:List Addr},(∀c∈cs,c.num≠n)→cW (bV cs as) (kN n)=none
 |[],_,_=>by unfold bV;rfl
 |_::_,[],_=>by unfold bV;rfl
 |c::cs,a::as,h=>by
  show cW ((kN c.num,V.ref a)::bV cs as) (kN n)=none
  rw[iM,resKV_none fun d hd=>h d (List.mem_cons_of_mem _ hd)]
  intro e
  exact h c List.mem_cons_self (kN_inj e)
theorem resKV_find{F:Addr→Vbemaj.Called→Prop}{n:Nat}:∀{as:List Addr}{cs:List Vbemaj.Called},Paired F as cs→∀{c:Vbemaj.Called},cs.find? (fun c=>c.num==n)=some c→∃a,cW (bV cs as) (kN n)=some (.ref a)∧F a c
 |_,_,.nil,c,h=>by simp at h
 |_,_,.cons (l₁:=as) (l₂:=cs) (a:=a) (b:=d) r t,c,h=>by
  rw[List.find?_cons]at h
  by_cases e:d.num=n
  ·have e':(d.num==n)=true:=by simp[e]
   rw[e']at h
   cases h
   refine⟨a,?_,r⟩
   show cW ((kN d.num,V.ref a)::bV cs as) (kN n)=_
   rw[nO (by rw[e])]
  ·have e':(d.num==n)=false:=by simp[e]
   rw[e']at h
   obtain⟨b,h1,h2⟩:=resKV_find t h
   refine⟨b,?_,h2⟩
   show cW ((kN d.num,V.ref a)::bV cs as) (kN n)=_
   rw[iM (fun z=>e (kN_inj z)),h1]
theorem resKV_drop{F:Addr→Vbemaj.Called→Prop}{n:Nat}:∀{as:List Addr}{cs:List Vbemaj.Called},Paired F as cs→mq (bV cs as) (kN n)=bV (cs.filter fun c=>c.num != n) (sel (fun c=>c.num != n) as cs)
 |_,_,.nil=>rfl
 |_,_,.cons (l₁:=as) (l₂:=cs) (a:=a) (b:=d) r t=>by
  have ih:=resKV_drop (n:=n) t
  unfold mq at ih ⊢
  show((kN d.num,V.ref a)::bV cs as).filter _=_
  unfold sel
  rw[List.filter_cons,List.filter_cons,ih]
  by_cases e:d.num=n
  ·have e1:decide ((kN d.num,V.ref a).1≠kN n)=false:=decide_eq_false fun z=>z (by rw[e])
   have e2:(d.num != n)=false:=by simp[e]
   rw[e1,e2]
   rfl
  ·have e1:decide ((kN d.num,V.ref a).1≠kN n)=true:=decide_eq_true fun z=>e (kN_inj z)
   have e2:(d.num != n)=true:=by simp[e]
   rw[e1,e2]
   rfl
theorem Paired.snoc{α β:Type}{F:α→β→Prop}:∀{l₁:List α}{l₂:List β},Paired F l₁ l₂→∀{a:α}{b:β},F a b→Paired F (l₁++[a]) (l₂++[b])
 |_,_,.nil,_,_,h=>.cons h .nil
 |_,_,.cons r t,_,_,h=>.cons r (Paired.snoc t h)
theorem aR.reres{A:dz}{H:Hp}{h dh E R B L:Addr}{s s':Vbemaj.State}{ra:V}{es:List QE}{as as':List Addr}{bs:List QB}{ls:List Nat}(x:aR A H h s dh ra E R B L es as bs ls)
  (h1:s'={ s with calls:=s'.calls }) (hp:oM A H as' s'.calls):aR A (upd H R (.dK (bV s'.calls as'))) h s' dh ra E R B L es as' bs ls:=by
 obtain⟨nE,nB,nL⟩:E≠R∧R≠B∧R≠L:=by have:=x.apart;simp at this;exact⟨this.1.1,this.2.1.1,this.2.1.2⟩
 have ki:∀{a C d:Addr}{fs:List (Str×V)},H a=some (.ins C d fs)→(upd H R (.dK (bV s'.calls as'))) a=some (.ins C d fs):=fun z=>by rw[aB (bI z x.re fun z=>nomatch z)];exact z
 rw[h1]at *
 exact {
  ob:=ki x.ob
  ru1:=fun o=>let⟨a,h1,dr,h2⟩:=x.ru1 o;⟨a,h1,dr,ki h2⟩
  ru0:=x.ru0
  en:=by rw[aB nE];exact x.en
  enq:=x.enq
  ena:=x.ena
  enr:=x.enr
  enD:=fun e he=>by rw[aB (bI (x.enD e he) x.re fun z=>nomatch z)];exact x.enD e he
  eno:=x.eno
  ent:=x.ent
  re:=ao
  rea:=Paired.mapP hp fun _ _ ⟨dr,hr⟩=>⟨dr,ki hr⟩
  bo:=by rw[aB (fun z=>nB z.symm)];exact x.bo
  bol:=fun b hb=>by rw[aB (bI (x.bol b hb) x.re fun z=>nomatch z)];exact x.bol b hb
  bop:=x.bop
  lo:=by rw[aB (fun z=>nL z.symm)];exact x.lo
  lon:=x.lon
  lop:=x.lop
  apart:=x.apart }
def spAddRes(A:dz)(τ:Hp→Prop):Sp:=fun vs H Q _=>∃h ca s c,vs=[.ref h,.ref ca]∧aY A H h s∧QM.Wf s∧s.opened=true∧1≤c.p∧ResAt A H ca c∧Ans A τ H h (gP s (Vbemaj.does s (.called c.q c.p c.up c.amount c.price))) Q
theorem ok_add_reserve(TB:bD τ)(T:TxtC K mg A)(D:aF K mg "add_reserve" jH)(bG:Has P w K mg base 1 "has_hand" ["house","hand"] (lB A τ))(dj:Has P w K mg base 1 "is_beyond_rules" ["house","price"] (spBeyond A τ))(bF:Has P w K mg base 1 "is_locked" ["house","quarter"] (iz A τ)):
  Has P w K mg base 2 "add_reserve" ["house","call"] (spAddRes A τ):=by
 refine Has.of D sc_add_reserve bd_add_reserve fun _ _ _ _ _ H vs Q E hr h=>?_
 obtain⟨h,ca,s,c,rfl,ho,W,op,hp,⟨dc,CA⟩,k⟩:=h
 have hu:=nM hr
 refine⟨_,(aq (aZ (oK (d9 (aC bG hr (aj (pv 0) (aj (aJ (pv 1) rfl) ak))))) (au (aD (aW (aj (aK rfl T.eO) ak)))) aM) (aq (aZ (d9 (aC dj hr (aj (pv 0) (aj (aJ (pv 1) rfl) ak)))) (au (aD (aW (aj (aK rfl T.jP) ak)))) aM) (aq (aZ (d9 (aC bF hr (aj (pv 0) (aj (aJ (pv 1) rfl) ak)))) (au (aD (aW (aj (aK rfl T.g_LOCKED) ak)))) aM) (aq (aZ (PW.pt (pw_or (aO bT (aU n8 rfl T.iJ PySem.boot_len (aj (aJ (pv 0) rfl) ak)) (aK rfl T.g_MOST_RESERVES) (aV _)) (pw_or1 (aO bT (aJ (pv 0) rfl) (aK rfl T.g_MOST_RESERVES_TOLD) (aV _))))) (au (aD (aW (aj (aK rfl T.g_FULL) ak)))) aM) (aq (cG (pv 0) (bR jT (aJ (pv 0) rfl) aH) rfl) (aq (ps_dput hu (aJ (pv 0) rfl) (aJ (pv 0) rfl) (pv 1) rfl) (au (aD (aW (aj (aK rfl T.bx) (aj (aJ (pv 0) rfl) ak))))))))))),?_⟩
 dsimp only[Vbemaj.does]at k
 refine⟨_,rfl,_,rfl,ca,A.res,dc,_,_,rfl,CA,T.cE,T.nE _ (by decide),rfl,h,s,c.p,rfl,ho,hp,fun H1 e1=>⟨_,rfl,aP (fun c1=>?_) fun c1=>?_⟩⟩
 ·have c1':Vbemaj.isHand s c.p=false:=by simpa using c1
  rw[if_pos c1']at k
  exact⟨eF,fun l hl=>Ans.new TB (s:=s) (xs:=[-5]) (k.ext (Ext.kept e1)) (ho.ext e1) hl rfl⟩
 have c1':Vbemaj.isHand s c.p=true:=by simpa using c1
 rw[if_neg (by rw[c1'];decide)]at k
 refine⟨_,rfl,_,rfl,ca,A.res,dc,_,_,rfl,e1.ins CA,T.cE,T.nE _ (by decide),rfl,h,s,c.price,rfl,ho.ext e1,op,fun H2 e2=>⟨_,rfl,aP (fun c2=>?_) fun c2=>?_⟩⟩
 ·rw[if_pos c2]at k
  exact⟨eF,fun l hl=>Ans.new TB (s:=s) (xs:=[-9]) (k.ext (Ext.kept (e1.trans e2))) (ho.ext (e1.trans e2)) hl rfl⟩
 rw[if_neg c2]at k
 have x2:=e1.trans e2
 refine⟨_,rfl,_,rfl,ca,A.res,dc,_,_,rfl,x2.ins CA,T.cE,T.nE _ (by decide),rfl,h,s,c.q,rfl,ho.ext x2,fun H3 e3=>⟨_,rfl,aP (fun c3=>?_) fun c3=>?_⟩⟩
 ·rw[if_pos c3]at k
  exact⟨eF,fun l hl=>Ans.new TB (s:=s) (xs:=[-7]) (k.ext (Ext.kept (x2.trans e3))) (ho.ext (x2.trans e3)) hl rfl⟩
 rw[if_neg c3]at k
 have x3:=x2.trans e3
 have ho3:=ho.ext x3
 have ⟨dh,ra,Ed,R,B,L,es,as,bs,ls,O⟩:=ho3
 have hlen:as.length=s.calls.length:=Paired.length O.rea
 have hrl:(bV s.calls as).length=s.calls.length:=oF hlen
 have m1:=W.most
 have m2:=W.told
 have full:(Vbemaj.CALLED≤s.calls.length∨Vbemaj.NUMBERS≤s.given)→∀l,H3 l=none→Q (.ref l) (upd H3 l (.lst [V.int (-6)])):=fun hf l hl=>by
  rw[if_pos hf]at k
  exact Ans.new TB (s:=s) (xs:=[-6]) (k.ext (Ext.kept x3)) ho3 hl rfl
 refine⟨_,rfl,h,A.house,dh,_,_,rfl,O.ob,T.cH,T.nH _ (by decide),rfl,R,_,rfl,.inl ⟨_,O.re,rfl⟩,rfl,_,rfl,aP (fun c4=>iteT ?_) fun c4=>?_⟩
 ·have c4':(((bV s.calls as).length:Nat):Int)=64:=by simpa using of_decide_eq_true c4
  exact⟨eF,full (.inl (by show 64≤_;omega))⟩
 have c4':¬(((bV s.calls as).length:Nat):Int)=64:=fun z=>c4 (decide_eq_true (by rw[z]))
 refine⟨_,rfl,h,A.house,dh,_,_,rfl,O.ob,T.cH,T.nH _ (by decide),rfl,rfl,_,rfl,aP (fun c5=>?_) fun c5=>?_⟩
 ·have c5':((s.given:Nat):Int)=1000000000:=by simpa using of_decide_eq_true c5
  exact⟨eF,full (.inr (by show 1000000000≤_;omega))⟩
 have c5':¬((s.given:Nat):Int)=1000000000:=fun z=>c5 (decide_eq_true (by rw[z]))
 rw[if_neg (by show ¬(64≤_∨1000000000≤_);omega)]at k
 refine⟨_,rfl,h,A.house,dh,_,_,rfl,O.ob,T.cH,T.nH _ (by decide),rfl,_,_,rfl,rfl,_,rfl,h,A.house,dh,_,rfl,O.ob,T.cH,T.nH _ (by decide),(by show 7<1000;decide),?_⟩
 have kp:Kept A τ H3 (upd H3 h (.ins A.house dh (oN ra s.hands Ed R (s.given+1) B L))):=.upd TB O.ob True.intro (fun z=>z rfl)
 have O4:=O.reob (s':={ s with given:=s.given+1 }) (ra':=ra) rfl rfl rfl O.ru1 O.ru0
 refine⟨_,rfl,_,rfl,h,A.house,dh,_,_,rfl,ao,T.cH,T.nH _ (by decide),rfl,_,rfl,h,A.house,dh,_,_,rfl,ao,T.cH,T.nH _ (by decide),rfl,R,_,rfl,DPut.k (k:=kN (s.given+1)) O4.re (by show(bV s.calls as).length<_;rw[hrl,sizeLine_eq];omega),?_⟩
 have en:cW (bV s.calls as) (kN (s.given+1))=none:=resKV_none fun d hd z=>by have:=(W.call d hd).num;omega
 have ep:putK (bV s.calls as) (kN (s.given+1)) (.ref ca)=bV (s.calls++[⟨s.given+1,c.q,c.p,c.up,c.amount,c.price⟩]) (as++[ca]):=by
  unfold putK
  rw[valV_any,en,resKV_snoc hlen]
  rfl
 have O5:=O4.reres (s':={ s with calls:=s.calls++[⟨s.given+1,c.q,c.p,c.up,c.amount,c.price⟩],given:=s.given+1 }) (as':=as++[ca]) rfl (Paired.snoc O4.rea ⟨dc,by rw[aB (bI (x3.ins CA) O.ob house_ne_res)];exact x3.ins CA⟩)
 have kp2:=kp.trans (.upd TB O4.re True.intro (fun z=>z) (o':=.dK (putK (bV s.calls as) (kN (s.given+1)) (.ref ca))))
 dsimp only at O5
 rw[←ep]at O5
 refine⟨_,rfl,h,A.house,dh,_,_,rfl,O5.ob,T.cH,T.nH _ (by decide),rfl,few2,fun l hl=>?_⟩
 exact Ans.new TB (xs:=[0,((s.given+1:Nat):Int)]) (k.ext ((Ext.kept x3).trans kp2)) ⟨dh,ra,Ed,R,B,L,es,_,bs,ls,O5⟩ hl rfl
def spDropRes(A:dz)(τ:Hp→Prop):Sp:=fun vs H Q _=>∃h s n,vs=[.ref h,.int (n:Nat)]∧aY A H h s∧QM.Wf s∧Ans A τ H h (gP s (Vbemaj.does s (.uncall n))) Q
theorem ok_drop_reserve(TB:bD τ)(T:TxtC K mg A)(D:aF K mg "drop_reserve" je)(bF:Has P w K mg base 1 "is_locked" ["house","quarter"] (iz A τ)):
  Has P w K mg base 2 "drop_reserve" ["house","number"] (spDropRes A τ):=by
 refine Has.of D sc_drop_reserve bd_drop_reserve fun _ _ _ _ _ H vs Q E hr h=>?_
 obtain⟨h,s,n,rfl,ho,W,k⟩:=h
 have hu:=nM hr
 have ⟨dh,ra,Ed,R,B,L,es,as,bs,ls,O⟩:=ho
 refine⟨_,(aq (aZ (pt_cmp (pc_dnotin hu (pv 1) (aJ (pv 0) rfl))) (au (aD (aW (aj (aK rfl T.g_NO_SUCH_RESERVE) ak)))) aM) (aq (aZ (d9 (aC bF hr (aj (pv 0) (aj (aJ (pe_dget hu (aJ (pv 0) rfl) (pv 1) (fun _ _=>rfl)) rfl) ak)))) (au (aD (aW (aj (aK rfl T.g_LOCKED) ak)))) aM) (aq (j8 (pe_dpop1 (aJ (pv 0) rfl) (pv 1) ⟨rfl,rfl,rfl,rfl⟩)) (au (aD (aW (aj (aK rfl T.bx) ak))))))),?_⟩
 dsimp only[Vbemaj.does]at k
 refine⟨_,rfl,_,rfl,h,A.house,dh,_,_,rfl,O.ob,T.cH,T.nH _ (by decide),rfl,R,_,rfl,iI.k (k:=kN n) O.re,_,rfl,?_⟩
 cases e:s.calls.find? fun c=>c.num==n with
 |none=>
  have en:cW (bV s.calls as) (kN n)=none:=resKV_none fun d hd z=>by
   have:=List.find?_eq_none.mp e d hd
   simp[z]at this
  rw[e]at k
  rw[en]
  exact iteT ⟨eF,fun l hl=>Ans.new TB (s:=s) (xs:=[-8]) k ho hl rfl⟩
 |some c=>
  obtain⟨ca,ev,dc,CA⟩:=resKV_find O.rea e
  rw[e]at k
  dsimp only at k
  rw[ev]
  refine iteF ?_
  refine⟨_,rfl,_,rfl,h,A.house,dh,_,_,rfl,O.ob,T.cH,T.nH _ (by decide),rfl,_,rfl,R,_,rfl,by have:=iI.k (k:=kN n) O.re;rw[ev]at this;exact this,ca,A.res,dc,_,_,rfl,CA,T.cE,T.nE _ (by decide),rfl,?_⟩
  refine⟨h,s,c.q,rfl,ho,fun H1 e1=>⟨_,rfl,aP (fun c1=>?_) fun c1=>?_⟩⟩
  ·rw[if_pos c1]at k
   exact⟨eF,fun l hl=>Ans.new TB (s:=s) (xs:=[-7]) (k.ext (Ext.kept e1)) (ho.ext e1) hl rfl⟩
  rw[if_neg c1]at k
  have O1:=O.ext e1
  refine⟨_,rfl,h,A.house,dh,_,_,rfl,O1.ob,T.cH,T.nH _ (by decide),rfl,R,rfl,.inl ⟨_,Rd.of O1.re⟩,_,rfl,_,kN n,_,O1.re,rfl,ev,eF,fun l hl=>?_⟩
  have O2:=O1.reres (s':={ s with calls:=s.calls.filter fun c=>c.num != n }) rfl (sel_ok (fun c=>c.num != n) O1.rea)
  dsimp only at O2
  rw[←resKV_drop O1.rea]at O2
  exact Ans.new TB (xs:=[0]) (k.ext ((Ext.kept e1).trans (.upd TB O1.re True.intro (fun z=>z)))) ⟨dh,ra,Ed,R,B,L,es,_,bs,ls,O2⟩ hl rfl
def bPair(b:Vbemaj.Booked):Nat×List Int:=(b.q,b.amounts)
def xPair(x:QB):Nat×List Int:=(x.1,x.2.2)
def putQB(y:QB)(l:List QB):List QB:=if (l.any fun x=>decide (x.1=y.1))=true then l.map (fun x=>if x.1=y.1 then y else x)else l++[y]
theorem putQB_perm{y:QB}:∀{l:List QB},(l.map (·.1)).Nodup→(putQB y l).Perm (y::l.filter fun x=>decide (x.1≠y.1))
 |[],_=>by simp[putQB]
 |a::l,h=>by
  obtain⟨h1,h2⟩:=List.nodup_cons.mp (show(a.1::l.map (·.1)).Nodup from h)
  have ih:=putQB_perm (y:=y) h2
  unfold putQB at ih ⊢
  rw[List.any_cons,List.filter_cons]
  by_cases e:a.1=y.1
  ·have hn:∀x∈l,x.1≠y.1:=fun x hx z=>h1 (List.mem_map.mpr ⟨x,hx,z.trans e.symm⟩)
   have hf:l.filter (fun x=>decide (x.1≠y.1))=l:=QM.dW fun x hx=>decide_eq_true (hn x hx)
   have hm:l.map (fun x=>if x.1=y.1 then y else x)=l:=by
    conv=>rhs;rw[←List.map_id l]
    exact List.map_congr_left fun x hx=>by rw[if_neg (hn x hx)];rfl
   rw[decide_eq_true e,Bool.true_or,if_pos rfl,List.map_cons,if_pos e,hm,hf]
   simp[e]
  ·rw[decide_eq_false e,Bool.false_or,decide_eq_true (show a.1≠y.1 from e),if_pos rfl,List.map_cons,if_neg e]
   by_cases c:(l.any fun x=>decide (x.1=y.1))=true
   ·rw[if_pos c]at ih ⊢
    exact (ih.cons a).trans (.swap _ _ _)
   ·rw[if_neg c]at ih ⊢
    exact (ih.cons a).trans (.swap _ _ _)
theorem putK_book(y:QB)(l:List QB):putK (eX l) (kN y.1) (.ref y.2.1)=eX (putQB y l):=by
 unfold putK putQB eX
 have e1:((l.map fun b=>(kN b.1,V.ref b.2.1)).any fun kv=>decide (kv.1=kN y.1))=l.any fun x=>decide (x.1=y.1):=by
  rw[List.any_map]
  congr 1
  funext x
  show decide (kN x.1=kN y.1)=decide (x.1=y.1)
  rw[Bool.eq_iff_iff,decide_eq_true_iff,decide_eq_true_iff]
  exact⟨kN_inj,fun z=>by rw[z]⟩
 rw[e1]
 split
 ·rw[List.map_map,List.map_map]
  apply List.map_congr_left
  intro x hx
  show(if kN x.1=kN y.1 then(kN x.1,V.ref y.2.1)else(kN x.1,V.ref x.2.1))=(kN (if x.1=y.1 then y else x).1,V.ref (if x.1=y.1 then y else x).2.1)
  by_cases c:x.1=y.1
  ·rw[if_pos (by rw[c]),if_pos c,c]
  ·rw[if_neg (fun z=>c (kN_inj z)),if_neg c]
 ·rw[List.map_append]
  rfl
theorem filt_pair(q:Nat)(l:List QB):(l.filter fun x=>decide (x.1≠q)).map xPair=(l.map xPair).filter fun z=>decide (z.1≠q):=by
 rw[List.filter_map]
 rfl
theorem filt_pairB(q:Nat)(l:List Vbemaj.Booked):(l.filter fun y=>!(y.q==q)).map bPair=(l.map bPair).filter fun z=>decide (z.1≠q):=by
 rw[List.filter_map]
 congr 2
 funext y
 show(!(y.q==q))=decide (y.q≠q)
 by_cases c:y.q=q <;> simp[c]
section
variable{A:dz}{H:Hp}{h dh E R B L:Addr}{s:Vbemaj.State}{ra:V}{es:List QE}{as:List Addr}{bs:List QB}{ls:List Nat}
theorem aR.bop'(x:aR A H h s dh ra E R B L es as bs ls):(bs.map xPair).Perm (s.booked.map bPair):=x.bop
theorem aR.bnd(x:aR A H h s dh ra E R B L es as bs ls)(W:QM.Wf s):(bs.map (·.1)).Nodup:=by
 have h1:=x.bop'.map (·.1)
 rw[List.map_map,List.map_map]at h1
 have h2:(s.booked.map fun b=>b.q).Nodup:=List.pairwise_map.mpr (W.booked.imp fun q=>by omega)
 exact (h1.nodup_iff).mpr h2
theorem aR.blen(x:aR A H h s dh ra E R B L es as bs ls):bs.length=s.booked.length:=by
 have:=x.bop'.length_eq
 rw[List.length_map,List.length_map]at this
 exact this
theorem aR.bookAt(x:aR A H h s dh ra E R B L es as bs ls){q:Nat}{b:Vbemaj.Booked}(hb:Vbemaj.bookedAt s q=some b):∃y∈bs,y.1=q∧y.2.2=b.amounts:=by
 obtain⟨h1,h2⟩:=QM.bB hb
 obtain⟨y,hy,e⟩:=List.mem_map.mp (x.bop'.mem_iff.mpr (List.mem_map.mpr ⟨b,h1,rfl⟩))
 exact⟨y,hy,(Prod.mk.inj e).1.trans h2,(Prod.mk.inj e).2⟩
theorem aR.bookNo(x:aR A H h s dh ra E R B L es as bs ls){q:Nat}(hb:Vbemaj.bookedAt s q=none):∀y∈bs,y.1≠q:=fun y hy z=>by
 obtain⟨b,hb',e⟩:=List.mem_map.mp (x.bop'.mem_iff.mp (List.mem_map.mpr ⟨y,hy,rfl⟩))
 exact QM.bookedAt_none hb b hb' ((Prod.mk.inj e).1.trans z)
theorem aR.bval(x:aR A H h s dh ra E R B L es as bs ls)(W:QM.Wf s){y:QB}(hy:y∈bs):cW (eX bs) (kN y.1)=some (.ref y.2.1):=mG (f:=fun(y:QB)=>y.1) (g:=fun(y:QB)=>V.ref y.2.1) (x.bnd W) hy
theorem aR.bnone(x:aR A H h s dh ra E R B L es as bs ls){q:Nat}(hb:Vbemaj.bookedAt s q=none):cW (eX bs) (kN q)=none:=lJ (f:=fun(y:QB)=>y.1) (g:=fun(y:QB)=>V.ref y.2.1) (x.bookNo hb)
theorem aR.lockNew(x:aR A H h s dh ra E R B L es as bs ls){q:Nat}(hn:Vbemaj.isLocked s q=false):putK (lockV ls) (kN q) (.bl true)=lockV (ls++[q]):=by
 unfold lockV
 rw[put_new (f:=fun(q:Nat)=>q) (g:=fun _=>V.bl true) fun y hy z=>(by have:=(x.lop y).mp hy;rw[z,hn]at this;cases this),List.map_append]
 rfl
theorem isLocked_put{s:Vbemaj.State}(hs:QM.iK s.booked)(X:Vbemaj.Booked)(q:Nat):Vbemaj.isLocked { s with booked:=Vbemaj.putBooked X s.booked } q=if q=X.q then X.locked else Vbemaj.isLocked s q:=by
 unfold Vbemaj.isLocked Vbemaj.bookedAt
 by_cases c:q=X.q
 ·rw[if_pos c]
  subst c
  show((Vbemaj.putBooked X s.booked).find? fun b=>b.q==X.q).any _=_
  rw[QM.find_put_same hs]
  rfl
 ·rw[if_neg c]
  show((Vbemaj.putBooked X s.booked).find? fun b=>b.q==q).any _=_
  rw[QM.find_put_ne c]
theorem aR.rebook(x:aR A H h s dh ra E R B L es as bs ls)(W:QM.Wf s){q o:Nat}{f:List Int}(ho:H o=some (.lst (f.map V.int)))(hl:Vbemaj.isLocked s q=false):
  aR A (upd H B (.dK (putK (eX bs) (kN q) (.ref o)))) h { s with booked:=Vbemaj.putBooked ⟨q,false,f⟩ s.booked } dh ra E R B L es as (putQB (q,o,f) bs) ls:=by
 obtain⟨nE,nR,nL⟩:E≠B∧R≠B∧B≠L:=by have:=x.apart;simp at this;exact⟨this.1.2.1,this.2.1.1,this.2.2⟩
 have ki:∀{a C d:Addr}{fs:List (Str×V)},H a=some (.ins C d fs)→(upd H B (.dK (putK (eX bs) (kN q) (.ref o)))) a=some (.ins C d fs):=fun z=>by rw[aB (bI z x.bo fun z=>nomatch z)];exact z
 have kl:∀{a:Addr}{xs:List V},H a=some (.lst xs)→(upd H B (.dK (putK (eX bs) (kN q) (.ref o)))) a=some (.lst xs):=fun z=>by rw[aB (bI z x.bo fun z=>nomatch z)];exact z
 have pm:=putQB_perm (y:=(q,o,f)) (x.bnd W)
 exact {
  ob:=ki x.ob
  ru1:=fun o=>let⟨a,h1,dr,h2⟩:=x.ru1 o;⟨a,h1,dr,ki h2⟩
  ru0:=x.ru0
  en:=by rw[aB nE];exact x.en
  enq:=x.enq
  ena:=x.ena
  enr:=x.enr
  enD:=fun e he=>by rw[aB (bI (x.enD e he) x.bo fun z=>nomatch z)];exact x.enD e he
  eno:=x.eno
  ent:=x.ent
  re:=by rw[aB nR];exact x.re
  rea:=Paired.mapP x.rea fun _ _ ⟨dr,hr⟩=>⟨dr,ki hr⟩
  bo:=by rw[ao];exact congrArg (fun z=>some (HO.dK z)) (putK_book (q,o,f) bs)
  bol:=fun b hb=>by
   rcases List.mem_cons.mp (pm.mem_iff.mp hb)with rfl|hb
   ·exact kl ho
   ·exact kl (x.bol b (List.mem_filter.mp hb).1)
  bop:=by
   have p1:((putQB (q,o,f) bs).map xPair).Perm ((q,f)::(bs.map xPair).filter fun z=>decide (z.1≠q)):=by
    have:=pm.map xPair
    rw[List.map_cons,filt_pair]at this
    exact this
   have p2:((Vbemaj.putBooked ⟨q,false,f⟩ s.booked).map bPair).Perm ((q,f)::(s.booked.map bPair).filter fun z=>decide (z.1≠q)):=by
    have:=(QM.putB_perm (x:=⟨q,false,f⟩) W.booked).map bPair
    rw[List.map_cons,filt_pairB]at this
    exact this
   exact p1.trans (((x.bop'.filter _).cons _).trans p2.symm)
  lo:=by rw[aB (fun z=>nL z.symm)];exact x.lo
  lon:=x.lon
  lop:=fun q'=>by
   rw[isLocked_put W.booked]
   split
   ·rename_i c
    have c':q'=q:=c
    rw[c']
    refine (x.lop q).trans ?_
    rw[hl]
   ·exact x.lop q'
  apart:=x.apart }
theorem aR.relock(x:aR A H h s dh ra E R B L es as bs ls)(W:QM.Wf s){q:Nat}{b:Vbemaj.Booked}(hb:Vbemaj.bookedAt s q=some b)(hl:Vbemaj.isLocked s q=false):
  aR A (upd H L (.dK (putK (lockV ls) (kN q) (.bl true)))) h { s with booked:=Vbemaj.putBooked { b with locked:=true } s.booked } dh ra E R B L es as bs (ls++[q]):=by
 obtain⟨nE,nR,nB⟩:E≠L∧R≠L∧B≠L:=by have:=x.apart;simp at this;exact⟨this.1.2.2,this.2.1.2,this.2.2⟩
 obtain⟨b1,b2⟩:=QM.bB hb
 have ki:∀{a C d:Addr}{fs:List (Str×V)},H a=some (.ins C d fs)→(upd H L (.dK (putK (lockV ls) (kN q) (.bl true)))) a=some (.ins C d fs):=fun z=>by rw[aB (bI z x.lo fun z=>nomatch z)];exact z
 have hq:q∉ls:=fun z=>by have:=(x.lop q).mp z;rw[hl]at this;cases this
 exact {
  ob:=ki x.ob
  ru1:=fun o=>let⟨a,h1,dr,h2⟩:=x.ru1 o;⟨a,h1,dr,ki h2⟩
  ru0:=x.ru0
  en:=by rw[aB nE];exact x.en
  enq:=x.enq
  ena:=x.ena
  enr:=x.enr
  enD:=fun e he=>by rw[aB (bI (x.enD e he) x.lo fun z=>nomatch z)];exact x.enD e he
  eno:=x.eno
  ent:=x.ent
  re:=by rw[aB nR];exact x.re
  rea:=Paired.mapP x.rea fun _ _ ⟨dr,hr⟩=>⟨dr,ki hr⟩
  bo:=by rw[aB nB];exact x.bo
  bol:=fun b hb=>by rw[aB (bI (x.bol b hb) x.lo fun z=>nomatch z)];exact x.bol b hb
  bop:=by
   have p2:=(QM.putB_perm (x:={ b with locked:=true }) W.booked).map bPair
   have p3:=(QM.putB_perm (x:=b) W.booked).map bPair
   have p4:Vbemaj.putBooked b s.booked=s.booked:=put_self W.booked b1
   rw[p4]at p3
   exact x.bop'.trans (p3.trans p2.symm)
  lo:=by rw[ao,x.lockNew hl]
  lon:=List.nodup_append.mpr ⟨x.lon,by simp,fun a ha c hc z=>by simp at hc;exact hq (by rw[←hc,←z];exact ha)⟩
  lop:=fun q'=>by
   rw[isLocked_put W.booked]
   show _↔(if q'=b.q then true else Vbemaj.isLocked s q')=true
   rw[b2,List.mem_append,List.mem_singleton]
   by_cases c:q'=q
   ·rw[if_pos c];exact⟨fun _=>rfl,fun _=>.inr c⟩
   ·rw[if_neg c];exact⟨fun z=>z.elim (x.lop q').mp fun z=>absurd z c,fun z=>.inl ((x.lop q').mpr z)⟩
  apart:=x.apart }
where
 put_self:∀{l:List Vbemaj.Booked},QM.iK l→∀{b:Vbemaj.Booked},b∈l→Vbemaj.putBooked b l=l
 |[],_,_,h=>nomatch h
 |a::l,hs,b,h=>by
  obtain⟨h1,h2⟩:=List.pairwise_cons.mp hs
  unfold Vbemaj.putBooked
  rcases List.mem_cons.mp h with rfl|h
  ·rw[if_pos rfl]
  ·have:=h1 b h
   rw[if_neg (by omega),if_neg (by omega),put_self h2 h]
end
theorem fresh_eq(s:Vbemaj.State)(q:Nat):Vbemaj.settled s.rules (Vbemaj.get s 3 0 0 q) (Vbemaj.callsAt s q) (hnds s.hands (fun k p w=>Vbemaj.get s k p w q) (Vbemaj.callsAt s q))=Vbemaj.fresh s q:=by
 unfold Vbemaj.fresh Vbemaj.handsOf hnds
 rw[List.map_map]
 rfl
theorem chk3{c:Bool}{NF FIRST RET REST:Prop}(rest:NF→REST)(h1:c=true→(NF→REST)→FIRST)(h2:c=false→NF):if c=true then FIRST else(if false=true then RET else REST):=by
 cases c with
 |true=>rw[if_pos rfl];exact h1 rfl rest
 |false=>rw[if_neg (by decide),if_neg (by decide)];exact rest (h2 rfl)
theorem m5(l:List Int):(Vbemaj.nonzero l).length≤1+2*l.length:=by
 have gen:∀(l:List Int) (i:Nat),(QM.bW i l).flatten.length≤2*l.length:=by
  intro l
  induction l with
  |nil=>intro i;simp[QM.bW]
  |cons a l ih=>
   intro i
   have q:=ih (i+1)
   unfold QM.bW at q ⊢
   rw[List.length_cons,List.range'_succ,List.zip_cons_cons,List.filterMap_cons]
   by_cases h:a=0
   ·simp only[h,if_true];omega
   ·simp only[h,if_false,List.flatten_cons,List.length_append]
    show 2+_≤_
    omega
 rw[QM.nonzero_eq]
 unfold Vbemaj.rows
 rw[List.length_cons]
 have:=gen l 0
 omega
theorem lock_len{A:dz}{H:Hp}{h dh E R B L:Addr}{s:Vbemaj.State}{ra:V}{es:List QE}{as:List Addr}{bs:List QB}{ls:List Nat}(x:aR A H h s dh ra E R B L es as bs ls)(W:QM.Wf s):ls.length≤10000:=by
 have:=x.lon.length_le_of_subset (l₂:=s.booked.map fun b=>b.q) fun q hq=>by
  have e:=(x.lop q).mp hq
  unfold Vbemaj.isLocked at e
  cases c:Vbemaj.bookedAt s q with
  |none=>rw[c]at e;cases e
  |some b=>exact List.mem_map.mpr ⟨b,(QM.bB c).1,(QM.bB c).2⟩
 rw[List.length_map]at this
 have:=W.most2
 omega
variable{tb:Tb}
theorem made{H H':Hp}{x dx C:Addr}(TB:bD τ)(h1:H x=none)(h2:H dx=none)(hne:dx≠x)(e:ExtBut τ x (upd (upd H dx (.own x)) x (.ins C dx [])) H'):Ext τ H H':=
 Ext.but TB (Ext.new TB h2) (by rw[aB hne.symm];exact h1) e
def eZ(s:Vbemaj.State)(b:Vbemaj.Booked):Bool:=(Vbemaj.less (Vbemaj.fresh s b.q) b.amounts).any fun x=>decide (x≠0)
def spPend(A:dz)(tb:Tb):Sp:=fun vs H Q _=>∃h s q b,vs=[.ref h,.int (q:Nat)]∧aY A H h s∧QM.Wf s∧s.opened=true∧aQ tb H∧Vbemaj.bookedAt s q=some b∧Gives (aQ tb) (.bl (eZ s b)) H Q
theorem ok_is_pending(T:TxtC K mg A)(D:aF K mg "is_pending" iT)(fC:Has P w K mg base 9 "owed_now" ["now"] (spOwed A tb))(bH:lD P w K mg base 1 "QuarterNow" A.now ["self","house","quarter"] (spQN A (aQ tb)))
  (nY:Has P w K mg base 1 "growth" ["before","after"] (spGrow (aQ tb))):Has P w K mg base 10 "is_pending" ["house","quarter"] (spPend A tb):=by
 refine Has.of D jE bd_is_pending fun _ _ _ _ _ H vs Q E hr h=>?_
 obtain⟨h,s,q,b,rfl,ho,W,op,htab,e,k⟩:=h
 have TB:bD (aQ tb):=dF
 have hu:=nM hr
 have ⟨dh,ra,Ed,R,B,L,es,as,bs,ls,O⟩:=ho
 obtain⟨y,hy,hy1,hy2⟩:=O.bookAt e
 have ev:cW (eX bs) (kN q)=some (.ref y.2.1):=by rw[←hy1];exact O.bval W hy
 have lb:=W.lens b (QM.bB e).1
 have eq:b.q=q:=(QM.bB e).2
 refine⟨_,(aq (bw (i:=2) jE.nd rfl (Or.inl rfl) (aC fC hr (aj (iQ bH hr (aj (pv 0) (aj (pv 1) ak))) ak))) (au (aD (aU (call_anyL rfl) rfl T.b_any L2.boot_any (aj (fG (own:=[("number",3)]) rfl jE.nd (bY (aC nY hr (aj (pe_dget hu (aJ (pv 0) rfl) (pv 1) (fun _ _=>rfl)) (aj (pv 2) ak)))) (show cV ["house","quarter","owed","number"] (aG iT) _ _ from⟨rfl,by decide +kernel,by decide +kernel,by decide +kernel,by decide +kernel⟩) (fun _ _ _ _ _=>(aX (i:=3) jE.nd rfl (Or.inl rfl))) (fun _ _ _ _ _=>dD) (fun _ _ _ _ _=>(oR op_ne (pv 3) aH (aV _)))) ak))))),?_⟩
 refine⟨_,rfl,_,rfl,fun x dx hx hdx hne=>⟨x,dx,h,s,q,rfl,ao,ho.ext ((Ext.new TB hdx).then TB (by rw[aB hne.symm];exact hx)),W,op,fun H3 b3 N3=>⟨rfl,?_⟩⟩⟩
 have e3:Ext (aQ tb) _ H3:=made TB hx hdx hne b3
 refine⟨x,_,_,_,_,rfl,N3,e3.tb htab,fun H4 lo e4 hlo=>?_⟩
 rw[fresh_eq]at hlo
 have x4:=e3.trans e4
 have O4:=O.ext x4
 have fl:=QM.gj s q
 have hh:=W.hands
 refine⟨_,rfl,h,A.house,dh,_,_,rfl,O4.ob,T.cH,T.nH _ (by decide),rfl,_,rfl,B,_,rfl,by have:=iI.k (k:=kN q) O4.bo;rw[ev]at this;exact this,?_⟩
 refine⟨_,rfl,y.2.1,lo,b.amounts,Vbemaj.fresh s q,rfl,by rw[←hy2];exact O4.bol y hy,hlo,by omega,by omega,fun H5 l e5 hl=>?_⟩
 have el:(Vbemaj.less (Vbemaj.fresh s q) b.amounts).length=s.hands+1:=by unfold Vbemaj.less;rw[List.length_map,List.length_range];omega
 refine⟨l,rfl,⟨_,bh.of hl⟩,?_⟩
 refine dJ TB (bh.of hl) (by rw[List.length_map,el,sizeLine_eq];omega) (fun i=>((Vbemaj.less (Vbemaj.fresh s q) b.amounts)[i]?).bind fun z=>some (V.bl (!decide (V.int z=V.int 0)))) (fun i x hx H' e R Nn h1 h2=>?_) fun D1 H6 e6 hD1 hL=>?_
 ·rw[List.getElem?_map]at hx
  obtain⟨u,hu,rfl⟩:=Option.map_eq_some_iff.mp hx
  rw[hu]at h1
  exact⟨rfl,_,rfl,rfl,h1 _ _ rfl (.refl _)⟩
 ·rw[List.length_map,bN (fun z=>some (V.bl (!decide (V.int z=V.int 0)))),filterMap_some]at hL
  refine⟨D1,(Vbemaj.less (Vbemaj.fresh s q) b.amounts).map fun z=>!decide (V.int z=V.int 0),rfl,bh.of (by rw[hL,List.map_map];rfl),?_⟩
  have kk:=k H6 ((x4.trans e5).trans e6)
  have eb:((Vbemaj.less (Vbemaj.fresh s q) b.amounts).map fun z=>!decide (V.int z=V.int 0)).any id=eZ s b:=by
   unfold eZ
   rw[eq]
   generalize Vbemaj.less (Vbemaj.fresh s q) b.amounts=u
   induction u with
   |nil=>rfl
   |cons z u ih=>rw[List.map_cons,List.any_cons,ih,List.any_cons];congr 1;by_cases hz:z=0 <;> simp[hz]
  rw[eb]
  exact kk
def spSettle(A:dz)(tb:Tb):Sp:=fun vs H Q _=>∃h s q,vs=[.ref h,.int (q:Nat)]∧aY A H h s∧QM.Wf s∧s.opened=true∧aQ tb H∧Ans A (aQ tb) H h (gP s (Vbemaj.does s (.settle q))) Q
theorem ok_settle(T:TxtC K mg A)(D:aF K mg "settle" s_settle)(bF:Has P w K mg base 1 "is_locked" ["house","quarter"] (iz A (aQ tb)))(fC:Has P w K mg base 9 "owed_now" ["now"] (spOwed A tb))(bH:lD P w K mg base 1 "QuarterNow" A.now ["self","house","quarter"] (spQN A (aQ tb)))
  (iR:Has P w K mg base 1 "listed" ["numbers"] (spListed (aQ tb))) (nY:Has P w K mg base 1 "growth" ["before","after"] (spGrow (aQ tb))):Has P w K mg base 10 "settle" ["house","quarter"] (spSettle A tb):=by
 refine Has.of D sc_settle bd_settle fun _ _ _ _ _ H vs Q E hr h=>?_
 obtain⟨h,s,q,rfl,ho,W,op,htab,k⟩:=h
 have TB:bD (aQ tb):=dF
 have hu:=nM hr
 refine⟨_,(aq (aZ (d9 (aC bF hr (aj (pv 0) (aj (pv 1) ak)))) (au (aD (aW (aj (aK rfl T.g_LOCKED) ak)))) aM) (aq (aZ (PW.pt (pw_and (pt_cmp (pc_dnotin hu (pv 1) (aJ (pv 0) rfl))) (pw_and1 (aO bT (aU n8 rfl T.iJ PySem.boot_len (aj (aJ (pv 0) rfl) ak)) (aK rfl T.g_MOST_BOOKED) (aV _))))) (au (aD (aW (aj (aK rfl T.g_FULL) ak)))) aM) (aq (bw (i:=2) sc_settle.nd rfl (Or.inl rfl) (pe_dget2 hu (aJ (pv 0) rfl) (pv 1) (aW ak) ⟨rfl,rfl,rfl,rfl⟩)) (aq (bw (i:=3) sc_settle.nd rfl (Or.inl rfl) (aC fC hr (aj (iQ bH hr (aj (pv 0) (aj (pv 1) ak))) ak))) (aq (ps_dput hu (aJ (pv 0) rfl) (pv 1) (pv 3) rfl) (au (aD (bR op_cat (aW (aj (aK rfl T.bx) ak)) (aC iR hr (aj (aC nY hr (aj (pv 2) (aj (pv 3) ak))) ak)))))))))),?_⟩
 dsimp only[Vbemaj.does]at k
 refine⟨_,rfl,_,rfl,h,s,q,rfl,ho,fun H1 e1=>⟨_,rfl,aP (fun c1=>?_) fun c1=>?_⟩⟩
 ·rw[if_pos c1]at k
  exact⟨eF,fun l hl=>Ans.new TB (s:=s) (xs:=[-7]) (k.ext (Ext.kept e1)) (ho.ext e1) hl rfl⟩
 rw[if_neg c1]at k
 have c1':Vbemaj.isLocked s q=false:=by simpa using c1
 have ho1:=ho.ext e1
 have ⟨dh,ra,Ed,R,B,L,es,as,bs,ls,O⟩:=ho1
 have bl:=O.blen
 have m2:=W.most2
 refine⟨_,rfl,_,rfl,h,A.house,dh,_,_,rfl,O.ob,T.cH,T.nH _ (by decide),rfl,B,_,rfl,iI.k (k:=kN q) O.bo,_,rfl,?_⟩
 have bvl:(eX bs).length=bs.length:=by unfold eX;rw[List.length_map]
 refine chk3 (NF:=¬(Vbemaj.BOOKED≤s.booked.length∧(Vbemaj.bookedAt s q).isNone=true)) (fun nf=>?_) (fun c2 rest=>?_) (fun c2=>?_)
 ·rw[if_neg nf]at k
  refine⟨_,rfl,h,A.house,dh,_,_,rfl,O.ob,T.cH,T.nH _ (by decide),rfl,B,rfl,.inl ⟨_,Rd.of O.bo⟩,_,rfl,(by rw[sizeLine_eq];decide),fun p hp=>?_⟩
  have e2:Ext (aQ tb) H1 (upd H1 p (.lst [])):=.new TB hp
  have O2:=O.ext e2
  refine⟨_,iI.k (k:=kN q) O2.bo,?_⟩
  obtain⟨ba,pr,hv,hpr,epr,lpr⟩:∃(ba:Addr) (pr:List Int),(cW (eX bs) (kN q)).getD (.ref p)=.ref ba∧(upd H1 p (.lst [])) ba=some (.lst (pr.map V.int))∧pr=((Vbemaj.bookedAt s q).map fun b=>b.amounts).getD []∧pr.length≤s.hands+1:=by
   cases e:Vbemaj.bookedAt s q with
   |none=>exact⟨p,[],by rw[O.bnone e];rfl,ao,rfl,Nat.zero_le _⟩
   |some b=>
    obtain⟨y,hy,h1,h2⟩:=O.bookAt e
    refine⟨y.2.1,b.amounts,by rw[←h1,O.bval W hy];rfl,by rw[←h2];exact O2.bol y hy,rfl,W.lens b (QM.bB e).1⟩
  rw[hv]
  rw[←epr]at k
  refine⟨_,rfl,_,rfl,fun x dx hx hdx hne=>⟨x,dx,h,s,q,rfl,ao,⟨dh,ra,Ed,R,B,L,es,as,bs,ls,O2.ext ((Ext.new TB hdx).then TB (by rw[aB hne.symm];exact hx))⟩,W,op,fun H3 b3 N3=>⟨rfl,?_⟩⟩⟩
  have e3:Ext (aQ tb) _ H3:=made TB hx hdx hne b3
  have x3:=(e1.trans e2).trans e3
  refine⟨x,_,_,_,_,rfl,N3,x3.tb htab,fun H4 lo e4 hlo=>?_⟩
  rw[fresh_eq]at hlo
  have x4:=x3.trans e4
  have O4:=O2.ext (e3.trans e4)
  refine⟨_,rfl,_,rfl,h,A.house,dh,_,_,rfl,O4.ob,T.cH,T.nH _ (by decide),rfl,_,rfl,B,_,rfl,DPut.k (k:=kN q) O4.bo (by rw[bvl,bl,sizeLine_eq];omega),?_⟩
  have O5:=O4.rebook W hlo c1'
  have kp5:Kept A (aQ tb) H4 (upd H4 B (.dK (putK (eX bs) (kN q) (.ref lo)))):=.upd TB O4.bo True.intro (fun z=>z)
  refine⟨eF,fun p5 hp5=>?_⟩
  have e6:Ext (aQ tb) (upd H4 B (.dK (putK (eX bs) (kN q) (.ref lo)))) _:=.new TB hp5 (o:=.lst [V.int 0])
  have hba:=e6.lst (kp5.lst ((e3.trans e4).lst hpr))
  have hlo6:=e6.lst (kp5.lst hlo)
  have fl:=QM.gj s q
  have hh:=W.hands
  refine⟨_,rfl,_,rfl,ba,lo,pr,Vbemaj.fresh s q,rfl,hba,hlo6,by omega,by omega,fun H7 lg e7 hlg=>?_⟩
  have ll:(Vbemaj.less (Vbemaj.fresh s q) pr).length=s.hands+1:=by unfold Vbemaj.less;rw[List.length_map,List.length_range];omega
  refine⟨lg,_,rfl,hlg,by omega,fun H8 la e8 hla=>?_⟩
  have x8:=(e6.trans e7).trans e8
  refine⟨p5,la,_,_,rfl,rfl,(e7.trans e8).lst ao,hla,?_,fun p9 hp9=>?_⟩
  ·have:=m5 (Vbemaj.less (Vbemaj.fresh s q) pr)
   rw[List.length_map,sizeLine_eq]
   show 1+_≤_
   omega
  ·have O8:=O5.ext x8
   exact Ans.new TB (k.ext ((Ext.kept x4).trans (kp5.trans (Ext.kept x8)))) ⟨dh,ra,Ed,R,B,L,es,as,_,ls,O8⟩ hp9 rfl
 ·have hn:Vbemaj.bookedAt s q=none:=by
   cases e:Vbemaj.bookedAt s q with
   |none=>rfl
   |some b=>
    obtain⟨y,hy,h1,h2⟩:=O.bookAt e
    rw[←h1,O.bval W hy]at c2
    cases c2
  refine⟨_,rfl,h,A.house,dh,_,_,rfl,O.ob,T.cH,T.nH _ (by decide),rfl,B,_,rfl,.inl ⟨_,O.bo,rfl⟩,rfl,_,rfl,aP (fun c3=>?_) fun c3=>?_⟩
  ·have c3':(((eX bs).length:Nat):Int)=64:=by simpa using of_decide_eq_true c3
   rw[if_pos ⟨by show 64≤_;omega,by rw[hn];rfl⟩]at k
   exact⟨eF,fun l hl=>Ans.new TB (s:=s) (xs:=[-6]) (k.ext (Ext.kept e1)) ho1 hl rfl⟩
  ·have c3':¬(((eX bs).length:Nat):Int)=64:=fun z=>c3 (decide_eq_true (by rw[z]))
   refine rest fun z=>?_
   have:64≤s.booked.length:=z.1
   omega
 ·intro z
  have:Vbemaj.bookedAt s q=none:=by simpa using z.2
  rw[O.bnone this]at c2
  cases c2
def spLock(A:dz)(tb:Tb):Sp:=fun vs H Q _=>∃h s q,vs=[.ref h,.int (q:Nat)]∧aY A H h s∧QM.Wf s∧s.opened=true∧aQ tb H∧Ans A (aQ tb) H h (gP s (Vbemaj.does s (.lock q))) Q
theorem ok_lock(T:TxtC K mg A)(D:aF K mg "lock" s_lock)(bF:Has P w K mg base 1 "is_locked" ["house","quarter"] (iz A (aQ tb)))(gB:Has P w K mg base 10 "is_pending" ["house","quarter"] (spPend A tb)):
  Has P w K mg base 11 "lock" ["house","quarter"] (spLock A tb):=by
 refine Has.of D sc_lock bd_lock fun _ _ _ _ _ H vs Q E hr h=>?_
 obtain⟨h,s,q,rfl,ho,W,op,htab,k⟩:=h
 have TB:bD (aQ tb):=dF
 have hu:=nM hr
 have ⟨dh,ra,Ed,R,B,L,es,as,bs,ls,O⟩:=ho
 refine⟨_,(aq (aZ (pt_cmp (pc_dnotin hu (pv 1) (aJ (pv 0) rfl))) (au (aD (aW (aj (aK rfl T.g_NOT_AS_BOOKED) ak)))) aM) (aq (aZ (d9 (aC bF hr (aj (pv 0) (aj (pv 1) ak)))) (au (aD (aW (aj (aK rfl T.g_LOCKED) ak)))) aM) (aq (aZ (d9 (aC gB hr (aj (pv 0) (aj (pv 1) ak)))) (au (aD (aW (aj (aK rfl T.g_NOT_AS_BOOKED) ak)))) aM) (aq (ps_dput hu (aJ (pv 0) rfl) (pv 1) pe_bl rfl) (au (aD (aW (aj (aK rfl T.bx) ak)))))))),?_⟩
 dsimp only[Vbemaj.does]at k
 refine⟨_,rfl,_,rfl,h,A.house,dh,_,_,rfl,O.ob,T.cH,T.nH _ (by decide),rfl,B,_,rfl,iI.k (k:=kN q) O.bo,_,rfl,?_⟩
 cases e:Vbemaj.bookedAt s q with
 |none=>
  rw[e]at k
  rw[O.bnone e]
  exact iteT ⟨eF,fun l hl=>Ans.new TB (s:=s) (xs:=[-11]) k ho hl rfl⟩
 |some b=>
  obtain⟨y,hy,hy1,hy2⟩:=O.bookAt e
  have ev:cW (eX bs) (kN q)=some (.ref y.2.1):=by rw[←hy1];exact O.bval W hy
  have lb:=W.lens b (QM.bB e).1
  have eL:Vbemaj.isLocked s q=b.locked:=by unfold Vbemaj.isLocked;rw[e];rfl
  rw[e]at k
  dsimp only at k
  rw[ev]
  refine iteF ?_
  refine⟨_,rfl,_,rfl,h,s,q,rfl,ho,fun H1 e1=>⟨_,rfl,aP (fun c1=>?_) fun c1=>?_⟩⟩
  ·rw[if_pos (by rw[←eL];exact c1)]at k
   exact⟨eF,fun l hl=>Ans.new TB (s:=s) (xs:=[-7]) (k.ext (Ext.kept e1)) (ho.ext e1) hl rfl⟩
  rw[if_neg (by rw[←eL];exact c1)]at k
  have c1':Vbemaj.isLocked s q=false:=by simpa using c1
  have O1:=O.ext e1
  have hq:b.q=q:=(QM.bB e).2
  refine⟨_,rfl,_,rfl,h,s,q,b,rfl,ho.ext e1,W,op,e1.tb htab,e,fun H5 e5=>⟨_,rfl,aP (fun c2=>?_) fun c2=>?_⟩⟩
  ·have c2':=c2
   unfold eZ at c2'
   rw[hq]at c2'
   rw[if_pos c2']at k
   exact⟨eF,fun l hl=>Ans.new TB (s:=s) (xs:=[-11]) (k.ext (Ext.kept (e1.trans e5))) (ho.ext (e1.trans e5)) hl rfl⟩
  unfold eZ at c2
  rw[hq]at c2
  rw[if_neg c2]at k
  have x4:=e1
  have O5:=O1.ext e5
  have ll:ls.length≤10000:=lock_len O W
  refine⟨_,rfl,h,A.house,dh,_,_,rfl,O5.ob,T.cH,T.nH _ (by decide),rfl,_,rfl,L,_,rfl,DPut.k (k:=kN q) O5.lo (by unfold lockV;rw[List.length_map,sizeLine_eq];omega),?_⟩
  refine⟨eF,fun l hl=>?_⟩
  exact Ans.new TB (xs:=[0]) (k.ext ((Ext.kept (x4.trans e5)).trans (.upd TB O5.lo True.intro (fun z=>z)))) ⟨dh,ra,Ed,R,B,L,es,as,bs,_,O5.relock W e c1'⟩ hl rfl
theorem few4{a b c d:V}:[a,b,c,d].length≤sizeLine:=by show 4≤sizeLine;rw[sizeLine_eq];decide
abbrev NowOf(A:dz)(H:Hp)(x:Addr)(s:Vbemaj.State)(q:Nat):Prop:=Now A H x s.rules s.hands (fun k p w=>Vbemaj.get s k p w q) (Vbemaj.callsAt s q)
def spAskH(A:dz)(τ:Hp→Prop)(c:Nat→Nat→Vbemaj.Call):Sp:=fun vs H Q _=>∃x h s p q,vs=[.ref x,.int (p:Nat)]∧NowOf A H x s q∧aY A H h s∧QM.Wf s∧s.opened=true∧InN s.hands p∧τ H∧Ans A τ H h (gP s (Vbemaj.does s (c p q))) Q
theorem iC{s:Vbemaj.State}{p:Nat}(h:InN s.hands p):Vbemaj.isHand s p=true:=iB.mpr h
theorem ok_ask_position(TB:bD τ)(T:TxtC K mg A)(D:aF K mg "ask_position" iZ)
  (cu:Has P w K mg base 1 "entry" ["now","key"] (j9 A τ)) (dG:Has P w K mg base 1 "market_key" ["hand"] (spKey τ 0)) (fP:Has P w K mg base 3 "matched_sum" ["now","hand"] (spMSum A τ)) (fB:Has P w K mg base 4 "position" ["now","hand"] (spPos A τ)):
  Has P w K mg base 5 "ask_position" ["now","hand"] (spAskH A τ .position):=by
 refine Has.of D sc_ask_position bd_ask_position fun _ _ _ _ _ H vs Q E hr h=>?_
 obtain⟨x,h,s,p,q,rfl,N3,ho,W,op,hp',_,k⟩:=h
 refine⟨_,(au (aD (aW (aj (aK rfl T.bx) (aj (aC cu hr (aj (pv 0) (aj (aC dG hr (aj (pv 1) ak)) ak))) (aj (aC fP hr (aj (pv 0) (aj (pv 1) ak))) (aj (aC fB hr (aj (pv 0) (aj (pv 1) ak))) ak))))))),?_⟩
 dsimp only[Vbemaj.does]at k
 rw[if_neg (by rw[iC hp'];decide)]at k
 refine⟨_,rfl,_,rfl,p,rfl,fun H4 t4 e4 h4=>?_⟩
 refine⟨x,t4,_,_,_,_,0,p,0,rfl,N3.ext e4,h4,.inl (val0 hp' (by decide)),fun H5 e5=>?_⟩
 refine⟨_,rfl,_,rfl,x,_,_,_,_,p,rfl,(N3.ext e4).ext e5,hp',fun H6 e6=>?_⟩
 refine⟨_,rfl,_,rfl,x,_,_,_,_,p,rfl,((N3.ext e4).ext e5).ext e6,hp',fun H7 e7=>?_⟩
 have x7:=((e4.trans e5).trans e6).trans e7
 exact⟨few4,fun l hl=>Ans.new TB (k.ext (Ext.kept x7)) (ho.ext x7) hl rfl⟩
theorem few3{a b c:V}:[a,b,c].length≤sizeLine:=by show 3≤sizeLine;rw[sizeLine_eq];decide
theorem ok_ask_imbalance(TB:bD τ)(T:TxtC K mg A)(D:aF K mg "ask_imbalance" ig)(dY:Has P w K mg base 5 "imbalance" ["now","hand"] (spImb A τ))(nT:Has P w K mg base 3 "called" ["now","hand"] (spCalled A τ)):
  Has P w K mg base 6 "ask_imbalance" ["now","hand"] (spAskH A τ .imbalance):=by
 refine Has.of D sc_ask_imbalance bd_ask_imbalance fun _ _ _ _ _ H vs Q E hr h=>?_
 obtain⟨x,h,s,p,q,rfl,N3,ho,W,op,hp',_,k⟩:=h
 refine⟨_,(au (aD (aW (aj (aK rfl T.bx) (aj (aC dY hr (aj (pv 0) (aj (pv 1) ak))) (aj (aC nT hr (aj (pv 0) (aj (pv 1) ak))) ak)))))),?_⟩
 dsimp only[Vbemaj.does]at k
 rw[if_neg (by rw[iC hp'];decide)]at k
 refine⟨_,rfl,_,rfl,x,_,_,_,_,p,rfl,N3,hp',fun H4 e4=>?_⟩
 refine⟨_,rfl,_,rfl,x,_,_,_,_,p,rfl,N3.ext e4,fun H5 e5=>?_⟩
 have x5:=e4.trans e5
 exact⟨few3,fun l hl=>Ans.new TB (k.ext (Ext.kept x5)) (ho.ext x5) hl rfl⟩
def spAskMat(A:dz)(τ:Hp→Prop):Sp:=fun vs H Q _=>∃h s a b q,vs=[.ref h,.int (a:Nat),.int (b:Nat),.int (q:Nat)]∧aY A H h s∧QM.Wf s∧s.opened=true∧1≤a∧1≤b∧Ans A τ H h (gP s (Vbemaj.does s (.matched a b q))) Q
theorem ok_ask_matched(TB:bD τ)(T:TxtC K mg A)(D:aF K mg "ask_matched" jF)(bG:Has P w K mg base 1 "has_hand" ["house","hand"] (lB A τ))(bH:lD P w K mg base 1 "QuarterNow" A.now ["self","house","quarter"] (spQN A τ))
  (dM:Has P w K mg base 2 "matched" ["now","hand","other"] (oA A τ)):
  Has P w K mg base 3 "ask_matched" ["house","hand","other","quarter"] (spAskMat A τ):=by
 refine Has.of D sc_ask_matched bd_ask_matched fun _ _ _ _ _ H vs Q E hr h=>?_
 obtain⟨h,s,a,b,q,rfl,ho,W,op,ha,hb,k⟩:=h
 refine⟨_,(aq (aZ (PW.pt (pw_or (oK (d9 (aC bG hr (aj (pv 0) (aj (pv 1) ak))))) (pw_or1 (oK (d9 (aC bG hr (aj (pv 0) (aj (pv 2) ak)))))))) (au (aD (aW (aj (aK rfl T.eO) ak)))) aM) (au (aD (aW (aj (aK rfl T.bx) (aj (aC dM hr (aj (iQ bH hr (aj (pv 0) (aj (pv 3) ak))) (aj (pv 1) (aj (pv 2) ak)))) ak)))))),?_⟩
 dsimp only[Vbemaj.does]at k
 have no:∀(H1:Hp),Ext τ H H1→(Vbemaj.isHand s a=false∨Vbemaj.isHand s b=false)→∀l,H1 l=none→Q (.ref l) (upd H1 l (.lst [V.int (-5)])):=fun H1 e1 hn l hl=>by
  rw[if_pos hn]at k
  exact Ans.new TB (s:=s) (xs:=[-5]) (k.ext (Ext.kept e1)) (ho.ext e1) hl rfl
 refine⟨_,rfl,_,rfl,h,s,a,rfl,ho,ha,fun H1 e1=>⟨_,rfl,aP (fun c1=>iteT ?_) fun c1=>?_⟩⟩
 ·exact⟨eF,no H1 e1 (.inl (by simpa using c1))⟩
 have c1':Vbemaj.isHand s a=true:=by simpa using c1
 refine⟨_,rfl,_,rfl,h,s,b,rfl,ho.ext e1,hb,fun H2 e2=>⟨_,rfl,aP (fun c2=>?_) fun c2=>?_⟩⟩
 ·exact⟨eF,no H2 (e1.trans e2) (.inr (by simpa using c2))⟩
 have c2':Vbemaj.isHand s b=true:=by simpa using c2
 have x2:=e1.trans e2
 rw[if_neg (by rw[c1',c2'];intro z;rcases z with z|z <;> cases z)]at k
 refine⟨_,rfl,_,rfl,fun x dx hx hdx hne=>⟨x,dx,h,s,q,rfl,ao,(ho.ext x2).ext ((Ext.new TB hdx).then TB (by rw[aB hne.symm];exact hx)),W,op,fun H3 b3 N3=>⟨rfl,?_⟩⟩⟩
 have e3:Ext τ _ H3:=made TB hx hdx hne b3
 refine⟨_,rfl,_,rfl,?_⟩
 refine⟨x,_,_,_,_,a,b,rfl,N3,iB.mp c1',iB.mp c2',fun H4 e4=>?_⟩
 have x4:=(x2.trans e3).trans e4
 exact⟨few2,fun l hl=>Ans.new TB (k.ext (Ext.kept x4)) (ho.ext x4) hl rfl⟩
theorem few5{a b c d e:V}:[a,b,c,d,e].length≤sizeLine:=by show 5≤sizeLine;rw[sizeLine_eq];decide
theorem few7{a b c d e f g:V}:[a,b,c,d,e,f,g].length≤sizeLine:=by show 7≤sizeLine;rw[sizeLine_eq];decide
def spAskQ(A:dz)(τ:Hp→Prop)(c:Nat→Vbemaj.Call):Sp:=fun vs H Q _=>∃x h s q,vs=[.ref x]∧NowOf A H x s q∧aY A H h s∧QM.Wf s∧s.opened=true∧τ H∧Ans A τ H h (gP s (Vbemaj.does s (c q))) Q
theorem ok_ask_prices(TB:bD τ)(T:TxtC K mg A)(D:aF K mg "ask_prices" kY)(dZ:Has P w K mg base 5 "prices_of" ["now"] (spPof A τ)):Has P w K mg base 6 "ask_prices" ["now"] (spAskQ A τ .prices):=by
 refine Has.of D sc_ask_prices bd_ask_prices fun _ _ _ _ _ H vs Q E hr h=>?_
 obtain⟨x,h,s,q,rfl,N3,ho,W,op,_,k⟩:=h
 refine⟨_,(aq (bw (i:=1) sc_ask_prices.nd rfl (Or.inl rfl) (aC dZ hr (aj (pv 0) ak))) (au (aD (aW (aj (aK rfl T.bx) (aj (aJ (pv 1) rfl) (aj (aJ (pv 1) rfl) (aj (aJ (pv 1) rfl) (aj (aJ (pv 1) rfl) ak))))))))),?_⟩
 dsimp only[Vbemaj.does]at k
 refine⟨_,rfl,x,_,_,_,_,rfl,N3,fun H1 xp e1 ⟨dp,Px⟩=>?_⟩
 refine⟨_,rfl,xp,A.prices,dp,_,_,rfl,Px,T.cP,T.nP _ (by decide),rfl,_,rfl,xp,A.prices,dp,_,_,rfl,Px,T.cP,T.nP _ (by decide),rfl,_,rfl,xp,A.prices,dp,_,_,rfl,Px,T.cP,T.nP _ (by decide),rfl,_,rfl,xp,A.prices,dp,_,_,rfl,Px,T.cP,T.nP _ (by decide),rfl,?_⟩
 exact⟨few5,fun l hl=>Ans.new TB (k.ext (Ext.kept e1)) (ho.ext e1) hl rfl⟩
theorem ok_ask_fresh(T:TxtC K mg A)(D:aF K mg "ask_fresh" mV)(fC:Has P w K mg base 9 "owed_now" ["now"] (spOwed A tb))(iR:Has P w K mg base 1 "listed" ["numbers"] (spListed (aQ tb))):Has P w K mg base 10 "ask_fresh" ["now"] (spAskQ A (aQ tb) .fresh):=by
 refine Has.of D sc_ask_fresh bd_ask_fresh fun _ _ _ _ _ H vs Q E hr h=>?_
 obtain⟨x,h,s,q,rfl,N3,ho,W,op,htab,k⟩:=h
 have TB:bD (aQ tb):=dF
 refine⟨_,(au (aD (bR op_cat (aW (aj (aK rfl T.bx) ak)) (aC iR hr (aj (aC fC hr (aj (pv 0) ak)) ak))))),?_⟩
 dsimp only[Vbemaj.does]at k
 refine⟨eF,fun p5 hp5=>?_⟩
 have e1:Ext (aQ tb) H (upd H p5 (.lst [V.int 0])):=.new TB hp5
 refine⟨_,rfl,x,_,_,_,_,rfl,N3.ext e1,e1.tb htab,fun H4 lo e4 hlo=>?_⟩
 rw[fresh_eq]at hlo
 have fl:=QM.gj s q
 have hh:=W.hands
 refine⟨lo,_,rfl,hlo,by omega,fun H8 la e8 hla=>?_⟩
 have x8:=(e1.trans e4).trans e8
 refine⟨p5,la,_,_,rfl,rfl,(e4.trans e8).lst ao,hla,?_,fun p9 hp9=>?_⟩
 ·have:=m5 (Vbemaj.fresh s q)
  rw[List.length_map,sizeLine_eq]
  show 1+_≤_
  omega
 ·exact Ans.new TB (k.ext (Ext.kept x8)) (ho.ext x8) hp9 rfl
theorem at_fresh{s:Vbemaj.State}{p q:Nat}(hp:InN s.hands p):
  (Vbemaj.splitInt (-(bM s.rules s.hands (fun k p w=>Vbemaj.get s k p w q) (Vbemaj.callsAt s q)).sum) (lE s.hands (fun k p w=>Vbemaj.get s k p w q)))[p - 1]? =
   some (Vbemaj.at_ (Vbemaj.fresh s q) p - Vbemaj.gross s.rules (Vbemaj.ahead s q) (Vbemaj.callsAt s q) (Vbemaj.handAt s p q)):=by
 obtain⟨i,rfl⟩:∃i,p=i+1:=⟨p - 1,by have:=hp.1;omega⟩
 have hi:i<s.hands:=by have:=hp.2;omega
 generalize hg:(fun k p w=>Vbemaj.get s k p w q)=g
 have hs:(Vbemaj.splitInt (-(bM s.rules s.hands g (Vbemaj.callsAt s q)).sum) (lE s.hands g)).length=s.hands:=by rw[QM.fH,wsOf_len]
 have ef:Vbemaj.fresh s q=Vbemaj.settled s.rules (g 3 0 0) (Vbemaj.callsAt s q) (hnds s.hands g (Vbemaj.callsAt s q)):=by rw[←fresh_eq,←hg]
 rw[Nat.add_sub_cancel,ef,settled_eq]
 unfold Vbemaj.at_
 rw[List.getElem?_cons_succ,List.getElem?_map]
 have h1:(bM s.rules s.hands g (Vbemaj.callsAt s q))[i]?=some (Vbemaj.gross s.rules (g 3 0 0) (Vbemaj.callsAt s q) (handOf s.hands g (Vbemaj.callsAt s q) (i+1))):=by
  unfold bM
  rw[List.getElem?_map,List.getElem?_range hi]
  rfl
 have h2:=List.getElem?_eq_getElem (l:=Vbemaj.splitInt (-(bM s.rules s.hands g (Vbemaj.callsAt s q)).sum) (lE s.hands g)) (i:=i) (by omega)
 obtain⟨u,hu⟩:∃u,(Vbemaj.splitInt (-(bM s.rules s.hands g (Vbemaj.callsAt s q)).sum) (lE s.hands g))[i]?=some u:=⟨_,h2⟩
 have hz:((bM s.rules s.hands g (Vbemaj.callsAt s q)).zip (Vbemaj.splitInt (-(bM s.rules s.hands g (Vbemaj.callsAt s q)).sum) (lE s.hands g)))[i]?=some (_,u):=List.getElem?_zip_eq_some.mpr ⟨h1,hu⟩
 rw[hz,hu]
 have e3:Vbemaj.gross s.rules (Vbemaj.ahead s q) (Vbemaj.callsAt s q) (Vbemaj.handAt s (i+1) q)=Vbemaj.gross s.rules (g 3 0 0) (Vbemaj.callsAt s q) (handOf s.hands g (Vbemaj.callsAt s q) (i+1)):=by rw[←hg];rfl
 rw[e3]
 simp only[Option.map_some,Option.getD_some]
 congr 1
 unfold Vbemaj.gross
 omega
theorem ok_ask_parts(T:TxtC K mg A)(D:aF K mg "ask_parts" mW)(dH:Has P w K mg base 3 "shares_of_rest" ["now","gross"] (spRest A tb))(bQ:Has P w K mg base 8 "gross_of_hands" ["now"] (spGr A (aQ tb)))
  (cD:Has P w K mg base 6 "owed_for_imbalance" ["now","hand","prices"] (spOwI A (aQ tb))) (cT:Has P w K mg base 2 "owed_for_reserve" ["now","hand"] (spOwR A (aQ tb))) (dZ:Has P w K mg base 5 "prices_of" ["now"] (spPof A (aQ tb))):
  Has P w K mg base 9 "ask_parts" ["now","hand"] (spAskH A (aQ tb) .parts):=by
 refine Has.of D sc_ask_parts bd_ask_parts fun _ _ _ _ _ H vs Q E hr h=>?_
 obtain⟨x,h,s,p,q,rfl,N3,ho,W,op,hp',htab,k⟩:=h
 have TB:bD (aQ tb):=dF
 refine⟨_,(aq (bw (i:=2) sc_ask_parts.nd rfl (Or.inl rfl) (bU bf (aC dH hr (aj (pv 0) (aj (aC bQ hr (aj (pv 0) ak)) ak))) (bR lG (pv 1) aH) (fun _ _=>rfl))) (au (aD (aW (aj (aK rfl T.bx) (aj (aC cD hr (aj (pv 0) (aj (pv 1) (aj (aC dZ hr (aj (pv 0) ak)) ak)))) (aj (aC cT hr (aj (pv 0) (aj (pv 1) ak))) (aj (pv 2) ak)))))))),?_⟩
 dsimp only[Vbemaj.does]at k
 rw[if_neg (by rw[iC hp'];decide)]at k
 refine⟨_,rfl,_,rfl,x,_,_,_,_,rfl,N3,fun H1 lg e1 hlg=>?_⟩
 refine⟨x,lg,_,_,_,_,_,rfl,N3.ext e1,hlg,e1.tb htab,fun H2 ls e2 hls=>?_⟩
 have x2:=e1.trans e2
 have hz:=at_fresh (q:=q) hp'
 have ei:((p:Nat):Int) - 1=((p - 1:Nat):Int):=by have:=hp'.1;omega
 refine⟨_,rfl,_,_,rfl,rfl,ls,_,_,_,rfl,rfl,bh.of hls,by rw[ei];exact mC (by rw[List.getElem?_map,hz];rfl),?_⟩
 refine⟨_,rfl,_,rfl,_,rfl,x,_,_,_,_,rfl,N3.ext x2,fun H3 xp e3 hx=>?_⟩
 have x3:=x2.trans e3
 refine⟨x,xp,_,_,_,_,p,rfl,N3.ext x3,hx,hp',fun H4 e4=>?_⟩
 have x4:=x3.trans e4
 refine⟨_,rfl,_,rfl,x,_,_,_,_,p,rfl,N3.ext x4,fun H5 e5=>?_⟩
 have x5:=x4.trans e5
 exact⟨_,rfl,few4,fun l hl=>Ans.new TB (k.ext (Ext.kept x5)) (ho.ext x5) hl rfl⟩
def spAskS(A:dz)(τ:Hp→Prop)(c:Vbemaj.Call):Sp:=fun vs H Q _=>∃h s,vs=[.ref h]∧aY A H h s∧QM.Wf s∧s.opened=true∧τ H∧Ans A τ H h (gP s (Vbemaj.does s c)) Q
def spAskN(A:dz)(τ:Hp→Prop)(c:Nat→Vbemaj.Call):Sp:=fun vs H Q _=>∃h s q,vs=[.ref h,.int (q:Nat)]∧aY A H h s∧QM.Wf s∧s.opened=true∧τ H∧Ans A τ H h (gP s (Vbemaj.does s (c q))) Q
theorem ok_ask_sums(TB:bD τ)(T:TxtC K mg A)(D:aF K mg "ask_sums" oZ)(dN:Has P w K mg base 1 "count_entries" ["house"] (spCount A τ)):Has P w K mg base 2 "ask_sums" ["house"] (spAskS A τ .sums):=by
 refine Has.of D sc_ask_sums bd_ask_sums fun _ _ _ _ _ H vs Q E hr h=>?_
 obtain⟨h,s,rfl,ho,W,op,_,k⟩:=h
 have ⟨dh,ra,Ed,R,B,L,es,as,bs,ls,O⟩:=ho
 refine⟨_,(au (aD (aW (aj (aK rfl T.bx) (aj (aJ (pv 0) rfl) (aj (aC dN hr (aj (pv 0) ak)) (aj (aU n8 rfl T.iJ PySem.boot_len (aj (aJ (pv 0) rfl) ak)) (aj (aU n8 rfl T.iJ PySem.boot_len (aj (aJ (pv 0) rfl) ak)) ak)))))))),?_⟩
 dsimp only[Vbemaj.does]at k
 refine⟨_,rfl,h,A.house,dh,_,_,rfl,O.ob,T.cH,T.nH _ (by decide),rfl,_,rfl,h,s,rfl,ho,fun H1 e1=>?_⟩
 have O1:=O.ext e1
 refine⟨_,rfl,h,A.house,dh,_,_,rfl,O1.ob,T.cH,T.nH _ (by decide),rfl,R,_,rfl,.inl ⟨_,O1.re,rfl⟩,?_⟩
 refine⟨_,rfl,h,A.house,dh,_,_,rfl,O1.ob,T.cH,T.nH _ (by decide),rfl,B,_,rfl,.inl ⟨_,O1.bo,rfl⟩,?_⟩
 have hlen:as.length=s.calls.length:=Paired.length O.rea
 have bvl:(eX bs).length=bs.length:=by unfold eX;rw[List.length_map]
 rw[oF hlen,bvl,O.blen]
 exact⟨few5,fun l hl=>Ans.new TB (k.ext (Ext.kept e1)) (ho.ext e1) hl rfl⟩
def spAskSplit(A:dz)(tb:Tb):Sp:=fun vs H Q _=>∃h s l whole ws,vs=[.int whole,.ref l]∧aY A H h s∧H l=some (.lst (ws.map fun(z:Nat)=>V.int z))∧ws.length≤32∧(∀z∈ws,z≤1000000000)∧aQ tb H∧Ans A (aQ tb) H h (s,0::Vbemaj.splitInt whole ws) Q
theorem ok_ask_split(T:TxtC K mg A)(D:aF K mg "ask_split" mX)(nW:Has P w K mg base 2 "shared" ["whole","weights"] (spSh tb)):Has P w K mg base 3 "ask_split" ["whole","weights"] (spAskSplit A tb):=by
 refine Has.of D sc_ask_split bd_ask_split fun _ _ _ _ _ H vs Q E hr h=>?_
 obtain⟨h,s,l,whole,ws,rfl,ho,hl,hlen,hmax,htab,k⟩:=h
 have TB:bD (aQ tb):=dF
 refine⟨_,(au (aD (bR op_cat (aW (aj (aK rfl T.bx) ak)) (aC nW hr (aj (pv 0) (aj (pv 1) ak)))))),?_⟩
 refine⟨eF,fun p5 hp5=>?_⟩
 have e1:Ext (aQ tb) H (upd H p5 (.lst [V.int 0])):=.new TB hp5
 refine⟨_,rfl,_,rfl,l,whole,ws,rfl,e1.lst hl,hlen,hmax,e1.tb htab,fun H2 l2 e2 hl2=>?_⟩
 have x2:=e1.trans e2
 refine⟨p5,l2,_,_,rfl,rfl,e2.lst ao,hl2,?_,fun p9 hp9=>?_⟩
 ·rw[List.length_map,QM.fH,sizeLine_eq]
  show 1+_≤_
  omega
 ·exact Ans.new TB (k.ext (Ext.kept x2)) (ho.ext x2) hp9 rfl
theorem ok_ask_booked(TB:bD τ)(T:TxtC K mg A)(D:aF K mg "ask_booked" kZ)(bF:Has P w K mg base 1 "is_locked" ["house","quarter"] (iz A τ))(iR:Has P w K mg base 1 "listed" ["numbers"] (spListed τ)):
  Has P w K mg base 2 "ask_booked" ["house","quarter"] (spAskN A τ .booked):=by
 refine Has.of D sc_ask_booked bd_ask_booked fun _ _ _ _ _ H vs Q E hr h=>?_
 obtain⟨h,s,q,rfl,ho,W,op,_,k⟩:=h
 have hu:=nM hr
 have ⟨dh,ra,Ed,R,B,L,es,as,bs,ls,O⟩:=ho
 refine⟨_,(aq (aZ (pt_cmp (pc_dnotin hu (pv 1) (aJ (pv 0) rfl))) (au (aD (aW (aj (aK rfl T.bx) (aj aH ak))))) aM) (au (aD (bR op_cat (aW (aj (aK rfl T.bx) (aj aH (aj (pe_ifExp (d9 (aC bF hr (aj (pv 0) (aj (pv 1) ak)))) aH aH) ak)))) (aC iR hr (aj (pe_dget hu (aJ (pv 0) rfl) (pv 1) (fun _ _=>rfl)) ak)))))),?_⟩
 dsimp only[Vbemaj.does]at k
 refine⟨_,rfl,_,rfl,h,A.house,dh,_,_,rfl,O.ob,T.cH,T.nH _ (by decide),rfl,B,_,rfl,iI.k (k:=kN q) O.bo,_,rfl,?_⟩
 cases e:Vbemaj.bookedAt s q with
 |none=>
  rw[e]at k
  rw[O.bnone e]
  exact iteT ⟨few2,fun l hl=>Ans.new TB (s:=s) (xs:=[0,0]) k ho hl rfl⟩
 |some b=>
  obtain⟨y,hy,hy1,hy2⟩:=O.bookAt e
  have ev:cW (eX bs) (kN q)=some (.ref y.2.1):=by rw[←hy1];exact O.bval W hy
  have lb:=W.lens b (QM.bB e).1
  have hh:=W.hands
  have eL:Vbemaj.isLocked s q=b.locked:=by unfold Vbemaj.isLocked;rw[e];rfl
  rw[e]at k
  dsimp only at k
  rw[ev]
  refine iteF ?_
  refine⟨_,rfl,_,rfl,h,s,q,rfl,ho,fun H1 e1=>⟨_,rfl,aP (fun c1=>?_) fun c1=>?_⟩⟩
  ·have hz:Vbemaj.flag b.locked=1:=by rw[←eL,c1];rfl
   rw[hz]at k
   refine⟨few3,fun p5 hp5=>?_⟩
   have e5:Ext τ H1 (upd H1 p5 (.lst [V.int 0,V.int 1,V.int 1])):=.new TB hp5
   have x5:=e1.trans e5
   have O5:=O.ext x5
   refine⟨_,rfl,h,A.house,dh,_,_,rfl,O5.ob,T.cH,T.nH _ (by decide),rfl,_,rfl,B,_,rfl,by have:=iI.k (k:=kN q) O5.bo;rw[ev]at this;exact this,?_⟩
   refine⟨y.2.1,_,rfl,O5.bol y hy,by rw[hy2];omega,fun H8 la e8 hla=>?_⟩
   rw[hy2]at hla
   have x8:=x5.trans e8
   refine⟨p5,la,_,_,rfl,rfl,e8.lst ao,hla,?_,fun p9 hp9=>?_⟩
   ·have:=m5 b.amounts
    rw[List.length_map,sizeLine_eq]
    show 3+_≤_
    omega
   ·exact Ans.new TB (k.ext (Ext.kept x8)) (ho.ext x8) hp9 rfl
  ·have hz:Vbemaj.flag b.locked=0:=by
    have:Vbemaj.isLocked s q=false:=by simpa using c1
    rw[←eL,this];rfl
   rw[hz]at k
   refine⟨few3,fun p5 hp5=>?_⟩
   have e5:Ext τ H1 (upd H1 p5 (.lst [V.int 0,V.int 1,V.int 0])):=.new TB hp5
   have x5:=e1.trans e5
   have O5:=O.ext x5
   refine⟨_,rfl,h,A.house,dh,_,_,rfl,O5.ob,T.cH,T.nH _ (by decide),rfl,_,rfl,B,_,rfl,by have:=iI.k (k:=kN q) O5.bo;rw[ev]at this;exact this,?_⟩
   refine⟨y.2.1,_,rfl,O5.bol y hy,by rw[hy2];omega,fun H8 la e8 hla=>?_⟩
   rw[hy2]at hla
   have x8:=x5.trans e8
   refine⟨p5,la,_,_,rfl,rfl,e8.lst ao,hla,?_,fun p9 hp9=>?_⟩
   ·have:=m5 b.amounts
    rw[List.length_map,sizeLine_eq]
    show 3+_≤_
    omega
   ·exact Ans.new TB (k.ext (Ext.kept x8)) (ho.ext x8) hp9 rfl
def spHasHand0(A:dz)(τ:Hp→Prop):Sp:=fun vs H Q _=>∃h s p,vs=[.ref h,.int (p:Nat)]∧aY A H h s∧Gives τ (.bl (decide (p≤s.hands))) H Q
theorem ok_has_hand0(T:Txt K mg A)(D:aF K mg "has_hand" lM):Has P w K mg base 1 "has_hand" ["house","hand"] (spHasHand0 A τ):=by
 refine Has.of D sc_has_hand bd_has_hand fun _ _ _ _ _ H vs Q E hr h=>?_
 obtain⟨h,s,p,rfl,⟨dh,ra,Ed,R,B,L,es,as,bs,ls,HO⟩,k⟩:=h
 refine⟨_,(au (aD (oR op_le (pv 1) (aJ (pv 0) rfl) (aV _)))),?_⟩
 refine⟨_,rfl,_,rfl,h,A.house,dh,_,_,rfl,HO.ob,T.cH,T.nH _ (by decide),rfl,_,_,rfl,rfl,?_⟩
 have e:decide (p≤s.hands)=decide (((p:Nat):Int)≤(s.hands:Nat)):=by
  rw[Bool.eq_iff_iff,decide_eq_true_iff,decide_eq_true_iff]
  omega
 have kk:=k H (.refl H)
 rw[e]at kk
 exact kk
theorem sum_opt(p:Nat):∀l:List QB,(l.filterMap fun b=>if p<b.2.2.length then b.2.2[p]? else none).sum=(l.map fun b=>Vbemaj.at_ b.2.2 p).sum
 |[]=>rfl
 |b::l=>by
  have ih:=sum_opt p l
  rw[List.filterMap_cons,List.map_cons,List.sum_cons,←ih]
  unfold Vbemaj.at_
  by_cases h:p<b.2.2.length
  ·rw[if_pos h,List.getElem?_eq_getElem h]
   rfl
  ·rw[if_neg h,List.getElem?_eq_none (by omega)]
   simp
theorem ok_ask_account(TB:bD τ)(T:TxtC K mg A)(D:aF K mg "ask_account" gW)(bG:Has P w K mg base 1 "has_hand" ["house","hand"] (spHasHand0 A τ)):
  Has P w K mg base 2 "ask_account" ["house","hand"] (spAskN A τ .account):=by
 refine Has.of D lQ bd_ask_account fun _ _ _ _ _ H vs Q E hr h=>?_
 obtain⟨h,s,p,rfl,ho,W,op,_,k⟩:=h
 refine⟨_,(aq (aZ (oK (d9 (aC bG hr (aj (pv 0) (aj (pv 1) ak))))) (au (aD (aW (aj (aK rfl T.eO) ak)))) aM) (au (aD (aW (aj (aK rfl T.bx) (aj (aU (cC rfl) rfl T.jK L2.boot_sum (aj (pe_lock (fG (own:=[("numbers",2)]) rfl lQ.nd (pi_values (aJ (pv 0) rfl)) (show cV ["house","hand","numbers"] (aG gW) _ _ from⟨rfl,by decide +kernel,by decide +kernel,by decide +kernel,by decide +kernel⟩) (fun _ _ _ _ _=>(aX (i:=2) lQ.nd rfl (Or.inl rfl))) (fun _ _ _ _ _=>(f9 (aO op_lt (pv 1) (aU (call_len_seqK (K:=K) rfl) rfl T.iJ PySem.boot_len (aj (pv 2) ak)) (aV _)))) (fun _ _ _ _ _=>(bU (ix_listK (K:=K) rfl) (pv 2) (pv 1) (fun _ _=>rfl))))) ak)) ak)))))),?_⟩
 dsimp only[Vbemaj.does]at k
 refine⟨_,rfl,_,rfl,h,s,p,rfl,ho,fun H1 e1=>⟨_,rfl,aP (fun c1=>?_) fun c1=>?_⟩⟩
 ·have c1':s.hands<p:=by
   have:¬p≤s.hands:=by simpa using c1
   omega
  rw[if_pos c1']at k
  exact⟨eF,fun l hl=>Ans.new TB (s:=s) (xs:=[-5]) (k.ext (Ext.kept e1)) (ho.ext e1) hl rfl⟩
 have c1':¬s.hands<p:=by
  have:p≤s.hands:=by simpa using c1
  omega
 rw[if_neg c1']at k
 have ⟨dh,ra,Ed,R,B,L,es,as,bs,ls,O⟩:=ho.ext e1
 have bl:=O.blen
 have m2:=W.most2
 have bvl:(eX bs).length=bs.length:=by unfold eX;rw[List.length_map]
 refine⟨B,_,O.bo,True.intro,fun od=>?_⟩
 have nhB:h≠B:=bI O.ob O.bo (fun z=>nomatch z)
 refine⟨_,rfl,h,A.house,dh,_,_,rfl,by rw[aB nhB];exact O.ob,T.cH,T.nH _ (by decide),rfl,B,od,_,rfl,ao,?_⟩
 refine lc_vals TB ao (by rw[bvl,bl,sizeLine_eq];omega) (fun i=>(bs[i]?).bind fun b=>(if p<b.2.2.length then b.2.2[p]? else none).map V.int) (fun i ky v hi H' e R' Nn h1 h2=>?_) fun D4 H4 e4 hD4 hL4=>?_
 ·unfold eX at hi
  rw[List.getElem?_map]at hi
  obtain⟨b,hb,he⟩:=Option.map_eq_some_iff.mp hi
  cases he
  rw[hb]at h1 h2
  have hbl:H' b.2.1=some (.lst (b.2.2.map V.int)):=by
   refine e.lst ?_
   have q:=O.bol b (List.mem_of_getElem? hb)
   rw[aB (bI q O.bo fun z=>nomatch z)]
   exact q
  refine⟨rfl,_,rfl,_,rfl,b.2.1,_,rfl,.inl (bh.of hbl),_,_,rfl,rfl,_,rfl,aP (fun c2=>?_) fun c2=>?_⟩
  ·have c2':p<b.2.2.length:=by
    have:=of_decide_eq_true c2
    rw[List.length_map]at this
    omega
   have hg:=List.getElem?_eq_getElem c2'
   refine⟨_,rfl,_,rfl,b.2.1,_,_,_,rfl,rfl,bh.of hbl,mC (by rw[List.getElem?_map,hg];rfl),h1 _ _ ?_ (.refl _)⟩
   show(if p<b.2.2.length then b.2.2[p]? else none).map V.int=_
   rw[if_pos c2',hg]
   rfl
  ·refine h2 _ ?_ (.refl _)
   show(if p<b.2.2.length then b.2.2[p]? else none).map V.int=_
   rw[if_neg]
   ·rfl
   ·intro z
    exact c2 (decide_eq_true (by rw[List.length_map];omega))
 ·obtain⟨hf,eu⟩:=Ext.unlock (u:=.dK (eX bs)) TB True.intro (fun _ z=>nomatch z) O.bo e4
  have nDB:D4≠B:=fun z=>by rw[z,ao]at hD4;cases hD4
  rw[bvl,bN (fun(b:QB)=>(if p<b.2.2.length then b.2.2[p]? else none).map V.int)]at hL4
  have x4:=e1.trans eu
  refine⟨hf,D4,bs.filterMap fun b=>if p<b.2.2.length then b.2.2[p]? else none,rfl,bh.of (by rw[aB nDB,hL4,List.map_filterMap]),?_⟩
  have es:(bs.filterMap fun b=>if p<b.2.2.length then b.2.2[p]? else none).sum=Vbemaj.account s p:=by
   rw[sum_opt]
   unfold Vbemaj.account
   have q:=QM.sum_perm (O.bop.map fun(x:Nat×List Int)=>Vbemaj.at_ x.2 p)
   rw[List.map_map,List.map_map]at q
   exact q
  rw[es]
  exact⟨few2,fun l hl=>Ans.new TB (k.ext (Ext.kept x4)) (ho.ext x4) hl rfl⟩
theorem ok_ask_system(TB:bD τ)(T:TxtC K mg A)(D:aF K mg "ask_system" gq)(dY:Has P w K mg base 5 "imbalance" ["now","hand"] (spImb A τ))(fB:Has P w K mg base 4 "position" ["now","hand"] (spPos A τ))(bZ:Has P w K mg base 1 "hand_numbers" ["now"] (spHn A τ))
  (bQ:Has P w K mg base 8 "gross_of_hands" ["now"] (spGr A τ)) (cU:Has P w K mg base 2 "weights_of_hands" ["now"] (spWh A τ)) (cJ:Has P w K mg base 1 "amount_called" ["calls","up"] (spAmt A τ)):Has P w K mg base 9 "ask_system" ["now"] (spAskQ A τ .system):=by
 refine Has.of D cX bd_ask_system fun _ _ _ _ _ H vs Q E hr h=>?_
 obtain⟨x,h,s,q,rfl,N3,ho,W,op,_,k⟩:=h
 have hh:=W.hands
 refine⟨_,(aq (bw (i:=1) cX.nd rfl (Or.inl rfl) (aU (cC rfl) rfl T.jK L2.boot_sum (aj (fG (own:=[("hand",2)]) rfl cX.nd (bY (aC bZ hr (aj (pv 0) ak))) (show cV ["now","imbalances","hand","positions","gross","weights"] (aG gq) _ _ from⟨rfl,by decide +kernel,by decide +kernel,by decide +kernel,by decide +kernel⟩) (fun _ _ _ _ _=>(aX (i:=2) cX.nd rfl (Or.inl rfl))) (fun _ _ _ _ _=>dD) (fun _ _ _ _ _=>(aC dY hr (aj (pv 0) (aj (pv 2) ak))))) ak))) (aq (bw (i:=3) cX.nd rfl (Or.inl rfl) (aU (cC rfl) rfl T.jK L2.boot_sum (aj (fG (own:=[("hand",2)]) rfl cX.nd (bY (aC bZ hr (aj (pv 0) ak))) (show cV ["now","imbalances","hand","positions","gross","weights"] (aG gq) _ _ from⟨rfl,by decide +kernel,by decide +kernel,by decide +kernel,by decide +kernel⟩) (fun _ _ _ _ _=>(aX (i:=2) cX.nd rfl (Or.inl rfl))) (fun _ _ _ _ _=>dD) (fun _ _ _ _ _=>(aC fB hr (aj (pv 0) (aj (pv 2) ak))))) ak))) (aq (bw (i:=4) cX.nd rfl (Or.inl rfl) (aU (cC rfl) rfl T.jK L2.boot_sum (aj (aC bQ hr (aj (pv 0) ak)) ak))) (aq (bw (i:=5) cX.nd rfl (Or.inl rfl) (aU (cC rfl) rfl T.jK L2.boot_sum (aj (aC cU hr (aj (pv 0) ak)) ak))) (au (aD (aW (aj (aK rfl T.bx) (aj (aC cJ hr (aj (aJ (pv 0) rfl) (aj aH ak))) (aj (aC cJ hr (aj (aJ (pv 0) rfl) (aj aH ak))) (aj (pv 1) (aj (pv 3) (aj (pv 4) (aj (pv 5) ak)))))))))))))),?_⟩
 dsimp only[Vbemaj.does]at k
 obtain⟨g,hg⟩:∃g:gT,(fun k p w=>Vbemaj.get s k p w q)=g:=⟨_,rfl⟩
 replace N3:Now A H x s.rules s.hands g (Vbemaj.callsAt s q):=by rw[←hg];exact N3
 refine⟨_,rfl,x,_,_,_,_,rfl,N3,fun H1 l1 e1 hl1=>?_⟩
 refine⟨l1,rfl,⟨_,bh.of hl1⟩,?_⟩
 refine dJ TB (bh.of hl1) (by rw[List.length_map,List.length_range,sizeLine_eq];omega) (fun i=>some (V.int (Vbemaj.imbalance (handOf s.hands g (Vbemaj.callsAt s q) (i+1))))) (fun i y hy H' e R Nn h1 h2=>?_) fun D2 H2 e2 hD2 hL2=>?_
 ·rw[List.getElem?_map]at hy
  obtain⟨i',hi',rfl⟩:=Option.map_eq_some_iff.mp hy
  obtain⟨hlt,rfl⟩:=List.getElem?_eq_some_iff.mp hi'
  rw[List.getElem_range]
  have hlt':i<s.hands:=by simpa using hlt
  exact⟨rfl,_,rfl,_,rfl,x,_,_,_,_,i+1,rfl,(N3.ext e1).ext e,⟨by omega,by omega⟩,fun H5 e5=>h1 _ _ rfl e5⟩
 rw[List.length_map,List.length_range,filterMap_some]at hL2
 have x2:=e1.trans e2
 refine⟨D2,(List.range s.hands).map fun i=>Vbemaj.imbalance (handOf s.hands g (Vbemaj.callsAt s q) (i+1)),rfl,bh.of (by rw[hL2,List.map_map];rfl),?_⟩
 refine⟨_,rfl,x,_,_,_,_,rfl,N3.ext x2,fun H3 l3 e3 hl3=>?_⟩
 have x3:=x2.trans e3
 refine⟨l3,rfl,⟨_,bh.of hl3⟩,?_⟩
 refine dJ TB (bh.of hl3) (by rw[List.length_map,List.length_range,sizeLine_eq];omega) (fun i=>some (V.int (pos s.hands g (i+1)))) (fun i y hy H' e R Nn h1 h2=>?_) fun D4 H4 e4 hD4 hL4=>?_
 ·rw[List.getElem?_map]at hy
  obtain⟨i',hi',rfl⟩:=Option.map_eq_some_iff.mp hy
  obtain⟨hlt,rfl⟩:=List.getElem?_eq_some_iff.mp hi'
  rw[List.getElem_range]
  have hlt':i<s.hands:=by simpa using hlt
  exact⟨rfl,_,rfl,_,rfl,x,_,_,_,_,i+1,rfl,(N3.ext x3).ext e,⟨by omega,by omega⟩,fun H5 e5=>h1 _ _ rfl e5⟩
 rw[List.length_map,List.length_range,filterMap_some]at hL4
 have x4:=x3.trans e4
 refine⟨D4,(List.range s.hands).map fun i=>pos s.hands g (i+1),rfl,bh.of (by rw[hL4,List.map_map];rfl),?_⟩
 refine⟨_,rfl,x,_,_,_,_,rfl,N3.ext x4,fun H5 l5 e5 hl5=>?_⟩
 have x5:=x4.trans e5
 refine⟨l5,_,rfl,bh.of hl5,?_⟩
 refine⟨_,rfl,x,_,_,_,_,rfl,N3.ext x5,fun H6 l6 e6 hl6=>?_⟩
 have x6:=x5.trans e6
 rw[natV]at hl6
 refine⟨l6,_,rfl,bh.of hl6,?_⟩
 have ⟨dx,ra,d,lc,tl,ents,as,N0⟩:=N3.ext x6
 refine⟨_,rfl,x,A.now,dx,_,_,rfl,N0.ob,T.cN,T.nN _ (by decide),rfl,lc,_,true,rfl,N0.calls,fun H7 e7=>?_⟩
 have x7:=x6.trans e7
 refine⟨_,rfl,x,A.now,dx,_,_,rfl,(N0.ext e7).ob,T.cN,T.nN _ (by decide),rfl,lc,_,false,rfl,(N0.ext e7).calls,fun H8 e8=>?_⟩
 have x8:=x7.trans e8
 refine⟨_,rfl,_,rfl,_,rfl,_,rfl,few7,fun l hl=>Ans.new TB (k.ext (Ext.kept x8)) (ho.ext x8) hl ?_⟩
 rw[ups_eq,downs_eq,QM.jL]
 unfold Vbemaj.handsOf lE bM
 simp only[List.map_map,←hg]
 rfl
def spIsUnm(A:dz)(τ:Hp→Prop):Sp:=fun vs H Q _=>∃a r n g cs p q,vs=[.ref a,.int (p:Nat),.int (q:Nat)]∧Now A H a r n g cs∧InN n p∧InN n q∧Gives τ (.bl (decide (g 4 p q≠Vbemaj.matched (g 4 p q) (g 4 q p)))) H Q
theorem ok_is_unmatched(T:Txt K mg A)(D:aF K mg "is_unmatched" jc)(cu:Has P w K mg base 1 "entry" ["now","key"] (j9 A τ))(bA:Has P w K mg base 1 "nominated_key" ["hand","to"] (spNomKey τ))(dM:Has P w K mg base 2 "matched" ["now","hand","other"] (oA A τ)):
  Has P w K mg base 3 "is_unmatched" ["now","hand","other"] (spIsUnm A τ):=by
 refine Has.of D sc_is_unmatched bd_is_unmatched fun _ _ _ _ _ H vs Q E hr h=>?_
 obtain⟨a,r,n,g,cs,p,q,rfl,N,hp,hq,k⟩:=h
 refine⟨_,(au (aD (oR op_ne (aC cu hr (aj (pv 0) (aj (aC bA hr (aj (pv 1) (aj (pv 2) ak))) ak))) (aC dM hr (aj (pv 0) (aj (pv 1) (aj (pv 2) ak)))) (aV _)))),?_⟩
 refine⟨_,rfl,_,rfl,_,rfl,p,q,rfl,fun H1 t1 e1 h1=>?_⟩
 refine⟨a,t1,r,n,g,cs,4,p,q,rfl,N.ext e1,h1,nomValid hp hq,fun H2 e2=>?_⟩
 have x2:=e1.trans e2
 refine⟨_,rfl,_,rfl,_,rfl,a,r,n,g,cs,p,q,rfl,N.ext x2,hp,hq,fun H3 e3=>?_⟩
 refine⟨rfl,?_⟩
 have kk:=k H3 (x2.trans e3)
 have e:decide (g 4 p q≠Vbemaj.matched (g 4 p q) (g 4 q p))=!decide (V.int (g 4 p q)=V.int (Vbemaj.matched (g 4 p q) (g 4 q p))):=by
  by_cases z:g 4 p q=Vbemaj.matched (g 4 p q) (g 4 q p)
  ·rw[←z];simp
  ·simp[z]
 rw[e]at kk
 exact kk
def unmRow(g:gT)(p w:Nat):List Int:=[(w:Nat),g 4 p w,Vbemaj.matched (g 4 p w) (g 4 w p)]
def unm(g:gT)(p w:Nat):Bool:=decide (g 4 p w≠Vbemaj.matched (g 4 p w) (g 4 w p))
theorem unm_list{n:Nat}{g:gT}{p:Nat}{us ws:List Nat}(hp:us.Perm ws)(hs:us.Pairwise (·<·))(w1:∀w∈ws,InN n w∧w≠p)(w2:∀w,InN n w→w∉ws→g 4 p w=0):us.filter (unm g p)=((List.range n).map fun i=>i+1).filter (unm g p):=by
 have hr:((List.range n).map fun i=>i+1).Pairwise (·<·):=List.pairwise_map.mpr (List.pairwise_lt_range.imp fun h=>by omega)
 refine QM.lt_ext (R:=(·<·)) (fun a=>Nat.lt_irrefl a) (fun a b c=>Nat.lt_trans) (hs.sublist List.filter_sublist) (hr.sublist List.filter_sublist) fun x=>?_
 rw[List.mem_filter,List.mem_filter,hands_mem]
 constructor
 ·rintro⟨h1,h2⟩
  exact⟨(w1 x (hp.mem_iff.mp h1)).1,h2⟩
 ·rintro⟨h1,h2⟩
  refine⟨?_,h2⟩
  by_cases z:x∈ws
  ·exact hp.mem_iff.mpr z
  ·unfold unm at h2
   rw[w2 x h1 z,QM.matched_zero]at h2
   simp at h2
theorem filt_rows{g:gT}{p:Nat}:∀l:List Nat,(l.filter (unm g p)).map (unmRow g p)=l.filterMap fun w=>if g 4 p w=Vbemaj.matched (g 4 p w) (g 4 w p)then none else some (unmRow g p w)
 |[]=>rfl
 |a::l=>by
  rw[List.filter_cons,List.filterMap_cons,←filt_rows l]
  unfold unm
  by_cases z:g 4 p a=Vbemaj.matched (g 4 p a) (g 4 a p)
  ·rw[if_neg (by simp[←z]),if_pos z]
  ·rw[if_pos (by simp[z]),if_neg z]
   rfl
theorem rows_take{f:Nat→List Int}{us:List Nat}{k:Nat}(hf:∀u,(f u).length=k):∀i,i≤us.length→((us.take i).map f).flatten.length=i*k:=by
 intro i
 induction i with
 |zero=>intro _;simp
 |succ i ih=>
  intro hi
  rw[fY (List.getElem?_eq_getElem (by omega:i<us.length)),List.map_append,List.flatten_append,List.length_append,ih (by omega)]
  simp[hf]
  rw[Nat.add_mul]
  omega
theorem ok_ask_unmatched(TB:bD τ)(T:TxtC K mg A)(D:aF K mg "ask_unmatched" fL)(eN:Has P w K mg base 1 "nominated_to" ["now","hand"] (spNomTo A τ))(lV:Has P w K mg base 3 "is_unmatched" ["now","hand","other"] (spIsUnm A τ))
  (cu:Has P w K mg base 1 "entry" ["now","key"] (j9 A τ)) (bA:Has P w K mg base 1 "nominated_key" ["hand","to"] (spNomKey τ)) (dM:Has P w K mg base 2 "matched" ["now","hand","other"] (oA A τ)):Has P w K mg base 4 "ask_unmatched" ["now","hand"] (spAskH A τ .unmatched):=by
 refine Has.of D eV bd_ask_unmatched fun f _ _ _ s0 H vs Q E hr h=>?_
 obtain⟨x,h,s,p,q,rfl,N3,ho,W,op,hp',_,k⟩:=h
 have hh:=W.hands
 refine⟨_,(aq (lH (i:=2) (own:=[("other",3)]) rfl eV.nd rfl rfl rfl (bY (aU cr_sorted rfl T.b_sorted L2.boot_sorted (aj (aC eN hr (aj (pv 0) (aj (pv 1) ak))) ak))) (show cV ["now","hand","others","other","answer"] (aG fL) _ _ from⟨rfl,by decide +kernel,by decide +kernel,by decide +kernel,by decide +kernel⟩) (fun _ _ _ _ _=>(aX (i:=3) eV.nd rfl (Or.inl rfl))) (fun _ _ _ _ _=>(f9 (d9 (aC lV hr (aj (pv 0) (aj (pv 1) (aj (pv 3) ak))))))) (fun _ _ _ _ _=>(pv 3))) (aq (bw (i:=4) eV.nd rfl (Or.inl rfl) (aW (aj (aK rfl T.bx) (aj (aU bL rfl T.iJ PySem.boot_len (aj (pv 2) ak)) ak)))) (aq (ps_for PassesOwn.never rfl (bY (pv 2)) (aX (i:=3) eV.nd rfl (Or.inl rfl)) (au (j8 (pe_bm PySem.F.plainAttrs_list PySem.F.slot_list_extend PySem.F.type_list_extend mt_extend (pv 4) (aj (aW (aj (pv 3) (aj (aC cu hr (aj (pv 0) (aj (aC bA hr (aj (pv 1) (aj (pv 3) ak))) ak))) (aj (aC dM hr (aj (pv 0) (aj (pv 1) (aj (pv 3) ak)))) ak)))) ak))))) (au (aD (pv 4)))))),?_⟩
 dsimp only[Vbemaj.does]at k
 rw[if_neg (by rw[iC hp'];decide)]at k
 obtain⟨g,hg⟩:∃g:gT,(fun k p w=>Vbemaj.get s k p w q)=g:=⟨_,rfl⟩
 replace N3:Now A H x s.rules s.hands g (Vbemaj.callsAt s q):=by rw[←hg];exact N3
 refine⟨_,rfl,_,rfl,x,_,_,_,_,p,rfl,N3,hp',fun ws nd w1 w2 H1 l1 e1 hl1=>?_⟩
 have hwl:ws.length≤s.hands:=nd_len nd fun w hw=>(w1 w hw).1
 have e0:ws.map vInt=(ws.map fun(k:Nat)=>(k:Int)).map V.int:=by rw[List.map_map];rfl
 rw[e0]at hl1
 refine⟨l1,_,rfl,bh.of hl1,by rw[List.length_map];omega,fun ns' l2 hpm hso hl2=>?_⟩
 obtain⟨us,rfl,hpu,hsu⟩:=QM.nat_sorted hpm hso nd
 have hul:us.length=ws.length:=hpu.length_eq
 have e2:Ext τ H1 (upd H1 l2 (.lst ((us.map fun(k:Nat)=>(k:Int)).map V.int))):=.new TB hl2
 have x2:=e1.trans e2
 refine⟨l2,rfl,⟨_,bh.of ao⟩,?_⟩
 refine dJ TB (bh.of ao) (by rw[List.length_map,List.length_map,sizeLine_eq];omega) (fun i=>(us[i]?).bind fun w=>if unm g p w=true then some (V.int (w:Nat))else none) (fun i y hy H' e R Nn h1 h2=>?_) fun D3 H3 e3 hD3 hL3=>?_
 ·rw[List.getElem?_map,List.getElem?_map]at hy
  obtain⟨z,hz,rfl⟩:=Option.map_eq_some_iff.mp hy
  obtain⟨w0,hw0,rfl⟩:=Option.map_eq_some_iff.mp hz
  rw[hw0]at h1 h2
  have hw:=w1 w0 (hpu.mem_iff.mp (List.mem_of_getElem? hw0))
  refine⟨rfl,_,rfl,_,rfl,_,rfl,x,_,_,_,_,p,w0,rfl,(N3.ext x2).ext e,hp',hw.1,fun H4 e4=>⟨_,rfl,aP (fun c1=>?_) fun c1=>?_⟩⟩
  ·refine⟨_,rfl,h1 _ _ ?_ e4⟩
   show(if unm g p w0=true then some (V.int (w0:Nat))else none)=_
   rw[if_pos (show unm g p w0=true from c1)]
  ·refine h2 _ ?_ e4
   show(if unm g p w0=true then some (V.int (w0:Nat))else none)=_
   rw[if_neg (show ¬unm g p w0=true from c1)]
 have eL:(List.range ((us.map fun(k:Nat)=>(k:Int)).map V.int).length).filterMap (fun i=>(us[i]?).bind fun w=>if unm g p w=true then some (V.int (w:Nat))else none)=(us.filter (unm g p)).map fun(w:Nat)=>V.int (w:Nat):=by
  rw[List.length_map,List.length_map,bN]
  clear hpu hsu hul e2 hl2 x2 hL3 e3 hD3 hso hpm
  induction us with
  |nil=>rfl
  |cons a l ih=>
   rw[List.filterMap_cons,List.filter_cons]
   by_cases z:unm g p a=true
   ·simp[z,ih]
   ·simp[z,ih]
 rw[eL]at hL3
 have x3:=x2.trans e3
 have N5:=N3.ext x3
 have hin:∀w∈us.filter (unm g p),InN s.hands w:=fun w hw=>(w1 w (hpu.mem_iff.mp (List.mem_filter.mp hw).1)).1
 have hfl:(us.filter (unm g p)).length≤32:=by have:=List.length_filter_le (unm g p) us;omega
 have hrow:=filt_rows (g:=g) (p:=p) ((List.range s.hands).map fun i=>i+1)
 have hsame:=unm_list (n:=s.hands) hpu hsu w1 w2
 rw[←hsame]at hrow
 generalize us.filter (unm g p)=os at hL3 hin hfl hrow
 refine⟨_,rfl,D3,_,rfl,.inl (bh.of hL3),few2,fun p1 hp1=>?_⟩
 rw[List.length_map]
 have hD3p:D3≠p1:=aL hL3 hp1
 let acc:Nat→List Int:=fun i=>([0,((os.length:Nat):Int)]:List Int)++((os.take i).map (unmRow g p)).flatten
 have hacc:∀i,i≤os.length→(acc i).length=2+i*3:=fun i hi=>by
  show([0,((os.length:Nat):Int)]++_).length=_
  rw[List.length_append,rows_take (k:=3) (fun u=>rfl) i hi]
  rfl
 refine⟨_,rfl,D3,rfl,⟨_,bh.of ((Ext.new TB hp1).lst hL3)⟩,?_⟩
 refine for_list (xs:=os.map fun(w:Nat)=>V.int (w:Nat)) (fun i σ Hi=>σ.length=5∧σ[0]?=some (some (.ref x))∧σ[1]?=some (some (V.int (p:Nat)))∧σ[4]?=some (some (.ref p1))∧Ext τ H3 Hi∧Hi p1=some (.lst ((acc i).map V.int)))
  ⟨rfl,rfl,rfl,rfl,.new TB hp1,ao⟩ (fun i σ Hi _ h=>bh.of (h.2.2.2.2.1.lst hL3)) (fun i y σ Hi hy h=>?_) fun σ Hi h=>?_
 ·obtain⟨g0,g1,g2,g3,g4,g5⟩:=h
  rw[List.getElem?_map]at hy
  obtain⟨w0,hw0,rfl⟩:=Option.map_eq_some_iff.mp hy
  have hw:=hin w0 (List.mem_of_getElem? hw0)
  have hi:i<os.length:=(List.getElem?_eq_some_iff.mp hw0).1
  have s0:(σ.set 3 (some (V.int ((w0:Nat):Int))))[0]?=some (some (.ref x)):=by rw[List.getElem?_set_ne (by decide)];exact g1
  have s1:(σ.set 3 (some (V.int ((w0:Nat):Int))))[1]?=some (some (V.int (p:Nat))):=by rw[List.getElem?_set_ne (by decide)];exact g2
  have s3:(σ.set 3 (some (V.int ((w0:Nat):Int))))[3]?=some (some (V.int ((w0:Nat):Int))):=by rw[List.getElem?_set_self (by rw[g0];decide)]
  have s4:(σ.set 3 (some (V.int ((w0:Nat):Int))))[4]?=some (some (.ref p1)):=by rw[List.getElem?_set_ne (by decide)];exact g3
  have N6:=N5.ext g4
  refine⟨_,s4,.inl ⟨rfl,_,bh.of g5⟩,_,s3,_,s0,_,s1,_,s3,p,w0,rfl,fun H6 t6 e6 h6=>?_⟩
  refine⟨x,t6,_,_,_,_,4,p,w0,rfl,N6.ext e6,h6,nomValid hp' hw,fun H7 e7=>?_⟩
  refine⟨_,s0,_,s1,_,s3,x,_,_,_,_,p,w0,rfl,(N6.ext e6).ext e7,hp',hw,fun H8 e8=>?_⟩
  have x8:=(e6.trans e7).trans e8
  refine⟨few3,fun pl hpl=>?_⟩
  have e9:Ext τ Hi (upd H8 pl (.lst [V.int (w0:Nat),V.int (g 4 p w0),V.int (Vbemaj.matched (g 4 p w0) (g 4 w0 p))])):=x8.then TB hpl
  have hai:=hacc i (Nat.le_of_lt hi)
  refine⟨p1,pl,_,_,rfl,rfl,e9.lst g5,ao,?_,?_⟩
  ·rw[List.length_map,hai,sizeLine_eq]
   show 2+i*3+3≤_
   omega
  ·refine⟨by rw[List.length_set];exact g0,s0,s1,s4,(g4.trans e9).over TB hp1 (e9.lst g5) True.intro,?_⟩
   rw[ao]
   refine congrArg (fun z=>some (HO.lst z)) ?_
   show _=(([0,((os.length:Nat):Int)]:List Int)++((os.take (i+1)).map (unmRow g p)).flatten).map V.int
   rw[fY hw0,List.map_append (f:=unmRow g p),List.flatten_append,←List.append_assoc]
   exact (List.map_append (f:=V.int) (l₁:=acc i) (l₂:=unmRow g p w0)).symm
 ·obtain⟨g0,g1,g2,g3,g4,g5⟩:=h
  have x9:=x3.trans g4
  rw[List.length_map]at g5
  refine⟨_,g3,(k.ext (Ext.kept x9)) Hi p1 .refl (ho.ext x9) ?_⟩
  rw[g5]
  refine congrArg (fun z=>some (HO.lst (List.map V.int z))) ?_
  show[0,((os.length:Nat):Int)]++((os.take os.length).map (unmRow g p)).flatten=0::Vbemaj.rows _
  rw[List.take_length]
  unfold Vbemaj.rows
  have er:(os.map (unmRow g p))=(Vbemaj.handsOf s).filterMap fun w=>if Vbemaj.get s 4 p w q=Vbemaj.matchedOf s p w q then none else some [Vbemaj.nat w,Vbemaj.get s 4 p w q,Vbemaj.matchedOf s p w q]:=by
   rw[hrow,←hg]
   rfl
  rw[←er,List.length_map]
  rfl
theorem bookQ{A:dz}{H:Hp}{h dh E R B L:Addr}{s:Vbemaj.State}{ra:V}{es:List QE}{as:List Addr}{bs:List QB}{ls:List Nat}(x:aR A H h s dh ra E R B L es as bs ls):(bs.map fun b=>b.1).Perm (s.booked.map fun b=>b.q):=by
 have:=x.bop.map fun(y:Nat×List Int)=>y.1
 rw[List.map_map,List.map_map]at this
 exact this
theorem pend_list{s:Vbemaj.State}(W:QM.Wf s){us:List Nat}(hp:us.Perm (s.booked.map fun b=>b.q))(hs:us.Pairwise (·<·)):us=s.booked.map fun b=>b.q:=by
 have hb:(s.booked.map fun b=>b.q).Pairwise (·<·):=List.pairwise_map.mpr W.booked
 exact QM.lt_ext (R:=(·<·)) (fun a=>Nat.lt_irrefl a) (fun a b c=>Nat.lt_trans) hs hb fun x=>hp.mem_iff
theorem ok_ask_pending(T:TxtC K mg A)(D:aF K mg "ask_pending" gY)(gB:Has P w K mg base 10 "is_pending" ["house","quarter"] (spPend A tb)):Has P w K mg base 11 "ask_pending" ["house"] (spAskS A (aQ tb) .pending):=by
 refine Has.of D lR bd_ask_pending fun _ _ _ _ _ H vs Q E hr h=>?_
 obtain⟨h,s,rfl,ho,W,op,htab,k⟩:=h
 have TB:bD (aQ tb):=dF
 have ⟨dh,ra,Ed,R,B,L,es,as,bs,ls,O⟩:=ho
 have bl:=O.blen
 have m2:=W.most2
 refine⟨_,(aq (lH (i:=1) (own:=[("quarter",2)]) rfl lR.nd rfl rfl rfl (bY (aU (call_sortedD rfl) rfl T.b_sorted L2.boot_sorted (aj (aJ (pv 0) rfl) ak))) (show cV ["house","quarters","quarter"] (aG gY) _ _ from⟨rfl,by decide +kernel,by decide +kernel,by decide +kernel,by decide +kernel⟩) (fun _ _ _ _ _=>(aX (i:=2) lR.nd rfl (Or.inl rfl))) (fun _ _ _ _ _=>(f9 (d9 (aC gB hr (aj (pv 0) (aj (pv 2) ak)))))) (fun _ _ _ _ _=>(pv 2))) (au (aD (bR op_cat (aW (aj (aK rfl T.bx) (aj (aU bL rfl T.iJ PySem.boot_len (aj (pv 1) ak)) ak))) (pv 1))))),?_⟩
 dsimp only[Vbemaj.does]at k
 refine⟨_,rfl,h,A.house,dh,_,_,rfl,O.ob,T.cH,T.nH _ (by decide),rfl,B,_,(bs.map fun b=>b.1).map fun(k:Nat)=>(k:Int),rfl,O.bo,?_,fun ns' l2 hpm hso hl2=>?_⟩
 ·unfold eX
  rw[List.map_map,List.map_map,List.map_map]
  rfl
 obtain⟨us,rfl,hpu,hsu⟩:=QM.nat_sorted hpm hso (O.bnd W)
 have hus:=pend_list W (hpu.trans (bookQ O)) hsu
 subst hus
 have e2:Ext (aQ tb) H (upd H l2 (.lst (((s.booked.map fun b=>b.q).map fun(k:Nat)=>(k:Int)).map V.int))):=.new TB hl2
 refine⟨l2,rfl,⟨_,bh.of ao⟩,?_⟩
 refine dJ TB (bh.of ao) (by rw[List.length_map,List.length_map,List.length_map,sizeLine_eq];omega) (fun i=>(s.booked[i]?).bind fun b=>if eZ s b=true then some (V.int (b.q:Nat))else none) (fun i y hy H' e R' Nn h1 h2=>?_) fun D3 H3 e3 hD3 hL3=>?_
 ·rw[List.getElem?_map,List.getElem?_map,List.getElem?_map]at hy
  obtain⟨z,hz,rfl⟩:=Option.map_eq_some_iff.mp hy
  obtain⟨w0,hw0,rfl⟩:=Option.map_eq_some_iff.mp hz
  obtain⟨b,hb,rfl⟩:=Option.map_eq_some_iff.mp hw0
  rw[hb]at h1 h2
  refine⟨rfl,_,rfl,_,rfl,h,s,b.q,b,rfl,(ho.ext e2).ext e,W,op,(e2.trans e).tb htab,QM.bookedAt_of W.booked (List.mem_of_getElem? hb),fun H4 e4=>⟨_,rfl,aP (fun c1=>?_) fun c1=>?_⟩⟩
  ·refine⟨_,rfl,h1 _ _ ?_ e4⟩
   show(if eZ s b=true then some (V.int (b.q:Nat))else none)=_
   rw[if_pos c1]
  ·refine h2 _ ?_ e4
   show(if eZ s b=true then some (V.int (b.q:Nat))else none)=_
   rw[if_neg c1]
 have eL:∀l:List Vbemaj.Booked,(l.filterMap fun b=>if eZ s b=true then some (V.int (b.q:Nat))else none)=(l.filter (eZ s)).map fun b=>V.int (b.q:Nat):=by
  intro l
  induction l with
  |nil=>rfl
  |cons a l ih=>
   rw[List.filterMap_cons,List.filter_cons]
   by_cases z:eZ s a=true
   ·simp[z,ih]
   ·simp[z,ih]
 rw[List.length_map,List.length_map,List.length_map,bN (fun b=>if eZ s b=true then some (V.int ((b:Vbemaj.Booked).q:Nat))else none),eL]at hL3
 have x3:=e2.trans e3
 have hfl:(s.booked.filter (eZ s)).length≤s.booked.length:=List.length_filter_le _ _
 have hrows:Vbemaj.rows ((s.booked.filter (eZ s)).map fun b=>[Vbemaj.nat b.q])=(((s.booked.filter (eZ s)).length:Nat):Int)::(s.booked.filter (eZ s)).map fun b=>((b.q:Nat):Int):=by
  generalize s.booked.filter (eZ s)=l
  unfold Vbemaj.rows
  rw[List.length_map]
  congr 1
  induction l with
  |nil=>rfl
  |cons a l ih=>rw[List.map_cons,List.flatten_cons,ih];rfl
 replace k:Ans A (aQ tb) H h (s,0::Vbemaj.rows ((s.booked.filter (eZ s)).map fun b=>[Vbemaj.nat b.q])) Q:=k
 rw[hrows]at k
 refine⟨_,rfl,D3,_,rfl,.inl (bh.of hL3),few2,fun p1 hp1=>?_⟩
 refine⟨_,rfl,p1,D3,_,_,rfl,rfl,ao,by rw[aB (aL hL3 hp1)];exact hL3,?_,fun p9 hp9=>?_⟩
 ·rw[List.length_map,sizeLine_eq]
  show 2+_≤_
  omega
 ·have x9:=x3.then TB (o:=.lst [V.int 0,V.int ((((s.booked.filter (eZ s)).map fun b=>V.int (b.q:Nat)).length:Nat):Int)]) hp1
  refine Ans.new TB (k.ext (Ext.kept x9)) (ho.ext x9) hp9 ?_
  rw[List.length_map,List.map_cons,List.map_cons,List.map_map]
  rfl
end Q
namespace L2
open PySem PySem.Spec PyProof.Rows
section
variable{τ:Hp→Prop}
theorem lc_items{d:Addr}{od:Obj}{kvs:List (Key×V)}{g:TG}{tt:TT}{te:TE}{vs:List Nat}{σ:St}{H1:Hp}{Qd:Addr→Hp→Prop}(T:bD τ)(hd:H1 d=some (.d8 od (.dK kvs)))(sz:kvs.length<sizeLine)(out:Nat→Option V)
  (hs:∀(i:Nat) (k:Key) (v:V) (q:Addr),kvs[i]?=some (k,v)→∀H',Ext τ H1 H'→H' q=some (.tup [kV k,v])→∀(R:V→Hp→Prop) (N:Hp→Prop),(∀v H4,out i=some v→Ext τ H' H4→R v H4)→(∀H3,out i=none→Ext τ H' H3→N H3)→
   g (.ref q) (wipe σ vs) H' fun σ2 H2=>wipe σ2 vs=wipe σ vs∧tt σ2 H2 fun b H3=>if b=true then te σ2 H3 R else N H3)
  (hQ:∀D H',Ext τ H1 H'→H1 D=none→H' D=some (.lst ((List.range kvs.length).filterMap out))→Qd D H'):
  ∀D,H1 D=none→∃W:Nat→Nat→Hp→Prop,(∃m,W 0 m (upd H1 D (.lst [])))∧∀i m H,W i m H→
   ((Iti d od kvs).stop i H∧Qd D H)∨((Iti d od kvs).go i H∧∃Nx:Hp→Prop,(∀H',Nx H'→∃m',m'<m∧W (i+1) m' H')∧∀x H',(Iti d od kvs).yld i H x H'→g x (wipe σ vs) H' fun σ2 H2=>wipe σ2 vs=wipe σ vs∧tt σ2 H2 fun b H3=>
    if b=true then te σ2 H3 fun y H4=>∃acc,H4 D=some (.lst acc)∧acc.length<sizeLine∧Nx (upd H4 D (.lst (acc++[y])))else Nx H3):=
 lc_it (J:=Iti d od kvs) T sz out (fun i x H=>∃k v q,kvs[i]?=some (k,v)∧x=.ref q∧H q=some (.tup [kV k,v])) (fun i H hi e=>⟨e.d8 hd,hi⟩) (fun H e=>⟨e.d8 hd,Nat.le_refl _⟩)
  (fun i H x H' _ _ y=>by obtain⟨q,k,v,h1,rfl,h2,rfl⟩:=y;exact⟨.new T h2,k,v,q,h1,rfl,ao⟩)
  (fun i x hi H' e yl R N h1 h2=>by obtain⟨k,v,q,y1,rfl,y3⟩:=yl;exact hs i k v q y1 H' e y3 R N h1 h2) hQ
end
end L2
namespace Q
open PySem PySem.Spec PyProof.Rows L2
theorem kLe3{a b c a' b' c':Int}(h:kLe [a,b,c] [a',b',c']):a<a'∨(a=a'∧(b<b'∨(b=b'∧c≤c'))):=by
 have h2:(decide (a'<a)||(!decide (a<a')&&(decide (b'<b)||(!decide (b<b')&&(decide (c'<c)||(!decide (c<c')&&false))))))=false:=h
 simp only[Bool.or_eq_false_iff,Bool.and_eq_false_iff,Bool.not_eq_false',decide_eq_false_iff_not,decide_eq_true_eq,Bool.and_false,Bool.or_false]at h2
 omega
theorem merit_lt{a b:Vbemaj.Called}(h:kLe (QM.gR a) (QM.gR b))(n:a.num≠b.num):Vbemaj.earlier a b=true:=by
 unfold QM.gR at h
 unfold Vbemaj.earlier
 cases ha:a.up <;> cases hb:b.up <;> simp[ha,hb]at h ⊢ <;> have h:=kLe3 h <;> (try omega)
 ·split
  ·simp;omega
  ·simp;omega
 ·split
  ·simp;omega
  ·simp;omega
variable{P:Program}{w:World}{K:PySem.W.Frag}{mg:Str→Option Value}{base:Heap}{A:dz}{τ:Hp→Prop}{tb:Tb}
def spMerit(A:dz)(τ:Hp→Prop):Sp:=fun vs H Q _=>∃a c,vs=[.int (c.num:Nat),.ref a]∧ResAt A H a c∧GivesT τ ((QM.gR c).map V.int) H Q
theorem few3'{a b c:V}:[a,b,c].length≤sizeLine:=by show 3≤sizeLine;rw[sizeLine_eq];decide
theorem ok_merit_order(TB:bD τ)(T:Txt K mg A)(D:aF K mg "merit_order" jG):Has P w K mg base 1 "merit_order" ["number","call"] (spMerit A τ):=by
 refine Has.of D sc_merit_order bd_merit_order fun _ _ _ _ _ H vs Q E hr h=>?_
 obtain⟨a,c,rfl,⟨dr,hr'⟩,k⟩:=h
 refine⟨_,(aq (aZ (aO bT (aJ (pv 1) rfl) aH (aV _)) (au (aD (m9 (aj aH (aj (aJ (pv 1) rfl) (aj (pv 0) ak)))))) aM) (au (aD (m9 (aj aH (aj (nJ jk (aJ (pv 1) rfl)) (aj (pv 0) ak))))))),?_⟩
 refine⟨_,rfl,a,A.res,dr,_,_,rfl,hr',T.cE,T.nE _ (by decide),rfl,rfl,_,rfl,aP (fun c1=>?_) fun c1=>?_⟩
 ·have c1':c.up=true:=fl_inj.mp (of_decide_eq_true c1)
  unfold QM.gR at k
  rw[if_pos c1']at k
  exact⟨_,rfl,a,A.res,dr,_,_,rfl,hr',T.cE,T.nE _ (by decide),rfl,_,rfl,few3',fun l hl=>k _ l (.new TB hl) ao⟩
 ·have c1':¬c.up=true:=fun z=>c1 (decide_eq_true (fl_inj.mpr z))
  unfold QM.gR at k
  rw[if_neg c1']at k
  exact⟨_,rfl,a,A.res,dr,_,_,rfl,hr',T.cE,T.nE _ (by decide),rfl,_,rfl,_,rfl,few3',fun l hl=>k _ l (.new TB hl) ao⟩
theorem perm_lift{α β:Type}{f:α→β}{g:β→Option α}{l:List α}{ns:List β}(h:∀a∈l,g (f a)=some a)(hp:ns.Perm (l.map f)):∃l':List α,l'.Perm l∧ns=l'.map f:=by
 have e1:∀m:List α,(∀a∈m,g (f a)=some a)→(m.map f).filterMap g=m:=by
  intro m
  induction m with
  |nil=>intro _;rfl
  |cons a m ih=>
   intro hm
   rw[List.map_cons,List.filterMap_cons,hm a List.mem_cons_self,ih fun b hb=>hm b (List.mem_cons_of_mem _ hb)]
 have e2:∀m:List β,(∀b∈m,∃a,g b=some a∧f a=b)→m=(m.filterMap g).map f:=by
  intro m
  induction m with
  |nil=>intro _;rfl
  |cons b m ih=>
   intro hm
   obtain⟨a,h1,h2⟩:=hm b List.mem_cons_self
   rw[List.filterMap_cons,h1,List.map_cons,h2,←ih fun c hc=>hm c (List.mem_cons_of_mem _ hc)]
 refine⟨ns.filterMap g,?_,e2 ns fun b hb=>?_⟩
 ·have:=hp.filterMap g
  rw[e1 l h]at this
  exact this
 ·obtain⟨a,ha,rfl⟩:=List.mem_map.mp (hp.mem_iff.mp hb)
  exact⟨a,h a ha,rfl⟩
theorem find_num:∀{l:List Vbemaj.Called},l.Pairwise (fun a b=>a.num<b.num)→∀{c:Vbemaj.Called},c∈l→l.find? (fun d=>d.num==c.num)=some c
 |[],_,_,h=>nomatch h
 |a::l,hs,c,h=>by
  obtain⟨h1,h2⟩:=List.pairwise_cons.mp hs
  rw[List.find?_cons]
  rcases List.mem_cons.mp h with rfl|h
  ·simp
  ·have:=h1 c h
   rw[show(a.num==c.num)=false by simp;omega]
   exact find_num h2 h
def keyN(s:Vbemaj.State)(n:Int):List Int:=match s.calls.find? (fun c=>c.num==n.toNat)with
 |some c=>QM.gR c
 |none=>[0]
theorem keyN_ne(s:Vbemaj.State)(n:Int):keyN s n≠[]:=by
 unfold keyN
 split
 ·exact QM.meritKey_ne _
 ·simp
theorem keyN_of{s:Vbemaj.State}(W:QM.Wf s){c:Vbemaj.Called}(hc:c∈s.calls):keyN s ((c.num:Nat):Int)=QM.gR c:=by
 unfold keyN
 rw[Int.toNat_natCast,find_num W.nums hc]
def lK(c:Vbemaj.Called):List Int:=[Vbemaj.nat c.num,Vbemaj.nat c.p,Vbemaj.flag c.up,c.amount,c.price]
theorem res_vals{q:Nat}:∀{cs:List Vbemaj.Called}{as:List Addr},as.length=cs.length→(bV cs as).length=cs.length→∀{i:Nat}{k:Key}{v:V},(bV cs as)[i]?=some (k,v)→∃c a,cs[i]?=some c∧as[i]?=some a∧v=.ref a∧k=kN c.num
 |[],_,_,_,i,k,v,h=>by simp[bV]at h
 |_::_,[],h0,_,_,_,_,_=>nomatch h0
 |c::cs,a::as,h0,h1,0,k,v,h=>by
  have e:=Option.some.inj h
  cases e
  exact⟨c,a,rfl,rfl,rfl,rfl⟩
 |c::cs,a::as,h0,h1,i+1,k,v,h=>res_vals (q:=q) (cs:=cs) (as:=as) (by simpa using h0) (by simpa[bV]using h1) (i:=i) h
theorem ok_ask_merit(T:TxtC K mg A)(D:IsDefL K mg base "ask_merit" dX tb.m)(nq:Has P w K mg base 1 "merit_order" ["number","call"] (spMerit A (aQ tb))):Has P w K mg base 6 "ask_merit" ["house","quarter"] (spAskN A (aQ tb) .merit):=by
 refine Has.ofL D fD bd_ask_merit fun f c A' _ s0 H vs Q E hL hr h=>?_
 obtain⟨h,s,q,rfl,ho,W,op,htab,k⟩:=h
 have TB:bD (aQ tb):=dF
 have hu:=nM hr
 have hroom:(A'.deeper (envOfC "ask_merit" (aG dX) s0.heap.objs.size f (.ref c))).depth<recursionLimit:=by have:=hr.dp;omega
 have hrL:∀env:Env,fV 2 ((A'.deeper (envOfC "ask_merit" (aG dX) s0.heap.objs.size f (.ref c))).in1.in1.deeper env):=fun env=>(hr.in1.in1).deeper env
 have huL:∀env:Env,((A'.deeper (envOfC "ask_merit" (aG dX) s0.heap.objs.size f (.ref c))).in1.in1.deeper env).units+1<cLine:=fun env=>nM (hrL env)
 have ⟨dh,ra,Ed,R,B,L,es,as,bs,ls,O⟩:=ho
 refine⟨_,(aq (ps_lock (lH (i:=2) (own:=[("number",3),("call",4)]) rfl fD.nd rfl rfl rfl (pi_items (aJ (pv 0) rfl)) (show cV ["house","quarter","numbers","number","call","answer"] (aG dX) _ _ from⟨rfl,by decide +kernel,by decide +kernel,by decide +kernel,by decide +kernel⟩) (fun _ _ _ _ _=>(pg_tupK (K:=K) (n:=2) rfl rfl (gQ (aX (i:=3) fD.nd rfl (Or.inl rfl) (by first|exact .inl rfl|exact .inr rfl)) (gQ (aX (i:=4) fD.nd rfl (Or.inl rfl) (by first|exact .inl rfl|exact .inr rfl)) pgs_nil)))) (fun _ _ _ _ _=>(f9 (aO bT (dg (K:=K) rfl (pv 4) rfl) (pv 1) (aV _)))) (fun _ _ _ _ _=>(pv 3)))) (aq (bw (i:=5) fD.nd rfl (Or.inl rfl) (aW (aj (aK rfl T.bx) (aj (aU bL rfl T.iJ PySem.boot_len (aj (pv 2) ak)) ak)))) (aq (ps_for PassesOwn.never rfl (bY (pe_sortedKey (i:=0) (x:="house") (y:="found") rfl hroom hL rfl rfl T.b_sorted rfl rfl (by decide) (aj (pv 2) ak) ⟨rfl,rfl,rfl,by decide +kernel,rfl,rfl,by decide +kernel,fun _ _ _ _ _ _=>rfl⟩ (fun _ _ _ _ _=>(aC nq (hrL _) (aj (pv 1) (aj (pe_dget (huL _) (dg (K:=K) rfl (pv 0) rfl) (pv 1) (fun _ _=>rfl)) ak)))) rfl)) (aX (i:=3) fD.nd rfl (Or.inl rfl)) (aq (bw (i:=4) fD.nd rfl (Or.inl rfl) (pe_dget hu (aJ (pv 0) rfl) (pv 3) (fun _ _=>rfl))) (au (j8 (pe_bm PySem.F.plainAttrs_list PySem.F.slot_list_extend PySem.F.type_list_extend mt_extend (pv 5) (aj (aW (aj (pv 3) (aj (aJ (pv 4) rfl) (aj (aJ (pv 4) rfl) (aj (aJ (pv 4) rfl) (aj (aJ (pv 4) rfl) ak)))))) ak)))))) (au (aD (pv 5)))))),?_⟩
 replace k:Ans A (aQ tb) H h (s,0::Vbemaj.rows (((Vbemaj.callsAt s q).foldr Vbemaj.putCalled []).map lK)) Q:=k
 have hlen:as.length=s.calls.length:=Paired.length O.rea
 have hrl:(bV s.calls as).length=s.calls.length:=oF hlen
 have most:=W.most
 refine⟨R,_,O.re,True.intro,fun od=>?_⟩
 have nhR:h≠R:=bI O.ob O.re (fun z=>nomatch z)
 refine⟨_,rfl,h,A.house,dh,_,_,rfl,by rw[aB nhR];exact O.ob,T.cH,T.nH _ (by decide),rfl,R,od,_,rfl,ao,?_⟩
 have nR:∀{ai dr:Addr}{c:Vbemaj.Called},H ai=some (.ins A.res dr (resF c))→(upd H R (.d8 od (.dK (bV s.calls as)))) ai=some (.ins A.res dr (resF c)):=fun{ai dr c} q=>by rw[aB (bI q O.re fun z=>nomatch z)];exact q
 refine lc_items TB ao (by rw[hrl,sizeLine_eq];omega) (fun i=>(s.calls[i]?).bind fun c=>if (c.q==q)=true then some (V.int (c.num:Nat))else none) (fun i ky v qa hi H' e hqa R' Nn h1 h2=>?_) fun D1 H1 e1 hD1 hL1=>?_
 ·obtain⟨c,ai,hc,hai,rfl,rfl⟩:=res_vals (q:=q) hlen hrl hi
  obtain⟨c',hc',dr,hr'⟩:=dU O.rea hai
  rw[hc]at hc'
  cases hc'
  rw[hc]at h1 h2
  refine⟨qa,_,rfl,jh.of hqa,rfl,_,_,rfl,_,_,rfl,rfl,rfl,_,rfl,ai,A.res,dr,_,_,rfl,e.ins (nR hr'),T.cE,T.nE _ (by decide),rfl,_,rfl,rfl,_,rfl,aP (fun c1=>?_) fun c1=>?_⟩
  ·have c1':((c.q:Nat):Int)=q:=by simpa using of_decide_eq_true c1
   refine⟨_,rfl,h1 _ _ ?_ (.refl _)⟩
   show(if (c.q==q)=true then some (V.int (c.num:Nat))else none)=_
   rw[if_pos (by simp;omega)]
   rfl
  ·refine h2 _ ?_ (.refl _)
   show(if (c.q==q)=true then some (V.int (c.num:Nat))else none)=_
   rw[if_neg]
   intro z
   have z':c.q=q:=by simpa using z
   exact c1 (decide_eq_true (by rw[z']))
 have eL:∀l:List Vbemaj.Called,(l.filterMap fun c=>if (c.q==q)=true then some (V.int (c.num:Nat))else none)=((l.filter fun c=>c.q==q).map fun c=>((c.num:Nat):Int)).map V.int:=by
  intro l
  induction l with
  |nil=>rfl
  |cons a l ih=>
   rw[List.filterMap_cons,List.filter_cons]
   by_cases z:(a.q==q)=true
   ·rw[if_pos z,if_pos z,ih];rfl
   ·rw[if_neg z,if_neg z,ih]
 rw[hrl,bN (fun c=>if ((c:Vbemaj.Called).q==q)=true then some (V.int (c.num:Nat))else none),eL]at hL1
 obtain⟨hf,eu⟩:=Ext.unlock (u:=.dK (bV s.calls as)) TB True.intro (fun _ z=>nomatch z) O.re e1
 have nDR:D1≠R:=fun z=>by rw[z,ao]at hD1;cases hD1
 let ns:List Int:=(Vbemaj.callsAt s q).map fun c=>((c.num:Nat):Int)
 have hcl:(Vbemaj.callsAt s q).length≤64:=Nat.le_trans (List.length_filter_le _ _) W.most
 have hnl:ns.length=(Vbemaj.callsAt s q).length:=List.length_map ..
 have hL2:(upd H1 R (.dK (bV s.calls as))) D1=some (.lst (ns.map V.int)):=by rw[aB nDR];exact hL1
 generalize hH2:upd H1 R (.dK (bV s.calls as))=H2 at eu hL2
 refine⟨hf,?_⟩
 rw[hH2]
 refine⟨_,rfl,D1,_,rfl,.inl (bh.of hL2),few2,fun p1 hp1=>?_⟩
 rw[List.length_map,hnl]
 have e3:Ext (aQ tb) H2 (upd H2 p1 (.lst [V.int 0,V.int (((Vbemaj.callsAt s q).length:Nat):Int)])):=.new TB hp1
 have nD1p:D1≠p1:=aL hL2 hp1
 have hL3:=e3.lst hL2
 have x3:=eu.trans e3
 have tab3:=x3.tb htab
 generalize hH3:upd H2 p1 (.lst [V.int 0,V.int (((Vbemaj.callsAt s q).length:Nat):Int)])=H3 at e3 hL3 x3 tab3
 have hp3:H3 p1=some (.lst [V.int 0,V.int (((Vbemaj.callsAt s q).length:Nat):Int)]):=by rw[←hH3,ao]
 refine⟨_,rfl,D1,ns,keyN s,aQ tb,.ref h,rfl,bh.of hL3,hL3,TB,rfl,tab3.2.1,keyN_ne s,fun H4 k4 t4=>?_⟩
 have tbl4:∃ps,H3 tb.m=some (.tbl ps):=let⟨ps,h,_⟩:=tab3.2.1;⟨ps,h⟩
 have tau4:aQ tb H4:=⟨tab_other tab3.2.1 tab3.1 (fun z=>tab3.2.2 z.symm) k4,t4,tab3.2.2⟩
 have x4:Ext (aQ tb) H2 H4:=Ext.srt e3 tbl4 k4 tau4
 have y4:Ext (aQ tb) H H4:=Ext.srt x3 tbl4 k4 tau4
 have hp4:H4 p1=some (.lst [V.int 0,V.int (((Vbemaj.callsAt s q).length:Nat):Int)]):=k4 _ _ hp3 (fun z=>by obtain⟨ps,hps⟩:=tbl4;rw[z,hps]at hp3;cases hp3)
 refine⟨fun n hn H' x'=>?_,fun ns' H5 D5 hpm hps hD50 x5 hD5=>?_⟩
 ·obtain⟨c,hc,rfl⟩:=List.mem_map.mp hn
  have hcs:c∈s.calls:=(List.mem_filter.mp hc).1
  have O':=O.ext (y4.trans x')
  obtain⟨ai,hv,hra⟩:=resKV_find O'.rea (find_num W.nums hcs)
  refine⟨_,rfl,_,rfl,h,A.house,dh,_,_,rfl,O'.ob,T.cH,T.nH _ (by decide),rfl,_,rfl,R,_,rfl,by have:=iI.k (k:=kN c.num) O'.re;rw[hv]at this;exact this,?_⟩
  refine⟨ai,c,rfl,hra,fun H6 l6 e6 hl6=>⟨l6,rfl,e6,?_⟩⟩
  rw[hl6,keyN_of W hcs]
 ·obtain⟨cs',hpc,rfl⟩:=perm_lift (g:=fun(n:Int)=>s.calls.find? fun c=>c.num==n.toNat) (fun c hc=>by rw[Int.toNat_natCast];exact find_num W.nums (List.mem_filter.mp hc).1) hpm
  have hin:∀c∈cs',c∈s.calls:=fun c hc=>(List.mem_filter.mp (hpc.mem_iff.mp hc)).1
  have hdist:(Vbemaj.callsAt s q).Pairwise fun a b=>a.num≠b.num:=(W.nums.sublist List.filter_sublist).imp fun{a b} h=>Nat.ne_of_lt h
  have hdist':cs'.Pairwise fun a b=>a.num≠b.num:=(hpc.pairwise_iff fun{a b} h=>h.symm).mpr hdist
  have hso:cs'.Pairwise fun a b=>Vbemaj.earlier a b=true:=by
   refine (List.pairwise_map.mp hps).and hdist' |>.imp_of_mem fun{a b} ha hb h=>?_
   obtain⟨h1,h2⟩:=h
   rw[keyN_of W (hin a ha),keyN_of W (hin b hb)]at h1
   exact merit_lt h1 h2
  have hme:=QM.merit_eq hdist hpc hso
  rw[←hme]at k
  have hcl':cs'.length=(Vbemaj.callsAt s q).length:=hpc.length_eq
  have z5:=y4.trans x5
  have hp5:=x5.lst hp4
  have nD5:D5≠p1:=fun z=>by rw[z,hp4]at hD50;cases hD50
  have c5:Ext (aQ tb) H2 H5:=x4.trans x5
  refine⟨D5,rfl,⟨_,bh.of hD5⟩,?_⟩
  let acc:Nat→List Int:=fun i=>([0,((cs'.length:Nat):Int)]:List Int)++((cs'.take i).map lK).flatten
  have hacc:∀i,i≤cs'.length→(acc i).length=2+i*5:=fun i hi=>by
   show(([0,((cs'.length:Nat):Int)]:List Int)++_).length=_
   rw[List.length_append]
   have:((cs'.take i).map lK).flatten.length=i*5:=by
    clear hps hso hme hpm
    induction i with
    |zero=>simp
    |succ i ih=>
     rw[fY (List.getElem?_eq_getElem (by omega:i<cs'.length)),List.map_append,List.flatten_append,List.length_append,ih (by omega)]
     show i*5+5=_
     omega
   rw[this]
   rfl
  refine for_list (xs:=(cs'.map fun c=>((c.num:Nat):Int)).map V.int) (fun i σ Hi=>σ.length=6∧σ[0]?=some (some (.ref h))∧σ[5]?=some (some (.ref p1))∧Ext (aQ tb) H2 Hi∧Hi D5=some (.lst ((cs'.map fun c=>((c.num:Nat):Int)).map V.int))∧Hi p1=some (.lst ((acc i).map V.int)))
   ⟨rfl,rfl,rfl,c5,hD5,by rw[hp5,←hcl'];rfl⟩ (fun i σ Hi _ h=>bh.of h.2.2.2.2.1) (fun i y σ Hi hy g=>?_) fun σ Hi g=>?_
  ·obtain⟨g0,g1,g2,g3,g4,g5⟩:=g
   rw[List.getElem?_map,List.getElem?_map]at hy
   obtain⟨z,hz,rfl⟩:=Option.map_eq_some_iff.mp hy
   obtain⟨c,hc,rfl⟩:=Option.map_eq_some_iff.mp hz
   have hi:i<cs'.length:=(List.getElem?_eq_some_iff.mp hc).1
   have hcs:c∈s.calls:=hin c (List.mem_of_getElem? hc)
   have O6:=O.ext (eu.trans g3)
   obtain⟨ai,hv,dr,hra⟩:=resKV_find O6.rea (find_num W.nums hcs)
   have s0:(σ.set 3 (some (V.int ((c.num:Nat):Int))))[0]?=some (some (.ref h)):=by rw[List.getElem?_set_ne (by decide)];exact g1
   have s3:(σ.set 3 (some (V.int ((c.num:Nat):Int))))[3]?=some (some (V.int ((c.num:Nat):Int))):=by rw[List.getElem?_set_self (by rw[g0];decide)]
   refine⟨_,s0,h,A.house,dh,_,_,rfl,O6.ob,T.cH,T.nH _ (by decide),rfl,_,s3,R,_,rfl,by have:=iI.k (k:=kN c.num) O6.re;rw[hv]at this;exact this,?_⟩
   have u0:((σ.set 3 (some (V.int ((c.num:Nat):Int)))).set 4 (some (.ref ai)))[0]?=some (some (.ref h)):=by rw[List.getElem?_set_ne (by decide)];exact s0
   have u3:((σ.set 3 (some (V.int ((c.num:Nat):Int)))).set 4 (some (.ref ai)))[3]?=some (some (V.int ((c.num:Nat):Int))):=by rw[List.getElem?_set_ne (by decide)];exact s3
   have u4:((σ.set 3 (some (V.int ((c.num:Nat):Int)))).set 4 (some (.ref ai)))[4]?=some (some (.ref ai)):=by rw[List.getElem?_set_self (by rw[List.length_set,g0];decide)]
   have u5:((σ.set 3 (some (V.int ((c.num:Nat):Int)))).set 4 (some (.ref ai)))[5]?=some (some (.ref p1)):=by rw[List.getElem?_set_ne (by decide),List.getElem?_set_ne (by decide)];exact g2
   refine⟨_,u5,.inl ⟨rfl,_,bh.of g5⟩,_,u3,_,u4,ai,A.res,dr,_,_,rfl,hra,T.cE,T.nE _ (by decide),rfl,_,u4,ai,A.res,dr,_,_,rfl,hra,T.cE,T.nE _ (by decide),rfl,_,u4,ai,A.res,dr,_,_,rfl,hra,T.cE,T.nE _ (by decide),rfl,_,u4,ai,A.res,dr,_,_,rfl,hra,T.cE,T.nE _ (by decide),rfl,few5,fun pl hpl=>?_⟩
   have e9:Ext (aQ tb) Hi (upd Hi pl (.lst [V.int ((c.num:Nat):Int),V.int ((c.p:Nat):Int),V.int (fl c.up),V.int c.amount,V.int c.price])):=.new TB hpl
   have hai:=hacc i (Nat.le_of_lt hi)
   refine⟨p1,pl,_,_,rfl,rfl,e9.lst g5,ao,?_,?_⟩
   ·rw[List.length_map,hai,sizeLine_eq]
    show 2+i*5+5≤_
    omega
   ·refine⟨by rw[List.length_set,List.length_set];exact g0,u0,u5,(g3.trans e9).over TB hp1 (e9.lst g5) True.intro,by rw[aB nD5];exact e9.lst g4,?_⟩
    rw[ao]
    refine congrArg (fun z=>some (HO.lst z)) ?_
    show _=(([0,((cs'.length:Nat):Int)]:List Int)++((cs'.take (i+1)).map lK).flatten).map V.int
    rw[fY hc,List.map_append (f:=lK),List.flatten_append,←List.append_assoc]
    exact (List.map_append (f:=V.int) (l₁:=acc i) (l₂:=lK c)).symm
  ·obtain⟨g0,g1,g2,g3,g4,g5⟩:=g
   have x9:=eu.trans g3
   rw[List.length_map,List.length_map]at g5
   refine⟨_,g2,(k.ext (Ext.kept x9)) Hi p1 .refl (ho.ext x9) ?_⟩
   rw[g5]
   refine congrArg (fun z=>some (HO.lst (List.map V.int z))) ?_
   show[0,((cs'.length:Nat):Int)]++((cs'.take cs'.length).map lK).flatten=0::Vbemaj.rows _
   rw[List.take_length]
   unfold Vbemaj.rows
   rw[List.length_map]
   rfl
end Q
namespace L2
open PySem PySem.Spec PyProof.Rows
section
variable{τ:Hp→Prop}
theorem lc_zipST{K:PySem.W.Frag}{a b:Addr}{xs ys:List V}{g:TG}{tt:TT}{te:TE}{vs:List Nat}{σ:St}{H1:Hp}{Qd:Addr→Hp→Prop}(T:bD τ)(ha:jh K H1 a xs)(hb:bh K H1 b ys)(hl:xs.length=ys.length)(sz:xs.length<sizeLine)(out:Nat→Option V)
  (hs:∀(i:Nat) (x y:V) (q:Addr),xs[i]?=some x→ys[i]?=some y→∀H',Ext τ H1 H'→H' q=some (.tup [x,y])→∀(R:V→Hp→Prop) (N:Hp→Prop),(∀v H4,out i=some v→Ext τ H' H4→R v H4)→(∀H3,out i=none→Ext τ H' H3→N H3)→
   g (.ref q) (wipe σ vs) H' fun σ2 H2=>wipe σ2 vs=wipe σ vs∧tt σ2 H2 fun b H3=>if b=true then te σ2 H3 R else N H3)
  (hQ:∀D H',Ext τ H1 H'→H1 D=none→H' D=some (.lst ((List.range xs.length).filterMap out))→Qd D H'):
  ∀D,H1 D=none→∃W:Nat→Nat→Hp→Prop,(∃m,W 0 m (upd H1 D (.lst [])))∧∀i m H,W i m H→
   ((ItzST K a b).stop i H∧Qd D H)∨((ItzST K a b).go i H∧∃Nx:Hp→Prop,(∀H',Nx H'→∃m',m'<m∧W (i+1) m' H')∧∀x H',(ItzST K a b).yld i H x H'→g x (wipe σ vs) H' fun σ2 H2=>wipe σ2 vs=wipe σ vs∧tt σ2 H2 fun b H3=>
    if b=true then te σ2 H3 fun y H4=>∃acc,H4 D=some (.lst acc)∧acc.length<sizeLine∧Nx (upd H4 D (.lst (acc++[y])))else Nx H3):=
 lc_it (J:=ItzST K a b) T sz out (fun i v H=>∃x y q,xs[i]?=some x∧ys[i]?=some y∧v=.ref q∧H q=some (.tup [x,y]))
  (fun i H hi e=>⟨xs,ys,xs[i],ys[i]'(by omega),e.seqT ha,e.seq hb,List.getElem?_eq_getElem hi,List.getElem?_eq_getElem (by omega)⟩) (fun H e=>⟨xs,ys,e.seqT ha,e.seq hb,Nat.le_refl _,by omega⟩)
  (fun i H x H' hi e y=>by
   obtain⟨q,u,v,rfl,h1,rfl,h2,h3⟩:=y
   exact⟨.new T h1,u,v,q,h2 xs (e.seqT ha),h3 ys (e.seq hb),rfl,ao⟩)
  (fun i x hi H' e yl R N h1 h2=>by obtain⟨u,v,q,y1,y2,rfl,y3⟩:=yl;exact hs i u v q y1 y2 H' e y3 R N h1 h2) hQ
end
end L2
namespace Q
open PySem PySem.Spec PyProof.Rows L2
def kName:QM.Kd→Str
 |.flag=>"flag"
 |.hand=>"hand"
 |.quarter=>"quarter"
 |.amount=>"amount"
 |.price=>"price"
 |.weight=>"weight"
 |.threshold=>"threshold"
 |.addon=>"add_on"
 |.much=>"much"
 |.reserve=>"reserve"
 |.nobody=>"hand or nobody"
 |.whole=>"whole"
 |.many=>"how many weights"
def allKd:List QM.Kd:=[.flag,.hand,.quarter,.amount,.price,.weight,.threshold,.addon,.much,.reserve,.nobody,.whole,.many]
def argKV(aA:Nat→Addr):List (Key×V):=(List.range 25).map fun p=>(kN p,.ref (aA p))
def rngKV(rA:QM.Kd→Addr):List (Key×V):=allKd.map fun k=>(.inr (kName k),.ref (rA k))
theorem arg_val{aA:Nat→Addr}{p:Nat}(h:p<25):cW (argKV aA) (kN p)=some (.ref (aA p)):=
 mG (f:=fun(p:Nat)=>p) (g:=fun p=>V.ref (aA p)) (by rw[List.map_id'];exact List.nodup_range) (List.mem_range.mpr h)
theorem rng_val{rA:QM.Kd→Addr}(k:QM.Kd):cW (rngKV rA) (.inr (kName k))=some (.ref (rA k)):=by
 cases k <;> rfl
structure TxtD(P:Program)(w:World)(K:PySem.W.Frag)(mg:Str→Option Value)(A:dz)(aA:Nat→Addr)(rA:QM.Kd→Addr):Prop extends TxtC K mg A where
 m6:GDict P w K mg "ARGUMENTS" (argKV aA)
 d_RANGES:GDict P w K mg "RANGES" (rngKV rA)
 sA:∀p,p<25→∀H,jh K H (aA p) ((QM.jQ p).map fun k=>V.str (kName k))
 sR:∀k H,jh K H (rA k) [.int (QM.rg k).1,.int (QM.rg k).2]
variable{P:Program}{w:World}{K:PySem.W.Frag}{mg:Str→Option Value}{base:Heap}{A:dz}{aA:Nat→Addr}{rA:QM.Kd→Addr}{τ:Hp→Prop}{tb:Tb}
def spWithin(K:PySem.W.Frag)(τ:Hp→Prop):Sp:=fun vs H Q _=>∃b z lo hi,vs=[.ref b,.int z]∧jh K H b [.int lo,.int hi]∧Gives τ (.bl (decide (lo≤z)&&decide (z≤hi))) H Q
theorem ok_is_within(D:aF K mg "is_within" mZ):Has P w K mg base 1 "is_within" ["bounds","number"] (spWithin K τ):=by
 refine Has.of D sc_is_within bd_is_within fun _ _ _ _ _ H vs Q E hr h=>?_
 obtain⟨b,z,lo,hi,rfl,hb,k⟩:=h
 refine⟨_,(au (aD (pe_chain op_le op_le (bU ix_tup (pv 0) aH (fun _ _=>rfl)) (pv 1) (bU ix_tup (pv 0) aH (fun _ _=>rfl))))),?_⟩
 refine⟨_,rfl,b,_,0,_,rfl,rfl,hb,rfl,_,rfl,_,_,rfl,rfl,_,rfl,aP (fun c1=>?_) fun c1=>?_⟩
 ·refine⟨_,rfl,b,_,1,_,rfl,rfl,hb,rfl,_,_,rfl,rfl,?_⟩
  have kk:=k H (.refl H)
  rw[c1,Bool.true_and]at kk
  exact kk
 ·have kk:=k H (.refl H)
  have c1':decide (lo≤z)=false:=by simpa using c1
  rw[c1',Bool.false_and]at kk
  exact kk
def spAllIn(τ:Hp→Prop):Sp:=fun vs H Q _=>∃l p zs,vs=[.int (p:Nat),.ref l]∧H l=some (.lst (zs.map V.int))∧p<25∧(QM.jQ p).length≤zs.length∧zs.length≤300∧Gives τ (.bl (QM.allIn (QM.kindsOf p zs) zs)) H Q
theorem argK_len(p:Nat):(QM.jQ p).length≤6:=by
 unfold QM.jQ
 split <;> decide
theorem rep_flat(v:V):∀k:Nat,(List.replicate k [v]).flatten=List.replicate k v
 |0=>rfl
 |k+1=>by rw[List.replicate_succ,List.flatten_cons,rep_flat v k,List.replicate_succ];rfl
theorem ok_all_within(TB:bD τ)(T:TxtD P w K mg A aA rA)(D:aF K mg "all_within" iU)(h_is_within:Has P w K mg base 1 "is_within" ["bounds","number"] (spWithin K τ)):Has P w K mg base 2 "all_within" ["number","given"] (spAllIn τ):=by
 refine Has.of D fO bd_all_within fun _ _ _ _ _ H vs Q E hr h=>?_
 obtain⟨l,p,zs,rfl,hl,hp,hle,hmax,k⟩:=h
 refine⟨_,(aq (bw (i:=2) fO.nd rfl (Or.inl rfl) (pe_gdict T.m6 rfl (pv 0) (fun _ _=>rfl))) (aq (bw (i:=2) fO.nd rfl (Or.inl rfl) (bR op_catU (pv 2) (bR op_repT (m9 (aj m8 ak)) (bR lG (aU bL rfl T.iJ PySem.boot_len (aj (pv 1) ak)) (aU bL rfl T.iJ PySem.boot_len (aj (pv 2) ak)))))) (au (aD (aU (call_allL rfl) rfl T.b_all L2.boot_all (aj (fG (own:=[("kind",3),("argument",4)]) rfl fO.nd (pi_zipST rfl T.b_zip (aj (pv 2) (aj (pv 1) ak))) (show cV ["number","given","kinds","kind","argument"] (aG iU) _ _ from⟨rfl,by decide +kernel,by decide +kernel,by decide +kernel,by decide +kernel⟩) (fun _ _ _ _ _=>(pg_tupK (K:=K) (n:=2) rfl rfl (gQ (aX (i:=3) fO.nd rfl (Or.inl rfl) (by first|exact .inl rfl|exact .inr rfl)) (gQ (aX (i:=4) fO.nd rfl (Or.inl rfl) (by first|exact .inl rfl|exact .inr rfl)) pgs_nil)))) (fun _ _ _ _ _=>dD) (fun _ _ _ _ _=>(aC h_is_within hr (aj (pe_gdict T.d_RANGES rfl (pv 3) (fun _ _=>rfl)) (aj (pv 4) ak))))) ak)))))),?_⟩
 have ha:=T.sA p hp
 have h6:=argK_len p
 have hsl:=sizeLine_eq
 refine⟨_,rfl,kN p,_,rfl,arg_val hp,?_⟩
 refine⟨_,rfl,eF,fun pw hpw=>?_⟩
 have e1:Ext τ H (upd H pw (.tup [V.str "weight"])):=.new TB hpw
 refine⟨_,rfl,l,_,rfl,.inl (bh.of (e1.lst hl)),_,rfl,aA p,_,rfl,.inr (ha _),_,_,rfl,rfl,?_⟩
 rw[List.length_map,List.length_map]
 refine⟨pw,zs.length - (QM.jQ p).length,_,rfl,?_,jh.of ao,by simp,?_,fun p2 H2 g2 h2=>?_⟩
 ·refine congrArg V.int ?_
  omega
 ·show 1*_≤_
  omega
 have e2:=g2.ext TB
 refine⟨aA p,p2,_,_,rfl,rfl,ha _,h2,?_,fun p3 H3 g3 h3=>?_⟩
 ·rw[List.length_map,rep_flat,List.length_replicate]
  omega
 have e3:=g3.ext TB
 have x3:=(e1.trans e2).trans e3
 have ek:(QM.jQ p).map (fun k=>V.str (kName k))++(List.replicate (zs.length - (QM.jQ p).length) [V.str "weight"]).flatten=(QM.kindsOf p zs).map fun k=>V.str (kName k):=by
  unfold QM.kindsOf
  rw[List.map_append,rep_flat,List.map_replicate]
  rfl
 rw[ek]at h3
 have hkl:(QM.kindsOf p zs).length=zs.length:=by
  unfold QM.kindsOf
  rw[List.length_append,List.length_replicate]
  omega
 have hl3:=x3.lst hl
 refine⟨_,rfl,_,rfl,p3,l,_,_,rfl,h3,bh.of hl3,?_⟩
 refine lc_zipST TB h3 (bh.of hl3) (by rw[List.length_map,List.length_map,hkl]) (by rw[List.length_map,hkl];omega) (fun i=>(((QM.kindsOf p zs).zip zs)[i]?).bind fun x=>some (V.bl (QM.inK x.1 x.2))) (fun i x y q hx hy H' e hq R Nn h1 h2=>?_) fun D4 H4 e4 hD4 hL4=>?_
 ·rw[List.getElem?_map]at hx hy
  obtain⟨kd,hu,rfl⟩:=Option.map_eq_some_iff.mp hx
  obtain⟨z,hv,rfl⟩:=Option.map_eq_some_iff.mp hy
  have hz:((QM.kindsOf p zs).zip zs)[i]?=some (kd,z):=List.getElem?_zip_eq_some.mpr ⟨hu,hv⟩
  rw[hz]at h1
  refine⟨q,_,rfl,jh.of hq,rfl,_,_,rfl,_,_,rfl,rfl,rfl,_,rfl,.inr (kName kd),_,rfl,rng_val kd,_,rfl,rA kd,z,_,_,rfl,T.sR kd _,fun H5 e5=>?_⟩
  exact h1 _ _ rfl e5
 ·have hzl:((QM.kindsOf p zs).zip zs).length=(QM.kindsOf p zs).length:=by rw[List.length_zip,hkl,Nat.min_self]
  rw[List.length_map,←hzl,bN (fun(x:QM.Kd×Int)=>some (V.bl (QM.inK x.1 x.2))),filterMap_some]at hL4
  refine⟨D4,((QM.kindsOf p zs).zip zs).map fun x=>QM.inK x.1 x.2,rfl,bh.of (by rw[hL4,List.map_map];rfl),?_⟩
  have eb:(((QM.kindsOf p zs).zip zs).map fun x=>QM.inK x.1 x.2).all id=QM.allIn (QM.kindsOf p zs) zs:=by
   unfold QM.allIn
   rw[List.all_map]
   rfl
  rw[eb]
  exact k H4 (x3.trans e4)
theorem hu64_of{k:Nat}{A:Around}(r:fV k A):A.units+64<cLine:=by have:=r.un;omega
def spEnd(K:PySem.W.Frag):Sp:=fun vs H Q _=>∃(a:Addr) (xs:List Int) (i p e:Nat),vs=[.ref a,.int (i:Nat)]∧bh K H a (xs.map V.int)∧xs[i]?=some (p:Int)∧p<25∧(p≠24→e=i+1+(QM.jQ p).length)∧(p=24→∃m:Nat,xs[i+2]?=some (m:Int)∧e=i+3+m)∧Q (.int (e:Nat)) H
theorem ok_end_of_call(T:TxtD P w K mg A aA rA)(D:aF K mg "end_of_call" jJ):Has P w K mg base 1 "end_of_call" ["calls","place"] (spEnd K):=by
 refine Has.of D sc_end_of_call bd_end_of_call fun _ _ _ _ _ H vs Q E hr h=>?_
 obtain⟨a,xs,i,p,e,rfl,hs,hi,hp,k1,k2,q⟩:=h
 refine⟨_,(aq (bw (i:=2) sc_end_of_call.nd rfl (Or.inl rfl) (bR jT (bR jT (pv 1) aH) (aU bL rfl T.iJ PySem.boot_len (aj (pe_gdict T.m6 rfl (bU bf (pv 0) (pv 1) (fun _ _=>rfl)) (fun _ _=>rfl)) ak)))) (aq (aZ (aO bT (bU bf (pv 0) (pv 1) (fun _ _=>rfl)) (aK rfl T.g_SPLIT) (aV _)) (au (aD (bR jT (pv 2) (bU bf (pv 0) (bR lG (pv 2) aH) (fun _ _=>rfl))))) aM) (au (aD (pv 2))))),?_⟩
 have hx:(xs.map V.int)[i]?=some (V.int (p:Nat)):=by rw[List.getElem?_map,hi];rfl
 refine⟨_,rfl,_,_,rfl,rfl,_,rfl,_,rfl,a,_,_,_,rfl,rfl,hs,mC hx,kN p,_,rfl,arg_val hp,aA p,_,rfl,.inr (T.sA p hp _),_,_,rfl,rfl,?_⟩
 rw[List.length_map]
 refine⟨_,rfl,_,rfl,a,_,_,_,rfl,rfl,hs,mC hx,rfl,_,rfl,aP (fun c1=>?_) fun c1=>?_⟩
 ·have c1':p=24:=by
   have:=of_decide_eq_true c1
   have h2:((p:Nat):Int)=24:=by simpa using this
   omega
  obtain⟨m,hm,he⟩:=k2 c1'
  subst c1' he
  have hx2:(xs.map V.int)[i+2]?=some (V.int (m:Nat)):=by rw[List.getElem?_map,hm];rfl
  have e1:((i:Nat):Int)+1+(((QM.jQ 24).length:Nat):Int) - 1=((i+2:Nat):Int):=by
   show((i:Nat):Int)+1+((2:Nat):Int) - 1=_
   omega
  refine⟨_,rfl,_,rfl,_,rfl,_,_,rfl,rfl,a,_,_,_,rfl,rfl,hs,by rw[e1];exact mC hx2,_,_,rfl,rfl,?_⟩
  have e2:((i:Nat):Int)+1+(((QM.jQ 24).length:Nat):Int)+((m:Nat):Int)=((i+3+m:Nat):Int):=by
   show((i:Nat):Int)+1+((2:Nat):Int)+_=_
   omega
  rw[←e2]at q
  exact q
 ·have c1':p≠24:=fun z=>c1 (decide_eq_true (by rw[z];rfl))
  refine⟨_,rfl,?_⟩
  have he:=k1 c1'
  subst he
  have e2:((i:Nat):Int)+1+(((QM.jQ p).length:Nat):Int)=((i+1+(QM.jQ p).length:Nat):Int):=by omega
  rw[←e2]at q
  exact q
def spHandKey(τ:Hp→Prop):Sp:=fun vs H Q _=>∃n p kind,vs=[.int ((n:Nat):Int),.int (p:Nat)]∧n=kind+2∧kind≤2∧GivesT τ ((lC kind p 0).map kV) H Q
theorem ok_hand_key(T:TxtC K mg A)(D:aF K mg "hand_key" s_hand_key)(dG:Has P w K mg base 1 "market_key" ["hand"] (spKey τ 0))(fQ:Has P w K mg base 1 "metered_key" ["hand"] (spKey τ 1))(gA:Has P w K mg base 1 "weight_key" ["hand"] (spKey τ 2)):Has P w K mg base 2 "hand_key" ["number","hand"] (spHandKey τ):=by
 refine Has.of D sc_hand_key bd_hand_key fun _ _ _ _ _ H vs Q E hr h=>?_
 obtain⟨n,p,kind,rfl,hn,hk,k⟩:=h
 refine⟨_,(aq (aZ (aO bT (pv 0) (aK rfl T.g_MARKET) (aV _)) (au (aD (aC dG hr (aj (pv 1) ak)))) aM) (aq (aZ (aO bT (pv 0) (aK rfl T.g_METER) (aV _)) (au (aD (aC fQ hr (aj (pv 1) ak)))) aM) (au (aD (aC gA hr (aj (pv 1) ak)))))),?_⟩
 subst hn
 match kind,hk,k with
 |0,_,k=>exact⟨_,rfl,rfl,_,rfl,aP (fun _=>⟨_,rfl,p,rfl,k⟩) fun c=>absurd rfl c⟩
 |1,_,k=>exact⟨_,rfl,rfl,_,rfl,aP (fun c=>absurd c (by decide)) fun _=>⟨_,rfl,rfl,_,rfl,aP (fun _=>⟨_,rfl,p,rfl,k⟩) fun c=>absurd rfl c⟩⟩
 |2,_,k=>exact⟨_,rfl,rfl,_,rfl,aP (fun c=>absurd c (by decide)) fun _=>⟨_,rfl,rfl,_,rfl,aP (fun c=>absurd c (by decide)) fun _=>⟨_,rfl,p,rfl,k⟩⟩⟩
inductive HAsk:Nat→(Nat→Nat→Vbemaj.Call)→Prop
 |pos:HAsk 11 .position
 |imb:HAsk 13 .imbalance
 |par:HAsk 16 .parts
 |unm:HAsk 21 .unmatched
theorem HAsk.no{n:Nat}{c:Nat→Nat→Vbemaj.Call}(x:HAsk n c){s:Vbemaj.State}{p q:Nat}(h:Vbemaj.isHand s p=false):gP s (Vbemaj.does s (c p q))=(s,[-5]):=by
 cases x <;> (dsimp only[Vbemaj.does];rw[if_pos h];rfl)
def spAnsH(A:dz)(tb:Tb):Sp:=fun vs H Q _=>∃h s n c p q,vs=[.ref h,.int ((n:Nat):Int),.int (p:Nat),.int (q:Nat)]∧HAsk n c∧aY A H h s∧QM.Wf s∧s.opened=true∧aQ tb H∧1≤p∧Ans A (aQ tb) H h (gP s (Vbemaj.does s (c p q))) Q
theorem ok_answer_of_hand(T:TxtC K mg A)(D:aF K mg "answer_of_hand" gH)(bG:Has P w K mg base 1 "has_hand" ["house","hand"] (lB A (aQ tb)))(bH:lD P w K mg base 1 "QuarterNow" A.now ["self","house","quarter"] (spQN A (aQ tb)))
  (lW:Has P w K mg base 5 "ask_position" ["now","hand"] (spAskH A (aQ tb) .position)) (jZ:Has P w K mg base 6 "ask_imbalance" ["now","hand"] (spAskH A (aQ tb) .imbalance)) (h_ask_parts:Has P w K mg base 9 "ask_parts" ["now","hand"] (spAskH A (aQ tb) .parts)) (j4:Has P w K mg base 4 "ask_unmatched" ["now","hand"] (spAskH A (aQ tb) .unmatched)):
  Has P w K mg base 10 "answer_of_hand" ["house","number","hand","quarter"] (spAnsH A tb):=by
 refine Has.of D m7 bd_answer_of_hand fun _ _ _ _ _ H vs Q E hr h=>?_
 obtain⟨h,s,n,c,p,q,rfl,hn,ho,W,op,htab,hp,k⟩:=h
 have TB:bD (aQ tb):=dF
 refine⟨_,(aq (aZ (oK (d9 (aC bG hr (aj (pv 0) (aj (pv 2) ak))))) (au (aD (aW (aj (aK rfl T.eO) ak)))) aM) (aq (bw (i:=4) m7.nd rfl (Or.inl rfl) (iQ bH hr (aj (pv 0) (aj (pv 3) ak)))) (aq (aZ (aO bT (pv 1) (aK rfl T.g_POSITION) (aV _)) (au (aD (aC lW hr (aj (pv 4) (aj (pv 2) ak))))) aM) (aq (aZ (aO bT (pv 1) (aK rfl T.g_IMBALANCE) (aV _)) (au (aD (aC jZ hr (aj (pv 4) (aj (pv 2) ak))))) aM) (aq (aZ (aO bT (pv 1) (aK rfl T.g_PARTS) (aV _)) (au (aD (aC h_ask_parts hr (aj (pv 4) (aj (pv 2) ak))))) aM) (au (aD (aC j4 hr (aj (pv 4) (aj (pv 2) ak)))))))))),?_⟩
 refine⟨_,rfl,_,rfl,h,s,p,rfl,ho,hp,fun H1 e1=>⟨_,rfl,aP (fun c1=>?_) fun c1=>?_⟩⟩
 ·have c1':Vbemaj.isHand s p=false:=by simpa using c1
  rw[hn.no c1']at k
  exact⟨eF,fun l hl=>Ans.new TB (s:=s) (xs:=[-5]) (k.ext (Ext.kept e1)) (ho.ext e1) hl rfl⟩
 have c1':Vbemaj.isHand s p=true:=by simpa using c1
 have hp':InN s.hands p:=iB.mp c1'
 refine⟨_,rfl,_,rfl,fun x dx hx hdx hne=>⟨x,dx,h,s,q,rfl,ao,(ho.ext e1).ext ((Ext.new TB hdx).then TB (by rw[aB hne.symm];exact hx)),W,op,fun H3 b3 N3=>⟨rfl,?_⟩⟩⟩
 have e3:Ext (aQ tb) _ H3:=made TB hx hdx hne b3
 have x3:=e1.trans e3
 have kk:=k.ext (Ext.kept x3)
 have ho3:=ho.ext x3
 have tab3:=x3.tb htab
 cases hn with
 |pos=>exact⟨_,rfl,rfl,_,rfl,aP (fun _=>⟨_,rfl,_,rfl,x,h,s,p,q,rfl,N3,ho3,W,op,hp',tab3,kk⟩) fun c=>absurd rfl c⟩
 |imb=>exact⟨_,rfl,rfl,_,rfl,aP (fun c=>absurd c (by decide)) fun _=>⟨_,rfl,rfl,_,rfl,aP (fun _=>⟨_,rfl,_,rfl,x,h,s,p,q,rfl,N3,ho3,W,op,hp',tab3,kk⟩) fun c=>absurd rfl c⟩⟩
 |par=>exact⟨_,rfl,rfl,_,rfl,aP (fun c=>absurd c (by decide)) fun _=>⟨_,rfl,rfl,_,rfl,aP (fun c=>absurd c (by decide)) fun _=>⟨_,rfl,rfl,_,rfl,aP (fun _=>⟨_,rfl,_,rfl,x,h,s,p,q,rfl,N3,ho3,W,op,hp',tab3,kk⟩) fun c=>absurd rfl c⟩⟩⟩
 |unm=>exact⟨_,rfl,rfl,_,rfl,aP (fun c=>absurd c (by decide)) fun _=>⟨_,rfl,rfl,_,rfl,aP (fun c=>absurd c (by decide)) fun _=>⟨_,rfl,rfl,_,rfl,aP (fun c=>absurd c (by decide)) fun _=>⟨_,rfl,_,rfl,x,h,s,p,q,rfl,N3,ho3,W,op,hp',tab3,kk⟩⟩⟩⟩
inductive QAsk:Nat→(Nat→Vbemaj.Call)→Prop
 |boo:QAsk 17 .booked
 |mer:QAsk 19 .merit
 |pri:QAsk 14 .prices
 |fre:QAsk 15 .fresh
 |sys:QAsk 20 .system
def spAnsQ(A:dz)(tb:Tb):Sp:=fun vs H Q _=>∃h s n c q,vs=[.ref h,.int ((n:Nat):Int),.int (q:Nat)]∧QAsk n c∧aY A H h s∧QM.Wf s∧s.opened=true∧aQ tb H∧Ans A (aQ tb) H h (gP s (Vbemaj.does s (c q))) Q
theorem ok_answer_of_quarter(T:TxtC K mg A)(D:aF K mg "answer_of_quarter" eG)(bH:lD P w K mg base 1 "QuarterNow" A.now ["self","house","quarter"] (spQN A (aQ tb)))
  (h_ask_booked:Has P w K mg base 2 "ask_booked" ["house","quarter"] (spAskN A (aQ tb) .booked)) (h_ask_merit:Has P w K mg base 6 "ask_merit" ["house","quarter"] (spAskN A (aQ tb) .merit)) (h_ask_prices:Has P w K mg base 6 "ask_prices" ["now"] (spAskQ A (aQ tb) .prices)) (h_ask_fresh:Has P w K mg base 10 "ask_fresh" ["now"] (spAskQ A (aQ tb) .fresh)) (h_ask_system:Has P w K mg base 9 "ask_system" ["now"] (spAskQ A (aQ tb) .system)):
  Has P w K mg base 11 "answer_of_quarter" ["house","number","quarter"] (spAnsQ A tb):=by
 refine Has.of D jO bd_answer_of_quarter fun _ _ _ _ _ H vs Q E hr h=>?_
 obtain⟨h,s,n,c,q,rfl,hn,ho,W,op,htab,k⟩:=h
 have TB:bD (aQ tb):=dF
 refine⟨_,(aq (aZ (aO bT (pv 1) (aK rfl T.g_BOOKED) (aV _)) (au (aD (aC h_ask_booked hr (aj (pv 0) (aj (pv 2) ak))))) aM) (aq (aZ (aO bT (pv 1) (aK rfl T.g_MERIT) (aV _)) (au (aD (aC h_ask_merit hr (aj (pv 0) (aj (pv 2) ak))))) aM) (aq (bw (i:=3) jO.nd rfl (Or.inl rfl) (iQ bH hr (aj (pv 0) (aj (pv 2) ak)))) (aq (aZ (aO bT (pv 1) (aK rfl T.g_PRICES) (aV _)) (au (aD (aC h_ask_prices hr (aj (pv 3) ak)))) aM) (aq (aZ (aO bT (pv 1) (aK rfl T.g_FRESH) (aV _)) (au (aD (aC h_ask_fresh hr (aj (pv 3) ak)))) aM) (au (aD (aC h_ask_system hr (aj (pv 3) ak))))))))),?_⟩
 cases hn with
 |boo=>exact⟨_,rfl,rfl,_,rfl,aP (fun _=>⟨_,rfl,_,rfl,h,s,q,rfl,ho,W,op,htab,k⟩) fun c=>absurd rfl c⟩
 |mer=>exact⟨_,rfl,rfl,_,rfl,aP (fun c=>absurd c (by decide)) fun _=>⟨_,rfl,rfl,_,rfl,aP (fun _=>⟨_,rfl,_,rfl,h,s,q,rfl,ho,W,op,htab,k⟩) fun c=>absurd rfl c⟩⟩
 |_=>
  refine⟨_,rfl,rfl,_,rfl,aP (fun c=>absurd c (by decide)) fun _=>⟨_,rfl,rfl,_,rfl,aP (fun c=>absurd c (by decide)) fun _=>?_⟩⟩
  refine⟨_,rfl,_,rfl,fun x dx hx hdx hne=>⟨x,dx,h,s,q,rfl,ao,ho.ext ((Ext.new TB hdx).then TB (by rw[aB hne.symm];exact hx)),W,op,fun H3 b3 N3=>⟨rfl,?_⟩⟩⟩
  have e3:Ext (aQ tb) _ H3:=made TB hx hdx hne b3
  have kk:=k.ext (Ext.kept e3)
  have ho3:=ho.ext e3
  have tab3:=e3.tb htab
  first
   |exact⟨_,rfl,rfl,_,rfl,aP (fun _=>⟨_,rfl,x,h,s,q,rfl,N3,ho3,W,op,tab3,kk⟩) fun c=>absurd rfl c⟩
   |exact⟨_,rfl,rfl,_,rfl,aP (fun c=>absurd c (by decide)) fun _=>⟨_,rfl,rfl,_,rfl,aP (fun _=>⟨_,rfl,x,h,s,q,rfl,N3,ho3,W,op,tab3,kk⟩) fun c=>absurd rfl c⟩⟩
   |exact⟨_,rfl,rfl,_,rfl,aP (fun c=>absurd c (by decide)) fun _=>⟨_,rfl,rfl,_,rfl,aP (fun c=>absurd c (by decide)) fun _=>⟨_,rfl,x,h,s,q,rfl,N3,ho3,W,op,tab3,kk⟩⟩⟩
def spGiven(A:dz)(tb:Tb)(lo hi:Nat):Sp:=fun vs H Q _=>∃h s l p zs c,vs=[.ref h,.int ((p:Nat):Int),.ref l]∧aY A H h s∧QM.Wf s∧s.opened=true∧aQ tb H∧H l=some (.lst (zs.map V.int))∧QM.Dec p zs c∧lo≤p∧p<hi∧Ans A (aQ tb) H h (gP s (Vbemaj.does s c)) Q
theorem ok_answer_telling(T:TxtC K mg A)(D:aF K mg "answer_telling" gF)(h_add_hand:Has P w K mg base 1 "add_hand" ["house"] (spAddHand A (aQ tb)))(h_tell_ahead:Has P w K mg base 3 "tell_ahead" ["house","quarter","price"] (spTellAh A (aQ tb)))
  (h_nominate:Has P w K mg base 3 "nominate" ["house","hand","to","quarter","amount"] (spNominate A (aQ tb))) (lX:Has P w K mg base 3 "tell_of_hand" ["house","hand","quarter","key","number"] (spTellOf A (aQ tb))) (h_hand_key:Has P w K mg base 2 "hand_key" ["number","hand"] (spHandKey (aQ tb))):
  Has P w K mg base 4 "answer_telling" ["house","number","given"] (spGiven A tb 1 7):=by
 refine Has.of D sc_answer_telling bd_answer_telling fun _ _ _ _ _ H vs Q E hr h=>?_
 obtain⟨h,s,l,p,zs,c,rfl,ho,W,op,htab,hl,hd,h1,h2,k⟩:=h
 have TB:bD (aQ tb):=dF
 refine⟨_,(aq (aZ (aO bT (pv 1) (aK rfl T.g_HAND) (aV _)) (au (aD (aC h_add_hand hr (aj (pv 0) ak)))) aM) (aq (aZ (aO bT (pv 1) (aK rfl T.g_AHEAD) (aV _)) (au (aD (aC h_tell_ahead hr (aj (pv 0) (aj (bU bf (pv 2) aH (fun _ _=>rfl)) (aj (bU bf (pv 2) aH (fun _ _=>rfl)) ak)))))) aM) (aq (aZ (aO bT (pv 1) (aK rfl T.g_NOMINATE) (aV _)) (au (aD (aC h_nominate hr (aj (pv 0) (aj (bU bf (pv 2) aH (fun _ _=>rfl)) (aj (bU bf (pv 2) aH (fun _ _=>rfl)) (aj (bU bf (pv 2) aH (fun _ _=>rfl)) (aj (bU bf (pv 2) aH (fun _ _=>rfl)) ak)))))))) aM) (au (aD (aC lX hr (aj (pv 0) (aj (bU bf (pv 2) aH (fun _ _=>rfl)) (aj (bU bf (pv 2) aH (fun _ _=>rfl)) (aj (aC h_hand_key hr (aj (pv 1) (aj (bU bf (pv 2) aH (fun _ _=>rfl)) ak))) (aj (bU bf (pv 2) aH (fun _ _=>rfl)) ak))))))))))),?_⟩
 have hs:=bh.of (K:=K) hl
 have three:∀(n kind p q:Nat) (a:Int),n=kind+2→kind≤2→1≤p→q<10000→zs=[(p:Int),(q:Int),a]→Ans A (aQ tb) H h (gP s (Vbemaj.does s (.tell kind p 0 q a))) Q→True:=fun _ _ _ _ _ _ _ _ _ _ _=>True.intro
 cases hd with
 |hand=>exact⟨_,rfl,rfl,_,rfl,aP (fun _=>⟨_,rfl,h,s,rfl,ho,W,k⟩) fun c=>absurd rfl c⟩
 |ahead q a hq=>
  exact⟨_,rfl,rfl,_,rfl,aP (fun c=>absurd c (by decide)) fun _=>⟨_,rfl,rfl,_,rfl,aP (fun _=>⟨_,rfl,_,rfl,l,_,_,_,rfl,rfl,hs,rfl,_,rfl,l,_,_,_,rfl,rfl,hs,rfl,h,s,q,a,rfl,ho,W,op,hq,k⟩) fun c=>absurd rfl c⟩⟩
 |nominate p w q a hp hw hq=>
  exact⟨_,rfl,rfl,_,rfl,aP (fun c=>absurd c (by decide)) fun _=>⟨_,rfl,rfl,_,rfl,aP (fun c=>absurd c (by decide)) fun _=>⟨_,rfl,rfl,_,rfl,aP (fun _=>⟨_,rfl,_,rfl,l,_,_,_,rfl,rfl,hs,rfl,_,rfl,l,_,_,_,rfl,rfl,hs,rfl,_,rfl,l,_,_,_,rfl,rfl,hs,rfl,_,rfl,l,_,_,_,rfl,rfl,hs,rfl,h,s,p,w,q,a,rfl,ho,W,hq,hp,hw,k⟩) fun c=>absurd rfl c⟩⟩⟩
 |market p q a hp hq=>
  refine⟨_,rfl,rfl,_,rfl,aP (fun c=>absurd c (by decide)) fun _=>⟨_,rfl,rfl,_,rfl,aP (fun c=>absurd c (by decide)) fun _=>⟨_,rfl,rfl,_,rfl,aP (fun c=>absurd c (by decide)) fun _=>?_⟩⟩⟩
  refine⟨_,rfl,_,rfl,l,_,_,_,rfl,rfl,hs,rfl,_,rfl,l,_,_,_,rfl,rfl,hs,rfl,_,rfl,_,rfl,l,_,_,_,rfl,rfl,hs,rfl,2,p,0,rfl,rfl,by decide,fun H2 t2 e2 ht2=>?_⟩
  exact⟨_,rfl,l,_,_,_,rfl,rfl,bh.of (e2.lst hl),rfl,h,t2,s,p,q,0,a,rfl,ho.ext e2,W,hq,hp,by decide,ht2,k.ext (Ext.kept e2)⟩
 |meter p q a hp hq=>
  refine⟨_,rfl,rfl,_,rfl,aP (fun c=>absurd c (by decide)) fun _=>⟨_,rfl,rfl,_,rfl,aP (fun c=>absurd c (by decide)) fun _=>⟨_,rfl,rfl,_,rfl,aP (fun c=>absurd c (by decide)) fun _=>?_⟩⟩⟩
  refine⟨_,rfl,_,rfl,l,_,_,_,rfl,rfl,hs,rfl,_,rfl,l,_,_,_,rfl,rfl,hs,rfl,_,rfl,_,rfl,l,_,_,_,rfl,rfl,hs,rfl,3,p,1,rfl,rfl,by decide,fun H2 t2 e2 ht2=>?_⟩
  exact⟨_,rfl,l,_,_,_,rfl,rfl,bh.of (e2.lst hl),rfl,h,t2,s,p,q,1,a,rfl,ho.ext e2,W,hq,hp,by decide,ht2,k.ext (Ext.kept e2)⟩
 |weight p q a hp hq=>
  refine⟨_,rfl,rfl,_,rfl,aP (fun c=>absurd c (by decide)) fun _=>⟨_,rfl,rfl,_,rfl,aP (fun c=>absurd c (by decide)) fun _=>⟨_,rfl,rfl,_,rfl,aP (fun c=>absurd c (by decide)) fun _=>?_⟩⟩⟩
  refine⟨_,rfl,_,rfl,l,_,_,_,rfl,rfl,hs,rfl,_,rfl,l,_,_,_,rfl,rfl,hs,rfl,_,rfl,_,rfl,l,_,_,_,rfl,rfl,hs,rfl,4,p,2,rfl,rfl,by decide,fun H2 t2 e2 ht2=>?_⟩
  exact⟨_,rfl,l,_,_,_,rfl,rfl,bh.of (e2.lst hl),rfl,h,t2,s,p,q,2,a,rfl,ho.ext e2,W,hq,hp,by decide,ht2,k.ext (Ext.kept e2)⟩
 |_=>first|exact absurd h1 (by decide)|exact absurd h2 (by decide)
theorem ok_answer_booking(T:TxtC K mg A)(D:aF K mg "answer_booking" gG)(nu:Has P w K mg base 2 "add_reserve" ["house","call"] (spAddRes A (aQ tb)))(h_Reserve:lD P w K mg base 1 "Reserve" A.res ["self","quarter","hand","up","much","price"] (spReserve A))
  (lY:Has P w K mg base 2 "drop_reserve" ["house","number"] (spDropRes A (aQ tb))) (h_settle:Has P w K mg base 10 "settle" ["house","quarter"] (spSettle A tb)) (h_lock:Has P w K mg base 11 "lock" ["house","quarter"] (spLock A tb)):
  Has P w K mg base 12 "answer_booking" ["house","number","given"] (spGiven A tb 7 11):=by
 refine Has.of D sc_answer_booking bd_answer_booking fun _ _ _ _ _ H vs Q E hr h=>?_
 obtain⟨h,s,l,p,zs,c,rfl,ho,W,op,htab,hl,hd,h1,h2,k⟩:=h
 have TB:bD (aQ tb):=dF
 refine⟨_,(aq (aZ (aO bT (pv 1) (aK rfl T.g_RESERVE) (aV _)) (au (aD (aC nu hr (aj (pv 0) (aj (iQ h_Reserve hr (aj (bU bf (pv 2) aH (fun _ _=>rfl)) (aj (bU bf (pv 2) aH (fun _ _=>rfl)) (aj (bU bf (pv 2) aH (fun _ _=>rfl)) (aj (bU bf (pv 2) aH (fun _ _=>rfl)) (aj (bU bf (pv 2) aH (fun _ _=>rfl)) ak)))))) ak))))) aM) (aq (aZ (aO bT (pv 1) (aK rfl T.g_UNRESERVE) (aV _)) (au (aD (aC lY hr (aj (pv 0) (aj (bU bf (pv 2) aH (fun _ _=>rfl)) ak))))) aM) (aq (aZ (aO bT (pv 1) (aK rfl T.g_SETTLE) (aV _)) (au (aD (aC h_settle hr (aj (pv 0) (aj (bU bf (pv 2) aH (fun _ _=>rfl)) ak))))) aM) (au (aD (aC h_lock hr (aj (pv 0) (aj (bU bf (pv 2) aH (fun _ _=>rfl)) ak)))))))),?_⟩
 have hs:=bh.of (K:=K) hl
 cases hd with
 |reserve q p u a x hp=>
  refine⟨_,rfl,rfl,_,rfl,aP (fun _=>?_) fun c=>absurd rfl c⟩
  refine⟨_,rfl,_,rfl,l,_,_,_,rfl,rfl,hs,rfl,_,rfl,l,_,_,_,rfl,rfl,hs,rfl,_,rfl,l,_,_,_,rfl,rfl,hs,rfl,_,rfl,l,_,_,_,rfl,rfl,hs,rfl,_,rfl,l,_,_,_,rfl,rfl,hs,rfl,fun y dy hy hdy hne=>?_⟩
  refine⟨y,dy,⟨0,q,p,u,a,x⟩,rfl,ao,rfl,?_⟩
  have e3:Ext (aQ tb) H (upd (upd (upd H dy (.own y)) y (.ins A.res dy [])) y (.ins A.res dy (resF ⟨0,q,p,u,a,x⟩))):=made TB hy hdy hne (ExtBut.refl.over TB ao True.intro)
  exact⟨h,y,s,⟨0,q,p,u,a,x⟩,rfl,ho.ext e3,W,op,hp,⟨dy,ao⟩,k.ext (Ext.kept e3)⟩
 |uncall n=>exact⟨_,rfl,rfl,_,rfl,aP (fun c=>absurd c (by decide)) fun _=>⟨_,rfl,rfl,_,rfl,aP (fun _=>⟨_,rfl,_,rfl,l,_,_,_,rfl,rfl,hs,rfl,h,s,n,rfl,ho,W,k⟩) fun c=>absurd rfl c⟩⟩
 |settle q=>exact⟨_,rfl,rfl,_,rfl,aP (fun c=>absurd c (by decide)) fun _=>⟨_,rfl,rfl,_,rfl,aP (fun c=>absurd c (by decide)) fun _=>⟨_,rfl,rfl,_,rfl,aP (fun _=>⟨_,rfl,_,rfl,l,_,_,_,rfl,rfl,hs,rfl,h,s,q,rfl,ho,W,op,htab,k⟩) fun c=>absurd rfl c⟩⟩⟩
 |lock q=>exact⟨_,rfl,rfl,_,rfl,aP (fun c=>absurd c (by decide)) fun _=>⟨_,rfl,rfl,_,rfl,aP (fun c=>absurd c (by decide)) fun _=>⟨_,rfl,rfl,_,rfl,aP (fun c=>absurd c (by decide)) fun _=>⟨_,rfl,_,rfl,l,_,_,_,rfl,rfl,hs,rfl,h,s,q,rfl,ho,W,op,htab,k⟩⟩⟩⟩
 |_=>first|exact absurd h1 (by decide)|exact absurd h2 (by decide)
def nmD(p:Nat):PyData:=.tuple ((QM.jQ p).map fun k=>.str (kName k))
theorem cut_two(a b:V)(l:List V):cutV (a::b::l) (some 2) none=l:=by
 unfold cutV
 rw[HT.sIx_none]
 have e:HT.sIx (a::b::l).length 0 (some 2)=2:=by
  have:=HT.sIx_nat (a::b::l).length 0 2
  refine Eq.trans this ?_
  simp
 rw[e]
 simp
theorem dp_names{H:Hp}:∀ks:List QM.Kd,DpAll K H (ks.map fun k=>V.str (kName k)) (ks.map fun k=>PyData.str (kName k))
 |[]=>.nil
 |k::ks=>.cons (.str _) (dp_names ks)
theorem dp_arg(T:TxtD P w K mg A aA rA){p:Nat}(hp:p<25)(H:Hp):Dp K H (.ref (aA p)) (nmD p):=.tup (T.sA p hp H) (dp_names _)
theorem ok_answer_asking(T:TxtD P w K mg A aA rA)(D:aF K mg "answer_asking" iu)(jw:Has P w K mg base 10 "answer_of_hand" ["house","number","hand","quarter"] (spAnsH A tb))(gO:Has P w K mg base 11 "answer_of_quarter" ["house","number","quarter"] (spAnsQ A tb))
  (nA:Has P w K mg base 3 "ask_matched" ["house","hand","other","quarter"] (spAskMat A (aQ tb))) (nD:Has P w K mg base 2 "ask_account" ["house","hand"] (spAskN A (aQ tb) .account)) (nF:Has P w K mg base 11 "ask_pending" ["house"] (spAskS A (aQ tb) .pending))
  (h_ask_sums:Has P w K mg base 2 "ask_sums" ["house"] (spAskS A (aQ tb) .sums)) (h_ask_split:Has P w K mg base 3 "ask_split" ["whole","weights"] (spAskSplit A tb)):
  Has P w K mg base 12 "answer_asking" ["house","number","given"] (spGiven A tb 11 25):=by
 refine Has.of D sc_answer_asking bd_answer_asking fun _ _ _ _ _ H vs Q E hr h=>?_
 obtain⟨h,s,l,p,zs,c,rfl,ho,W,op,htab,hl,hd,h1,h2,k⟩:=h
 have TB:bD (aQ tb):=dF
 have hu64:=hu64_of hr
 refine⟨_,(aq (aZ (aO (op_eqD hu64) (pe_gdict T.m6 rfl (pv 1) (fun _ _=>rfl)) (m9 (aj m8 (aj m8 ak))) (aV _)) (au (aD (aC jw hr (aj (pv 0) (aj (pv 1) (aj (bU bf (pv 2) aH (fun _ _=>rfl)) (aj (bU bf (pv 2) aH (fun _ _=>rfl)) ak))))))) aM) (aq (aZ (aO (op_eqD hu64) (pe_gdict T.m6 rfl (pv 1) (fun _ _=>rfl)) (m9 (aj m8 ak)) (aV _)) (au (aD (aC gO hr (aj (pv 0) (aj (pv 1) (aj (bU bf (pv 2) aH (fun _ _=>rfl)) ak)))))) aM) (aq (aZ (aO bT (pv 1) (aK rfl T.g_MATCHED) (aV _)) (au (aD (aC nA hr (aj (pv 0) (aj (bU bf (pv 2) aH (fun _ _=>rfl)) (aj (bU bf (pv 2) aH (fun _ _=>rfl)) (aj (bU bf (pv 2) aH (fun _ _=>rfl)) ak))))))) aM) (aq (aZ (aO bT (pv 1) (aK rfl T.g_ACCOUNT) (aV _)) (au (aD (aC nD hr (aj (pv 0) (aj (bU bf (pv 2) aH (fun _ _=>rfl)) ak))))) aM) (aq (aZ (aO bT (pv 1) (aK rfl T.g_PENDING) (aV _)) (au (aD (aC nF hr (aj (pv 0) ak)))) aM) (aq (aZ (aO bT (pv 1) (aK rfl T.g_SUMS) (aV _)) (au (aD (aC h_ask_sums hr (aj (pv 0) ak)))) aM) (au (aD (aC h_ask_split hr (aj (bU bf (pv 2) aH (fun _ _=>rfl)) (aj (pe_slice sl_list (pv 2) (po_some aH) po_none) ak))))))))))),?_⟩
 refine⟨_,rfl,kN p,_,rfl,arg_val h2,few2,fun t1 ht1=>?_⟩
 have e1:Ext (aQ tb) H (upd H t1 (.tup [V.str "hand",V.str "quarter"])):=.new TB ht1
 refine⟨nmD p,.tuple [.str "hand",.str "quarter"],dp_arg T h2 _,.tup (jh.of ao) (.cons (.str _) (.cons (.str _) .nil)),?_,by decide +kernel,_,rfl,?_⟩
 ·cases hd <;> decide +kernel
 have hl1:=e1.lst hl
 have ho1:=ho.ext e1
 have k1:=k.ext (Ext.kept e1)
 have tab1:=e1.tb htab
 have hs1:=bh.of (K:=K) hl1
 have hand2:∀(n:Nat) (c':Nat→Nat→Vbemaj.Call) (a b:Nat),True:=fun _ _ _ _=>True.intro
 generalize upd H t1 (.tup [V.str "hand",V.str "quarter"])=H1 at hl1 ho1 k1 tab1 hs1
 cases hd with
 |position p q hp=>exact aP (fun _=>⟨_,rfl,_,rfl,_,rfl,l,_,_,_,rfl,rfl,hs1,rfl,_,rfl,l,_,_,_,rfl,rfl,hs1,rfl,h,s,11,_,p,q,rfl,.pos,ho1,W,op,tab1,hp,k1⟩) fun c=>absurd (by decide +kernel) c
 |imbalance p q hp=>exact aP (fun _=>⟨_,rfl,_,rfl,_,rfl,l,_,_,_,rfl,rfl,hs1,rfl,_,rfl,l,_,_,_,rfl,rfl,hs1,rfl,h,s,13,_,p,q,rfl,.imb,ho1,W,op,tab1,hp,k1⟩) fun c=>absurd (by decide +kernel) c
 |parts p q hp=>exact aP (fun _=>⟨_,rfl,_,rfl,_,rfl,l,_,_,_,rfl,rfl,hs1,rfl,_,rfl,l,_,_,_,rfl,rfl,hs1,rfl,h,s,16,_,p,q,rfl,.par,ho1,W,op,tab1,hp,k1⟩) fun c=>absurd (by decide +kernel) c
 |unmatched p q hp=>exact aP (fun _=>⟨_,rfl,_,rfl,_,rfl,l,_,_,_,rfl,rfl,hs1,rfl,_,rfl,l,_,_,_,rfl,rfl,hs1,rfl,h,s,21,_,p,q,rfl,.unm,ho1,W,op,tab1,hp,k1⟩) fun c=>absurd (by decide +kernel) c
 |matched a b q ha hb=>
  refine aP (fun c=>absurd c (by decide +kernel)) fun _=>?_
  refine⟨_,rfl,kN 12,_,rfl,arg_val h2,eF,fun t2 ht2=>?_⟩
  have e2:Ext (aQ tb) H1 (upd H1 t2 (.tup [V.str "quarter"])):=.new TB ht2
  refine⟨nmD 12,.tuple [.str "quarter"],dp_arg T h2 _,.tup (jh.of ao) (.cons (.str _) .nil),by decide +kernel,by decide +kernel,_,rfl,aP (fun c=>absurd c (by decide +kernel)) fun _=>?_⟩
  have hs2:=bh.of (K:=K) (e2.lst hl1)
  exact⟨_,rfl,rfl,_,rfl,aP (fun _=>⟨_,rfl,_,rfl,l,_,_,_,rfl,rfl,hs2,rfl,_,rfl,l,_,_,_,rfl,rfl,hs2,rfl,_,rfl,l,_,_,_,rfl,rfl,hs2,rfl,h,s,a,b,q,rfl,ho1.ext e2,W,op,ha,hb,k1.ext (Ext.kept e2)⟩) fun c=>absurd rfl c⟩
 |account p=>
  refine aP (fun c=>absurd c (by decide +kernel)) fun _=>?_
  refine⟨_,rfl,kN 18,_,rfl,arg_val h2,eF,fun t2 ht2=>?_⟩
  have e2:Ext (aQ tb) H1 (upd H1 t2 (.tup [V.str "quarter"])):=.new TB ht2
  refine⟨nmD 18,.tuple [.str "quarter"],dp_arg T h2 _,.tup (jh.of ao) (.cons (.str _) .nil),by decide +kernel,by decide +kernel,_,rfl,aP (fun c=>absurd c (by decide +kernel)) fun _=>?_⟩
  have hs2:=bh.of (K:=K) (e2.lst hl1)
  exact⟨_,rfl,rfl,_,rfl,aP (fun c=>absurd c (by decide)) fun _=>⟨_,rfl,rfl,_,rfl,aP (fun _=>⟨_,rfl,_,rfl,l,_,_,_,rfl,rfl,hs2,rfl,h,s,p,rfl,ho1.ext e2,W,op,e2.tb tab1,k1.ext (Ext.kept e2)⟩) fun c=>absurd rfl c⟩⟩
 |pending=>
  refine aP (fun c=>absurd c (by decide +kernel)) fun _=>?_
  refine⟨_,rfl,kN 22,_,rfl,arg_val h2,eF,fun t2 ht2=>?_⟩
  have e2:Ext (aQ tb) H1 (upd H1 t2 (.tup [V.str "quarter"])):=.new TB ht2
  refine⟨nmD 22,.tuple [.str "quarter"],dp_arg T h2 _,.tup (jh.of ao) (.cons (.str _) .nil),by decide +kernel,by decide +kernel,_,rfl,aP (fun c=>absurd c (by decide +kernel)) fun _=>?_⟩
  exact⟨_,rfl,rfl,_,rfl,aP (fun c=>absurd c (by decide)) fun _=>⟨_,rfl,rfl,_,rfl,aP (fun c=>absurd c (by decide)) fun _=>⟨_,rfl,rfl,_,rfl,aP (fun _=>⟨_,rfl,h,s,rfl,ho1.ext e2,W,op,e2.tb tab1,k1.ext (Ext.kept e2)⟩) fun c=>absurd rfl c⟩⟩⟩
 |sums=>
  refine aP (fun c=>absurd c (by decide +kernel)) fun _=>?_
  refine⟨_,rfl,kN 23,_,rfl,arg_val h2,eF,fun t2 ht2=>?_⟩
  have e2:Ext (aQ tb) H1 (upd H1 t2 (.tup [V.str "quarter"])):=.new TB ht2
  refine⟨nmD 23,.tuple [.str "quarter"],dp_arg T h2 _,.tup (jh.of ao) (.cons (.str _) .nil),by decide +kernel,by decide +kernel,_,rfl,aP (fun c=>absurd c (by decide +kernel)) fun _=>?_⟩
  exact⟨_,rfl,rfl,_,rfl,aP (fun c=>absurd c (by decide)) fun _=>⟨_,rfl,rfl,_,rfl,aP (fun c=>absurd c (by decide)) fun _=>⟨_,rfl,rfl,_,rfl,aP (fun c=>absurd c (by decide)) fun _=>⟨_,rfl,rfl,_,rfl,aP (fun _=>⟨_,rfl,h,s,rfl,ho1.ext e2,W,op,e2.tb tab1,k1.ext (Ext.kept e2)⟩) fun c=>absurd rfl c⟩⟩⟩⟩
 |split x ws hws hmax=>
  refine aP (fun c=>absurd c (by decide +kernel)) fun _=>?_
  refine⟨_,rfl,kN 24,_,rfl,arg_val h2,eF,fun t2 ht2=>?_⟩
  have e2:Ext (aQ tb) H1 (upd H1 t2 (.tup [V.str "quarter"])):=.new TB ht2
  refine⟨nmD 24,.tuple [.str "quarter"],dp_arg T h2 _,.tup (jh.of ao) (.cons (.str _) .nil),by decide +kernel,by decide +kernel,_,rfl,aP (fun c=>absurd c (by decide +kernel)) fun _=>?_⟩
  have hs2:=bh.of (K:=K) (e2.lst hl1)
  refine⟨_,rfl,rfl,_,rfl,aP (fun c=>absurd c (by decide)) fun _=>⟨_,rfl,rfl,_,rfl,aP (fun c=>absurd c (by decide)) fun _=>⟨_,rfl,rfl,_,rfl,aP (fun c=>absurd c (by decide)) fun _=>⟨_,rfl,rfl,_,rfl,aP (fun c=>absurd c (by decide)) fun _=>?_⟩⟩⟩⟩
  refine⟨_,rfl,l,_,_,_,rfl,rfl,hs2,(show atI _ ((0:Nat):Int)=some (V.int x)from mC rfl),_,rfl,_,rfl,l,_,rfl,hs2,fun p5 hp5=>?_⟩
  have ec:cutV ((x::(ws.length:Int)::ws.map fun(z:Nat)=>(z:Int)).map V.int) (some 2) none=ws.map fun(z:Nat)=>V.int z:=by
   rw[natV]
   exact cut_two _ _ _
  rw[ec]
  have e5:=e2.then TB (o:=.lst (ws.map fun(z:Nat)=>V.int z)) hp5
  exact⟨h,s,p5,x,ws,rfl,ho1.ext e5,ao,hws,hmax,e5.tb tab1,k1.ext (Ext.kept e5)⟩
 |_=>
  first
   |exact absurd h1 (by decide)
   |(refine aP (fun c=>absurd c (by decide +kernel)) fun _=>?_
     refine⟨_,rfl,kN _,_,rfl,arg_val h2,eF,fun t2 ht2=>?_⟩
     have e2:Ext (aQ tb) H1 (upd H1 t2 (.tup [V.str "quarter"])):=.new TB ht2
     refine⟨nmD _,.tuple [.str "quarter"],dp_arg T h2 _,.tup (jh.of ao) (.cons (.str _) .nil),by decide +kernel,by decide +kernel,_,rfl,aP (fun _=>?_) fun c=>absurd (by decide +kernel) c⟩
     have hs2:=bh.of (K:=K) (e2.lst hl1)
     exact⟨_,rfl,_,rfl,_,rfl,l,_,_,_,rfl,rfl,hs2,rfl,h,s,_,_,_,rfl,by constructor,ho1.ext e2,W,op,e2.tb tab1,k1.ext (Ext.kept e2)⟩)
theorem flat_p{p:Nat}{zs:List Int}{c:List (List Int)}(h:QM.Flat p zs c):p<25∧(QM.jQ p).length≤zs.length∧zs.length≤300:=by
 cases h with
 |plain p zs hp hl=>
  have:=argK_len p
  exact⟨by omega,by omega,by omega⟩
 |split x r hr=>
  refine⟨by decide,?_,?_⟩
  ·show 2≤r.length+1+1
   omega
  ·show r.length+1+1≤300
   omega
theorem step_open{s:Vbemaj.State}{c:Vbemaj.Call}(h:s.opened=true∨Vbemaj.isOpens c=true):Vbemaj.step s c=gP s (Vbemaj.does s c):=by
 unfold Vbemaj.step
 rw[if_neg]
 ·cases Vbemaj.does s c with
  |error e=>rfl
  |ok x=>rfl
 ·rintro⟨h1,h2⟩
  rcases h with h|h
  ·rw[h]at h1;cases h1
  ·rw[h]at h2;cases h2
theorem dec_notopen{p:Nat}{zs:List Int}{c:Vbemaj.Call}(h:QM.Dec p zs c)(hp:p≠0):Vbemaj.isOpens c=false:=by
 cases h <;> first|rfl|exact absurd rfl hp
def spAnsOf(A:dz)(tb:Tb):Sp:=fun vs H Q _=>∃h s l p zs c,vs=[.ref h,.int ((p:Nat):Int),.ref l]∧aY A H h s∧QM.Wf s∧aQ tb H∧H l=some (.lst (zs.map V.int))∧QM.Flat p zs c∧Ans A (aQ tb) H h (Vbemaj.stepNumbers s c) Q
theorem ok_answer_of(T:TxtD P w K mg A aA rA)(D:aF K mg "answer_of" mY)(h_all_within:Has P w K mg base 2 "all_within" ["number","given"] (spAllIn (aQ tb)))(h_begin:Has P w K mg base 1 "begin" ["house","rules"] (spBegin A (aQ tb)))(h_Rules:lD P w K mg base 1 "Rules" A.rules ["self","means","two_prices","low","high","threshold","add_on"] (spRules A))
  (jx:Has P w K mg base 4 "answer_telling" ["house","number","given"] (spGiven A tb 1 7)) (jy:Has P w K mg base 12 "answer_booking" ["house","number","given"] (spGiven A tb 7 11)) (j5:Has P w K mg base 12 "answer_asking" ["house","number","given"] (spGiven A tb 11 25)):
  Has P w K mg base 13 "answer_of" ["house","number","given"] (spAnsOf A tb):=by
 refine Has.of D sc_answer_of bd_answer_of fun _ _ _ _ _ H vs Q E hr h=>?_
 obtain⟨h,s,l,p,zs,c,rfl,ho,W,htab,hl,hfl,k⟩:=h
 have TB:bD (aQ tb):=dF
 obtain⟨hp,hle,hmax⟩:=flat_p hfl
 obtain⟨dy,dn⟩:=QM.dec_of hfl
 refine⟨_,(aq (aZ (oK (d9 (aC h_all_within hr (aj (pv 1) (aj (pv 2) ak))))) (au (aD (aW (aj (aK rfl T.g_OUT_OF_RANGE) ak)))) aM) (aq (aZ (aO bT (pv 1) (aK rfl T.g_OPEN) (aV _)) (au (aD (aC h_begin hr (aj (pv 0) (aj (iQ h_Rules hr (aj (bU bf (pv 2) aH (fun _ _=>rfl)) (aj (bU bf (pv 2) aH (fun _ _=>rfl)) (aj (bU bf (pv 2) aH (fun _ _=>rfl)) (aj (bU bf (pv 2) aH (fun _ _=>rfl)) (aj (bU bf (pv 2) aH (fun _ _=>rfl)) (aj (bU bf (pv 2) aH (fun _ _=>rfl)) ak))))))) ak))))) aM) (aq (aZ (pt_cmp (pc_isN (aJ (pv 0) rfl))) (au (aD (aW (aj (aK rfl T.g_NOT_OPEN) ak)))) aM) (aq (aZ (aO op_lt (pv 1) (aK rfl T.g_RESERVE) (aV _)) (au (aD (aC jx hr (aj (pv 0) (aj (pv 1) (aj (pv 2) ak)))))) aM) (aq (aZ (aO op_lt (pv 1) (aK rfl T.g_POSITION) (aV _)) (au (aD (aC jy hr (aj (pv 0) (aj (pv 1) (aj (pv 2) ak)))))) aM) (au (aD (aC j5 hr (aj (pv 0) (aj (pv 1) (aj (pv 2) ak))))))))))),?_⟩
 refine⟨_,rfl,_,rfl,l,p,zs,rfl,hl,hp,hle,hmax,fun H1 e1=>⟨_,rfl,aP (fun c1=>?_) fun c1=>?_⟩⟩
 ·have c1':QM.allIn (QM.kindsOf p zs) zs=false:=by simpa using c1
  unfold Vbemaj.stepNumbers at k
  rw[dn c1']at k
  exact⟨eF,fun l hl=>Ans.new TB (s:=s) (xs:=[-1]) (k.ext (Ext.kept e1)) (ho.ext e1) hl rfl⟩
 have c1':QM.allIn (QM.kindsOf p zs) zs=true:=by simpa using c1
 obtain⟨d,hd,hdec⟩:=dy c1'
 unfold Vbemaj.stepNumbers at k
 rw[hd]at k
 replace k:Ans A (aQ tb) H h (Vbemaj.step s d) Q:=k
 have ho1:=ho.ext e1
 have hl1:=e1.lst hl
 have hs1:=bh.of (K:=K) hl1
 have tab1:=e1.tb htab
 have k1:=k.ext (Ext.kept e1)
 have ⟨dh,ra,Ed,R,B,L,es,as,bs,ls,O⟩:=ho1
 by_cases hp0:p=0
 ·subst hp0
  refine⟨_,rfl,rfl,_,rfl,aP (fun _=>?_) fun c=>absurd rfl c⟩
  cases hdec with
  |opens m dd lo hi t a _ _ _ _ _ _ _ _=>
   rw[step_open (.inr rfl)]at k1
   refine⟨_,rfl,_,rfl,l,_,_,_,rfl,rfl,hs1,rfl,_,rfl,l,_,_,_,rfl,rfl,hs1,rfl,_,rfl,l,_,_,_,rfl,rfl,hs1,rfl,_,rfl,l,_,_,_,rfl,rfl,hs1,rfl,_,rfl,l,_,_,_,rfl,rfl,hs1,rfl,_,rfl,l,_,_,_,rfl,rfl,hs1,rfl,fun y dy hy hdy hne=>?_⟩
   refine⟨y,dy,⟨m,dd,lo,hi,t,a⟩,rfl,ao,rfl,?_⟩
   have e3:Ext (aQ tb) H1 (upd (upd (upd H1 dy (.own y)) y (.ins A.rules dy [])) y (.ins A.rules dy (rulesF ⟨m,dd,lo,hi,t,a⟩))):=made TB hy hdy hne (ExtBut.refl.over TB ao True.intro)
   exact⟨h,y,s,⟨m,dd,lo,hi,t,a⟩,rfl,ho1.ext e3,⟨dy,ao⟩,k1.ext (Ext.kept e3)⟩
 ·have hp0':¬V.int ((p:Nat):Int)=V.int 0:=fun z=>by
   have h2:((p:Nat):Int)=0:=by simpa using z
   exact hp0 (by omega)
  refine⟨_,rfl,rfl,_,rfl,aP (fun c=>absurd (of_decide_eq_true c) hp0') fun _=>?_⟩
  have hno:=dec_notopen hdec hp0
  refine⟨_,rfl,h,A.house,dh,_,_,rfl,O.ob,T.cH,T.nH _ (by decide),rfl,_,rfl,aP (fun c2=>?_) fun c2=>?_⟩
  ·have op:s.opened=false:=by
    cases e:s.opened with
    |false=>rfl
    |true=>
     obtain⟨a,ea,_⟩:=O.ru1 e
     rw[ea]at c2
     exact absurd c2 (by simp)
   unfold Vbemaj.step at k1
   rw[if_pos ⟨op,hno⟩]at k1
   exact⟨eF,fun l hl=>Ans.new TB (s:=s) (xs:=[-2]) k1 ho1 hl rfl⟩
  have op:s.opened=true:=by
   cases e:s.opened with
   |true=>rfl
   |false=>rw[O.ru0 e]at c2;exact absurd (by decide) c2
  rw[step_open (.inl op)]at k1
  refine⟨_,rfl,_,_,rfl,rfl,_,rfl,aP (fun c3=>?_) fun c3=>?_⟩
  ·have c3':((p:Nat):Int)<7:=of_decide_eq_true c3
   exact⟨_,rfl,_,rfl,_,rfl,h,s,l,p,zs,d,rfl,ho1,W,op,tab1,hl1,hdec,by omega,by omega,k1⟩
  have c3':¬((p:Nat):Int)<7:=fun z=>c3 (decide_eq_true z)
  refine⟨_,rfl,_,_,rfl,rfl,_,rfl,aP (fun c4=>?_) fun c4=>?_⟩
  ·have c4':((p:Nat):Int)<11:=of_decide_eq_true c4
   exact⟨_,rfl,_,rfl,_,rfl,h,s,l,p,zs,d,rfl,ho1,W,op,tab1,hl1,hdec,by omega,by omega,k1⟩
  have c4':¬((p:Nat):Int)<11:=fun z=>c4 (decide_eq_true z)
  exact⟨_,rfl,_,rfl,_,rfl,h,s,l,p,zs,d,rfl,ho1,W,op,tab1,hl1,hdec,by omega,by omega,k1⟩
theorem aY.off{A:dz}{H:Hp}{h r:Addr}{s:Vbemaj.State}{od:Obj}{u o:HO}(x:aY A H h s)(hr:H r=some (.d8 od u)):aY A (upd H r o) h s:=by
 obtain⟨dh,ra,E,R,B,L,es,as,bs,ls,x⟩:=x
 have kp:∀{b:Addr}{v:HO},H b=some v→(∀od u,v≠.d8 od u)→(upd H r o) b=some v:=fun{b v} e n=>by
  rw[aB (fun z=>by rw[z,hr]at e;exact n _ _ (Option.some.inj e).symm)]
  exact e
 refine⟨dh,ra,E,R,B,L,es,as,bs,ls,?_⟩
 exact {
  ob:=kp x.ob (fun _ _ z=>nomatch z)
  ru1:=fun o=>let⟨a,h1,dr,h2⟩:=x.ru1 o;⟨a,h1,dr,kp h2 (fun _ _ z=>nomatch z)⟩
  ru0:=x.ru0
  en:=kp x.en (fun _ _ z=>nomatch z)
  enq:=x.enq
  ena:=x.ena
  enr:=x.enr
  enD:=fun y hy=>kp (x.enD y hy) (fun _ _ z=>nomatch z)
  eno:=x.eno
  ent:=x.ent
  re:=kp x.re (fun _ _ z=>nomatch z)
  rea:=Paired.mapP x.rea fun _ _ ⟨dr,h⟩=>⟨dr,kp h (fun _ _ z=>nomatch z)⟩
  bo:=kp x.bo (fun _ _ z=>nomatch z)
  bol:=fun b hb=>kp (x.bol b hb) (fun _ _ z=>nomatch z)
  bop:=x.bop
  lo:=kp x.lo (fun _ _ z=>nomatch z)
  lon:=x.lon
  lop:=x.lop
  apart:=x.apart }
def InAt(K:PySem.W.Frag)(r:Addr)(H:Hp)(a:Addr)(xs:List V):Prop:=(a≠r∧Rd H a (.lst xs))∨∀H',bh K H' a xs
theorem InAt.sq{r:Addr}{H:Hp}{a:Addr}{xs:List V}(x:InAt K r H a xs):bh K H a xs:=by
 rcases x with⟨_,x⟩|x
 ·exact .inl x
 ·exact x H
theorem InAt.kept{τ:Hp→Prop}{r:Addr}{H H':Hp}{a:Addr}{xs:List V}(x:InAt K r H a xs)(k:Kept A τ H H'):InAt K r H' a xs:=by
 rcases x with⟨n,x⟩|x
 ·refine .inl ⟨n,?_⟩
  rcases x with x|⟨o,x⟩
  ·exact .inl (k.keep _ _ x True.intro)
  ·exact .inr ⟨o,k.keep _ _ x True.intro⟩
 ·exact .inr x
theorem InAt.upd{r:Addr}{H:Hp}{a:Addr}{xs:List V}{o:HO}(x:InAt K r H a xs):InAt K r (upd H r o) a xs:=by
 rcases x with⟨n,x⟩|x
 ·refine .inl ⟨n,?_⟩
  rcases x with x|⟨u,x⟩
  ·exact .inl (by rw[aB n];exact x)
  ·exact .inr ⟨u,by rw[aB n];exact x⟩
 ·exact .inr x
theorem dB{H:Hp}{r:Addr}{o o':HO}:upd (upd H r o) r o'=upd H r o':=by
 funext b
 by_cases hb:b=r
 ·rw[hb,ao,ao]
 ·rw[aB hb,aB hb,aB hb]
theorem one_call{p:Int}{rest t:List Int}{c:List (List Int)}(h:PyFlat.call PyVbemaj.shape (p::rest)=some (c,t))(ha:VbemajNeutral.asked1 c=true):
  ∃(n m:Nat) (zs:List Int),p=(n:Int)∧n<25∧QM.Flat n zs c∧m=zs.length∧zs=rest.take m∧t=rest.drop m∧m≤rest.length∧(n≠24→m=(QM.jQ n).length)∧(n=24→∃k:Nat,rest[1]?=some (k:Int)∧m=2+k):=by
 obtain⟨n,rfl,hn,hsh⟩:=QM.shape_of h
 by_cases h24:n=24
 ·subst h24
  obtain⟨x,m,r',rfl,h0,h1,rfl,rfl⟩:=QM.call_row (p:=((24:Nat):Int)) rfl h
  obtain⟨k,rfl⟩:=QM.gK h0
  rw[Int.toNat_natCast]at h1
  have hl:(r'.take k).length=k:=by rw[List.length_take];omega
  have h200:(r'.take k).length≤200:=by
   rw[Int.toNat_natCast]at ha
   have ha':(VbemajNeutral.whole60 x&&(((r'.take k).all (fun(z:Int)=>VbemajNeutral.whole60 z))&&decide ((r'.take k).length≤200)))=true:=ha
   rw[Bool.and_eq_true,Bool.and_eq_true]at ha'
   exact of_decide_eq_true ha'.2.2
  have F:=QM.Flat.split x (r'.take k) h200
  rw[hl]at F
  refine⟨24,2+k,x::(k:Int)::r'.take k,rfl,by decide,by rw[Int.toNat_natCast];exact F,?_,?_,?_,?_,fun z=>absurd rfl z,fun _=>⟨k,rfl,rfl⟩⟩
  ·rw[List.length_cons,List.length_cons,hl];omega
  ·rw[show 2+k=k+1+1 by omega,List.take_succ_cons,List.take_succ_cons]
  ·rw[Int.toNat_natCast,show 2+k=k+1+1 by omega,List.drop_succ_cons,List.drop_succ_cons]
  ·rw[List.length_cons,List.length_cons];omega
 ·obtain⟨h1,rfl,rfl⟩:=QM.call_plain (hsh h24) h
  have hl:(rest.take (QM.jQ n).length).length=(QM.jQ n).length:=by rw[List.length_take];omega
  exact⟨n,(QM.jQ n).length,rest.take (QM.jQ n).length,rfl,hn,.plain n _ (by omega) hl,hl.symm,rfl,rfl,h1,fun _=>rfl,fun z=>absurd z h24⟩
theorem cut_mid{l:List Int}{i m:Nat}(h:i+1+m≤l.length):cutV (l.map V.int) (some ((i+1:Nat):Int)) (some ((i+1+m:Nat):Int))=((l.drop (i+1)).take m).map V.int:=by
 unfold cutV
 rw[HT.sIx_nat,HT.sIx_nat,List.length_map,Nat.min_eq_left (by omega),Nat.min_eq_left (by omega),List.map_take,List.map_drop]
 congr 1
 omega
def spAnswers(K:PySem.W.Frag)(tb:Tb):Sp:=fun vs H Q _=>∃a l,vs=[.ref a]∧bh K H a (l.map V.int)∧PyVbemaj.answers_asked l=true∧aQ tb H∧∀H' r,H' r=some (.lst ((PyVbemaj.answers l).map V.int))→aQ tb H'→Q (.ref r) H'
theorem ok_answers{f0:Addr}{fd0:FuncData}(T:TxtD P w K mg A aA rA)(F:Fun K "answers" "answers" ou f0 fd0)(h_House:lD P w K mg base 1 "House" A.house ["self"] (spHouse A (aQ tb)))(nG:Has P w K mg base 1 "end_of_call" ["calls","place"] (spEnd K))(h_answer_of:Has P w K mg base 13 "answer_of" ["house","number","given"] (spAnsOf A tb)):
  FnOk P w K mg base CX0 14 f0 fd0 ["calls"] (spAnswers K tb):=by
 refine F.ok iy (fun vs H Q E h=>?_) (fun cdv A' outer s0 H vs Q E hr h=>?_)
 ·obtain⟨a,l,rfl,_⟩:=h;rfl
 ·obtain⟨a,l,rfl,hsq,hasked,htab,k⟩:=h
  have TB:bD (aQ tb):=dF
  obtain⟨cs,hcs,hc400,hask,hans⟩:=QM.request hasked
  have hsl:=sizeLine_eq
  refine⟨_,(aq (bw (i:=1) iy.nd rfl (Or.inl rfl) (pe_makeH0 h_House hr)) (aq (bw (i:=2) iy.nd rfl (Or.inl rfl) (aW ak)) (aq (bw (i:=3) iy.nd rfl (Or.inl rfl) aH) (aq (ps_while PassesOwn.never (aO op_lt (pv 3) (aU bL rfl T.iJ PySem.boot_len (aj (pv 0) ak)) (aV _)) (aq (bw (i:=4) iy.nd rfl (Or.inl rfl) (aC nG hr (aj (pv 0) (aj (pv 3) ak)))) (aq (ps_lock (bw (i:=5) iy.nd rfl (Or.inl rfl) (aC h_answer_of hr (aj (pv 1) (aj (bU bf (pv 0) (pv 3) (fun _ _=>rfl)) (aj (pe_slice sl_list (pv 0) (po_some (bR jT (pv 3) aH)) (po_some (pv 4))) ak)))))) (aq (j8 (pe_bm PySem.F.plainAttrs_list PySem.F.slot_list_append PySem.F.type_list_append mt_append (pv 2) (aj (aU bL rfl T.iJ PySem.boot_len (aj (pv 5) ak)) ak))) (aq (j8 (pe_bm PySem.F.plainAttrs_list PySem.F.slot_list_extend PySem.F.type_list_extend mt_extend (pv 2) (aj (pv 5) ak))) (au (bw (i:=3) iy.nd rfl (Or.inl rfl) (pv 4)))))))) (au (aD (pv 2))))))),?_⟩
  refine fun h dh hh hdh hne=>⟨h,dh,rfl,ao,fun H1 b1 HO1=>⟨rfl,?_⟩⟩
  have e1:Ext (aQ tb) H H1:=made TB hh hdh hne b1
  refine⟨Nat.zero_le _,fun r hr1=>?_⟩
  have hin:InAt K r (upd H1 r (.lst [])) a (l.map V.int):=by
   have hs1:=e1.seq hsq
   rcases hs1 with hs1|hs1
   ·have n:a≠r:=fun z=>by
     subst z
     rcases hs1 with z|⟨o,z⟩
     ·rw[hr1]at z;cases z
     ·rw[hr1]at z;cases z
    exact InAt.upd (.inl ⟨n,hs1⟩)
   ·exact .inr fun _=>.inr hs1
  refine⟨fun m σ Hi=>∃(i:Nat) (s:Vbemaj.State) (done:List Int) (cs':List (List (List Int))),σ.length=6∧σ[0]?=some (some (.ref a))∧σ[1]?=some (some (.ref h))∧σ[2]?=some (some (.ref r))∧σ[3]?=some (some (V.int (i:Nat)))∧InAt K r Hi a (l.map V.int)∧(∀o,aY A (upd Hi r o) h s)∧QM.Wf s∧aQ tb Hi∧Hi r=some (.lst (done.map V.int))∧
   (∃fu,PyFlat.calls PyVbemaj.shape fu (l.drop i)=some cs')∧(∀c∈cs',VbemajNeutral.asked1 c=true)∧done++PyFlat.told (PyFlat.played Vbemaj.stepNumbers s cs')=PyVbemaj.answers l∧done.length+401*cs'.length≤401*400∧i≤l.length∧m=cs'.length,
   ⟨cs.length,0,Vbemaj.start,[],cs,rfl,rfl,rfl,rfl,rfl,hin,fun o=>?_,QM.wf_start,?_,ao,⟨l.length,hcs⟩,hask,hans.symm,?_,Nat.zero_le _,rfl⟩,?_⟩
  ·rw[dB]
   exact HO1.ext (Ext.new TB hr1)
  ·exact (Ext.new TB hr1).tb (e1.tb htab)
  ·show 0+_≤_
   omega
  rintro m σ Hi ⟨i,s,done,cs',g0,ga,gh,gr,gi,hin',hho,W,tab,hr',⟨fu,hcalls⟩,hask',hsum,hlen,hil,rfl⟩
  refine⟨_,gi,_,ga,a,_,rfl,.inl hin'.sq,_,_,rfl,rfl,_,rfl,aP (fun c1=>?_) fun c1=>?_⟩
  ·have hi:i<l.length:=by
    have:=of_decide_eq_true c1
    rw[List.length_map]at this
    omega
   have hd:l.drop i=l[i]::l.drop (i+1):=List.drop_eq_getElem_cons hi
   rw[hd]at hcalls
   obtain⟨c,t,fu',cs2,hcall,hcalls2,rfl,_⟩:=QM.calls_cons hcalls
   obtain⟨n,mm,zs,hp,hn,hflat,hm,hzs,ht,hmr,hp1,hp2⟩:=one_call hcall (hask' c List.mem_cons_self)
   have hdl:(l.drop (i+1)).length=l.length - (i+1):=List.length_drop ..
   have hend:i+1+mm≤l.length:=by omega
   have hgi:l[i]?=some ((n:Nat):Int):=by rw[List.getElem?_eq_getElem hi,hp]
   refine⟨fun σ' H'=>∃m',m'<(c::cs2).length∧∃(i:Nat) (s:Vbemaj.State) (done:List Int) (cs':List (List (List Int))),σ'.length=6∧σ'[0]?=some (some (.ref a))∧σ'[1]?=some (some (.ref h))∧σ'[2]?=some (some (.ref r))∧σ'[3]?=some (some (V.int (i:Nat)))∧InAt K r H' a (l.map V.int)∧(∀o,aY A (upd H' r o) h s)∧QM.Wf s∧aQ tb H'∧H' r=some (.lst (done.map V.int))∧
    (∃fu,PyFlat.calls PyVbemaj.shape fu (l.drop i)=some cs')∧(∀c∈cs',VbemajNeutral.asked1 c=true)∧done++PyFlat.told (PyFlat.played Vbemaj.stepNumbers s cs')=PyVbemaj.answers l∧done.length+401*cs'.length≤401*400∧i≤l.length∧m'=cs'.length,fun σ' H' x=>x,?_⟩
   refine⟨_,ga,_,gi,a,l,i,n,i+1+mm,rfl,hin'.sq,hgi,hn,fun z=>by rw[hp1 z],fun z=>?_,?_⟩
   ·obtain⟨kk,hk1,hk2⟩:=hp2 z
    refine⟨kk,?_,by omega⟩
    rw[List.getElem?_drop]at hk1
    rw[show i+2=i+1+1 by omega]
    exact hk1
   have s0:(σ.set 4 (some (V.int ((i+1+mm:Nat):Int))))[0]?=some (some (.ref a)):=by rw[List.getElem?_set_ne (by decide)];exact ga
   have s1:(σ.set 4 (some (V.int ((i+1+mm:Nat):Int))))[1]?=some (some (.ref h)):=by rw[List.getElem?_set_ne (by decide)];exact gh
   have s2:(σ.set 4 (some (V.int ((i+1+mm:Nat):Int))))[2]?=some (some (.ref r)):=by rw[List.getElem?_set_ne (by decide)];exact gr
   have s3:(σ.set 4 (some (V.int ((i+1+mm:Nat):Int))))[3]?=some (some (V.int (i:Nat))):=by rw[List.getElem?_set_ne (by decide)];exact gi
   have s4:(σ.set 4 (some (V.int ((i+1+mm:Nat):Int))))[4]?=some (some (V.int ((i+1+mm:Nat):Int))):=by rw[List.getElem?_set_self (by rw[g0];decide)]
   have sl:(σ.set 4 (some (V.int ((i+1+mm:Nat):Int)))).length=6:=by rw[List.length_set];exact g0
   refine⟨r,_,hr',True.intro,fun od=>?_⟩
   have hin2:=InAt.upd (o:=.d8 od (.lst (done.map V.int))) hin'
   have tab2:aQ tb (upd Hi r (.d8 od (.lst (done.map V.int)))):=TB.soft _ _ _ _ hr' True.intro tab
   have ho2:=hho (.d8 od (.lst (done.map V.int)))
   have hr2:(upd Hi r (.d8 od (.lst (done.map V.int)))) r=some (.d8 od (.lst (done.map V.int))):=ao
   refine⟨_,s1,_,s0,_,s3,a,_,_,_,rfl,rfl,hin2.sq,mC (by rw[List.getElem?_map,hgi];rfl),_,s0,_,s3,_,_,rfl,rfl,_,rfl,_,s4,_,rfl,a,_,rfl,hin2.sq,fun lz hlz=>?_⟩
   have ecut:cutV (l.map V.int) (some (((i:Nat):Int)+1)) (some ((i+1+mm:Nat):Int))=zs.map V.int:=by
    have:=cut_mid hend
    rw[hzs]
    exact this
   rw[ecut]
   have ez:Ext (aQ tb) (upd Hi r (.d8 od (.lst (done.map V.int)))) (upd (upd Hi r (.d8 od (.lst (done.map V.int)))) lz (.lst (zs.map V.int))):=.new TB hlz
   refine⟨h,s,lz,n,zs,c,rfl,ho2.ext ez,W,ez.tb tab2,ao,hflat,fun H3 l3 kp3 ho3 hl3=>?_⟩
   have hr3:H3 r=some (.d8 od (.lst (done.map V.int))):=kp3.keep _ _ (ez.d8 hr2) True.intro
   have hin3:=(hin2.kept (Ext.kept (A:=A) ez)).kept kp3
   have tab3:=kp3.tb (ez.tb tab2)
   refine⟨hr3,?_⟩
   have nl3:l3≠r:=fun z=>by rw[z,hr3]at hl3;cases hl3
   have W3:QM.Wf (Vbemaj.stepNumbers s c).1:=QM.wf_step hflat.sh W
   have hal:(Vbemaj.stepNumbers s c).2.length≤400:=QM.ans_len hflat.sh W
   rw[QM.played_cons,QM.told_cons]at hsum
   generalize Vbemaj.stepNumbers s c=st at ho3 hl3 W3 hal hsum
   have u0:((σ.set 4 (some (V.int ((i+1+mm:Nat):Int)))).set 5 (some (.ref l3)))[0]?=some (some (.ref a)):=by rw[List.getElem?_set_ne (by decide)];exact s0
   have u1:((σ.set 4 (some (V.int ((i+1+mm:Nat):Int)))).set 5 (some (.ref l3)))[1]?=some (some (.ref h)):=by rw[List.getElem?_set_ne (by decide)];exact s1
   have u2:((σ.set 4 (some (V.int ((i+1+mm:Nat):Int)))).set 5 (some (.ref l3)))[2]?=some (some (.ref r)):=by rw[List.getElem?_set_ne (by decide)];exact s2
   have u4:((σ.set 4 (some (V.int ((i+1+mm:Nat):Int)))).set 5 (some (.ref l3)))[4]?=some (some (V.int ((i+1+mm:Nat):Int))):=by rw[List.getElem?_set_ne (by decide)];exact s4
   have u5:((σ.set 4 (some (V.int ((i+1+mm:Nat):Int)))).set 5 (some (.ref l3)))[5]?=some (some (.ref l3)):=by rw[List.getElem?_set_self (by rw[sl];decide)]
   have hl4:(upd H3 r (.lst (done.map V.int))) l3=some (.lst (st.2.map V.int)):=by rw[aB nl3];exact hl3
   have hlenC:done.length+401*(cs2.length+1)≤401*400:=by rw[List.length_cons]at hlen;exact hlen
   refine⟨_,u2,.inl ⟨rfl,_,bh.of ao⟩,_,u5,l3,_,rfl,.inl (bh.of hl4),r,_,_,rfl,rfl,ao,by rw[List.length_map,hsl];omega,?_⟩
   rw[List.length_map,dB]
   have hl5:(upd H3 r (.lst (done.map V.int++[V.int ((st.2.length:Nat):Int)]))) l3=some (.lst (st.2.map V.int)):=by rw[aB nl3];exact hl3
   refine⟨_,u2,.inl ⟨rfl,_,bh.of ao⟩,_,u5,r,l3,_,_,rfl,rfl,ao,hl5,by rw[List.length_append,List.length_map,List.length_map,hsl];show _+1+_≤_;omega,?_⟩
   rw[dB]
   refine⟨_,u4,cs2.length,by rw[List.length_cons];omega,i+1+mm,st.1,done++(((st.2.length:Nat):Int)::st.2),cs2,by rw[List.length_set,List.length_set];exact sl,by rw[List.getElem?_set_ne (by decide)];exact u0,by rw[List.getElem?_set_ne (by decide)];exact u1,by rw[List.getElem?_set_ne (by decide)];exact u2,
    by rw[List.getElem?_set_self (by rw[List.length_set,sl];decide)],InAt.upd hin3,fun o=>?_,W3,TB.soft _ _ _ _ hr3 True.intro tab3,?_,⟨fu',?_⟩,fun c' hc'=>hask' c' (List.mem_cons_of_mem _ hc'),?_,?_,hend,rfl⟩
   ·rw[dB]
    exact ho3.off hr3
   ·rw[ao,List.map_append,List.map_cons,List.append_assoc]
    rfl
   ·rw[←hcalls2,ht,List.drop_drop]
   ·rw[List.append_assoc]
    exact hsum
   ·rw[List.length_append,List.length_cons]
    omega
  ·have hi:i=l.length:=by
    have:¬((i:Nat):Int)<(((l.map V.int).length:Nat):Int):=fun z=>c1 (decide_eq_true z)
    rw[List.length_map]at this
    omega
   subst hi
   rw[List.drop_length]at hcalls
   have e0:=QM.calls_nil hcalls
   subst e0
   refine⟨_,gr,k Hi r ?_ tab⟩
   rw[hr']
   have:done++[]=PyVbemaj.answers l:=hsum
   rw[List.append_nil]at this
   rw[this]
theorem _root_.L2.Has.up{P:Program}{w:World}{K:PySem.W.Frag}{mg:Str→Option Value}{base:Heap}{j k:Nat}{x:Str}{ps:List Str}{sp:Sp}(h:Has P w K mg base j x ps sp)(hk:j≤k:=by decide):Has P w K mg base k x ps sp:=by
 obtain⟨f,fd,h1,h2,h3,h4⟩:=h
 exact⟨f,fd,h1,h2,h3,h4.mono hk⟩
structure Defs(K:PySem.W.Frag)(mg:Str→Option Value)(A:dz):Prop where
 d_market_key:aF K mg "market_key" kI
 d_metered_key:aF K mg "metered_key" jB
 d_weight_key:aF K mg "weight_key" kJ
 d_ahead_key:aF K mg "ahead_key" mL
 d_nominated_key:aF K mg "nominated_key" gZ
 d_entry:aF K mg "entry" s_entry
 d_matched:aF K mg "matched" s_matched
 d_nominated_to:aF K mg "nominated_to" fZ
 d_matched_sum:aF K mg "matched_sum" gU
 d_position:aF K mg "position" oX
 d_own_calls:aF K mg "own_calls" jM
 d_amount_called:aF K mg "amount_called" fK
 d_surplus_up:aF K mg "surplus_up" kO
 d_called:aF K mg "called" s_called
 d_imbalance:aF K mg "imbalance" mR
 d_brought_within:aF K mg "brought_within" gC
 d_ahead_price:aF K mg "ahead_price" jD
 d_direction_of:aF K mg "direction_of" iY
 d_mean_price:aF K mg "mean_price" gk
 d_price_up:aF K mg "price_up" jq
 d_price_down:aF K mg "price_down" gn
 d_quarter_price:aF K mg "quarter_price" g8
 d_prices_of:aF K mg "prices_of" mU
 d_owed_for_imbalance:aF K mg "owed_for_imbalance" d7
 d_owed_for_reserve:aF K mg "owed_for_reserve" cQ
 d_hand_numbers:aF K mg "hand_numbers" iW
 d_gross_of:aF K mg "gross_of" oY
 d_gross_of_hands:aF K mg "gross_of_hands" eU
 d_shared:aF K mg "shared" s_shared
 d_weights_of_hands:aF K mg "weights_of_hands" dI
 d_shares_of_rest:aF K mg "shares_of_rest" gD
 d_owed_now:aF K mg "owed_now" lN
 d_growth:aF K mg "growth" s_growth
 d_listed:aF K mg "listed" s_listed
 d_has_hand:aF K mg "has_hand" lM
 d_is_locked:aF K mg "is_locked" mO
 d_count_entries:aF K mg "count_entries" fJ
 d_is_entry:aF K mg "is_entry" oW
 d_set_entry:aF K mg "set_entry" mQ
 d_begin:aF K mg "begin" s_begin
 d_add_hand:aF K mg "add_hand" o7
 d_is_beyond_rules:aF K mg "is_beyond_rules" fX
 d_tell:aF K mg "tell" s_tell
 d_tell_of_hand:aF K mg "tell_of_hand" jd
 d_tell_ahead:aF K mg "tell_ahead" lq
 d_nominate:aF K mg "nominate" s_nominate
 d_add_reserve:aF K mg "add_reserve" jH
 d_drop_reserve:aF K mg "drop_reserve" je
 d_is_pending:aF K mg "is_pending" iT
 d_settle:aF K mg "settle" s_settle
 d_lock:aF K mg "lock" s_lock
 d_ask_position:aF K mg "ask_position" iZ
 d_ask_imbalance:aF K mg "ask_imbalance" ig
 d_ask_matched:aF K mg "ask_matched" jF
 d_ask_prices:aF K mg "ask_prices" kY
 d_ask_fresh:aF K mg "ask_fresh" mV
 d_ask_parts:aF K mg "ask_parts" mW
 d_ask_sums:aF K mg "ask_sums" oZ
 d_ask_split:aF K mg "ask_split" mX
 d_ask_booked:aF K mg "ask_booked" kZ
 d_ask_account:aF K mg "ask_account" gW
 d_ask_system:aF K mg "ask_system" gq
 d_is_unmatched:aF K mg "is_unmatched" jc
 d_ask_unmatched:aF K mg "ask_unmatched" fL
 d_ask_pending:aF K mg "ask_pending" gY
 d_merit_order:aF K mg "merit_order" jG
 d_is_within:aF K mg "is_within" mZ
 d_all_within:aF K mg "all_within" iU
 d_end_of_call:aF K mg "end_of_call" jJ
 d_hand_key:aF K mg "hand_key" s_hand_key
 d_answer_of_hand:aF K mg "answer_of_hand" gH
 d_answer_of_quarter:aF K mg "answer_of_quarter" eG
 d_answer_telling:aF K mg "answer_telling" gF
 d_answer_booking:aF K mg "answer_booking" gG
 d_answer_asking:aF K mg "answer_asking" iu
 d_answer_of:aF K mg "answer_of" mY
 c_Prices:jU K mg "Prices" "Prices.__init__" A.prices jC
 c_Rules:jU K mg "Rules" "Rules.__init__" A.rules kj
 c_Reserve:jU K mg "Reserve" "Reserve.__init__" A.res iV
 c_House:jU K mg "House" "House.__init__" A.house kE
 c_QuarterNow:jU K mg "QuarterNow" "QuarterNow.__init__" A.now cI
theorem all_has{P:Program}{w:World}{K:PySem.W.Frag}{mg:Str→Option Value}{base:Heap}{A:dz}{aA:Nat→Addr}{rA:QM.Kd→Addr}{tb:Tb}{f0:Addr}{fd0:FuncData}(T:TxtD P w K mg A aA rA)(D:Defs K mg A)(Fa:Fun K "answers" "answers" ou f0 fd0)(dl_s:IsDefL K mg base "shared_above" cZ tb.s)(dl_m:IsDefL K mg base "ask_merit" dX tb.m):
  FnOk P w K mg base CX0 14 f0 fd0 ["calls"] (spAnswers K tb):=by
 have TB:bD (aQ tb):=dF
 have T1:=T.toTxtC
 have T0:=T1.toTxt
 have dG:=ok_market_key (P:=P) (w:=w) (base:=base) TB D.d_market_key
 have fQ:=ok_metered_key (P:=P) (w:=w) (base:=base) TB D.d_metered_key
 have gA:=ok_weight_key (P:=P) (w:=w) (base:=base) TB D.d_weight_key
 have iH:=ok_ahead_key (P:=P) (w:=w) (base:=base) TB D.d_ahead_key
 have bA:=ok_nominated_key (P:=P) (w:=w) (base:=base) TB D.d_nominated_key
 have cu:=ok_entry (P:=P) (w:=w) (base:=base) (τ:=aQ tb) T0 D.d_entry
 have dM:=ok_matched (P:=P) (w:=w) (base:=base) (τ:=aQ tb) T0 D.d_matched cu.up bA.up
 have eN:=ok_nominated_to (P:=P) (w:=w) (base:=base) TB T0 D.d_nominated_to
 have fP:=ok_matched_sum (P:=P) (w:=w) (base:=base) TB T0 D.d_matched_sum dM.up eN.up
 have fB:=ok_position (P:=P) (w:=w) (base:=base) (τ:=aQ tb) T0 D.d_position cu.up dG.up fP.up
 have iG:=ok_own_calls (P:=P) (w:=w) (base:=base) TB T0 D.d_own_calls
 have cJ:=ok_amount_called (P:=P) (w:=w) (base:=base) TB T0 D.d_amount_called
 have cA:=ok_surplus_up (P:=P) (w:=w) (base:=base) (τ:=aQ tb) D.d_surplus_up cJ.up
 have nT:=ok_called (P:=P) (w:=w) (base:=base) (τ:=aQ tb) D.d_called cA.up iG.up
 have dY:=ok_imbalance (P:=P) (w:=w) (base:=base) (τ:=aQ tb) D.d_imbalance cu.up fQ.up fB.up nT.up
 have cO:=ok_brought_within (P:=P) (w:=w) (base:=base) (τ:=aQ tb) T0 D.d_brought_within
 have fU:=ok_ahead_price (P:=P) (w:=w) (base:=base) (τ:=aQ tb) T0 D.d_ahead_price cu.up iH.up cO.up
 have lU:=ok_direction_of (P:=P) (w:=w) (base:=base) (τ:=aQ tb) T0 D.d_direction_of cA.up
 have gw:=ok_mean_price (P:=P) (w:=w) (base:=base) TB T0 D.d_mean_price
 have h_price_up:=ok_price_up (P:=P) (w:=w) (base:=base) TB T0 D.d_price_up gw.up cA.up
 have h_price_down:=ok_price_down (P:=P) (w:=w) (base:=base) TB T0 D.d_price_down gw.up cA.up
 have jY:=ok_quarter_price (P:=P) (w:=w) (base:=base) (τ:=aQ tb) T0 D.d_quarter_price cO.up h_price_up.up h_price_down.up fU.up
 have h_Prices:=ok_Prices (P:=P) (w:=w) (base:=base) T0 D.c_Prices
 have dZ:=ok_prices_of (P:=P) (w:=w) (base:=base) TB T0 D.d_prices_of lU.up jY.up h_Prices fU.up
 have cD:=ok_owed_for_imbalance (P:=P) (w:=w) (base:=base) (τ:=aQ tb) T0 D.d_owed_for_imbalance dY.up
 have cT:=ok_owed_for_reserve (P:=P) (w:=w) (base:=base) TB T0 D.d_owed_for_reserve iG.up
 have bZ:=ok_hand_numbers (P:=P) (w:=w) (base:=base) TB T0 D.d_hand_numbers
 have h_gross_of:=ok_gross_of (P:=P) (w:=w) (base:=base) (τ:=aQ tb) T0 D.d_gross_of cD.up cT.up
 have bQ:=ok_gross_of_hands (P:=P) (w:=w) (base:=base) TB T0 D.d_gross_of_hands dZ.up h_gross_of.up bZ.up
 have jf:=ok_shared_above (P:=P) (w:=w) (base:=base) T0 dl_s
 have nW:=ok_shared (P:=P) (w:=w) (base:=base) T0 D.d_shared jf.up
 have cU:=ok_weights_of_hands (P:=P) (w:=w) (base:=base) TB T0 D.d_weights_of_hands cu.up gA.up bZ.up
 have dH:=ok_shares_of_rest (P:=P) (w:=w) (base:=base) T0 D.d_shares_of_rest cU.up nW.up
 have fC:=ok_owed_now (P:=P) (w:=w) (base:=base) T0 D.d_owed_now bQ.up dH.up
 have nY:=ok_growth (P:=P) (w:=w) (base:=base) TB T0 D.d_growth
 have iR:=ok_listed (P:=P) (w:=w) (base:=base) TB T0 D.d_listed
 have h_Rules:=ok_Rules (P:=P) (w:=w) (base:=base) T0 D.c_Rules
 have h_Reserve:=ok_Reserve (P:=P) (w:=w) (base:=base) T0 D.c_Reserve
 have h_House:=ok_House (P:=P) (w:=w) (base:=base) TB T0 D.c_House
 have bH:=ok_QuarterNow (P:=P) (w:=w) (base:=base) TB T0 D.c_QuarterNow
 have bG:=ok_has_hand (P:=P) (w:=w) (base:=base) (τ:=aQ tb) T0 D.d_has_hand
 have bF:=ok_is_locked (P:=P) (w:=w) (base:=base) (τ:=aQ tb) T0 D.d_is_locked
 have dN:=ok_count_entries (P:=P) (w:=w) (base:=base) TB T0 D.d_count_entries
 have h_is_entry:=ok_is_entry (P:=P) (w:=w) (base:=base) TB T0 D.d_is_entry
 have h_set_entry:=ok_set_entry (P:=P) (w:=w) (base:=base) TB T0 D.d_set_entry
 have h_begin:=ok_begin (P:=P) (w:=w) (base:=base) TB T1 D.d_begin
 have h_add_hand:=ok_add_hand (P:=P) (w:=w) (base:=base) TB T1 D.d_add_hand
 have dj:=ok_is_beyond_rules (P:=P) (w:=w) (base:=base) (τ:=aQ tb) T1 D.d_is_beyond_rules
 have oO:=ok_tell (P:=P) (w:=w) (base:=base) TB T1 D.d_tell bF.up h_is_entry.up dN.up h_set_entry.up
 have lX:=ok_tell_of_hand (P:=P) (w:=w) (base:=base) TB T1 D.d_tell_of_hand bG.up oO.up
 have h_tell_ahead:=ok_tell_ahead (P:=P) (w:=w) (base:=base) TB T1 D.d_tell_ahead dj.up oO.up iH.up
 have h_nominate:=ok_nominate (P:=P) (w:=w) (base:=base) TB T1 D.d_nominate bG.up oO.up bA.up
 have nu:=ok_add_reserve (P:=P) (w:=w) (base:=base) TB T1 D.d_add_reserve bG.up dj.up bF.up
 have lY:=ok_drop_reserve (P:=P) (w:=w) (base:=base) TB T1 D.d_drop_reserve bF.up
 have gB:=ok_is_pending (P:=P) (w:=w) (base:=base) T1 D.d_is_pending fC.up bH nY.up
 have h_settle:=ok_settle (P:=P) (w:=w) (base:=base) T1 D.d_settle bF.up fC.up bH iR.up nY.up
 have h_lock:=ok_lock (P:=P) (w:=w) (base:=base) T1 D.d_lock bF.up gB.up
 have lW:=ok_ask_position (P:=P) (w:=w) (base:=base) TB T1 D.d_ask_position cu.up dG.up fP.up fB.up
 have jZ:=ok_ask_imbalance (P:=P) (w:=w) (base:=base) TB T1 D.d_ask_imbalance dY.up nT.up
 have nA:=ok_ask_matched (P:=P) (w:=w) (base:=base) TB T1 D.d_ask_matched bG.up bH dM.up
 have h_ask_prices:=ok_ask_prices (P:=P) (w:=w) (base:=base) TB T1 D.d_ask_prices dZ.up
 have h_ask_fresh:=ok_ask_fresh (P:=P) (w:=w) (base:=base) T1 D.d_ask_fresh fC.up iR.up
 have h_ask_parts:=ok_ask_parts (P:=P) (w:=w) (base:=base) T1 D.d_ask_parts dH.up bQ.up cD.up cT.up dZ.up
 have h_ask_sums:=ok_ask_sums (P:=P) (w:=w) (base:=base) TB T1 D.d_ask_sums dN.up
 have h_ask_split:=ok_ask_split (P:=P) (w:=w) (base:=base) T1 D.d_ask_split nW.up
 have h_ask_booked:=ok_ask_booked (P:=P) (w:=w) (base:=base) TB T1 D.d_ask_booked bF.up iR.up
 have h_has_hand0:=ok_has_hand0 (P:=P) (w:=w) (base:=base) (τ:=aQ tb) T0 D.d_has_hand
 have nD:=ok_ask_account (P:=P) (w:=w) (base:=base) TB T1 D.d_ask_account h_has_hand0
 have h_ask_system:=ok_ask_system (P:=P) (w:=w) (base:=base) TB T1 D.d_ask_system dY.up fB.up bZ.up bQ.up cU.up cJ.up
 have lV:=ok_is_unmatched (P:=P) (w:=w) (base:=base) (τ:=aQ tb) T0 D.d_is_unmatched cu.up bA.up dM.up
 have j4:=ok_ask_unmatched (P:=P) (w:=w) (base:=base) TB T1 D.d_ask_unmatched eN.up lV.up cu.up bA.up dM.up
 have nF:=ok_ask_pending (P:=P) (w:=w) (base:=base) T1 D.d_ask_pending gB.up
 have nq:=ok_merit_order (P:=P) (w:=w) (base:=base) TB T0 D.d_merit_order
 have h_ask_merit:=ok_ask_merit (P:=P) (w:=w) (base:=base) T1 dl_m nq.up
 have h_is_within:=ok_is_within (P:=P) (w:=w) (base:=base) (τ:=aQ tb) D.d_is_within
 have h_all_within:=ok_all_within (P:=P) (w:=w) (base:=base) TB T D.d_all_within h_is_within.up
 have nG:=ok_end_of_call (P:=P) (w:=w) (base:=base) T D.d_end_of_call
 have h_hand_key:=ok_hand_key (P:=P) (w:=w) (base:=base) (τ:=aQ tb) T1 D.d_hand_key dG.up fQ.up gA.up
 have jw:=ok_answer_of_hand (P:=P) (w:=w) (base:=base) T1 D.d_answer_of_hand bG.up bH lW.up jZ.up h_ask_parts.up j4.up
 have gO:=ok_answer_of_quarter (P:=P) (w:=w) (base:=base) T1 D.d_answer_of_quarter bH h_ask_booked.up h_ask_merit.up h_ask_prices.up h_ask_fresh.up h_ask_system.up
 have jx:=ok_answer_telling (P:=P) (w:=w) (base:=base) T1 D.d_answer_telling h_add_hand.up h_tell_ahead.up h_nominate.up lX.up h_hand_key.up
 have jy:=ok_answer_booking (P:=P) (w:=w) (base:=base) T1 D.d_answer_booking nu.up h_Reserve lY.up h_settle.up h_lock.up
 have j5:=ok_answer_asking (P:=P) (w:=w) (base:=base) T D.d_answer_asking jw.up gO.up nA.up nD.up nF.up h_ask_sums.up h_ask_split.up
 have h_answer_of:=ok_answer_of (P:=P) (w:=w) (base:=base) T D.d_answer_of h_all_within.up h_begin.up h_Rules jx.up jy.up j5.up
 have h_answers:=ok_answers (P:=P) (w:=w) (base:=base) T Fa h_House nG.up h_answer_of.up
 exact h_answers
section
variable{K:PySem.W.Frag}{h:Heap}{mg:Str→Option Value}{base:Heap}
theorem isDef_mk{x:Str}{st:Stmt}{f:Addr}{oc:Value}{od an:Option Addr}{osl:Array (Option Value)}{kV doc pm cdv ct:Value}(X:K.In h)(G:h.Ns mainGlobals mg)(a:PySem.W.nsIn K mainGlobals x=some (some (.ref f)))
  (l:K.lookup f=some ⟨oc,od,.func (PySem.W.fnOf x x (gb st) (dO st) (aG st) .none kV doc pm an cdv ct),osl⟩) (c:PySem.W.codeIn K cdv x=true) (k:PySem.W.keepIn K (.ref f)=true):aF K mg x st:=⟨f,_,PySem.W.mg_of X G a,fun_mk l c k⟩
theorem isDefL_mk{x:Str}{st:Stmt}{f c tb:Addr}{oc:Value}{od an:Option Addr}{osl:Array (Option Value)}{kV doc pm ct:Value}(X:K.In h)(G:h.Ns mainGlobals mg)(L:mz mg base c tb)(a:PySem.W.nsIn K mainGlobals x=some (some (.ref f)))
  (l:K.lookup f=some ⟨oc,od,.func (PySem.W.fnOf x x (gb st) (dO st) (aG st) .none kV doc pm an (.ref c) ct),osl⟩) (cd:PySem.W.codeIn K (.ref c) x=true) (k:PySem.W.keepIn K (.ref f)=true):IsDefL K mg base x st tb:=
 ⟨f,_,c,oc,od,kV,doc,pm,an,ct,osl,PySem.W.mg_of X G a,rfl,l,cd,k,L⟩
theorem isInit_mk{x qual:Str}{C:Addr}{st:Stmt}{f:Addr}{oc:Value}{od an:Option Addr}{osl:Array (Option Value)}{kV doc pm cdv ct:Value}(X:K.In h)(G:h.Ns mainGlobals mg)(a:PySem.W.nsIn K mainGlobals x=some (some (.ref C)))
  (mk:PySem.W.makesIn K C=true) (i:PySem.W.findIn K (.ref C) "__init__"=some (some (.ref f))) (fn:PySem.W.isFn K (.ref f)=true) (kc:PySem.W.keepIn K (.ref C)=true)
  (l:K.lookup f=some ⟨oc,od,.func (PySem.W.fnOf "__init__" qual (gb st) (dO st) (aG st) .none kV doc pm an cdv ct),osl⟩) (c:PySem.W.codeIn K cdv qual=true) (k:PySem.W.keepIn K (.ref f)=true):jU K mg x qual C st:=
 ⟨f,_,PySem.W.mg_of X G a,⟨mk,i,fn,kc⟩,fun_mk l c k⟩
theorem gint_mk{x:Str}{z:Int}{t:Tok}(X:K.In h)(G:h.Ns mainGlobals mg)(a:PySem.W.nsIn K mainGlobals x=some (some (.int z t))):∃t,mg x=some (.int z t):=⟨t,PySem.W.mg_of X G a⟩
def AllNo(K:PySem.W.Frag)(C:Addr):List Str→Prop
 |[]=>True
 |f::l=>jl K C f∧AllNo K C l
theorem allNo_mk{C:Addr}:∀{l:List Str},AllNo K C l→∀f∈l,jl K C f
 |[],_,_,h=>nomatch h
 |x::l,⟨a,b⟩,f,h=>by
  rcases List.mem_cons.mp h with rfl|h
  ·exact a
  ·exact allNo_mk b f h
end
def AllP(P:Nat→Prop):Nat→Prop
 |0=>True
 |n+1=>P n∧AllP P n
theorem allP_mk{P:Nat→Prop}:∀{n:Nat},AllP P n→∀p,p<n→P p
 |0,_,p,h=>absurd h (Nat.not_lt_zero p)
 |n+1,⟨a,b⟩,p,h=>by
  by_cases e:p=n
  ·subst e;exact a
  ·exact allP_mk b p (by omega)
theorem kv_refs{α:Type}{f:α→Key}{g:α→Addr}:∀l:List α,KV (l.map fun p=>(f p,V.ref (g p))) (l.map fun p=>(f p,Value.ref (g p)))
 |[]=>.nil
 |_::l=>.cons ⟨rfl,rfl⟩ (kv_refs l)
abbrev adr:dz:=⟨41,62,83,102,210⟩
def aAd(p:Nat):Addr:=if p<17 then 372+p else 373+p
def rAd:QM.Kd→Addr
 |.flag=>399
 |.hand=>400
 |.quarter=>401
 |.amount=>402
 |.price=>403
 |.weight=>404
 |.threshold=>405
 |.addon=>406
 |.much=>407
 |.reserve=>408
 |.nobody=>409
 |.whole=>410
 |.many=>411
theorem fin{P:Program}{w:World}{K:PySem.W.Frag}{mg:Str→Option Value}{fa:Addr}(hmg:mg "answers"=some (.ref fa))(D:Defs K mg adr)(T0:Txt K mg adr)(T1:Txt K mg adr→TxtC K mg adr)(dA:GDict P w K mg "ARGUMENTS" (argKV aAd))(dR:GDict P w K mg "RANGES" (rngKV rAd))
  (sA:AllP (fun p=>∀H,jh K H (aAd p) ((QM.jQ p).map fun k=>V.str (kName k))) 25) (sR:∀k H,jh K H (rAd k) [.int (QM.rg k).1,.int (QM.rg k).2]) (Da:aF K mg "answers" ou)
  (ls:∀base,mz mg base 23 21→IsDefL K mg base "shared_above" cZ 21) (lm:∀base,mz mg base 476 474→IsDefL K mg base "ask_merit" dX 474):
  ∃fd:FuncData,(∀(s:Shared) (us:List Value),us.length=(["calls"]:List Str).length→BindsTo s fd ⟨us,[]⟩ ((["calls"]:List Str).zip us))∧
   ∀base:Heap,K.In base→base.Ns mainGlobals mg→mz mg base 23 21→mz mg base 476 474→FnOk P w K mg base CX0 14 fa fd ["calls"] (spAnswers K ⟨21,474⟩):=by
 obtain⟨f,fd,hm,Fa⟩:=Da
 cases hmg.symm.trans hm
 have T:TxtD P w K mg adr aAd rAd:=⟨T1 T0,dA,dR,allP_mk sA,sR⟩
 obtain⟨oc,od,kV,doc,pm,an,cdv,ct,osl,hfd,lk,hcd⟩:=Fa.ex
 refine⟨fd,fun s us hl=>?_,fun base _ _ La Lb=>all_has T D Fa (ls base La) (lm base Lb)⟩
 rw[hfd]
 exact .of_eq (bd_answers _ _ _ _ _ _ us hl)
end Q
-- these names are taken here so that the head lays no twins of what it writes out: they made the compiled text 150 MB longer (a hand-in may have 64)
namespace PySem.W.Fast
def tw350024119264658763:=0
def tw11899987511326897772:=0
def tw15889355176546387301:=0
def tw13459074761556189126:=0
def tw8496454272644883478:=0
def tw15933308005314375699:=0
def tw15902006618994687751:=0
def tw3631693844055829895:=0
def tw607952864098373778:=0
def tw13666773435365116813:=0
def tw1412966498796601390:=0
def tw4718698112554931019:=0
def tw3158750820357413805:=0
def tw3202528532892806214:=0
def tw15825479665306897853:=0
def tw2896963085950664103:=0
def tw14428776018260384450:=0
def tw15731255221681708301:=0
def tw11291434938842736212:=0
def tw524840180947921527:=0
def tw9364039216234869289:=0
def tw4513123441109644963:=0
def tw7760108785467590146:=0
def tw16119000975998502812:=0
def tw1736091213569586719:=0
def tw9794792531686353092:=0
def tw7712115100766300400:=0
def tw5307760696184030981:=0
def tw1660243313881036858:=0
def tw2035902993097107807:=0
def tw14748752062499436961:=0
def tw7905084213473461697:=0
def tw11303912058218770468:=0
def tw17606282399547764744:=0
def tw722844143094232974:=0
def tw8817127426698720806:=0
def tw4514807676577953757:=0
def tw18160303040132358034:=0
def tw14236671884877474720:=0
def tw15217349828903852970:=0
def tw15645670580735642913:=0
def tw10018283261190458144:=0
def tw5432493251443609307:=0
def tw18068406998641537150:=0
def tw2122014111881456259:=0
def tw6499086897507228336:=0
def tw8601232846357216467:=0
def tw17845482479656321566:=0
def tw5735492436653857074:=0
def tw2597687743269352255:=0
def tw2692136201252923873:=0
def tw5966730449984709190:=0
def tw11324685133200198879:=0
def tw12069189472988856949:=0
def tw14966107393423427948:=0
def tw18075227626807597137:=0
def tw1163313788221101411:=0
def tw17313302332928349004:=0
def tw4131494069739173958:=0
def tw17691667080532542017:=0
def tw8033691309472174969:=0
def tw10629146253783394828:=0
def tw13027953725170641748:=0
def tw4396859578562772032:=0
def tw12641563281077906215:=0
def tw5178757220827952391:=0
def tw15937742991183967273:=0
def tw8274660503468113831:=0
def tw6987881745260710092:=0
def tw6495312796823015227:=0
def tw17980859611959574457:=0
def tw18183056207328506805:=0
def tw8648207186708379143:=0
def tw18252160873908673525:=0
def tw2191040102618027240:=0
def tw13261593588678955582:=0
def tw18341169149857558456:=0
def tw11144202201866171583:=0
def tw12696281016182271675:=0
def tw2935531757057428284:=0
def tw1294487855561603745:=0
def tw13562839880130042275:=0
def tw759829673481682116:=0
def tw12533913592774177095:=0
def tw11334210470994053199:=0
def tw1459405903915643447:=0
def tw5251330175156383498:=0
def tw13956899760403348994:=0
def tw13313647322513113825:=0
def tw6880503922094686725:=0
def tw15691465446047461572:=0
def tw479303119451327010:=0
def tw6808017220447609200:=0
def tw7861815550186292048:=0
def tw15668595331257344302:=0
def tw16458338319474089017:=0
def tw4952270865136702746:=0
def tw6212031494121354808:=0
def tw448971944642069366:=0
def tw16136749362274123367:=0
def tw2725297766442001484:=0
def tw4950069225477329421:=0
def tw9956945160825798088:=0
def tw15108941244168191641:=0
def tw13841639414893537412:=0
def tw14440713774558374083:=0
def tw18412997431576030594:=0
def tw11686082237734125584:=0
def tw12690797133933227530:=0
def tw7990046084358922150:=0
def tw8283856083922242792:=0
def tw1044206610894342482:=0
def tw16999915972680241664:=0
def tw8898321325007006411:=0
def tw16982959133531274566:=0
def tw7373941994049907956:=0
def tw8904257098833512502:=0
def tw6413234546700148285:=0
def tw5408713311430617139:=0
def tw1727024182176351166:=0
def tw3858856290251882954:=0
def tw13167719664072295187:=0
def tw15473999584611564957:=0
def tw7304057835116004159:=0
def tw9890055231675706481:=0
def tw16917867617654346572:=0
def tw12350674006289518650:=0
def tw4381938194238856355:=0
def tw10376421225357013947:=0
def tw14352239657640327828:=0
def tw988096618016311599:=0
def tw5282293057095598360:=0
def tw3121633063291365071:=0
def tw63574359156766518:=0
def tw8749333278805245344:=0
def tw13815227173623955429:=0
def tw9992036750658786380:=0
def tw5091058774150139230:=0
def tw16074281336574784511:=0
def tw9110208957188841518:=0
def tw968957946226858341:=0
def tw1292465463802490537:=0
def tw13993637049119080012:=0
def tw17409531319387992863:=0
def tw8081345815783347770:=0
def tw1641534173103752201:=0
def tw18186332295930106128:=0
def tw11856999855458133934:=0
def tw3227110486517135271:=0
def tw8512160226903761918:=0
def tw18064621094738610144:=0
def tw3409570051386895784:=0
def tw2201264443137935955:=0
def tw5854742120507326820:=0
def tw16084041203602874191:=0
def tw508231151689865144:=0
def tw18352957963039487887:=0
def tw10207479012025857172:=0
def tw2017579321457546527:=0
def tw16719813772393732333:=0
def tw8114018184168371488:=0
def tw14898449749007654574:=0
def tw10840371516785611288:=0
def tw5923369422586973342:=0
def tw7228252063395881720:=0
def tw2186332373938040488:=0
def tw2731030294171222598:=0
def tw12902491689800544747:=0
def tw10432813853548379106:=0
def tw13418079019063551340:=0
def tw3022830810469260334:=0
def tw10312421995869148054:=0
def tw3198250958537695289:=0
def tw7060395773723438453:=0
def tw16392112054930288136:=0
def tw14513588791480643174:=0
def tw5623580730589511292:=0
def tw7673751805650767750:=0
def tw12277315498031909195:=0
def tw5435085671844759549:=0
def tw3991036170606560385:=0
def tw18396100839586673415:=0
def tw11865267914547340923:=0
def tw11085577279544651063:=0
def tw6038997565459786292:=0
def tw15113797170022888581:=0
def tw4895416958999811799:=0
def tw5086844767123234901:=0
def tw5166838439871497234:=0
def tw709848953973524662:=0
def tw18092704550582932093:=0
def tw7516170650555172053:=0
def tw9730285973105078206:=0
def tw10014471667167685370:=0
def tw17264347883869831721:=0
def tw3579825461018082839:=0
def tw10741585571275872338:=0
def tw13649846348819935146:=0
def tw8795432139235545505:=0
def tw3662151168347946626:=0
def tw2902833248655239519:=0
def tw3706196185689144979:=0
def tw3600589248663202588:=0
def tw14110328934380211111:=0
def tw1379538942835578736:=0
def tw12275858950780366887:=0
def tw5150676791416263427:=0
def tw12333422711622789497:=0
def tw10293263994908881535:=0
def tw11057211925928429013:=0
def tw12189063400844072144:=0
def tw16672896606151434483:=0
def tw5110362052305144999:=0
def tw16216846784271119623:=0
def tw9188692230256006197:=0
def tw3950703451233494863:=0
def tw8769837155790771572:=0
def tw5905114657519678381:=0
def tw11233463537538620569:=0
def tw14745529387678689410:=0
def tw9170276305960843628:=0
def tw17470381916238292817:=0
def tw17963264653573858305:=0
def tw17076213190344097785:=0
def tw5159754092044364314:=0
def tw16519744993911693476:=0
def tw9456752097947972528:=0
def tw5829457029687977258:=0
def tw8432144672841094268:=0
def tw7779297316186573103:=0
def tw9928614286502029980:=0
def tw10359417327681990274:=0
def tw4663884146020965003:=0
def tw3877949066593368754:=0
def tw14441715890116351603:=0
def tw4997551855996396848:=0
def tw14126485811379461101:=0
def tw12977501719667334546:=0
def tw16188890767177914995:=0
def tw5648114853385757329:=0
def tw4775386256677759025:=0
def tw7336736483191512163:=0
def tw14218602806994471953:=0
def tw14430665899330654353:=0
def tw8206428812638976734:=0
def tw1851633565411088367:=0
def tw14756614150053366280:=0
def tw17488141910278380439:=0
def tw1367124561885321691:=0
def tw7429784793660695330:=0
def tw2202767769557743578:=0
def tw15336182502172812132:=0
def tw1680189765556076260:=0
def tw3803579663570836798:=0
def tw17989749807134749909:=0
def tw4454700794308848059:=0
def tw1580505960452703179:=0
def tw16366474960380051160:=0
def tw6290610929349221731:=0
def tw1322534782701068534:=0
def tw12624852220966586073:=0
def tw12437224587308419309:=0
def tw10568708036023856391:=0
def tw12063748212813356448:=0
def tw2813875937344483902:=0
def tw18156764322950708396:=0
def tw15402110726719655217:=0
def tw8993829071354716805:=0
def tw16691894889549400370:=0
def tw14749691562446327985:=0
def tw4452539774979026948:=0
def tw10099960176722522250:=0
def tw9556859721975618891:=0
def tw17597881088019565856:=0
def tw17674130987060189938:=0
def tw9474687818634224873:=0
def tw7844183135507517654:=0
def tw7953872652695038089:=0
def tw1975414339032961787:=0
def tw12448286199549197723:=0
def tw15149639287817929095:=0
def tw16776306255473919396:=0
def tw13730134594306694967:=0
def tw7136576721794757169:=0
end PySem.W.Fast
open PySem PySem.W PyProof.Rows
set_option maxRecDepth 100000 in
set_option maxHeartbeats 0 in
theorem PySem.Challenge.cw_quarterhouse_s01_answers_holds : PySem.Challenge.rw_quarterhouse_s01_answers.Holds := by
 w_on;k_headS;(case hw=>exact⟨[.list [.int 23]],by decide +kernel,by decide +kernel⟩)
 k_fillS
 refine L2.walk_specU (r:=PySem.Challenge.rw_quarterhouse_s01_answers) (k:=14) (ps:=["calls"]) (sp:=fun K t1 t2=>Q.spAnswers K ⟨t1,t2⟩) (x:="shared_above") (x2:="ask_merit") (by decide +kernel) rfl rfl ⟨rfl,by decide,by decide⟩ (fun w h Y=>PySem.W.kIn_of Y) ⟨_,rfl⟩ ⟨_,rfl⟩ (fun w=>⟨_,_,rfl,rfl,_,rfl⟩) (fun w=>⟨_,_,rfl,rfl,_,rfl⟩) ?hne ?F ?S
 case hne=>
  intro w c tb c2 tb2 h1 h2
  cases (show some ((23:Addr),(21:Addr))=some (c,tb)from h1)
  cases (show some ((476:Addr),(474:Addr))=some (c2,tb2)from h2)
  decide
 case F=>
  intro w mg fa c tb c2 tb2 h Y KX G hmg ht ht2
  cases (show some ((23:Addr),(21:Addr))=some (c,tb)from ht)
  cases (show some ((476:Addr),(474:Addr))=some (c2,tb2)from ht2)
  refine Q.fin hmg ?_ ?_ (fun T0=>?_) (L2.gdict_mk (vs:=(List.range 25).map fun p=>(Q.kN p,.ref (Q.aAd p))) (PySem.W.mg_of KX G rfl) rfl (Q.kv_refs _) ?_ (by decide +kernel)) (L2.gdict_mk (vs:=Q.allKd.map fun k=>(.inr (Q.kName k),.ref (Q.rAd k))) (PySem.W.mg_of KX G rfl) rfl (Q.kv_refs _) ?_ (by decide +kernel)) ?_ (fun k H=>?_) (Q.isDef_mk KX G rfl rfl rfl rfl) (fun base L=>Q.isDefL_mk KX G L rfl rfl rfl rfl) (fun base L=>Q.isDefL_mk KX G L rfl rfl rfl rfl)
  ·constructor
   all_goals first|exact Q.isDef_mk KX G rfl rfl rfl rfl|exact Q.isInit_mk KX G rfl rfl rfl rfl rfl rfl rfl rfl
  ·constructor
   all_goals first|exact PySem.W.mg_none_of KX G rfl|exact⟨rfl,rfl,rfl,rfl⟩|(refine Q.allNo_mk ?_;repeat (first|exact True.intro|refine⟨rfl,?_⟩))
  ·constructor
   all_goals first|exact T0|exact Q.gint_mk KX G rfl
  ·repeat (first|exact True.intro|refine⟨⟨rfl,rfl,rfl⟩,?_⟩)
  ·repeat (first|exact True.intro|refine⟨⟨rfl,rfl,rfl⟩,?_⟩)
  ·repeat (first|exact True.intro|refine⟨fun H=>.inr ⟨_,_,_,rfl,rfl,rfl,by decide,by repeat (first|exact .nil|refine .cons ⟨_,rfl⟩ ?_)⟩,?_⟩)
  ·cases k <;> exact .inr ⟨_,_,_,rfl,rfl,rfl,by decide,.cons ⟨_,rfl⟩ (.cons ⟨_,rfl⟩ .nil)⟩
 case S=>
  intro K t1 t2 H xs a hne h1 h2 hwi hask hx
  cases hx with
  |cons x1 x2=>
   cases x2
   cases x1 with
   |lst hs ha=>
    have e:=L2.ints_dw a.1 _ ha
    subst e
    exact⟨_,a.1,rfl,hs,hask,⟨⟨#[],h1,True.intro,.inl rfl⟩,⟨#[],h2,True.intro,.inl rfl⟩,hne⟩,fun H' r hr t=>⟨.lst (L2.bh.of hr) (L2.dw_ints _),let⟨ps,q,_⟩:=t.1;⟨ps,q⟩,let⟨ps,q,_⟩:=t.2.1;⟨ps,q⟩⟩⟩
