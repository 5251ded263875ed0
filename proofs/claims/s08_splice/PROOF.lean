import PyProof.Rows.All
import Wide.All
import OpenK.AllK
import Wide.FinOn
import PyProof.EqAt
import PyProof.EqKinds
import PyProof.TupleCall
import KE.BitLaws
import PyProof.StationsW
import PyProof.InstStoreFacts
import PyProof.ExcInit
import PyProof.ExcArgsOwn
import PyProof.InstLoad
import PyProof.ExcAttrAll.Exception
import PyProof.ExcBaseAll.Exception
import PyProof.RulesAs
import KE.KMinKey
import Open.SpecLaws
import KE.OsHead
import KE.OsGo
import KE.SpHead
import KE.OsShapes
import PySem.Challenge.RW_celltexts_s08_splice
set_option Elab.async false
set_option linter.all false
section
set_option maxRecDepth 100000
namespace L2
open PySem PySem.Spec PyProof.Rows
abbrev Key:=Sum Int Str
def w_:Key->Value->Bool
 | .inl k,v=>Value.isInt k v
 | .inr x,v=>Value.isStrOf x v
def ji2(w:World):Key->Int
 | .inl k=>hashInt k
 | .inr x=>hashStr w x
theorem z7:∀ {k:Key} {v:Value},w_ k v=true->(∃ i t,k=Sum.inl i/\v=Value.int i t)\/(∃ x t,k=Sum.inr x/\v=Value.str x t)
 | .inl i,v,h=>by
  obtain ⟨t,e⟩:=Value.isInt_shape (k:=i) (v:=v) h;exact .inl ⟨i,t,rfl,e⟩
 | .inr x,v,h=>by
  obtain ⟨t,e⟩:=Value.isStrOf_shape (x:=x) (v:=v) h;exact .inr ⟨x,t,rfl,e⟩
theorem jhk(i:Int)(t:Tok):w_ (.inl i) (.int i t)=true:=by simp [w_,Value.isInt]
theorem jue(x:Str)(t:Tok):w_ (.inr x) (.str x t)=true:=by simp [w_,Value.isStrOf]
theorem j0y(a b:Int):decide ((Sum.inl a:Key)=Sum.inl b)=(a == b):=by
 by_cases e:a=b
 ·subst e;simp
 ·have h:¬ (Sum.inl a:Key)=Sum.inl b:=λq=>e (Sum.inl.inj q);rw [decide_eq_false h];exact (beq_eq_false_iff_ne.mpr e).symm
theorem j0v(a b:Str):decide ((Sum.inr a:Key)=Sum.inr b)=decide (a=b):=by
 by_cases e:a=b
 ·subst e;simp
 ·have h:¬ (Sum.inr a:Key)=Sum.inr b:=λq=>e (Sum.inr.inj q);rw [decide_eq_false h,decide_eq_false e]
theorem j0x(a:Int)(b:Str):decide ((Sum.inl a:Key)=Sum.inr b)=false:=decide_eq_false (λq=>nomatch q)
theorem j0w(a:Str)(b:Int):decide ((Sum.inr a:Key)=Sum.inl b)=false:=decide_eq_false (λq=>nomatch q)
def yn(prog:Program)(w:World):PySem.KeyKind prog w Key where
 is:=w_
 hash:=ji2 w
 inj:=λv a b ha hb=>by
  rcases z7 ha with ⟨i,t,rfl,rfl⟩ | ⟨x,t,rfl,rfl⟩
  ·rcases z7 hb with ⟨j,u,rfl,e⟩ | ⟨y,u,rfl,e⟩
   ·injection e with e1 _;rw [e1]
   ·exact nomatch e
  ·rcases z7 hb with ⟨j,u,rfl,e⟩ | ⟨y,u,rfl,e⟩
   ·exact nomatch e
   ·injection e with e1 _;rw [e1]
 byValue:=λk v h=>by
  rcases z7 h with ⟨i,t,rfl,rfl⟩ | ⟨x,t,rfl,rfl⟩ <;> rfl
 pyHash:=λhv h=>by
  rcases z7 hv with ⟨i,t,rfl,rfl⟩ | ⟨x,t,rfl,rfl⟩
  ·exact wpAny_pyHash_int h
  ·exact wpAny_pyHash_str h
 eqBool:=λhu hv h=>by
  rcases z7 hu with ⟨i,t,rfl,rfl⟩ | ⟨x,t,rfl,rfl⟩
  ·rcases z7 hv with ⟨j,u,rfl,rfl⟩ | ⟨y,u,rfl,rfl⟩
   ·rw [j0y] at h;exact wpAny_eqBool_int h
   ·rw [j0x] at h;exact SeqAt.EqAt.int_str i t y u _ _ _ _ h
  ·rcases z7 hv with ⟨j,u,rfl,rfl⟩ | ⟨y,u,rfl,rfl⟩
   ·rw [j0w] at h;exact SeqAt.EqAt.str_int x t j u _ _ _ _ h
   ·rw [j0v] at h;exact wpAny_eqBool_str h
 «strs»:=λk x t v h=>by
  rcases z7 h with ⟨i,u,rfl,e⟩ | ⟨y,u,rfl,e⟩
  ·exact nomatch e
  ·injection e with e1 _;subst e1;cases v <;> rfl
theorem jo3(prog:Program)(w:World)(i:Int)(t:Tok):(yn prog w).is (.inl i) (.int i t)=true:=jhk i t
theorem jo2(prog:Program)(w:World)(x:Str)(t:Tok):(yn prog w).is (.inr x) (.str x t)=true:=jue x t
inductive V where
 | non | bl (b:Bool) | int (i:Int) | str (x:Str) | byt (b:Array UInt8) | flt (b:UInt64) | ref (a:Addr) | ty (n:String)
 deriving DecidableEq
def xj:V->Value->Prop
 | .non,u=>u=Value.none
 | .bl b,u=>u=Value.bool b
 | .int i,u=>∃ t,u=Value.int i t
 | .str x,u=>∃ t,u=Value.str x t
 | .byt b,u=>∃ t,u=Value.bytes b t
 | .flt b,u=>∃ t,u=Value.float b t
 | .ref a,u=>u=Value.ref a
 | .ty n,u=>u=Value.type n
abbrev q_:List V->List Value->Prop:=Paired xj
theorem q_.length{xs:List V}{us:List Value}(r:q_ xs us):xs.length=us.length:=Paired.length r
theorem q_.get:∀ {xs:List V} {us:List Value} {i:Nat} {x:V},q_ xs us->xs[i]? = some x->∃ u,us[i]? = some u/\xj x u
 | _,_,_,_,.nil,e=>by simp at e
 | _,_,0,_,.cons r _,e=>by simp at e;subst e;exact ⟨_,rfl,r⟩
 | _,_,i + 1,x,.cons _ t,e=>by
  obtain ⟨u,h1,h2⟩:=q_.get (i:=i) (x:=x) t (by simpa using e);exact ⟨u,by simpa using h1,h2⟩
theorem q_.append:∀ {xs ys:List V} {us ws:List Value},q_ xs us->q_ ys ws->q_ (xs ++ ys) (us ++ ws)
 | _,_,_,_,.nil,s=>s
 | _,_,_,_,.cons r t,s=>.cons r (q_.append t s)
theorem q_.take:∀ {xs:List V} {us:List Value} (n:Nat),q_ xs us->q_ (xs.take n) (us.take n)
 | _,_,0,_=>.nil
 | _,_,_ + 1,.nil=>.nil
 | _,_,n + 1,.cons r t=>.cons r (q_.take n t)
theorem q_.drop:∀ {xs:List V} {us:List Value} (n:Nat),q_ xs us->q_ (xs.drop n) (us.drop n)
 | _,_,0,r=>r
 | _,_,_ + 1,.nil=>.nil
 | _,_,n + 1,.cons _ t=>q_.drop n t
def vo:Option V->Option Value->Prop
 | some v,some u=>xj v u
 | none,none=>True
 | _,_=>False
def KV{κ:Type}:List (κ×V)->List (κ×Value)->Prop:=Paired λ(p:κ×V) (q:κ×Value)=>p.1=q.1/\xj p.2 q.2
def kV:Key->V
 | .inl i=>.int i
 | .inr x=>.str x
inductive HO where
 | lst (xs:List V)
 | tup (xs:List V)
 | dK (kvs:List (Key×V)) | dT (kvs:List (List Key×V))
 | set (S:Int->Bool) (n:Nat)
 | ins (C dx:Addr) (fs:List (Str×V))
 | own (x:Addr)
 | xd (fs:List (Str×V))
 | met (f x:Addr)
 | rng (lo hi:Int)
 | frz (o:Obj) (u:HO)
 | tbl (ps:Array Value)
 | ext (φ:Heap->Prop)
abbrev Hp:=Addr->Option HO
def upd(H:Hp)(a:Addr)(o:HO):Hp:=λb=>if b=a then some o else H b
theorem jd{H:Hp}{a:Addr}{o:HO}:upd H a o a=some o:=by unfold upd;rw [if_pos rfl]
theorem jm{H:Hp}{a b:Addr}{o:HO}(h:b≠a):upd H a o b=H b:=by unfold upd;rw [if_neg h]
theorem jb2{H:Hp}{a:Addr}{o u:HO}:upd (upd H a o) a u=upd H a u:=by
 funext b;unfold upd;split <;> rfl
theorem qt{H:Hp}{a b:Addr}{o:HO}(h:H a=some o)(h':H b=none):a≠b:=by
 intro e;subst e;rw [h] at h';cases h'
section
variable(P:Program)(w:World)
def y6(H:Hp)(h:Heap)(a:Addr):HO->Prop
 | .lst xs=>xs.length<=sizeLine/\∃ (its:List Value) (n:Nat),q_ xs its/\h.get? a=some { cls:=.type "list",data:=.seq its.toArray n }
 | .tup xs=>xs.length<=sizeLine/\∃ its:List Value,q_ xs its/\IsTup h a its.toArray
 | .dK kvs=>kvs.length<=sizeLine/\(a == sysModules)=false/\∃ vs,KV kvs vs/\h.DictOf (yn P w) a vs
 | .dT kvs=>kvs.length<=sizeLine/\(a == sysModules)=false/\∃ xs:List (List Key×Addr×Value),
   Paired (λ(p:List Key×V) (q:List Key×Addr×Value)=>p.1=q.1/\H q.2.1=some (.tup (p.1.map kV))/\xj p.2 q.2.2) kvs xs/\
   ∃ o es ep,h.get? a=some o/\o.ExactDict/\o.data = .dict es ep/\es.toList=xs.map (entryOfKey (tupleKind (yn P w)))/\(xs.map (·.1)).Nodup
 | .set S n=>h.SetOf (intKind P w) a S n
 | .ins C dx fs=>H dx=some (.own a)/\fs.length<=1000/\dx≠a/\h.get? a=some (PySem.W.instObj C dx)/\
   ∃ mA,h.Ns1 dx mA/\(∀ f,vo (fs.lookup f) (mA f))/\PySem.Within mA (fs.map (·.1))
 | .own _=>∃ o,h.get? a=some o
 | .xd fs=>∃ mA,h.Ns1 a mA/\∀ f,vo (fs.lookup f) (mA f)
 | .rng lo hi=>∃ t u v,h.get? a=some { cls:=.type "range",data:=.fields #[.int lo t,.int hi u,.int 1 v] }
 | .frz o u=>h.get? a=some o/\y6 H h a u
 | .tbl ps=>h.get? a=some { cls:=.none,data:=.fields ps }
 | .met f x=>h.get? a=some (PySem.W.methodObj (.ref f) (.ref x))
 | .ext φ=>φ h/\(∃ o,h.get? a=some o)/\∀ h1 h2:Heap,φ h1->(∀ o,h1.get? a=some o->h2.get? a=some o)->φ h2
def HOk(H:Hp)(h:Heap):Prop:=∀ a o,H a=some o->y6 P w H h a o
end
section
variable{P:Program}{w:World}{H H':Hp}{h h':Heap}{a:Addr}{o:HO}
theorem y6.lt(x:y6 P w H h a o):a < h.objs.size:=by
 cases o with
 | lst xs=>obtain ⟨_,_,_,_,e⟩:=x;exact Heap.lt_size e
 | tup xs=>obtain ⟨_,_,_,p⟩:=x;exact p.lt
 | dK kvs=>obtain ⟨_,_,_,_,o,_,_,e,_⟩:=x;exact Heap.lt_size e
 | dT kvs=>obtain ⟨_,_,_,_,o,_,_,e,_⟩:=x;exact Heap.lt_size e
 | set S n=>obtain ⟨o,_,_,_,e,_⟩:=x;exact Heap.lt_size e
 | ins C dx fs=>obtain ⟨_,_,_,e,_⟩:=x;exact Heap.lt_size e
 | own y=>obtain ⟨_,e⟩:=x;exact Heap.lt_size e
 | xd fs=>obtain ⟨_,⟨_,_,_,e,_⟩,_⟩:=x;exact Heap.lt_size e
 | rng lo hi=>obtain ⟨_,_,_,e⟩:=x;exact Heap.lt_size e
 | frz ob u=>obtain ⟨e,_⟩:=x;exact Heap.lt_size e
 | tbl ps=>exact Heap.lt_size (show h.get? a=some _ from x)
 | met f y=>exact Heap.lt_size (show h.get? a=some _ from x)
 | ext φ=>obtain ⟨_,⟨_,e⟩,_⟩:=x;exact Heap.lt_size e
theorem Paired.mapP{α β:Type}{F G:α->β->Prop}:∀ {l₁:List α} {l₂:List β},Paired F l₁ l₂->(∀ a b,F a b->G a b)->Paired G l₁ l₂
 | _,_,.nil,_=>.nil
 | _,_,.cons r t,f=>.cons (f _ _ r) (Paired.mapP t f)
theorem y6.stay(x:y6 P w H h a o)(k:∀ b u,(b=a\/H b=some (.own a))->h.get? b=some u->h'.get? b=some u)
  (ho:∀ b,H b=some (.own a)->H' b=some (.own a)) (ht:∀ b xs,H b=some (.tup xs)->H' b=some (.tup xs)):y6 P w H' h' a o:=by
 induction o with
 | lst xs=>obtain ⟨z,its,n,r,e⟩:=x;exact ⟨z,its,n,r,k _ _ (.inl rfl) e⟩
 | tup xs=>obtain ⟨z,its,r,ob,e,c⟩:=x;exact ⟨z,its,r,ob,k _ _ (.inl rfl) e,c⟩
 | dK kvs=>obtain ⟨z,y,vs,r,ob,es,ep,e,c⟩:=x;exact ⟨z,y,vs,r,ob,es,ep,k _ _ (.inl rfl) e,c⟩
 | dT kvs =>
  obtain ⟨z,y,xs,r,ob,es,ep,e,c⟩:=x;exact ⟨z,y,xs,Paired.mapP r λp q z=>⟨z.1,ht _ _ z.2.1,z.2.2⟩,ob,es,ep,k _ _ (.inl rfl) e,c⟩
 | set S n=>obtain ⟨ob,es,ep,t,e,c⟩:=x;exact ⟨ob,es,ep,t,k _ _ (.inl rfl) e,c⟩
 | ins C dx fs =>
  obtain ⟨d,z,ne,e,mA,⟨od,es,ep,e2,c⟩,r⟩:=x;exact ⟨ho _ d,z,ne,k _ _ (.inl rfl) e,mA,⟨od,es,ep,k _ _ (.inr d) e2,c⟩,r⟩
 | own y=>obtain ⟨ob,e⟩:=x;exact ⟨ob,k _ _ (.inl rfl) e⟩
 | xd fs=>obtain ⟨mA,⟨od,es,ep,e,c⟩,r⟩:=x;exact ⟨mA,⟨od,es,ep,k _ _ (.inl rfl) e,c⟩,r⟩
 | rng lo hi=>obtain ⟨t,u,v,e⟩:=x;exact ⟨t,u,v,k _ _ (.inl rfl) e⟩
 | frz ob u ih=>obtain ⟨e,q⟩:=x;exact ⟨k _ _ (.inl rfl) e,ih q⟩
 | tbl ps =>
  have e:h.get? a=some { cls:=.none,data:=.fields ps }:=x;show h'.get? a=some { cls:=.none,data:=.fields ps }
  exact k a _ (.inl rfl) e
 | met f y =>
  have e:h.get? a=some (PySem.W.methodObj (.ref f) (.ref y)):=x;show h'.get? a=some (PySem.W.methodObj (.ref f) (.ref y))
  exact k a _ (.inl rfl) e
 | ext φ=>obtain ⟨p,⟨o,e⟩,st⟩:=x;exact ⟨st _ _ p λo q=>k _ _ (.inl rfl) q,⟨o,k _ _ (.inl rfl) e⟩,st⟩
theorem HOk.lt(x:HOk P w H h)(e:H a=some o):a < h.objs.size:=(x a o e).lt
theorem HOk.fresh(x:HOk P w H h)(e:h.objs.size<=a):H a=none:=by
 cases q:H a with
 | none=>rfl
 | some u=>exact absurd (Nat.lt_of_lt_of_le (x.lt q) e) (Nat.lt_irrefl _)
theorem HOk.kept(x:HOk P w H h)(k:∀ b u,h.get? b=some u->h'.get? b=some u):HOk P w H h':=λa o e =>
 (x a o e).stay (λb u _ q=>k b u q) (λ_ q=>q) λ_ _ q=>q
theorem HOk.laid(x:HOk P w H h)(k:∀ b u,h.get? b=some u->h'.get? b=some u)(hp:h.objs.size<=a)(new:y6 P w (upd H a o) h' a o):HOk P w (upd H a o) h':=λb u e=>by
 have hn:=x.fresh hp;by_cases hb:b=a
 ·subst hb;rw [jd] at e;cases e;exact new
 ·rw [jm hb] at e;exact (x b u e).stay (λc v _ q=>k c v q) (λc q=>by rw [jm (qt q hn)];exact q) λc xs q=>by rw [jm (qt q hn)];exact q
end
def Rd(H:Hp)(a:Addr)(u:HO):Prop:=H a=some u\/∃ o,H a=some (.frz o u)
theorem Rd.ok{P:Program}{w:World}{H:Hp}{h:Heap}{a:Addr}{u:HO}(r:Rd H a u)(x:HOk P w H h):y6 P w H h a u:=by
 rcases r with r | ⟨o,r⟩
 ·exact x a u r
 ·obtain ⟨_,q⟩:=x a _ r;exact q
def Mut:Option HO->Prop
 | some (.lst _)=>True
 | some (.dK _)=>True
 | some (.dT _)=>True
 | some (.set _ _)=>True
 | some (.ins _ _ _)=>True
 | some (.ext _)=>True
 | _=>False
section
variable{P:Program}{w:World}{H:Hp}{h h':Heap}{x e:Addr}{o':HO}
theorem HOk.write(ok:HOk P w H h)(mu:Mut (H x))(he:e=x\/H e=some (.own x))(k:∀ b u,b≠e->h.get? b=some u->h'.get? b=some u)(heo:∃ u,h'.get? e=some u)
  (new:y6 P w (upd H x o') h' x o'):HOk P w (upd H x o') h':=λb u q=>by
 have nown:∀ c y,H c=some (.own y)->c≠x:=λc y r z=>by subst z;rw [r] at mu;exact mu
 have ntup:∀ c xs,H c=some (.tup xs)->c≠x:=λc xs r z=>by subst z;rw [r] at mu;exact mu
 by_cases hb:b=x
 ·subst hb;rw [jd] at q;cases q;exact new
 ·rw [jm hb] at q;by_cases hbe:b=e
  ·have q':H b=some (.own x):=by
    rcases he with z | z
    ·exact absurd (hbe.trans z) hb
    ·rw [hbe];exact z
   rw [q] at q';cases q';obtain ⟨v,hv⟩:=heo;exact ⟨v,by rw [hbe];exact hv⟩
  ·refine (ok b u q).stay (λc v hc r=>k c v ?_ r) (λc r=>by rw [jm (nown c b r)];exact r) λc xs r=>by rw [jm (ntup c xs r)];exact r
   rcases hc with rfl | hc
   ·exact hbe
   ·rintro rfl;rcases he with z | z
    ·exact nown c b hc z
    ·rw [hc] at z;cases z;exact hb rfl
end
structure Un(fs ex:List Addr)(H H':Hp)(h h':Heap):Prop where
 keep:∀ b o,h.get? b=some o->H b=none->b∉fs->b∉ex->h'.get? b=some o
 slot:∀ b o,h.get? b=some o->H b=none->b∈fs->b∉ex->∃ sl,h'.get? b=some { o with slots:=sl }
 free:∀ b o,h.get? b=some o->H b=none->b∉ex->H' b=none
 there:∀ b o,h.get? b=some o->b∉ex->∃ o',h'.get? b=some o'
 tups:∀ b xs,H b=some (.tup xs)->H' b=some (.tup xs)
 frzs:∀ b o u,H b=some (.frz o u)->H' b=some (.frz o u)
 tbls:∀ b ps,H b=some (.tbl ps)->∃ more,H' b=some (.tbl (ps ++ more))
section
variable{fs fs' ex ex':List Addr}{H H1 H2:Hp}{h h1 h2 h':Heap}{a x e:Addr}{o:HO}
theorem Un.any(u:Un fs ex H H1 h h1){b:Addr}{ob:Obj}(q:h.get? b=some ob)(n:H b=none)(hx:b∉ex):∃ sl,h1.get? b=some { ob with slots:=sl }:=by
 by_cases hb:b∈fs
 ·exact u.slot b ob q n hb hx
 ·exact ⟨ob.slots,u.keep b ob q n hb hx⟩
theorem Un.kept(k:∀ b u,h.get? b=some u->h'.get? b=some u):Un fs ex H H h h' :=
 ⟨λb ob q _ _ _=>k b ob q,λb ob q _ _ _=>⟨ob.slots,k b ob q⟩,λ_ _ _ n _=>n,λb ob q _=>⟨ob,k b ob q⟩,λ_ _ q=>q,λ_ _ _ q=>q,λ_ ps q=>⟨#[],by rw [q];simp⟩⟩
theorem Un.refl:Un fs ex H H h h:=Un.kept λ_ _ q=>q
theorem Un.laid(k:∀ b u,h.get? b=some u->h'.get? b=some u)(hp:h.objs.size<=a)(hn:H a=none):Un fs ex H (upd H a o) h h' where
 keep:=λb u q _ _ _=>k b u q
 slot:=λb u q _ _ _=>⟨u.slots,k b u q⟩
 free:=λb u q n _=>by rw [jm (Nat.ne_of_lt (Nat.lt_of_lt_of_le (Heap.lt_size q) hp))];exact n
 there:=λb u q _=>⟨u,k b u q⟩
 tups:=λb xs q=>by rw [jm (qt q hn)];exact q
 frzs:=λb u xs q=>by rw [jm (qt q hn)];exact q
 tbls:=λb ps q=>⟨#[],by rw [jm (qt q hn),q];simp⟩
theorem Un.write(mu:Mut (H x))(he:e=x\/H e=some (.own x))(k:∀ b u,b≠e->h.get? b=some u->h'.get? b=some u)(heo:∃ u,h'.get? e=some u):Un fs ex H (upd H x o) h h':=by
 have hx:∀ b,H b=none->b≠x:=λb n z=>by subst z;rw [n] at mu;exact mu
 have hb:∀ b,H b=none->b≠e:=λb n z=>by
  subst z;rcases he with r | r
  ·exact hx b n r
  ·rw [n] at r;cases r
 have hm:∀ b u,H b=some u->¬ Mut (some u)->b≠x:=λb u q nm z=>by subst z;rw [q] at mu;exact nm mu
 refine ⟨λb u q n _ _=>k b u (hb b n) q,λb u q n _ _=>⟨u.slots,k b u (hb b n) q⟩,λb u q n _=>by rw [jm (hx b n)];exact n,λb u q _=>?_,
  λb xs q=>by rw [jm (hm b _ q λz=>z)];exact q,λb u xs q=>by rw [jm (hm b _ q λz=>z)];exact q,λb ps q=>⟨#[],by rw [jm (hm b _ q λz=>z),q];simp⟩⟩
 by_cases hbe:b=e
 ·subst hbe;exact heo
 ·exact ⟨u,k b u hbe q⟩
end
def trk(h:Heap)(H:Hp):List Addr:=(List.range h.objs.size).filter λa=>(H a).isSome
def jgl(h:Heap)(H:Hp):Heap:=PySem.W.hideAll h (trk h H)
theorem juh(h:Heap)(H:Hp):(jgl h H).objs.size=h.objs.size:=PySem.W.hideAll_size _ _
theorem jwq{h:Heap}{H:Hp}{b:Addr}{o:Obj}(e:h.get? b=some o)(n:H b=none):(jgl h H).get? b=some o :=
 PySem.W.hideAll_get _ e λhm=>by
  have q:(H b).isSome=true:=(List.mem_filter.mp hm).2;rw [n] at q;simp at q
theorem jyy{h:Heap}{H:Hp}{b:Addr}{o:Obj}(e:(jgl h H).get? b=some o):h.get? b=some o/\H b=none:=by
 have e':h.get? b=some o:=PySem.W.of_hideAll (trk h H) e;refine ⟨e',?_⟩;cases q:H b with
 | none=>rfl
 | some x =>
  have hm:b∈trk h H:=List.mem_filter.mpr ⟨List.mem_range.mpr (Heap.lt_size e'),by simp [q]⟩;have z:(jgl h H).get? b=none:=PySem.W.hideAll_none (trk h H) hm
  rw [z] at e;cases e
structure Mod(K:PySem.W.Frag)(mg:Str->Option Value)(base:Heap):Prop where
 kin:K.In base
 glob:base.Ns mainGlobals mg
 blt:∃ mb,base.Ns builtinsNs mb/\∀ x:Str,x≠"__name__"->mb x=bootBuiltins x
 nolimit:base.NoLimit
structure Cx where
 prog:Program
 w:World
 K:PySem.W.Frag
 mg:Str->Option Value
 base:Heap
 A:Around
 N:List Str
 s_0:Shared
 H_0:Hp
 env:Env
 outer:List Env
 stack:List Env
 ex:List Addr
 fn:Str->Bool
 calm:Bool
 pn:List (Addr×Obj)
 xe:Value->Shared->Prop
def frs(l:List Env):List Addr:=l.filterMap (·.frame)
abbrev Cx.fs(X:Cx):List Addr:=frs X.outer
def Vis(sc:Scope)(x:Str):Prop:=sc.names.lookup x=some .local\/sc.names.lookup x=some .cell\/sc.names.lookup x=some .free
def Loc(sc:Scope)(x:Str):Prop:=sc.names.lookup x=some .local\/sc.names.lookup x=some .cell
def j2x(env:Env)(h:Heap)(m:Str->Option Value)(x:Str)(u:Value):Prop :=
 (env.kindOf x=some .local/\m x=some u)\/((env.kindOf x=some .cell\/env.kindOf x=some .free)/\∃ c,env.cells.lookup x=some c/\h.IsCell c (some u))
structure Cx.Ok(X:Cx):Prop where
 mod:Mod X.K X.mg X.base
 kind:X.env.scope.kind = .function
 glob:X.env.globals=mainGlobals
 blt:X.env.builtins=builtinsNs
 above:X.s_0.heap.objs.size<=X.env.locals
 inj:∀ x y c,X.env.cells.lookup x=some c->X.env.cells.lookup y=some c->x=y
 has:∀ x,(X.env.kindOf x=some .cell\/X.env.kindOf x=some .free)->∃ c,X.env.cells.lookup x=some c
 cab:∀ x c,X.fn x=true->X.env.cells.lookup x=some c->X.s_0.heap.objs.size<=c
 hd:X.calm=true->X.A.handled=none
 frames:X.A.frames=some X.stack
 stk:X.stack=X.outer\/(X.stack=X.env::X.outer/\X.env.frame=some X.env.locals)
 exf:∀ b∈X.ex,b≠X.env.locals/\∀ x c,X.env.cells.lookup x=some c->c≠b
 bs:∀ b o,X.base.get? b=some o->X.s_0.heap.get? b=some o/\X.H_0 b=none
 bsz:X.base.objs.size<=X.s_0.heap.objs.size
 noex:∀ b o,X.base.get? b=some o->b∉X.ex
 exfs:∀ b∈X.ex,b∉X.fs
 funs:X.s_0.heap.FunFrames X.base X.outer
 frf:∀ b∈X.fs,X.H_0 b=none
structure Inv(X:Cx)(pins:List (Addr×Obj))(σ:List (Option V))(H:Hp)(s:Shared):Prop where
 ok:X.Ok
 os:s.os=X.s_0.os
 bare:AllBare s.gens
 base:Un X.fs X.ex X.H_0 H X.s_0.heap s.heap
 loc:∃ m,s.heap.Ns X.env.locals m/\∀ (i:Nat) (x:Str) (v:V),X.N[i]? = some x->σ[i]? = some (some v)->Vis X.env.scope x->∃ u,xj v u/\j2x X.env s.heap m x u
 cell:∀ x c,X.env.cells.lookup x=some c->∃ v,s.heap.IsCell c v
 free:H X.env.locals=none
 freeC:∀ x c,X.env.cells.lookup x=some c->H c=none
 pin:∀ p∈X.pn ++ pins,s.heap.get? p.1=some p.2/\H p.1=none/\p.1≠X.env.locals/\p.1∉X.fs/\∀ v,p.2.data≠.cell v
 hok:HOk X.prog X.w H s.heap
 len:σ.length=X.N.length
section
variable{X:Cx}{pins:List (Addr×Obj)}{σ:List (Option V)}{H H':Hp}{s:Shared}{h':Heap}
theorem Cx.Ok.nofr(ok:X.Ok){b:Addr}{o:Obj}(e:X.base.get? b=some o):b∉X.fs:=λhb=>by
 have:=(ok.funs.mem hb).1;rw [e] at this;cases this
theorem Inv.bs(I:Inv X pins σ H s):∀ b o,X.base.get? b=some o->s.heap.get? b=some o/\H b=none:=λb o e =>
 ⟨I.base.keep b o (I.ok.bs b o e).1 (I.ok.bs b o e).2 (I.ok.nofr e) (I.ok.noex b o e),I.base.free b o (I.ok.bs b o e).1 (I.ok.bs b o e).2 (I.ok.noex b o e)⟩
theorem Inv.bk(I:Inv X pins σ H s):∀ b o,X.base.get? b=some o->s.heap.get? b=some o:=λb o e=>(I.bs b o e).1
theorem Inv.mod(I:Inv X pins σ H s):Mod X.K X.mg X.base:=I.ok.mod
theorem Inv.kIn(I:Inv X pins σ H s):X.K.In s.heap:=I.ok.mod.kin.keeps I.bk
theorem Inv.fr(I:Inv X pins σ H s):∃ m,Fr X.base X.env.locals s.heap m :=
 let ⟨m,hn,_⟩:=I.loc
 ⟨m,hn,I.bk,Nat.le_trans I.ok.bsz I.ok.above⟩
theorem Inv.lt(I:Inv X pins σ H s):X.env.locals < s.heap.objs.size:=let ⟨_,hn,_⟩:=I.loc;hn.lt
theorem Inv.sz(I:Inv X pins σ H s):X.s_0.heap.objs.size<=s.heap.objs.size:=Nat.le_trans I.ok.above (Nat.le_of_lt I.lt)
theorem Inv.nofs(I:Inv X pins σ H s){a:Addr}(h:s.heap.objs.size<=a):a∉X.fs:=λhb=>by
 obtain ⟨_,o,ho,_⟩:=I.ok.funs.mem hb;exact absurd (Nat.lt_of_lt_of_le (Heap.lt_size ho) (Nat.le_trans I.sz h)) (Nat.lt_irrefl _)
theorem Inv.cne(I:Inv X pins σ H s):∀ x c,X.env.cells.lookup x=some c->c≠X.env.locals:=λx c e z=>by
 obtain ⟨v,o,ho,hd⟩:=I.cell x c e;obtain ⟨m,⟨o',es,ep,ho',hd',_⟩,_⟩:=I.loc;rw [z,ho'] at ho;cases ho;rw [hd'] at hd;cases hd
theorem Inv.funs(I:Inv X pins σ H s):s.heap.FunFrames X.base X.outer:=by
 have all:∀ (l:List Env),(∀ b∈frs l,b∈X.fs)->X.s_0.heap.FunFrames X.base l->s.heap.FunFrames X.base l:=by
  intro l;induction l with
  | nil=>intro _ _;trivial
  | cons env r ih =>
   intro hs hl;obtain ⟨hk,⟨L,o,hf,hn,ho,hd⟩,hr⟩:=hl;have hL:L∈X.fs:=hs L (by unfold frs;rw [List.filterMap_cons,hf];exact List.mem_cons_self)
   obtain ⟨sl,e⟩:=I.base.slot L o ho (I.ok.frf L hL) hL λz=>I.ok.exfs L z hL;exact ⟨hk,⟨L,_,hf,hn,e,hd⟩,ih (λb hb=>hs b (by unfold frs;rw [List.filterMap_cons,hf];exact List.mem_cons_of_mem _ hb)) hr⟩
 exact all X.outer (λ_ hb=>hb) I.ok.funs
theorem Inv.stack(I:Inv X pins σ H s):s.heap.FunFrames X.base X.stack:=by
 rcases I.ok.stk with e | ⟨e,hf⟩
 ·rw [e];exact I.funs
 ·rw [e];obtain ⟨m,hn,_⟩:=I.loc;refine .cons (by rw [I.ok.kind];decide) hf hn ?_ I.funs;exact Heap.get?_none_of_le (Nat.le_trans I.ok.bsz I.ok.above)
theorem Inv.stkSub(I:Inv X pins σ H s):∀ b∈frs X.stack,b∈X.env.locals::X.fs:=λb hb=>by
 rcases I.ok.stk with e | ⟨e,hf⟩
 ·rw [e] at hb;exact List.mem_cons_of_mem _ hb
 ·rw [e] at hb;unfold frs at hb;rw [List.filterMap_cons,hf] at hb;exact hb
theorem Inv.stkFree(I:Inv X pins σ H s):∀ b∈frs X.stack,H b=none:=λb hb=>by
 rcases List.mem_cons.mp (I.stkSub b hb) with e | hb
 ·rw [e];exact I.free
 ·obtain ⟨_,o,ho,_⟩:=I.ok.funs.mem hb;exact I.base.free b o ho (I.ok.frf b hb) λz=>I.ok.exfs b z hb
theorem Inv.step{g':Array GenState}{t':Nat}{d':Drawn}{ch:List Addr}(I:Inv X pins σ H s)
  (hch:∀ b∈ch,(b∈X.ex\/X.s_0.heap.objs.size<=b)/\b≠X.env.locals/\(∀ x c,X.env.cells.lookup x=some c->c≠b)/\∀ p∈X.pn ++ pins,p.1≠b)
  (keep:∀ b o,b≠X.env.locals->b∉X.fs->b∉ch->s.heap.get? b=some o->H b=none->h'.get? b=some o)
  (slot:∀ b o,b≠X.env.locals->b∈X.fs->b∉ch->s.heap.get? b=some o->H b=none->∃ sl,h'.get? b=some { o with slots:=sl }) (free:∀ b o,b∉ch->s.heap.get? b=some o->H b=none->H' b=none)
  (there:∀ b o,b∉ch->s.heap.get? b=some o->∃ o',h'.get? b=some o')
  (tups:∀ b xs,H b=some (.tup xs)->H' b=some (.tup xs)) (frzs:∀ b o u,H b=some (.frz o u)->H' b=some (.frz o u)) (tbls:∀ b ps,H b=some (.tbl ps)->∃ more,H' b=some (.tbl (ps ++ more)))
  (ns:∀ m,s.heap.Ns X.env.locals m->h'.Ns X.env.locals m) (hok:HOk X.prog X.w H' h') (hg:AllBare g') :
  Inv X pins σ H' { s with heap:=h',gens:=g',drawn:=d',toks:=t' }:=by
 have neL:∀ b o,X.s_0.heap.get? b=some o->b≠X.env.locals:=λb o e=>Nat.ne_of_lt (Nat.lt_of_lt_of_le (Heap.lt_size e) I.ok.above);have neC:∀ b o,X.s_0.heap.get? b=some o->b∉X.ex->b∉ch:=λb o e hx hb=>by
  rcases (hch b hb).1 with z | z
  ·exact hx z
  ·exact absurd (Nat.lt_of_lt_of_le (Heap.lt_size e) z) (Nat.lt_irrefl _)
 have cellK:∀ x c,X.env.cells.lookup x=some c->∀ v,s.heap.IsCell c v->h'.IsCell c v:=λx c e v ⟨o,ho,hd⟩=>by
  have nch:c∉ch:=λz=>(hch c z).2.2.1 x c e rfl;by_cases hc:c∈X.fs
  ·obtain ⟨sl,q⟩:=slot c o (I.cne x c e) hc nch ho (I.freeC x c e);exact ⟨_,q,hd⟩
  ·exact ⟨o,keep c o (I.cne x c e) hc nch ho (I.freeC x c e),hd⟩
 refine ⟨I.ok,I.os,hg,⟨λb o e n hb hx=>?_,λb o e n hb hx=>?_,λb o e n hx=>?_,λb o e hx=>?_,λb xs e=>tups b xs (I.base.tups b xs e),λb o xs e=>frzs b o xs (I.base.frzs b o xs e),λb ps e=>?_⟩,?_,λx c e=>?_,?_,λx c e=>?_,λp hp=>?_,hok,I.len⟩
 ·exact keep b o (neL b o e) hb (neC b o e hx) (I.base.keep b o e n hb hx) (I.base.free b o e n hx)
 ·obtain ⟨sl,e1⟩:=I.base.slot b o e n hb hx;obtain ⟨sl',e2⟩:=slot b _ (neL b o e) hb (neC b o e hx) e1 (I.base.free b o e n hx);exact ⟨sl',e2⟩
 ·obtain ⟨o',e1⟩:=I.base.there b o e hx;exact free b o' (neC b o e hx) e1 (I.base.free b o e n hx)
 ·obtain ⟨o',e1⟩:=I.base.there b o e hx;exact there b o' (neC b o e hx) e1
 ·obtain ⟨m1,e1⟩:=I.base.tbls b ps e;obtain ⟨m2,e2⟩:=tbls b _ e1;exact ⟨m1 ++ m2,by rw [e2,Array.append_assoc]⟩
 ·obtain ⟨m,hn,hl⟩:=I.loc;refine ⟨m,ns m hn,λi x v e1 e2 e3=>?_⟩;obtain ⟨u,r,l⟩:=hl i x v e1 e2 e3;refine ⟨u,r,?_⟩;rcases l with l | ⟨k,c,e,z⟩
  ·exact .inl l
  ·exact .inr ⟨k,c,e,cellK x c e _ z⟩
 ·obtain ⟨v,z⟩:=I.cell x c e;exact ⟨v,cellK x c e v z⟩
 ·obtain ⟨m,⟨o,_,_,ho,_⟩,_⟩:=I.loc;exact free _ o (λz=>(hch _ z).2.1 rfl) ho I.free
 ·obtain ⟨v,o,ho,hd⟩:=I.cell x c e;exact free c o (λz=>(hch c z).2.2.1 x c e rfl) ho (I.freeC x c e)
 ·obtain ⟨e,n,ne,nf,d⟩:=I.pin p hp;have nch:p.1∉ch:=λz=>(hch p.1 z).2.2.2 p hp rfl
  exact ⟨keep p.1 p.2 ne nf nch e n,free p.1 p.2 nch e n,ne,nf,d⟩
theorem Inv.un{t':Nat}(I:Inv X pins σ H s)(u:Un X.fs [] H H' s.heap h')(hok:HOk X.prog X.w H' h'):Inv X pins σ H' { s with heap:=h',toks:=t' }:=by
 obtain ⟨m,⟨o,es,ep,ho,r⟩,_⟩:=id I.loc;obtain ⟨sl,hL⟩:=u.any ho I.free (by simp);exact I.step (g':=s.gens) (d':=s.drawn) (ch:=[]) (λ_ z=>nomatch z) (λb o _ hb _ e n=>u.keep b o e n hb (by simp)) (λb o _ hb _ e n=>u.slot b o e n hb (by simp)) (λb o _ e n=>u.free b o e n (by simp)) (λb o _ e=>u.there b o e (by simp)) u.tups u.frzs u.tbls (λm' hm=>by
  obtain ⟨o',es',ep',ho',r'⟩:=hm;rw [ho] at ho';cases ho';exact ⟨_,es',ep',hL,r'⟩) hok I.bare
theorem Inv.call{g':Array GenState}{t':Nat}{d':Drawn}{ch:List Addr}(I:Inv X pins σ H s)(u:Un (frs X.stack) ch H H' s.heap h')(hok:HOk X.prog X.w H' h')(hg:AllBare g')
  (hch:∀ b∈ch,(b∈X.ex\/X.s_0.heap.objs.size<=b)/\b≠X.env.locals/\(∀ x c,X.env.cells.lookup x=some c->c≠b)/\∀ p∈X.pn ++ pins,p.1≠b) :
  Inv X pins σ H' { s with heap:=h',gens:=g',drawn:=d',toks:=t' }:=by
 obtain ⟨m,⟨o,es,ep,ho,r⟩,_⟩:=id I.loc;obtain ⟨sl,hL⟩:=u.any ho I.free λz=>(hch _ z).2.1 rfl;exact I.step (ch:=ch) hch (λb o hL hb hc e n=>u.keep b o e n (λz=>(List.mem_cons.mp (I.stkSub b z)).elim hL hb) hc) (λb o _ _ hc e n=>u.any e n hc) (λb o hc e n=>u.free b o e n hc) (λb o hc e=>u.there b o e hc) u.tups u.frzs u.tbls (λm' hm=>by
  obtain ⟨o',es',ep',ho',r'⟩:=hm;rw [ho] at ho';cases ho';exact ⟨_,es',ep',hL,r'⟩) hok hg
theorem Inv.turned{t':Nat}{it:Addr}(I:Inv X pins σ H s)(k:∀ b o,b≠it->s.heap.get? b=some o->h'.get? b=some o)(hn:H it=none)(hL:it≠X.env.locals)
  (h1:it∈X.ex\/X.s_0.heap.objs.size<=it) (h2:∀ x c,X.env.cells.lookup x=some c->c≠it) (h3:∀ p∈X.pn ++ pins,p.1≠it):Inv X pins σ H { s with heap:=h',toks:=t' }:=by
 have nit:∀ b u,H b=some u->b≠it:=λb u e z=>by rw [z,hn] at e;cases e
 refine I.step (g':=s.gens) (d':=s.drawn) (ch:=[it]) (λb hb=>?_) (λb o _ _ hc e _=>k b o (λz=>hc (by simp [z])) e) (λb o _ _ hc e _=>⟨o.slots,k b o (λz=>hc (by simp [z])) e⟩) (λ_ _ _ _ n=>n)
  (λb o hc e=>⟨o,k b o (λz=>hc (by simp [z])) e⟩) (λ_ _ e=>e) (λ_ _ _ e=>e) (λb ps e=>⟨#[],by rw [e];simp⟩) (λm hm=>?_) (λb u e=>?_) I.bare
 ·have e:b=it:=by simpa using hb
  subst e;exact ⟨h1,hL,h2,h3⟩
 ·obtain ⟨o,es,ep,ho,r⟩:=hm;exact ⟨o,es,ep,k _ o (Ne.symm hL) ho,r⟩
 ·refine (I.hok b u e).stay (λc v hc q=>k c v ?_ q) (λ_ q=>q) λ_ _ q=>q;rcases hc with z | z
  ·rw [z];exact nit b u e
  ·exact nit c _ z
theorem Inv.tok(I:Inv X pins σ H s)(t:Nat):Inv X pins σ H { s with toks:=t }:=I.un (h':=s.heap) (t':=t) Un.refl I.hok
theorem Inv.kept{t':Nat}(I:Inv X pins σ H s)(k:∀ b u,s.heap.get? b=some u->h'.get? b=some u):Inv X pins σ H { s with heap:=h',toks:=t' }:=I.un (Un.kept k) (I.hok.kept k)
theorem Inv.laid{a:Addr}{o:HO}{t':Nat}(I:Inv X pins σ H s)(k:∀ b u,s.heap.get? b=some u->h'.get? b=some u)(hp:s.heap.objs.size<=a)(new:y6 X.prog X.w (upd H a o) h' a o) :
  Inv X pins σ (upd H a o) { s with heap:=h',toks:=t' }:=I.un (Un.laid k hp (I.hok.fresh hp)) (I.hok.laid k hp new)
theorem Inv.write{x e:Addr}{o:HO}{t':Nat}(I:Inv X pins σ H s)(mu:Mut (H x))(he:e=x\/H e=some (.own x))(k:∀ b u,b≠e->s.heap.get? b=some u->h'.get? b=some u)(heo:∃ u,h'.get? e=some u)
  (new:y6 X.prog X.w (upd H x o) h' x o):Inv X pins σ (upd H x o) { s with heap:=h',toks:=t' }:=I.un (Un.write mu he k heo) (I.hok.write mu he k heo new)
theorem Inv.weak{σ':List (Option V)}(I:Inv X pins σ H s)(hl:σ'.length=σ.length)(w:∀ (i:Nat) v,σ'[i]? = some (some v)->σ[i]? = some (some v)):Inv X pins σ' H s :=
 ⟨I.ok,I.os,I.bare,I.base,let ⟨m,hn,hl'⟩:=I.loc;⟨m,hn,λi x v e1 e2 e3=>hl' i x v e1 (w i v e2) e3⟩,I.cell,I.free,I.freeC,I.pin,I.hok,hl.trans I.len⟩
theorem Inv.pins_of{pins':List (Addr×Obj)}(I:Inv X pins σ H s)(h:∀ p∈pins',s.heap.get? p.1=some p.2/\H p.1=none/\p.1≠X.env.locals/\p.1∉X.fs/\∀ v,p.2.data≠.cell v):Inv X pins' σ H s :=
 ⟨I.ok,I.os,I.bare,I.base,I.loc,I.cell,I.free,I.freeC,λp hp=>(List.mem_append.mp hp).elim (λz=>I.pin p (List.mem_append_left _ z)) (h p),I.hok,I.len⟩
theorem jiw{N:List Str}(hN:N.Nodup){i j:Nat}{x:Str}(a:N[i]? = some x)(b:N[j]? = some x):i=j:=by
 obtain ⟨h1,e1⟩:=List.getElem?_eq_some_iff.mp a;obtain ⟨h2,e2⟩:=List.getElem?_eq_some_iff.mp b;exact (List.getElem_inj hN).mp (e1.trans e2.symm)
theorem jle{M:Model}{A:Around}{E:Value->Shared->Prop}{i:Nat}{x:Str}{v:V}{u:Value}{Q:Unit->Shared->Prop}(I:Inv X pins σ H s)(hN:X.N.Nodup)(hi:X.N[i]? = some x)(hx:Loc X.env.scope x)(r:xj v u)
  (h:∀ s',Inv X pins (σ.set i (some v)) H s'->(∃ a,Heap.SameBut a s.heap s'.heap/\(a=X.env.locals\/X.env.cells.lookup x=some a))->Q () s') (hf:X.fn x=true\/X.env.scope.names.lookup x=some .local:=by first | exact .inl rfl | exact .inr rfl | assumption):wpAny M A (storeName X.env x u) Q E s:=by
 obtain ⟨m,hn,hl⟩:=id I.loc;have hcls:(X.env.scope.kind == .class || (X.env.scope.kind == .module && X.env.locals != X.env.globals))=false:=by rw [I.ok.kind];rfl
 have hiσ:i < σ.length:=by rw [I.len];exact (List.getElem?_eq_some_iff.mp hi).1
 have cne:=I.cne;have tracked:∀ {a:Addr} {h':Heap},(∃ o,s.heap.get? a=some o/\H a=none)->Heap.SameBut a s.heap h'->HOk X.prog X.w H h':=λ{a h'} ha hs b ob e=>by
  obtain ⟨_,_,hfree⟩:=ha;refine (I.hok b ob e).stay (λc w' hc q=>(hs.2 c ?_).trans q) (λ_ q=>q) λ_ _ q=>q;rintro rfl;rcases hc with rfl | hc
  ·rw [hfree] at e;cases e
  ·rw [hfree] at hc;cases hc
 rcases hx with hk | hk
 ·refine wpAny_storeName_local hk hn (λh' hn' hs=>?_) hcls;obtain ⟨oL,_,_,hoL,_⟩:=id hn;refine h _ ⟨I.ok,I.os,I.bare,⟨λb o e n hb hx=>?_,λb o e n hb hx=>?_,I.base.free,λb o e hx=>?_,I.base.tups,I.base.frzs,I.base.tbls⟩,⟨_,hn',λj y v' e1 e2 e3=>?_⟩,λy c e=>?_,I.free,I.freeC,λp hp=>?_,tracked ⟨oL,hoL,I.free⟩ hs,by simpa using I.len⟩ ⟨_,hs,.inl rfl⟩
  ·exact (hs.2 b (Nat.ne_of_lt (Nat.lt_of_lt_of_le (Heap.lt_size e) I.ok.above))).trans (I.base.keep b o e n hb hx)
  ·obtain ⟨sl,e1⟩:=I.base.slot b o e n hb hx;exact ⟨sl,(hs.2 b (Nat.ne_of_lt (Nat.lt_of_lt_of_le (Heap.lt_size e) I.ok.above))).trans e1⟩
  ·obtain ⟨o',e1⟩:=I.base.there b o e hx;exact ⟨o',(hs.2 b (Nat.ne_of_lt (Nat.lt_of_lt_of_le (Heap.lt_size e) I.ok.above))).trans e1⟩
  ·by_cases hj:j=i
   ·subst hj;rw [hi] at e1;cases e1;rw [List.getElem?_set_self hiσ] at e2;cases e2;exact ⟨u,r,.inl ⟨hk,by simp⟩⟩
   ·rw [List.getElem?_set_ne (Ne.symm hj)] at e2;obtain ⟨u',r',q⟩:=hl j y v' e1 e2 e3;refine ⟨u',r',?_⟩;rcases q with ⟨k,e⟩ | ⟨k,c,e,z⟩
    ·refine .inl ⟨k,?_⟩;have:y≠x:=λe=>hj (jiw hN e1 (e▸hi))
     simp [this,e]
    ·exact .inr ⟨k,c,e,z.sameBut hs (cne y c e)⟩
  ·obtain ⟨w',z⟩:=I.cell y c e;exact ⟨w',z.sameBut hs (cne y c e)⟩
  ·obtain ⟨e,n,ne,nf,d⟩:=I.pin p hp;exact ⟨(hs.2 p.1 ne).trans e,n,ne,nf,d⟩
 ·have hfn:X.fn x=true:=by
   rcases hf with z | z
   ·exact z
   ·rw [z] at hk;cases hk
  obtain ⟨c,hc⟩:=I.ok.has x (.inl hk);obtain ⟨w',z⟩:=I.cell x c hc;refine wpAny_storeName_cell I.ok.kind hk hc z (λh' hc' hs=>?_);obtain ⟨oc,hoc,hocd⟩:=id z;refine h { s with heap:=h' } ⟨I.ok,I.os,I.bare,⟨λb o e n hb hx=>?_,λb o e n hb hx=>?_,I.base.free,λb o e hx=>?_,I.base.tups,I.base.frzs,I.base.tbls⟩,⟨m,hn.sameBut hs (Ne.symm (cne x c hc)),λj y v' e1 e2 e3=>?_⟩,λy c' e=>?_,I.free,I.freeC,λp hp=>?_,tracked ⟨oc,hoc,I.freeC x c hc⟩ hs,by simpa using I.len⟩ ⟨c,hs,.inr hc⟩
  ·exact (hs.2 b (Nat.ne_of_lt (Nat.lt_of_lt_of_le (Heap.lt_size e) (I.ok.cab x c hfn hc)))).trans (I.base.keep b o e n hb hx)
  ·obtain ⟨sl,e1⟩:=I.base.slot b o e n hb hx;exact ⟨sl,(hs.2 b (Nat.ne_of_lt (Nat.lt_of_lt_of_le (Heap.lt_size e) (I.ok.cab x c hfn hc)))).trans e1⟩
  ·obtain ⟨o',e1⟩:=I.base.there b o e hx;exact ⟨o',(hs.2 b (Nat.ne_of_lt (Nat.lt_of_lt_of_le (Heap.lt_size e) (I.ok.cab x c hfn hc)))).trans e1⟩
  ·by_cases hj:j=i
   ·subst hj;rw [hi] at e1;cases e1;rw [List.getElem?_set_self hiσ] at e2;cases e2;exact ⟨u,r,.inr ⟨.inl hk,c,hc,hc'⟩⟩
   ·rw [List.getElem?_set_ne (Ne.symm hj)] at e2;obtain ⟨u',r',q⟩:=hl j y v' e1 e2 e3;refine ⟨u',r',?_⟩;rcases q with q | ⟨k,c',e,z'⟩
    ·exact .inl q
    ·refine .inr ⟨k,c',e,z'.sameBut hs ?_⟩;rintro rfl;exact hj (jiw hN e1 (I.ok.inj _ _ _ e hc▸hi))
  ·by_cases hcc:c'=c
   ·subst hcc;exact ⟨_,hc'⟩
   ·obtain ⟨w2,z2⟩:=I.cell y c' e;exact ⟨w2,z2.sameBut hs hcc⟩
  ·obtain ⟨e,n,ne,nf,d⟩:=I.pin p hp;refine ⟨(hs.2 p.1 ?_).trans e,n,ne,nf,d⟩;intro q;rw [q,hoc] at e;have q':oc=p.2:=Option.some.inj e
   exact d w' (by rw [<- q'];exact hocd)
theorem jik{M:Model}{A:Around}{E:Value->Shared->Prop}{i:Nat}{x:Str}{v:V}{u:Value}{Q:Unit->Shared->Prop}(I:Inv X pins σ H s)(hN:X.N.Nodup)(hi:X.N[i]? = some x)(hx:Loc X.env.scope x)(r:xj v u)
  (h:∀ s',Inv X pins (σ.set i (some v)) H s'->Q () s') (hf:X.fn x=true\/X.env.scope.names.lookup x=some .local:=by first | exact .inl rfl | exact .inr rfl | assumption):wpAny M A (storeName X.env x u) Q E s :=
 jle I hN hi hx r (λs' I' _=>h s' I') hf
theorem Inv.call'{s':Shared}{ch:List Addr}(I:Inv X pins σ H s)(ho:s'.os=s.os)(u:Un (frs X.stack) ch H H' s.heap s'.heap)(hok:HOk X.prog X.w H' s'.heap)(hg:AllBare s'.gens)
  (hch:∀ b∈ch,(b∈X.ex\/X.s_0.heap.objs.size<=b)/\b≠X.env.locals/\(∀ x c,X.env.cells.lookup x=some c->c≠b)/\∀ p∈X.pn ++ pins,p.1≠b):Inv X pins σ H' s':=by
 obtain ⟨h',g',d',t',o'⟩:=s';have e:o'=s.os:=ho
 subst e;exact I.call (g':=g') (t':=t') (d':=d') u hok hg hch
end
abbrev XK:=Value->Option Addr->Hp->Prop
abbrev St:=List (Option V)
abbrev VK:=V->Hp->Prop
abbrev TE:=St->Hp->VK->Prop
abbrev TT:=St->Hp->(Bool->Hp->Prop)->Prop
abbrev TA:=St->Hp->(List V->Hp->Prop)->Prop
structure jbf where
 nx:St->Hp->Prop
 rt:VK
 bk:St->Hp->Prop:=λ_ _=>False
 ct:St->Hp->Prop:=λ_ _=>False
abbrev TS:=jbf->St->Hp->Prop
def EP(X:Cx)(pins:List (Addr×Obj))(σ:St)(Q:VK)(u:Value)(s':Shared):Prop:=∃ v H',Inv X pins σ H' s'/\xj v u/\Q v H'
def TP(X:Cx)(pins:List (Addr×Obj))(σ:St)(Q:Bool->Hp->Prop)(b:Bool)(s':Shared):Prop:=∃ H',Inv X pins σ H' s'/\Q b H'
def AP(X:Cx)(pins:List (Addr×Obj))(σ:St)(Q:List V->Hp->Prop)(us:List Value)(s':Shared):Prop:=∃ vs H',Inv X pins σ H' s'/\q_ vs us/\Q vs H'
def SP(X:Cx)(pins:List (Addr×Obj))(D:jbf)(f:Flow)(s':Shared):Prop :=
 match f with
 | .next=>∃ σ' H',Inv X pins σ' H' s'/\D.nx σ' H'
 | .brk=>∃ σ' H',Inv X pins σ' H' s'/\D.bk σ' H'
 | .cont=>∃ σ' H',Inv X pins σ' H' s'/\D.ct σ' H'
 | .ret u=>∃ v σ' H',Inv X pins σ' H' s'/\xj v u/\D.rt v H'
def PE(X:Cx)(e:Expr)(t:TE):Prop :=
 ∀ (pins:List (Addr×Obj)) (s:Shared) (σ:St) (H:Hp) (Q:VK),Inv X pins σ H s->t σ H Q->wpAny (model X.prog X.w) X.A (eval e X.env) (EP X pins σ Q) X.xe s
def PT(X:Cx)(e:Expr)(t:TT):Prop :=
 ∀ (pins:List (Addr×Obj)) (s:Shared) (σ:St) (H:Hp) (Q:Bool->Hp->Prop),Inv X pins σ H s->t σ H Q->wpAny (model X.prog X.w) X.A (isTrue e X.env (eval e X.env)) (TP X pins σ Q) X.xe s
def PW(X:Cx)(e:Expr)(t:TT):Prop :=
 ∀ (whole:Sem Value) (pins:List (Addr×Obj)) (s:Shared) (σ:St) (H:Hp) (Q:Bool->Hp->Prop),Inv X pins σ H s->t σ H Q->wpAny (model X.prog X.w) X.A (isTrue e X.env whole) (TP X pins σ Q) X.xe s
theorem PW.pt{X:Cx}{e:Expr}{t:TT}(h:PW X e t):PT X e t:=h _
def PA(X:Cx)(es:List Expr)(t:TA):Prop :=
 ∀ (pos:Pos) (pins:List (Addr×Obj)) (s:Shared) (σ:St) (H:Hp) (Q:List V->Hp->Prop),Inv X pins σ H s->t σ H Q->wpAny (model X.prog X.w) X.A (spliced (backTo pos (starEach es X.env))) (AP X pins σ Q) X.xe s
def PS(X:Cx)(st:Stmt)(t:TS):Prop :=
 ∀ (pins:List (Addr×Obj)) (s:Shared) (σ:St) (H:Hp) (D:jbf),Inv X pins σ H s->t D σ H->wpAny (model X.prog X.w) X.A (exec st X.env) (SP X pins D) X.xe s
def PSs(X:Cx)(st:List Stmt)(t:TS):Prop :=
 ∀ (pins:List (Addr×Obj)) (s:Shared) (σ:St) (H:Hp) (D:jbf),Inv X pins σ H s->t D σ H->wpAny (model X.prog X.w) X.A (execs st X.env) (SP X pins D) X.xe s
theorem thn{α:Type}{t:Sem α}{Q Q':α->Shared->Prop}{M:Model}{A:Around}{E:Value->Shared->Prop}{s:Shared}(h:wpAny M A t Q E s)(hQ:∀ a s,Q a s->Q' a s):wpAny M A t Q' E s:=wpAny_mono h hQ λ_ _ x=>x
section
variable{X:Cx}
theorem bin{a b:Expr}{ta tb:TE}(ha:PE X a ta)(hb:PE X b tb){pins:List (Addr×Obj)}{s:Shared}{σ:St}{H:Hp}{R:V->V->Hp->Prop}(I:Inv X pins σ H s)(h:ta σ H λx H1=>tb σ H1 λy H2=>R x y H2)
  {α:Type} {Q:α->Shared->Prop} {f:Value->Value->Sem α}
  (hf:∀ v u s2 x y H2,Inv X pins σ H2 s2->xj x v->xj y u->R x y H2->wpAny (model X.prog X.w) X.A (f v u) Q X.xe s2) :
  wpAny (model X.prog X.w) X.A (eval a X.env) (λv s₁=>wpAny (model X.prog X.w) X.A (eval b X.env) (λu s₂=>wpAny (model X.prog X.w) X.A (f v u) Q X.xe s₂) X.xe s₁) X.xe s:=by
 refine thn (ha pins s σ H _ I h) λv s1 ⟨x,H1,I1,r1,q1⟩=>?_;refine thn (hb pins s1 σ H1 _ I1 q1) λu s2 ⟨y,H2,I2,r2,q2⟩=>?_;exact hf v u s2 x y H2 I2 r1 r2 q2
def qy(i:Nat):TE:=λσ H Q=>∃ v,σ[i]? = some (some v)/\Q v H
def tC(v:V):TE:=λ_ H Q=>Q v H
theorem j0h{i:Nat}{x:Str}{pos:Pos}(hN:X.N[i]? = some x)(hv:Vis X.env.scope x)(hd:(x == ("__debug__":Str))=false:=by decide)(hcd:(x == ("__classdict__":Str))=false:=by decide):PE X (.Name x pos) (qy i):=by
 intro pins s σ H Q I h;obtain ⟨v,e,h⟩:=h;obtain ⟨m,hn,hl⟩:=I.loc;obtain ⟨u,r,l⟩:=hl i x v hN e hv;have fin:EP X pins σ Q u s:=⟨v,H,I,r,h⟩
 rcases l with ⟨hk,hm⟩ | ⟨hk,c,hc,hcell⟩
 ·exact wpAny_Name (wpAny_loadName_local I.ok.kind hk hn hm fin) hd
 ·rcases hk with hk | hk
  ·exact wpAny_Name (wpAny_loadName_cell I.ok.kind hk hc hcell fin) hd
  ·exact wpAny_Name (wpAny_loadName_free I.ok.kind hk hc hcell fin hcd) hd
theorem qd{i j pos}:PE X (.Constant (.int i) j pos) (tC (.int i)):=λ_ _ _ H _ I h=>wpAny_Constant_int ⟨.int i,H,I.tok _,⟨_,rfl⟩,h⟩
theorem jq3{b j pos}:PE X (.Constant (.bool b) j pos) (tC (.bl b)):=λ_ _ _ H _ I h=>Constant_bool ⟨.bl b,H,I,rfl,h⟩
theorem jfl{j pos}:PE X (.Constant .none j pos) (tC .non):=λ_ _ _ H _ I h=>Constant_none ⟨.non,H,I,rfl,h⟩
theorem jf{x j pos}:PE X (.Constant (.str x) j pos) (tC (.str x)):=λ_ _ _ H _ I h=>Calls.Constant_str ⟨.str x,H,I.tok _,⟨_,rfl⟩,h⟩
def Gl(X:Cx)(x:Str):Prop:=X.env.kindOf x=some .globalImplicit
theorem jfn{E:Value->Shared->Prop}{pins:List (Addr×Obj)}{s:Shared}{σ:St}{H:Hp}{x:Str}{u:Value}{pos:Pos}{Q:Value->Shared->Prop}(I:Inv X pins σ H s)(hg:Gl X x)(hm:X.mg x=some u)(h:Q u s)
  (hd:(x == ("__debug__":Str))=false:=by decide):wpAny (model X.prog X.w) X.A (eval (.Name x pos) X.env) Q E s :=
 Calls.Name_function_global I.ok.kind hg (Calls.loadGlobal_global (by rw [I.ok.glob];exact I.mod.glob.keeps I.bk) hm h) hd
theorem jhj{E:Value->Shared->Prop}{pins:List (Addr×Obj)}{s:Shared}{σ:St}{H:Hp}{x:Str}{u:Value}{pos:Pos}{Q:Value->Shared->Prop}(I:Inv X pins σ H s)(hg:Gl X x)(hm:X.mg x=none)(hv:bootBuiltins x=some u)(h:Q u s)
  (hn:x≠"__name__":=by decide) (hd:(x == ("__debug__":Str))=false:=by decide):wpAny (model X.prog X.w) X.A (eval (.Name x pos) X.env) Q E s:=by
 obtain ⟨mb,h1,h2⟩:=I.mod.blt;exact Calls.Name_function_global I.ok.kind hg (Calls.loadGlobal_builtin (by rw [I.ok.glob];exact I.mod.glob.keeps I.bk) hm (by rw [I.ok.blt];exact h1.keeps I.bk) ((h2 x hn).trans hv) h) hd
theorem jkw{x:Str}{v:V}{u:Value}{pos:Pos}(hg:Gl X x)(hm:X.mg x=some u)(r:xj v u)(hd:(x == ("__debug__":Str))=false:=by decide):PE X (.Name x pos) (tC v) :=
 λ_ _ _ H _ I h=>jfn I hg hm ⟨v,H,I,r,h⟩ hd
variable{a b:Expr}{ta tb:TE}{pos:Pos}
def PC(X:Cx)(op:CmpOp)(a b:Expr)(t:TE):Prop :=
 ∀ (pins:List (Addr×Obj)) (s:Shared) (σ:St) (H:Hp) (Q:VK),Inv X pins σ H s->t σ H Q->
  wpAny (model X.prog X.w) X.A (eval a X.env) (λv s₁=>wpAny (model X.prog X.w) X.A (eval b X.env) (λu s₂=>wpAny (model X.prog X.w) X.A (compareOp op v u) (EP X pins σ Q) X.xe s₂) X.xe s₁) X.xe s
def tB(t:TE):TT:=λσ H Q=>t σ H λx H1=>∃ c,x = .bl c/\Q c H1
theorem j2y{op:CmpOp}{t:TE}(h:PC X op a b t)(h1:behindInMarks op b=false:=by first | exact nobehind _ (by decide) (by decide) | rfl):PT X (.Compare a [op] [b] pos) (tB t):=by
 intro pins s σ H Q I hw;refine wpAny_isTrue_Compare1 (thn (h pins s σ H _ I hw) λv s1 h1=>thn h1 λu s2 h2=>thn h2 λc s3 ⟨x,H1,I1,r1,q1⟩=>?_) h1;obtain ⟨d,rfl,q⟩:=q1;cases r1;exact wpAny_truthy_bool ⟨H1,I1,q⟩
theorem jcd{e:Expr}{t:TE}(h:PE X e t)(he:∀ whole,isTrue e X.env whole=(do let v <- whole;standAt e.pos;holding [v] (truthy v)):=by intro _;rfl):PT X e (tB t):=by
 intro pins s σ H Q I hw;refine isTrue_plain (thn (h pins s σ H _ I hw) λv s1 ⟨x,H1,I1,r1,q1⟩=>?_) (he _);obtain ⟨d,rfl,q⟩:=q1;cases r1;exact wpAny_truthy_bool ⟨H1,I1,q⟩
variable{tA tB':TT}{rest:List Expr}
def j2b(t u:TT):TT:=λσ H Q=>t σ H λc H1=>if c=true then u σ H1 Q else Q false H1
def tOr(t u:TT):TT:=λσ H Q=>t σ H λc H1=>if c=true then Q true H1 else u σ H1 Q
def j19(t:TT):TT:=λσ H Q=>t σ H λc H1=>Q (!c) H1
theorem jb4(ha:PT X a tA):PW X (.BoolOp .And [a] pos) tA:=by
 intro wh pins s σ H Q I h;refine isTrue_and (thn (ha pins s σ H Q I h) λc s1 e=>?_);cases c with
 | true=>exact isTrue_and_nil e
 | false=>exact e
theorem jhd(ha:PT X a tA):PW X (.BoolOp .Or [a] pos) tA:=by
 intro wh pins s σ H Q I h;refine isTrue_or (thn (ha pins s σ H Q I h) λc s1 e=>?_);cases c with
 | false=>exact isTrue_or_nil e
 | true=>exact e
theorem jcc(ha:PT X a tA)(hb:PW X (.BoolOp .And (b::rest) pos) tB'):PW X (.BoolOp .And (a::b::rest) pos) (j2b tA tB'):=by
 intro wh pins s σ H Q I h;refine isTrue_and (thn (ha pins s σ H _ I h) λc s1 ⟨H1,I1,q1⟩=>?_);cases c with
 | true=>exact hb wh pins s1 σ H1 Q I1 q1
 | false=>exact ⟨H1,I1,q1⟩
theorem jh0(ha:PT X a tA)(hb:PW X (.BoolOp .Or (b::rest) pos) tB'):PW X (.BoolOp .Or (a::b::rest) pos) (tOr tA tB'):=by
 intro wh pins s σ H Q I h;refine isTrue_or (thn (ha pins s σ H _ I h) λc s1 ⟨H1,I1,q1⟩=>?_);cases c with
 | true=>exact ⟨H1,I1,q1⟩
 | false=>exact hb wh pins s1 σ H1 Q I1 q1
theorem jnp(ha:PT X a tA):PT X (.UnaryOp .Not a pos) (j19 tA):=by
 intro pins s σ H Q I h;exact isTrue_not (ha pins s σ H (λc H1=>Q (!c) H1) I h)
def j1i(ta tb:TE):TE:=λσ H Q=>ta σ H λx H1=>∃ c,x = .bl c/\if c=true then tb σ H1 Q else Q (.bl false) H1
def j18(ta tb:TE):TE:=λσ H Q=>ta σ H λx H1=>∃ c,x = .bl c/\if c=true then Q (.bl true) H1 else tb σ H1 Q
theorem jtr{op}{t:TE}(h:PE X a t):PE X (.BoolOp op [a] pos) t:=λpins s σ H Q I hw=>BoolOp_one (h pins s σ H Q I hw)
theorem j0i(ha:PE X a ta)(hb:PE X (.BoolOp .And (b::rest) pos) tb):PE X (.BoolOp .And (a::b::rest) pos) (j1i ta tb):=by
 intro pins s σ H Q I h;refine BoolOp_and (thn (ha pins s σ H _ I h) λv s1 ⟨x,H1,I1,r1,q1⟩=>?_);obtain ⟨c,rfl,q1⟩:=q1;cases r1;refine wpAny_truthy_bool ?_;cases c with
 | true=>exact hb pins s1 σ H1 Q I1 q1
 | false=>exact ⟨.bl false,H1,I1,rfl,q1⟩
theorem jq2(ha:PE X a ta)(hb:PE X (.BoolOp .Or (b::rest) pos) tb):PE X (.BoolOp .Or (a::b::rest) pos) (j18 ta tb):=by
 intro pins s σ H Q I h;refine BoolOp_or (thn (ha pins s σ H _ I h) λv s1 ⟨x,H1,I1,r1,q1⟩=>?_);obtain ⟨c,rfl,q1⟩:=q1;cases r1;refine wpAny_truthy_bool ?_;cases c with
 | false=>exact hb pins s1 σ H1 Q I1 q1
 | true=>exact ⟨.bl true,H1,I1,rfl,q1⟩
end
def SqL(K:PySem.W.Frag)(H:Hp)(a:Addr)(xs:List V):Prop :=
 Rd H a (.lst xs)\/
  ∃ (o:Obj) (its:Array Value) (n:Nat),K.lookup a=some o/\o.cls = .type "list"/\o.dict=none/\o.data = .seq its n/\its.size<=sizeLine/\q_ xs its.toList
def SqT(K:PySem.W.Frag)(H:Hp)(a:Addr)(xs:List V):Prop :=
 Rd H a (.tup xs)\/
  ∃ (o:Obj) (its:Array Value) (n:Nat),K.lookup a=some o/\o.cls = .type "tuple"/\o.data = .seq its n/\its.size<=sizeLine/\q_ xs its.toList
def j2w:Value->Option V
 | .none=>some .non
 | .bool b=>some (.bl b)
 | .int i _=>some (.int i)
 | .str x _=>some (.str x)
 | .bytes b _=>some (.byt b)
 | .float b _=>some (.flt b)
 | .ref a=>some (.ref a)
 | .type n=>some (.ty n)
 | _=>none
theorem xj.abs{x:V}{u:Value}(r:xj x u):j2w u=some x:=by
 cases x with
 | non=>cases r;rfl
 | bl _=>cases r;rfl
 | int _=>obtain ⟨t,rfl⟩:=r;rfl
 | str _=>obtain ⟨t,rfl⟩:=r;rfl
 | byt _=>obtain ⟨t,rfl⟩:=r;rfl
 | flt _=>obtain ⟨t,rfl⟩:=r;rfl
 | ref _=>cases r;rfl
 | ty _=>cases r;rfl
theorem xj.inj{x y:V}{u:Value}(r:xj x u)(q:xj y u):x=y:=Option.some.inj (r.abs.symm.trans q.abs)
theorem q_.inj:∀ {xs ys:List V} {us:List Value},q_ xs us->q_ ys us->xs=ys
 | _,_,_,.nil,.nil=>rfl
 | _,_,_,.cons r t,.cons r' t'=>by rw [r.inj r',q_.inj t t']
section
variable{X:Cx}{pins:List (Addr×Obj)}{σ:St}{H:Hp}{s:Shared}{a:Addr}{xs ys:List V}
theorem SqL.of{K:PySem.W.Frag}(h:H a=some (.lst xs)):SqL K H a xs:=.inl (.inl h)
theorem SqT.of{K:PySem.W.Frag}(h:H a=some (.tup xs)):SqT K H a xs:=.inl (.inl h)
theorem Inv.list(I:Inv X pins σ H s)(h:SqL X.K H a xs):∃ its:List Value,q_ xs its/\PlainL s.heap a its.toArray/\xs.length<=sizeLine:=by
 rcases h with h | ⟨o,its,n,hk,hc,hd,hs,hz,r⟩
 ·obtain ⟨z,its,n,r,e⟩:=h.ok I.hok;exact ⟨its,r,⟨_,n,e,rfl,rfl,rfl⟩,z⟩
 ·refine ⟨its.toList,r,⟨o,n,I.kIn a o hk,hc,hd,by simpa using hs⟩,?_⟩;have e:=r.length
  simp only [Array.length_toList] at e;omega
theorem Inv.tuple(I:Inv X pins σ H s)(h:SqT X.K H a xs):∃ its:List Value,q_ xs its/\IsTup s.heap a its.toArray/\xs.length<=sizeLine:=by
 rcases h with h | ⟨o,its,n,hk,hc,hs,hz,r⟩
 ·obtain ⟨z,its,r,p⟩:=h.ok I.hok;exact ⟨its,r,p,z⟩
 ·refine ⟨its.toList,r,⟨o,I.kIn a o hk,hc,n,by simpa using hs⟩,?_⟩;have e:=r.length
  simp only [Array.length_toList] at e;omega
theorem Inv.list_inj(I:Inv X pins σ H s)(h:SqL X.K H a xs)(h':SqL X.K H a ys):xs=ys:=by
 obtain ⟨its,r,⟨o,n,e,_,_,d⟩,_⟩:=I.list h;obtain ⟨its',r',⟨o',n',e',_,_,d'⟩,_⟩:=I.list h';rw [e] at e';cases e';rw [d] at d';injection d' with d1 _;have:its=its':=by simpa using congrArg Array.toList d1
 subst this;exact r.inj r'
theorem Inv.tuple_inj(I:Inv X pins σ H s)(h:SqT X.K H a xs)(h':SqT X.K H a ys):xs=ys:=by
 obtain ⟨its,r,⟨o,e,_,n,d⟩,_⟩:=I.tuple h;obtain ⟨its',r',⟨o',e',_,n',d'⟩,_⟩:=I.tuple h';rw [e] at e';cases e';rw [d] at d';injection d' with d1 _;have:its=its':=by simpa using congrArg Array.toList d1
 subst this;exact r.inj r'
end
section
variable{X:Cx}{st:Stmt}{rest:List Stmt}{t u:TS}{e:Expr}{te:TE}{pos:Pos}
def jdp:TS:=λD σ H=>D.nx σ H
def jby(t u:TS):TS:=λD σ H=>t { D with nx:=u D } σ H
theorem jy:PSs X [] jdp:=λ_ _ σ H _ I h=>wpAny_execs_nil ⟨σ,H,I,h⟩
theorem jc(h1:PS X st t)(h2:PSs X rest u):PSs X (st::rest) (jby t u):=by
 intro pins s σ H D I h;refine wpAny_execs_cons (thn (h1 pins s σ H { D with nx:=u D } I h) λf s1 q=>?_);cases f with
 | next =>
  obtain ⟨σ',H',I',q⟩:=q;exact h2 pins s1 σ' H' D I' q
 | ret v=>exact q
 | brk=>exact q
 | cont=>exact q
theorem je(h1:PS X st t):PSs X [st] t:=by
 intro pins s σ H D I h;refine wpAny_execs_cons (thn (h1 pins s σ H D I h) λf s1 q=>?_);cases f with
 | next=>exact wpAny_execs_nil q
 | ret v=>exact q
 | brk=>exact q
 | cont=>exact q
theorem Inv.quiet{pins:List (Addr×Obj)}{σ:St}{H:Hp}{s:Shared}(I:Inv X pins σ H s):interactive X.env=false:=by simp [interactive,I.ok.kind]
def jql(te:TE):TS:=λD σ H=>te σ H λ_ H1=>D.nx σ H1
theorem j_(he:PE X e te)(hs:swapsWith e none pos.line X.env=pure false:=by rfl):PS X (.Expr e pos) (jql te):=by
 intro pins s σ H D I h;exact wpAny_Expr_any (thn (he pins s σ H _ I h) λv s1 ⟨x,H1,I1,r1,q1⟩=>⟨σ,H1,I1,q1⟩) I.quiet hs
def jfw(te:TE):TS:=λD σ H=>te σ H D.rt
theorem jp(he:PE X e te):PS X (.Return (some e) pos) (jfw te):=by
 intro pins s σ H D I h;exact wpAny_Return_some (thn (he pins s σ H _ I h) λv s1 ⟨x,H1,I1,r1,q1⟩=>⟨x,σ,H1,I1,r1,q1⟩)
def jfx(c:TT)(t u:TS):TS:=λD σ H=>c σ H λb H1=>if b=true then t D σ H1 else u D σ H1
theorem qh{c:Expr}{a b:List Stmt}{tc:TT}(hc:PT X c tc)(ha:PSs X a t)(hb:PSs X b u):PS X (.If c a b pos) (jfx tc t u):=by
 intro pins s σ H D I h;refine wpAny_If (thn (hc pins s σ H _ I h) λd s1 ⟨H1,I1,q1⟩=>?_);cases d with
 | true=>exact ha pins s1 σ H1 D I1 q1
 | false=>exact hb pins s1 σ H1 D I1 q1
end
abbrev TG:=V->St->Hp->(St->Hp->Prop)->Prop
abbrev TGs:=List V->St->Hp->(St->Hp->Prop)->Prop
def PG(X:Cx)(target:Expr)(t:TG):Prop :=
 ∀ (pins:List (Addr×Obj)) (s:Shared) (σ:St) (H:Hp) (v:V) (u:Value) (Q:St->Hp->Prop),Inv X pins σ H s->xj v u->t v σ H Q->
  wpAny (model X.prog X.w) X.A (assign target X.env u) (λ_ s'=>∃ σ' H',Inv X pins σ' H' s'/\Q σ' H') X.xe s
def PGs(X:Cx)(ts:List Expr)(t:TGs):Prop :=
 ∀ (pins:List (Addr×Obj)) (s:Shared) (σ:St) (H:Hp) (vs:List V) (us:List Value) (Q:St->Hp->Prop),Inv X pins σ H s->q_ vs us->t vs σ H Q->
  wpAny (model X.prog X.w) X.A (assignInOrder ((assignEach ts X.env).map (·.2)) us) (λ_ s'=>∃ σ' H',Inv X pins σ' H' s'/\Q σ' H') X.xe s
abbrev TIp:=V->V->Hp->VK->Prop
def PIp(X:Cx)(op:Operator)(t:TIp):Prop :=
 ∀ (pins:List (Addr×Obj)) (s:Shared) (σ:St) (H:Hp) (x y:V) (v u:Value) (Q:VK),Inv X pins σ H s->xj x v->xj y u->t x y H Q->
  wpAny (model X.prog X.w) X.A (inplaceOp op v u) (EP X pins σ Q) X.xe s
section
variable{X:Cx}{pos:Pos}
def jai(i:Nat):TG:=λv σ H Q=>Q (σ.set i (some v)) H
theorem y_{i:Nat}{x:Str}(hN:X.N.Nodup)(hi:X.N[i]? = some x)(hx:Loc X.env.scope x)(hf:X.fn x=true\/X.env.scope.names.lookup x=some .local:=by first | exact .inl rfl | exact .inr rfl | assumption):PG X (.Name x pos) (jai i):=by
 intro pins s σ H v u Q I r h;exact wpAny_assign_Name (jik I hN hi hx r (λs' I'=>⟨_,H,I',h⟩) hf)
def j2t:TGs:=λvs σ H Q=>vs=[]/\Q σ H
def j1z(t:TG)(u:TGs):TGs:=λvs σ H Q=>∃ v r,vs=v::r/\t v σ H λσ' H'=>u r σ' H' Q
theorem jkv:PGs X [] j2t:=by
 intro pins s σ H vs us Q I r h;obtain ⟨e,h⟩:=h;subst e;cases r;exact assignInOrder_nil ⟨σ,H,I,h⟩
theorem jcq{e:Expr}{es:List Expr}{t:TG}{u:TGs}(h1:PG X e t)(h2:PGs X es u)
  (hs:(assignEach (e::es) X.env).map (·.2)=assign e X.env::(assignEach es X.env).map (·.2):=by rfl):PGs X (e::es) (j1z t u):=by
 intro pins s σ H vs us Q I r h;obtain ⟨v,vr,e1,h⟩:=h;subst e1;cases r with
 | cons r rr =>
  rw [hs];refine assignInOrder_cons (thn (h1 pins s σ H _ _ _ I r h) λ_ s1 ⟨σ1,H1,I1,q1⟩=>?_);exact h2 pins s1 σ1 H1 _ _ Q I1 rr q1
def j2s(K:PySem.W.Frag)(n:Nat)(t:TGs):TG:=λv σ H Q=>∃ a xs,v = .ref a/\SqT K H a xs/\xs.length=n/\t xs σ H Q
theorem jnt{es:List Expr}{k:Nat}{t:TGs}{n:Nat}(hc:X.calm=true)(h:PGs X es t)
  (hn:(assignEach es X.env).length=n:=by rfl) (hst:(assignEach es X.env).findIdx? (·.1)=none:=by rfl):PG X (.Tuple es k pos) (j2s X.K n t):=by
 intro pins s σ H v u Q I r hw;obtain ⟨a,xs,e1,hq,hl,hw⟩:=hw;subst e1;cases r;obtain ⟨its,rv,ht,hz⟩:=I.tuple hq;refine assign_Tuple_tuple (I.ok.hd hc) ht (by simp [hn,<- hl,rv.length]) hst λh' hx=>?_;have I1:Inv X pins σ H { s with heap:=h' }:=I.kept (t':=s.toks) λb o e=>hx b o (Nat.ne_of_lt (Heap.lt_size e)) e
 exact h pins _ σ H xs _ Q I1 (by simpa using rv) hw
def jgx(te:TE)(g:TG):TS:=λD σ H=>te σ H λx H1=>g x σ H1 D.nx
theorem ju{i:Nat}{x:Str}{e:Expr}{te:TE}{pos':Pos}(hN:X.N.Nodup)(hi:X.N[i]? = some x)(hx:Loc X.env.scope x)(he:PE X e te)(hs:swapsWith e (some (.Name x pos')) pos.line X.env=pure false:=by rfl)(hf:X.fn x=true\/X.env.scope.names.lookup x=some .local:=by first | exact .inl rfl | exact .inr rfl | assumption) :
  PS X (.Assign [.Name x pos'] e pos) (jgx te (jai i)):=by
 intro pins s σ H D I h;refine wpAny_Assign_Name (thn (he pins s σ H _ I h) λv s1 ⟨y,H1,I1,r1,q1⟩=>?_) hs;exact jik I1 hN hi hx r1 (λs2 I2=>⟨_,H1,I2,q1⟩) hf
def j2a(i:Nat)(te:TE)(ti:TIp):TS:=λD σ H=>∃ x,σ[i]? = some (some x)/\te σ H λy H1=>ti x y H1 λz H2=>D.nx (σ.set i (some z)) H2
theorem jc_{i:Nat}{x:Str}{e:Expr}{te:TE}{op:Operator}{ti:TIp}{pos':Pos}(hN:X.N.Nodup)(hi:X.N[i]? = some x)(hx:Loc X.env.scope x)(he:PE X e te)(ho:PIp X op ti)(hf:X.fn x=true\/X.env.scope.names.lookup x=some .local:=by first | exact .inl rfl | exact .inr rfl | assumption) :
  PS X (.AugAssign (.Name x pos') op e pos) (j2a i te ti):=by
 intro pins s σ H D I h;obtain ⟨v,e1,h⟩:=h;obtain ⟨m,hn,hl⟩:=I.loc;have vis:Vis X.env.scope x:=by rcases hx with k | k;exact .inl k;exact .inr (.inl k)
 obtain ⟨u,r,l⟩:=hl i x v hi e1 vis;refine wpAny_AugAssign_Name ?_;have go:wpAny (model X.prog X.w) X.A (eval e X.env) (λw s₂=>wpAny (model X.prog X.w) X.A (inplaceOp op u w) (λr s₃=>wpAny (model X.prog X.w) X.A (storeName X.env x r) (λ_=>SP X pins D .next) X.xe s₃) X.xe s₂) X.xe s:=by
  refine thn (he pins s σ H _ I h) λw s1 ⟨y,H1,I1,r1,q1⟩=>?_;refine thn (ho pins s1 σ H1 v y u w _ I1 r r1 q1) λz s2 ⟨zv,H2,I2,r2,q2⟩=>?_;exact jik I2 hN hi hx r2 (λs3 I3=>⟨_,H2,I3,q2⟩) hf
 rcases l with ⟨hk,hm⟩ | ⟨hk,c,hc,hcell⟩
 ·exact wpAny_loadName_local I.ok.kind hk hn hm go
 ·rcases hk with hk | hk
  ·exact wpAny_loadName_cell I.ok.kind hk hc hcell go
  ·rcases hx with k | k
   ·have:X.env.scope.names.lookup x=some .free:=hk;rw [k] at this;cases this
   ·have:X.env.scope.names.lookup x=some .free:=hk;rw [k] at this;cases this
def ipI(f:Int->Int->Int):TIp:=λx y H Q=>∃ i j,x = .int i/\y = .int j/\Q (.int (f i j)) H
theorem jfo:PIp X .Add (ipI λi j=>i + j):=by
 intro pins s σ H x y v u Q I r1 r2 h;obtain ⟨i,j,e1,e2,q⟩:=h;subst e1;subst e2;obtain ⟨t,rfl⟩:=r1;obtain ⟨t',rfl⟩:=r2;exact iadd_int ⟨.int _,H,I.tok _,⟨_,rfl⟩,q⟩
theorem j00:PIp X .Sub (ipI λi j=>i - j):=by
 intro pins s σ H x y v u Q I r1 r2 h;obtain ⟨i,j,e1,e2,q⟩:=h;subst e1;subst e2;obtain ⟨t,rfl⟩:=r1;obtain ⟨t',rfl⟩:=r2;exact isub_int ⟨.int _,H,I.tok _,⟨_,rfl⟩,q⟩
def jzm(c:TT)(tb:TS):TS:=λD σ H=>∃ W:Nat->St->Hp->Prop,(∃ m,W m σ H)/\∀ m σ H,W m σ H->
 c σ H λb H1=>if b=true then ∃ N:St->Hp->Prop,(∀ σ' H',N σ' H'->∃ m',m' < m/\W m' σ' H')/\tb { D with nx:=N,ct:=N,bk:=D.nx } σ H1 else D.nx σ H1
theorem vh{c:Expr}{body:List Stmt}{tc:TT}{tb:TS}(hp:PassesOwn (model X.prog X.w) X.A X.env X.xe)(hc:PT X c tc)(hb:PSs X body tb):PS X (.While c body [] pos) (jzm tc tb):=by
 intro pins s σ H D I h;obtain ⟨W,⟨m0,w0⟩,turn⟩:=h;refine wpAny_While (codeAny_whileLoop (λn s'=>∃ σ' H',Inv X pins σ' H' s'/\W n σ' H') ?_ m0 ⟨σ,H,I,w0⟩);rintro n s1 ⟨σ1,H1,I1,w1⟩;refine wpAny_passesOwn hp (thn (hc pins s1 σ1 H1 _ I1 (turn n σ1 H1 w1)) λb s2 ⟨H2,I2,q2⟩=>?_);cases b with
 | true =>
  obtain ⟨N,hN,q2⟩:=q2;rw [if_pos rfl];refine wpAny_passesOwn hp (thn (hb pins s2 σ1 H2 _ I2 q2) λf s3 q3=>?_);cases f with
  | next =>
   obtain ⟨σ3,H3,I3,n3⟩:=q3;obtain ⟨m',hm,w3⟩:=hN σ3 H3 n3;exact ⟨m',hm,σ3,H3,I3,w3⟩
  | cont =>
   obtain ⟨σ3,H3,I3,n3⟩:=q3;obtain ⟨m',hm,w3⟩:=hN σ3 H3 n3;exact ⟨m',hm,σ3,H3,I3,w3⟩
  | brk=>exact q3
  | ret v=>exact q3
 | false =>
  rw [if_neg Bool.false_ne_true];exact wpAny_execs_nil ⟨σ1,H2,I2,q2⟩
end
structure It where
 go:Nat->Hp->Prop
 yld:Nat->Hp->V->Hp->Prop
 stop:Nat->Hp->Prop
def jdm(X:Cx)(pins:List (Addr×Obj))(H:Hp)(b:Addr):Prop :=
 H b=none/\b≠X.env.locals/\b∉X.fs/\(b∈X.ex\/X.s_0.heap.objs.size<=b)/\(∀ x c,X.env.cells.lookup x=some c->c≠b)/\∀ p∈X.pn ++ pins,p.1≠b
theorem Inv.fpOk{X:Cx}{pins:List (Addr×Obj)}{σ:St}{H H':Hp}{s:Shared}{b:Addr}(I:Inv X pins σ H s)(hb:s.heap.objs.size<=b)(hn:H' b=none):jdm X pins H' b:=by
 refine ⟨hn,Nat.ne_of_gt (Nat.lt_of_lt_of_le I.lt hb),I.nofs hb,.inr (Nat.le_trans I.sz hb),λx c e z=>?_,λp hp z=>?_⟩
 ·obtain ⟨v,q⟩:=I.cell x c e;exact absurd (Nat.lt_of_lt_of_le q.lt (by rw [z];exact hb)) (Nat.lt_irrefl _)
 ·exact absurd (Nat.lt_of_lt_of_le (Heap.lt_size (I.pin p hp).1) (by rw [z];exact hb)) (Nat.lt_irrefl _)
structure ji5(P:Program)(w:World)(K:PySem.W.Frag)(tg:Expr)(J:It)(fp:List Addr)(it:Addr)(tn:Nat->Heap->Prop):Prop where
 mem:it∈fp
 obj:∀ i h,tn i h->∀ b∈fp,∃ o,h.get? b=some o/\∀ v,o.data≠.cell v
 keep:∀ i h h',tn i h->(∀ b∈fp,∀ o,h.get? b=some o->h'.get? b=some o)->tn i h'
 item:∀ (X:Cx),X.prog=P->X.w=w->X.K=K->X.calm=true->∀ (i:Nat) (pins:List (Addr×Obj)) (s:Shared) (σ:St) (H:Hp) (E:Value->Shared->Prop),Inv X pins σ H s->(∀ b∈fp,jdm X pins H b)->tn i s.heap->J.go i H->
  wpAny (model P w) X.A (pyNext (.ref it)) (λr s1=>∃ u,r=some u/\
   wpAny (model P w) X.A (letOwnedTupleGo tg (.ref it) u) (λ_ s2=>∃ x H',Inv X pins σ H' s2/\xj x u/\J.yld i H x H'/\tn (i + 1) s2.heap/\∀ b∈fp,H' b=none) E s1) E s
 done:∀ (X:Cx),X.prog=P->X.w=w->X.K=K->X.calm=true->∀ (i:Nat) (pins:List (Addr×Obj)) (s:Shared) (σ:St) (H:Hp) (E:Value->Shared->Prop),Inv X pins σ H s->(∀ b∈fp,jdm X pins H b)->tn i s.heap->J.stop i H->
  wpAny (model P w) X.A (pyNext (.ref it)) (λr s1=>r=none/\Inv X pins σ H s1) E s
 self:∀ (A:Around) (i:Nat) (s:Shared) (Q:Value->Shared->Prop) (E:Value->Shared->Prop),tn i s.heap->Q (.ref it) s->wpAny (model P w) A (pyIter (.ref it)) Q E s
abbrev TI:=St->Hp->(It->Hp->Prop)->Prop
def PIE(X:Cx)(pins:List (Addr×Obj))(σ:St)(tg:Expr)(R:It->Hp->Prop)(itv:Value)(s2:Shared):Prop :=
 ∃ (it:Addr) (fp:List Addr) (tn:Nat->Heap->Prop) (J:It) (H':Hp),itv = .ref it/\Inv X pins σ H' s2/\ji5 X.prog X.w X.K tg J fp it tn/\tn 0 s2.heap/\(∀ b∈fp,jdm X pins H' b)/\R J H'
def PI(X:Cx)(tg iter:Expr)(wi:TI):Prop :=
 ∀ (pins:List (Addr×Obj)) (s:Shared) (σ:St) (H:Hp) (R:It->Hp->Prop),Inv X pins σ H s->wi σ H R->
  wpAny (model X.prog X.w) X.A (eval iter X.env) (λv s1=>wpAny (model X.prog X.w) X.A (pyIter v) (PIE X pins σ tg R) X.xe s1) X.xe s
theorem jry{M:Model}{A:Around}{E:Value->Shared->Prop}{s:Shared}{tg:Expr}{it:Addr}{u:Value}{o:Obj}{n:String}{vs:Array Value}{Q:Unit->Shared->Prop}(ho:s.heap.get? it=some o)(hc:o.cls = .type n)(hd:o.data = .fields vs)
  (hn:["enumerate", "zip", "dict_itemiterator", "dict_reverseitemiterator", "odict_iterator", "itertools.zip_longest", "itertools.pairwise"].contains n=false) (hQ:Q () s):wpAny M A (letOwnedTupleGo tg (.ref it) u) Q E s:=by
 unfold letOwnedTupleGo;cases tg <;> first
  | exact wpAny_pure hQ
  | (cases u <;> first
    | exact wpAny_pure hQ
    | (refine wpAny_bind (wpAny_load ho ?_)
       rw [hc,hd];show wpAny M A (if (["enumerate", "zip", "dict_itemiterator", "dict_reverseitemiterator", "odict_iterator", "itertools.zip_longest", "itertools.pairwise"].contains n && vs[0]? == some (rawInt _))=true then _ else _) Q E s
       rw [if_neg (by intro h;rw [hn,Bool.false_and] at h;cases h)];exact wpAny_pure hQ))
def Itl(K:PySem.W.Frag)(a:Addr):It :=
 ⟨λi H=>∃ xs x,SqL K H a xs/\xs[i]? = some x,λi H x H'=>H'=H/\∀ xs,SqL K H a xs->xs[i]? = some x,λi H=>∃ xs,SqL K H a xs/\xs.length<=i⟩
def Itt(K:PySem.W.Frag)(a:Addr):It :=
 ⟨λi H=>∃ xs x,SqT K H a xs/\xs[i]? = some x,λi H x H'=>H'=H/\∀ xs,SqT K H a xs->xs[i]? = some x,λi H=>∃ xs,SqT K H a xs/\xs.length<=i⟩
theorem jsm{P:Program}{w:World}{K:PySem.W.Frag}{tg:Expr}(a it:Addr):ji5 P w K tg (Itl K a) [it] it (λi h=>h.IsListIter it a i) where
 mem:=by simp
 obj:=λi h st b hb=>by
  have e:b=it:=by simpa using hb
  subst e;obtain ⟨o,e,c,d⟩:=st;exact ⟨o,e,λv z=>by rw [d] at z;cases z⟩
 keep:=λi h h' st k=>st.at λo e=>k it (by simp) o e
 item:=by
  intro X hP hw hK hc i pins s σ H E I hf st hg;subst hP hw hK;obtain ⟨xs,x,hq,hx⟩:=hg;obtain ⟨its,rv,p,hz⟩:=I.list hq;obtain ⟨u,hu,ru⟩:=rv.get hx;obtain ⟨f0,f1,f2,f3,f4,f5⟩:=hf it (by simp);refine wpAny_pyNext_list_item st p.isList (x:=u) (by simpa using hu) λh' st' sb=>?_;have I1:Inv X pins σ H { s with heap:=h' }:=I.turned (t':=s.toks) (λb o hb e=>(sb.2 b hb).trans e) f0 f1 f3 f4 f5
  obtain ⟨o,e,c,d⟩:=id st';exact ⟨u,rfl,jry (s:={ s with heap:=h' }) e c d (by decide) ⟨x,H,I1,ru,⟨rfl,λys hy=>by rw [I.list_inj hy hq];exact hx⟩,st',λb hb=>(hf b hb).1⟩⟩
 done:=by
  intro X hP hw hK hc i pins s σ H E I hf st hg;subst hP hw hK;obtain ⟨xs,hq,hx⟩:=hg;obtain ⟨its,rv,p,hz⟩:=I.list hq;obtain ⟨f0,f1,f2,f3,f4,f5⟩:=hf it (by simp);have hl:=rv.length
  exact wpAny_pyNext_list_end (I.ok.hd hc) st p.isList (by simp;omega) λh' eb=>⟨rfl,I.turned (t':=s.toks) (λb o hb e=>eb b o hb e) f0 f1 f3 f4 f5⟩
 self:=λ_ _ _ _ _ st h=>wpAny_pyIter_listiter st h
theorem jqg{P:Program}{w:World}{K:PySem.W.Frag}{tg:Expr}(a it:Addr):ji5 P w K tg (Itt K a) [it] it (λi h=>h.IsTupleIter it a i) where
 mem:=by simp
 obj:=λi h st b hb=>by
  have e:b=it:=by simpa using hb
  subst e;obtain ⟨o,e,c,d⟩:=st;exact ⟨o,e,λv z=>by rw [d] at z;cases z⟩
 keep:=λi h h' st k=>st.at λo e=>k it (by simp) o e
 item:=by
  intro X hP hw hK hc i pins s σ H E I hf st hg;subst hP hw hK;obtain ⟨xs,x,hq,hx⟩:=hg;obtain ⟨its,rv,p,hz⟩:=I.tuple hq;obtain ⟨u,hu,ru⟩:=rv.get hx;obtain ⟨f0,f1,f2,f3,f4,f5⟩:=hf it (by simp);refine wpAny_pyNext_tuple_item st (show s.heap.IsTuple a its.toArray from p) (x:=u) (by simpa using hu) λh' st' sb=>?_;have I1:Inv X pins σ H { s with heap:=h' }:=I.turned (t':=s.toks) (λb o hb e=>(sb.2 b hb).trans e) f0 f1 f3 f4 f5
  obtain ⟨o,e,c,d⟩:=id st';exact ⟨u,rfl,jry (s:={ s with heap:=h' }) e c d (by decide) ⟨x,H,I1,ru,⟨rfl,λys hy=>by rw [I.tuple_inj hy hq];exact hx⟩,st',λb hb=>(hf b hb).1⟩⟩
 done:=by
  intro X hP hw hK hc i pins s σ H E I hf st hg;subst hP hw hK;obtain ⟨xs,hq,hx⟩:=hg;obtain ⟨its,rv,p,hz⟩:=I.tuple hq;obtain ⟨f0,f1,f2,f3,f4,f5⟩:=hf it (by simp);have hl:=rv.length
  exact wpAny_pyNext_tuple_end (I.ok.hd hc) st (show s.heap.IsTuple a its.toArray from p) (by simp;omega) λh' eb=>⟨rfl,I.turned (t':=s.toks) (λb o hb e=>eb b o hb e) f0 f1 f3 f4 f5⟩
 self:=λ_ _ _ _ _ st h=>wpAny_pyIter_tupleiter st h
section
variable{X:Cx}{tg:Expr}
def jh6(K:PySem.W.Frag)(tl:TE):TI:=λσ H R=>tl σ H λx H1=>∃ a,x = .ref a/\(∃ xs,SqL K H1 a xs)/\R (Itl K a) H1
def j2p(K:PySem.W.Frag)(tl:TE):TI:=λσ H R=>tl σ H λx H1=>∃ a,x = .ref a/\(∃ xs,SqT K H1 a xs)/\R (Itt K a) H1
theorem jab{l:Expr}{tl:TE}(hl:PE X l tl):PI X tg l (jh6 X.K tl):=by
 intro pins s σ H R I h;refine thn (hl pins s σ H _ I h) λv s1 ⟨x,H1,I1,r1,q1⟩=>?_;obtain ⟨a,e,⟨xs,hq⟩,q⟩:=q1;subst e;cases r1;obtain ⟨its,rv,p,hz⟩:=I1.list hq;refine wpAny_pyIter_list p.isList ?_;refine ⟨s1.heap.objs.size,[s1.heap.objs.size],_,_,H1,rfl,I1.kept (t':=s1.toks) λb o e=>Heap.get?_push_of_some _ e,jsm a _,⟨_,Heap.get?_push_size _ rfl,rfl,rfl⟩,λb hb=>?_,q⟩;have e:b=s1.heap.objs.size:=by simpa using hb
 subst e;exact I1.fpOk (Nat.le_refl _) (I1.hok.fresh (Nat.le_refl _))
theorem j0f{l:Expr}{tl:TE}(hl:PE X l tl):PI X tg l (j2p X.K tl):=by
 intro pins s σ H R I h;refine thn (hl pins s σ H _ I h) λv s1 ⟨x,H1,I1,r1,q1⟩=>?_;obtain ⟨a,e,⟨xs,hq⟩,q⟩:=q1;subst e;cases r1;obtain ⟨its,rv,p,hz⟩:=I1.tuple hq;refine wpAny_pyIter_tuple (show s1.heap.IsTuple a its.toArray from p) ?_;refine ⟨s1.heap.objs.size,[s1.heap.objs.size],_,_,H1,rfl,I1.kept (t':=s1.toks) λb o e=>Heap.get?_push_of_some _ e,jqg a _,⟨_,Heap.get?_push_size _ rfl,rfl,rfl⟩,λb hb=>?_,q⟩;have e:b=s1.heap.objs.size:=by simpa using hb
 subst e;exact I1.fpOk (Nat.le_refl _) (I1.hok.fresh (Nat.le_refl _))
def j1_(wi:TI)(g:TG)(tb:TS):TS:=λD σ H=>wi σ H λJ H1=>∃ W:Nat->Nat->St->Hp->Prop,(∃ m,W 0 m σ H1)/\∀ i m σ H,W i m σ H->
 (J.stop i H/\D.nx σ H)\/(J.go i H/\∃ N:St->Hp->Prop,(∀ σ' H',N σ' H'->∃ m',m' < m/\W (i + 1) m' σ' H')/\∀ x H',J.yld i H x H'->g x σ H' λσ2 H2=>tb { D with nx:=N,ct:=N,bk:=D.nx } σ2 H2)
def jhe(fp:List Addr)(h:Heap):List (Addr×Obj):=fp.filterMap λb=>(h.get? b).map λo=>(b,o)
theorem jgh{fp:List Addr}{h:Heap}{b:Addr}{o:Obj}(hb:b∈fp)(e:h.get? b=some o):(b,o)∈jhe fp h:=List.mem_filterMap.mpr ⟨b,hb,by rw [e];rfl⟩
theorem jt5{fp:List Addr}{h:Heap}{p:Addr×Obj}(hp:p∈jhe fp h):p.1∈fp/\h.get? p.1=some p.2:=by
 obtain ⟨b,hb,e⟩:=List.mem_filterMap.mp hp;cases q:h.get? b with
 | none=>rw [q] at e;cases e
 | some o =>
  rw [q] at e;have e':(b,o)=p:=Option.some.inj e
  subst e';exact ⟨hb,q⟩
theorem Inv.pinned{pins:List (Addr×Obj)}{σ:St}{H:Hp}{s:Shared}{fp:List Addr}(I:Inv X pins σ H s)(hf:∀ b∈fp,jdm X pins H b)(ho:∀ b∈fp,∃ o,s.heap.get? b=some o/\∀ v,o.data≠.cell v):Inv X (pins ++ jhe fp s.heap) σ H s :=
 I.pins_of λp hp=>(List.mem_append.mp hp).elim (λz=>I.pin p (List.mem_append_right _ z)) λz=>by
  obtain ⟨hb,e⟩:=jt5 z;obtain ⟨f0,f1,f2,_⟩:=hf p.1 hb;obtain ⟨o,e',d⟩:=ho p.1 hb;rw [e] at e';cases e';exact ⟨e,f0,f1,f2,d⟩
theorem Inv.unpinned{pins pl:List (Addr×Obj)}{σ:St}{H:Hp}{s:Shared}(I:Inv X (pins ++ pl) σ H s):Inv X pins σ H s:=I.pins_of λp hp=>I.pin p (List.mem_append_right _ (List.mem_append_left _ hp))
theorem jek{iter:Expr}{body:List Stmt}{wi:TI}{g:TG}{tb:TS}{pos:Pos}(hp:PassesOwn (model X.prog X.w) X.A X.env X.xe)(hc:X.calm=true)(hi:PI X tg iter wi)(hg:PG X tg g)(hb:PSs X body tb)
  (hs:∀ x,foldedSetIterable iter X.env x=pure x:=by intro _;rfl):PS X (.For tg iter body [] pos) (j1_ wi g tb):=by
 intro pins s σ H D I h;refine wpAny_For (thn (hi pins s σ H _ I h) λv s1 h1=>thn h1 λitv s2 h2=>?_) hs;obtain ⟨it,fp,tn,J,H2,e,I2,T,st2,f2,W,⟨m0,w0⟩,turn⟩:=h2;subst e;have stat:∀ {H':Hp},(∀ b∈fp,H' b=none)->∀ b∈fp,jdm X pins H' b:=λhn b hb=>⟨hn b hb,(f2 b hb).2⟩
 refine codeAny_forLoop_any (λn s'=>∃ i σ' H',Inv X pins σ' H' s'/\tn i s'.heap/\(∀ b∈fp,H' b=none)/\W i n σ' H') ?_ m0 ⟨0,σ,H2,I2,st2,λb hb=>(f2 b hb).1,w0⟩;rintro n s3 ⟨i,σ3,H3,I3,st3,fr3,w3⟩;rcases turn i n σ3 H3 w3 with ⟨stop,qn⟩ | ⟨go,N,hN,step⟩
 ·refine wpAny_passesOwn hp (thn (T.done X rfl rfl rfl hc i pins s3 σ3 H3 X.xe I3 (stat fr3) st3 stop) λr s4 ⟨hr,I4⟩=>?_);subst hr;exact wpAny_execs_nil ⟨σ3,H3,I4,qn⟩
 ·refine wpAny_passesOwn hp (thn (T.item X rfl rfl rfl hc i pins s3 σ3 H3 X.xe I3 (stat fr3) st3 go) λr s4 ⟨u,hr,h4⟩=>?_);subst hr;refine wpAny_passesOwn hp (thn h4 λ_ s5 ⟨x,H5,I5,r5,y5,st5,fr5⟩=>?_);have I5':=I5.pinned (stat fr5) (T.obj _ _ st5)
  refine wpAny_passesOwn hp (thn (hg _ s5 σ3 H5 x u _ I5' r5 (step x H5 y5)) λ_ s6 ⟨σ6,H6,I6,q6⟩=>?_);refine wpAny_passesOwn hp (thn (hb _ s6 σ6 H6 _ I6 q6) λf s7 q7=>?_);have again:∀ {σ7:St} {H7:Hp},Inv X (pins ++ jhe fp s5.heap) σ7 H7 s7->N σ7 H7->∃ m,m < n/\∃ i σ' H',Inv X pins σ' H' s7/\tn i s7.heap/\(∀ b∈fp,H' b=none)/\W i m σ' H':=λ{σ7 H7} I7 n7=>by
   obtain ⟨m',hm,w7⟩:=hN σ7 H7 n7;refine ⟨m',hm,i + 1,σ7,H7,I7.unpinned,T.keep _ _ _ st5 λb hb o e=>(I7.pin (b,o) (List.mem_append_right _ (List.mem_append_right _ (jgh hb e)))).1,λb hb=>?_,w7⟩;obtain ⟨o,e,d⟩:=T.obj _ _ st5 b hb;exact (I7.pin (b,o) (List.mem_append_right _ (List.mem_append_right _ (jgh hb e)))).2.1
  cases f with
  | next=>obtain ⟨σ7,H7,I7,n7⟩:=q7;exact again I7 n7
  | cont=>obtain ⟨σ7,H7,I7,n7⟩:=q7;exact again I7 n7
  | brk=>obtain ⟨σ7,H7,I7,q7⟩:=q7;exact ⟨σ7,H7,I7.unpinned,q7⟩
  | ret v=>obtain ⟨x7,σ7,H7,I7,r7,q7⟩:=q7;exact ⟨x7,σ7,H7,I7.unpinned,r7,q7⟩
end
abbrev R2:=V->V->Hp->VK->Prop
def OpR(X:Cx)(f:Value->Value->Sem Value)(r:R2):Prop :=
 ∀ (pins:List (Addr×Obj)) (s:Shared) (σ:St) (H:Hp) (x y:V) (v u:Value) (Q:VK),Inv X pins σ H s->xj x v->xj y u->r x y H Q->
  wpAny (model X.prog X.w) X.A (f v u) (EP X pins σ Q) X.xe s
def UnR(X:Cx)(f:Value->Sem Value)(r:V->Hp->VK->Prop):Prop :=
 ∀ (pins:List (Addr×Obj)) (s:Shared) (σ:St) (H:Hp) (x:V) (v:Value) (Q:VK),Inv X pins σ H s->xj x v->r x H Q->
  wpAny (model X.prog X.w) X.A (f v) (EP X pins σ Q) X.xe s
def jd5(X:Cx)(f:Value)(r:List V->Hp->VK->Prop):Prop :=
 ∀ (pins:List (Addr×Obj)) (s:Shared) (σ:St) (H:Hp) (xs:List V) (us:List Value) (Q:VK),Inv X pins σ H s->q_ xs us->r xs H Q->
  wpAny (model X.prog X.w) X.A (call f us) (EP X pins σ Q) X.xe s
def tOp(r:R2)(ta tb:TE):TE:=λσ H Q=>ta σ H λx H1=>tb σ H1 λy H2=>r x y H2 Q
def tUn(r:V->Hp->VK->Prop)(ta:TE):TE:=λσ H Q=>ta σ H λx H1=>r x H1 Q
def rI(C:Int->Int->Prop)(g:Int->Int->V):R2:=λx y H Q=>∃ i j,x = .int i/\y = .int j/\C i j/\Q (g i j) H
def rI0(g:Int->Int->V):R2:=λx y H Q=>∃ i j,x = .int i/\y = .int j/\Q (g i j) H
def rU(g:Int->V):V->Hp->VK->Prop:=λx H Q=>∃ i,x = .int i/\Q (g i) H
section
variable{X:Cx}{a b c:Expr}{ta tb tc:TE}{pos:Pos}
theorem jw0(ha:PE X a ta)(hb:PE X b tb){pins:List (Addr×Obj)}{s:Shared}{σ:St}{H:Hp}{R:V->V->Hp->Prop}(I:Inv X pins σ H s)
  (h:ta σ H λx H1=>tb σ H1 λy H2=>R x y H2) {Q:Value->Shared->Prop} {f:Value->Value->Sem Value}
  (hf:∀ v u s2 x y H2,Inv X pins σ H2 s2->xj x v->xj y u->R x y H2->wpAny (model X.prog X.w) X.A (f v u) Q X.xe s2) :
  wpAny (model X.prog X.w) X.A (eval a X.env) (λv s₁=>wpAny (model X.prog X.w) X.A (eval b X.env) (λu s₂=>wpAny (model X.prog X.w) X.A (f v u) Q X.xe s₂) X.xe s₁) X.xe s:=by
 refine thn (ha pins s σ H _ I h) λv s1 ⟨x,H1,I1,r1,q1⟩=>?_;refine thn (hb pins s1 σ H1 _ I1 q1) λu s2 ⟨y,H2,I2,r2,q2⟩=>?_;exact hf v u s2 x y H2 I2 r1 r2 q2
theorem qa{op:Operator}{r:R2}(ho:OpR X (binaryOp op) r)(ha:PE X a ta)(hb:PE X b tb):PE X (.BinOp a op b pos) (tOp r ta tb):=by
 intro pins s σ H Q I h;exact wpAny_BinOp (jw0 ha hb I h λv u s2 x y H2 I2 rx ry q=>ho pins s2 σ H2 x y v u Q I2 rx ry q)
theorem j1o{op:UnaryOp}{r:V->Hp->VK->Prop}(ho:UnR X (unaryOp op) r)(ha:PE X a ta):PE X (.UnaryOp op a pos) (tUn r ta):=by
 intro pins s σ H Q I h;exact UnaryOp_ (thn (ha pins s σ H _ I h) λv s1 ⟨x,H1,I1,r1,q1⟩=>ho pins s1 σ H1 x v Q I1 r1 q1)
theorem opI{f:Value->Value->Sem Value}{C:Int->Int->Prop}{g:Int->Int->Int}
  (rule:∀ (i j:Int) (t u:Tok) (s:Shared) (Q:Value->Shared->Prop) (E:Value->Shared->Prop),C i j->Q (.int (g i j) s.toks) { s with toks:=s.toks + 1 }->wpAny (model X.prog X.w) X.A (f (.int i t) (.int j u)) Q E s) :
  OpR X f (rI C λi j=>.int (g i j)):=by
 intro pins s σ H x y v u Q I rx ry h;obtain ⟨i,j,rfl,rfl,hc,q⟩:=h;obtain ⟨t,rfl⟩:=rx;obtain ⟨t',rfl⟩:=ry;exact rule i j t t' s _ _ hc ⟨.int (g i j),H,I.tok _,⟨_,rfl⟩,q⟩
theorem j0m{f:Value->Value->Sem Value}{g:Int->Int->Int}
  (rule:∀ (i j:Int) (t u:Tok) (s:Shared) (Q:Value->Shared->Prop) (E:Value->Shared->Prop),Q (.int (g i j) s.toks) { s with toks:=s.toks + 1 }->wpAny (model X.prog X.w) X.A (f (.int i t) (.int j u)) Q E s) :
  OpR X f (rI0 λi j=>.int (g i j)):=by
 intro pins s σ H x y v u Q I rx ry h;obtain ⟨i,j,rfl,rfl,q⟩:=h;obtain ⟨t,rfl⟩:=rx;obtain ⟨t',rfl⟩:=ry;exact rule i j t t' s _ _ ⟨.int (g i j),H,I.tok _,⟨_,rfl⟩,q⟩
theorem jvv{f:Value->Value->Sem Value}{g:Int->Int->Bool}
  (rule:∀ (i j:Int) (t u:Tok) (s:Shared) (Q:Value->Shared->Prop) (E:Value->Shared->Prop),Q (.bool (g i j)) s->wpAny (model X.prog X.w) X.A (f (.int i t) (.int j u)) Q E s) :
  OpR X f (rI0 λi j=>.bl (g i j)):=by
 intro pins s σ H x y v u Q I rx ry h;obtain ⟨i,j,rfl,rfl,q⟩:=h;obtain ⟨t,rfl⟩:=rx;obtain ⟨t',rfl⟩:=ry;exact rule i j t t' s _ _ ⟨.bl (g i j),H,I,rfl,q⟩
def jw_(i j:Int):Prop:=(-(2 ^ 64) < i/\i < 2 ^ 64)\/(-(2 ^ 64) < j/\j < 2 ^ 64)
theorem jw_.ok{i j:Int}(h:jw_ i j):IntMulOk i j:=by
 rcases h with ⟨h1,h2⟩ | ⟨h1,h2⟩
 ·exact .of_left (intBits_le_64 h1 h2)
 ·exact .of_right (intBits_le_64 h1 h2)
theorem jam:OpR X (binaryOp .Add) (rI0 λi j=>.int (i + j)):=j0m λ_ _ _ _ _ _ _ q=>add_int q
theorem jhg:OpR X (binaryOp .Sub) (rI0 λi j=>.int (i - j)):=j0m λ_ _ _ _ _ _ _ q=>sub_int q
theorem j0l:OpR X (binaryOp .Mult) (rI jw_ λi j=>.int (i * j)):=opI λ_ _ _ _ _ _ _ hc q=>mul_int q hc.ok
theorem unI{f:Value->Sem Value}{g:Int->Int}
  (rule:∀ (i:Int) (t:Tok) (s:Shared) (Q:Value->Shared->Prop) (E:Value->Shared->Prop),Q (.int (g i) s.toks) { s with toks:=s.toks + 1 }->wpAny (model X.prog X.w) X.A (f (.int i t)) Q E s) :
  UnR X f (rU λi=>.int (g i)):=by
 intro pins s σ H x v Q I rx h;obtain ⟨i,rfl,q⟩:=h;obtain ⟨t,rfl⟩:=rx;exact rule i t s _ _ ⟨.int (g i),H,I.tok _,⟨_,rfl⟩,q⟩
theorem jzi:UnR X (unaryOp .USub) (rU λi=>.int (-i)):=unI λ_ _ _ _ _ q=>neg_int q
def jzv:V->V->Bool
 | .non,.non=>true | .non,.int _=>true | .int _,.non=>true | .non,.bl _=>true | .bl _,.non=>true | .non,.str _=>true | .str _,.non=>true
 | .int _,.int _=>true | .bl _,.bl _=>true | .str _,.str _=>true | .byt _,.byt _=>true
 | .int _,.str _=>true | .str _,.int _=>true | .bl _,.str _=>true | .str _,.bl _=>true
 | _,_=>false
def rEq:R2:=λx y H Q=>jzv x y=true/\Q (.bl (decide (x=y))) H
def rNe:R2:=λx y H Q=>jzv x y=true/\Q (.bl (!decide (x=y))) H
theorem jqa{i j:Int}:decide (V.int i=V.int j)=(i == j):=by
 rw [Bool.eq_iff_iff];simp
theorem jur{i j:Bool}:decide (V.bl i=V.bl j)=(i == j):=by
 rw [Bool.eq_iff_iff];simp
theorem jp_{i j:Str}:decide (V.str i=V.str j)=(i == j):=by
 rw [Bool.eq_iff_iff];simp
theorem jqb{i j:Array UInt8}:decide (V.byt i=V.byt j)=(i.toList == j.toList):=by
 rw [Bool.eq_iff_iff];cases i;cases j;simp
theorem ya{pins:List (Addr×Obj)}{σ:St}{H:Hp}{s:Shared}{Q:VK}{k k':Bool}(I:Inv X pins σ H s)(q:Q (.bl k) H)(e:k=k'):EP X pins σ Q (.bool k') s:=by
 subst e;exact ⟨.bl k,H,I,rfl,q⟩
theorem xi:OpR X (compareOp .Eq) rEq:=by
 intro pins s σ H x y v u Q I rx ry h;obtain ⟨hs,q⟩:=h;cases x with
 | non =>
  cases rx;cases y with
  | non=>cases ry;exact PySem.EqNone.eq_none_none (ya I q (by simp))
  | bl j=>cases ry;exact PySem.EqNone.eq_none_bool (ya I q (by simp))
  | int j=>obtain ⟨t',rfl⟩:=ry;exact PySem.EqNone.eq_none_int (ya I q (by simp))
  | str j=>obtain ⟨t',rfl⟩:=ry;exact PySem.EqNone.eq_none_str (ya I q (by simp))
  | _=>exact absurd (show false=true from hs) Bool.false_ne_true
 | bl i =>
  cases rx;cases y with
  | non=>cases ry;exact PySem.EqNone.eq_bool_none (ya I q (by simp))
  | bl j=>cases ry;exact eq_bool (ya I q jur)
  | str j=>obtain ⟨t',rfl⟩:=ry;exact PySem.EqMixed.eq_bool_str (ya I q (by simp))
  | _=>exact absurd (show false=true from hs) Bool.false_ne_true
 | int i =>
  obtain ⟨t,rfl⟩:=rx;cases y with
  | non=>cases ry;exact PySem.EqNone.eq_int_none (ya I q (by simp))
  | int j=>obtain ⟨t',rfl⟩:=ry;exact eq_int (ya I q jqa)
  | str j=>obtain ⟨t',rfl⟩:=ry;exact PySem.EqMixed.eq_int_str (ya I q (by simp))
  | _=>exact absurd (show false=true from hs) Bool.false_ne_true
 | str i =>
  obtain ⟨t,rfl⟩:=rx;cases y with
  | non=>cases ry;exact PySem.EqNone.eq_str_none (ya I q (by simp))
  | bl j=>cases ry;exact PySem.EqMixed.eq_str_bool (ya I q (by simp))
  | int j=>obtain ⟨t',rfl⟩:=ry;exact PySem.EqMixed.eq_str_int (ya I q (by simp))
  | str j=>obtain ⟨t',rfl⟩:=ry;exact eq_str (ya I q jp_)
  | _=>exact absurd (show false=true from hs) Bool.false_ne_true
 | byt i =>
  obtain ⟨t,rfl⟩:=rx;cases y with
  | byt j=>obtain ⟨t',rfl⟩:=ry;exact PySem.W.eq_bytes (ya I q jqb)
  | _=>exact absurd (show false=true from hs) Bool.false_ne_true
 | _=>cases y <;> exact absurd (show false=true from hs) Bool.false_ne_true
theorem jdw:OpR X (compareOp .NotEq) rNe:=by
 intro pins s σ H x y v u Q I rx ry h;obtain ⟨hs,q⟩:=h;cases x with
 | non =>
  cases rx;cases y with
  | non=>cases ry;exact PySem.EqNone.ne_none_none (ya I q (by simp))
  | bl j=>cases ry;exact PySem.EqNone.ne_none_bool (ya I q (by simp))
  | int j=>obtain ⟨t',rfl⟩:=ry;exact PySem.EqNone.ne_none_int (ya I q (by simp))
  | str j=>obtain ⟨t',rfl⟩:=ry;exact PySem.EqNone.ne_none_str (ya I q (by simp))
  | _=>exact absurd (show false=true from hs) Bool.false_ne_true
 | bl i =>
  cases rx;cases y with
  | non=>cases ry;exact PySem.EqNone.ne_bool_none (ya I q (by simp))
  | bl j=>cases ry;exact ne_bool (ya I q (congrArg not jur))
  | str j=>obtain ⟨t',rfl⟩:=ry;exact PySem.EqMixed.ne_bool_str (ya I q (by simp))
  | _=>exact absurd (show false=true from hs) Bool.false_ne_true
 | int i =>
  obtain ⟨t,rfl⟩:=rx;cases y with
  | non=>cases ry;exact PySem.EqNone.ne_int_none (ya I q (by simp))
  | int j=>obtain ⟨t',rfl⟩:=ry;exact ne_int (ya I q (congrArg not jqa))
  | str j=>obtain ⟨t',rfl⟩:=ry;exact PySem.EqMixed.ne_int_str (ya I q (by simp))
  | _=>exact absurd (show false=true from hs) Bool.false_ne_true
 | str i =>
  obtain ⟨t,rfl⟩:=rx;cases y with
  | non=>cases ry;exact PySem.EqNone.ne_str_none (ya I q (by simp))
  | bl j=>cases ry;exact PySem.EqMixed.ne_str_bool (ya I q (by simp))
  | int j=>obtain ⟨t',rfl⟩:=ry;exact PySem.EqMixed.ne_str_int (ya I q (by simp))
  | str j=>obtain ⟨t',rfl⟩:=ry;exact ne_str (ya I q (congrArg not jp_))
  | _=>exact absurd (show false=true from hs) Bool.false_ne_true
 | byt i =>
  obtain ⟨t,rfl⟩:=rx;cases y with
  | byt j=>obtain ⟨t',rfl⟩:=ry;exact PySem.W.ne_bytes (ya I q (congrArg not jqb))
  | _=>exact absurd (show false=true from hs) Bool.false_ne_true
 | _=>cases y <;> exact absurd (show false=true from hs) Bool.false_ne_true
theorem jdx:OpR X (compareOp .Lt) (rI0 λi j=>.bl (decide (i < j))):=jvv λ_ _ _ _ _ _ _ q=>lt_int q
theorem jdy:OpR X (compareOp .LtE) (rI0 λi j=>.bl (decide (i<=j))):=jvv λ_ _ _ _ _ _ _ q=>le_int q
theorem jdz:OpR X (compareOp .Gt) (rI0 λi j=>.bl (decide (j < i))):=jvv λ_ _ _ _ _ _ _ q=>gt_int q
theorem j6(b:Expr){op:CmpOp}(h:op≠.In:=by decide)(h2:op≠.NotIn:=by decide):behindInMarks op b=false:=by
 have e1:(op == CmpOp.In)=false:=by cases op <;> first | rfl | exact absurd rfl h
 have e2:(op == CmpOp.NotIn)=false:=by cases op <;> first | rfl | exact absurd rfl h2
 cases b <;> simp [behindInMarks,e1,e2]
theorem jh1{op:CmpOp}{r:R2}(ho:OpR X (compareOp op) r)(ha:PE X a ta)(hb:PE X b tb)(hm:behindInMarks op b=false):PE X (.Compare a [op] [b] pos) (tOp r ta tb):=by
 intro pins s σ H Q I h;exact wpAny_Compare1 (jw0 ha hb I h λv u s2 x y H2 I2 rx ry q=>ho pins s2 σ H2 x y v u Q I2 rx ry q) hm
def jdo(t:TE):TT:=λσ H Q=>t σ H λx H'=>∃ k,x = .bl k/\Q k H'
theorem js{op:CmpOp}{r:R2}(ho:OpR X (compareOp op) r)(ha:PE X a ta)(hb:PE X b tb)(hm:behindInMarks op b=false):PT X (.Compare a [op] [b] pos) (jdo (tOp r ta tb)):=by
 intro pins s σ H Q I h;refine wpAny_isTrue_Compare1 (thn (ha pins s σ H _ I h) λv s1 ⟨x,H1,I1,r1,q1⟩=>thn (hb pins s1 σ H1 _ I1 q1) λu s2 ⟨y,H2,I2,r2,q2⟩ =>
  thn (ho pins s2 σ H2 x y v u _ I2 r1 r2 q2) λc s3 ⟨z,H3,I3,r3,k,e,q3⟩=>?_) hm
 subst e;cases r3;exact wpAny_truthy_bool ⟨H3,I3,q3⟩
def jsu(r r':R2)(ta tb tc:TE):TE:=λσ H Q=>ta σ H λx H1=>tb σ H1 λy H2=>r x y H2 λz H3=>∃ k,z = .bl k/\
 (if k=true then tc σ H3 λw' H4=>r' y w' H4 Q else Q (.bl false) H3)
theorem jiu{op op':CmpOp}{r r':R2}(ho:OpR X (compareOp op) r)(ho':OpR X (compareOp op') r')(ha:PE X a ta)(hb:PE X b tb)(hc:PE X c tc)
  (hm:lastMarks [op,op'] [b,c]=false:=by with_unfolding_all rfl):PE X (.Compare a [op,op'] [b,c] pos) (jsu r r' ta tb tc):=by
 intro pins s σ H Q I h;refine Compare_chain (thn (ha pins s σ H _ I h) λv s1 ⟨x,H1,I1,r1,q1⟩=>chain_link (thn (hb pins s1 σ H1 _ I1 q1) λu s2 ⟨y,H2,I2,r2,q2⟩ =>
  thn (ho pins s2 σ H2 x y v u _ I2 r1 r2 q2) λd s3 ⟨z,H3,I3,r3,k,e,q3⟩=>?_)) hm
 subst e;cases r3;refine wpAny_truthy_bool ?_;cases k with
 | false=>exact ite_ff ⟨.bl false,H3,I3,rfl,q3⟩
 | true=>exact ite_tt (chain_last (thn (hc pins s3 σ H3 _ I3 q3) λw' s4 ⟨z',H4,I4,r4,q4⟩=>ho' pins s4 σ H4 y z' u w' Q I4 r2 r4 q4))
theorem jnq{op op':CmpOp}{r r':R2}(ho:OpR X (compareOp op) r)(ho':OpR X (compareOp op') r')(ha:PE X a ta)(hb:PE X b tb)(hc:PE X c tc)
  (hm:lastMarks [op,op'] [b,c]=false:=by with_unfolding_all rfl):PT X (.Compare a [op,op'] [b,c] pos) (jdo (jsu r r' ta tb tc)):=by
 intro pins s σ H Q I h;refine isTrue_chain (thn (ha pins s σ H _ I h) λv s1 ⟨x,H1,I1,r1,q1⟩=>test_link (thn (hb pins s1 σ H1 _ I1 q1) λu s2 ⟨y,H2,I2,r2,q2⟩ =>
  thn (ho pins s2 σ H2 x y v u _ I2 r1 r2 q2) λd s3 ⟨z,H3,I3,r3,k,e,q3⟩=>?_)) hm
 subst e;cases r3;refine wpAny_truthy_bool ?_;cases k with
 | false =>
  obtain ⟨k',e',q'⟩:=q3;cases e';exact ite_ff ⟨H3,I3,q'⟩
 | true =>
  refine ite_tt (test_last (thn (hc pins s3 σ H3 _ I3 q3) λw' s4 ⟨z',H4,I4,r4,q4⟩=>thn (ho' pins s4 σ H4 y z' u w' _ I4 r2 r4 q4) λd' s5 ⟨z2,H5,I5,r5,k2,e2,q5⟩=>?_));subst e2;cases r5;exact wpAny_truthy_bool ⟨H5,I5,q5⟩
theorem jhi:(sizeLine:Nat) < 2 ^ 63:=by rw [sizeLine_eq];decide
theorem jq5:OpR X (binaryOp .Add) (λx y H Q=>∃ i j,x = .str i/\y = .str j/\i.length + j.length<=sizeLine/\Q (.str (i ++ j)) H):=by
 intro pins s σ H x y v u Q I rx ry h;obtain ⟨i,j,rfl,rfl,hz,q⟩:=h;obtain ⟨t,rfl⟩:=rx;obtain ⟨t',rfl⟩:=ry;exact add_str (λt' tk=>⟨.str (i ++ j),H,I.tok _,⟨_,rfl⟩,q⟩) hz
theorem jo8:OpR X (inplaceOp .Add) (λx y H Q=>∃ i j,x = .str i/\y = .str j/\i.length + j.length<=sizeLine/\Q (.str (i ++ j)) H):=by
 intro pins s σ H x y v u Q I rx ry h;obtain ⟨i,j,rfl,rfl,hz,q⟩:=h;obtain ⟨t,rfl⟩:=rx;obtain ⟨t',rfl⟩:=ry;exact iadd_str (λt' tk=>⟨.str (i ++ j),H,I.tok _,⟨_,rfl⟩,q⟩) hz
theorem jht{x:V}{us:List Value}(r:q_ [x] us):∃ u,us=[u]/\xj x u:=by
 cases r with
 | cons r1 r2=>cases r2;exact ⟨_,rfl,r1⟩
theorem joj:jd5 X (.type "str") (λxs H Q=>∃ i,xs=[.int i]/\i.natAbs.log2 < 1920/\Q (.str (toString i)) H):=by
 intro pins s σ H xs us Q I r h;obtain ⟨i,rfl,hz,q⟩:=h;obtain ⟨u,rfl,t,rfl⟩:=jht r;exact PySem.P.str_of_int hz ⟨.str _,H,I.tok _,⟨_,rfl⟩,q⟩
theorem jww:jd5 X (.builtin "ord") (λxs H Q=>∃ x,xs=[.str x]/\x.length=1/\Q (.int (x.cps.getD 0 0:Nat)) H):=by
 intro pins s σ H xs us Q I r h;obtain ⟨x,rfl,hz,q⟩:=h;obtain ⟨u,rfl,t,rfl⟩:=jht r;exact ord_of_one hz ⟨.int _,H,I.tok _,⟨_,rfl⟩,q⟩
end
structure ji8(h:Heap)(x dx C:Addr)(mA:Str->Option Value):Prop where
 obj:h.get? x=some (PySem.W.instObj C dx)
 ns:h.Ns1 dx mA
 ne:dx≠x
theorem jub{h:Heap}{dx:Addr}{mA:Str->Option Value}(n:h.Ns1 dx mA):∃ od,h.get? dx=some od/\∀ name,PySem.W.lookIn name od=some (mA name):=by
 obtain ⟨o,es,ep,ho,hd,hk,_,hm⟩:=n;refine ⟨o,ho,λname=>?_⟩;have e:=hm name
 unfold nsFind findBy at e;rw [<- Array.find?_toList] at e;unfold PySem.W.lookIn;rw [hd];dsimp only;split
 ·rename_i y q;rw [q] at e;exact congrArg some e
 ·rename_i q;rw [q] at e;have a:es.toList.any (·.refKey)=false:=by
   rw [List.any_eq_false];intro y hy;obtain ⟨z,t,hkey⟩:=hk y (Array.mem_toList_iff.mp hy);simp [DictEntry.refKey,hkey]
  have a':¬ es.toList.any (·.refKey)=true:=by rw [a];exact Bool.false_ne_true
  rw [if_neg a'];exact congrArg some e
theorem ji8.look{h:Heap}{x dx C:Addr}{mA:Str->Option Value}(I:ji8 h x dx C mA):∃ od,PySem.W.InstAt h x (PySem.W.instObj C dx) C (some od)/\∀ name,PySem.W.lookIn name od=some (mA name) :=
 let ⟨od,ho,hl⟩:=jub I.ns
 ⟨od,⟨I.obj,rfl,rfl,ho⟩,hl⟩
section
variable{prog:Program}{w:World}{A:Around}{E:Value->Shared->Prop}{s:Shared}{K:PySem.W.Frag}{x dx C f:Addr}{mA:Str->Option Value}{name:Str}{v:Value}
theorem jy6{expr:Bool}{Q:Value->Shared->Prop}(X:K.In s.heap)(I:ji8 s.heap x dx C mA)(hg:PySem.W.plainGet K C name=true)(hh:PySem.W.hasDictIn K C=true)
  (ha:PySem.W.findIn K (.ref C) name=some none) (hv:mA name=some v) (hv':PySem.W.handedIn v=true) (h:Q v { s with toks:=s.toks + 1 }) :
  wpAny (model prog w) A (getAttr (.ref x) name expr) Q E s:=by
 obtain ⟨od,J,hl⟩:=I.look;exact PySem.W.get_value X J (PySem.W.plainGet_of hg).1 (PySem.W.findObj_own hh ha rfl (by rw [hl,hv])) hv' h
theorem jwr{pl:Sem Bool}{Q:Value×List Value->Shared->Prop}(X:K.In s.heap)(I:ji8 s.heap x dx C mA)(hg:PySem.W.plainGet K C name=true)
  (hf:PySem.W.findIn K (.ref C) name=some (some (.ref f))) (ht:PySem.W.isFn K (.ref f)=true) (hv:mA name=none) (h:Q (.ref f,[.ref x]) s) :
  wpAny (model prog w) A (getMethod (.ref x) name pl) Q E s:=by
 obtain ⟨od,J,hl⟩:=I.look;exact PySem.W.method_fn X J (PySem.W.plainGet_of hg).1 (PySem.W.plainGet_of hg).2 hf (beq_iff_eq.mp ht) (by show (PySem.W.lookIn name od).map (·.isSome)=some false;rw [hl,hv];rfl) h
theorem jxz{ns:List Str}{Q:Unit->Shared->Prop}(X:K.In s.heap)(I:ji8 s.heap x dx C mA)
  (hs:PySem.W.findIn K (.ref C) "__setattr__"=some (some (.builtin "object.__setattr__"))) (hp:PySem.W.plainOver K C=true) (ht:PySem.W.takerIn K C name=some none) (hh:PySem.W.hasDictIn K C=true)
  (hw:PySem.Within mA ns) (hsz:ns.length<=sizeLine)
  (h:∀ h',ji8 h' x dx C (λy=>if y=name then some v else mA y)->Heap.SameBut dx s.heap h'->Q () { s with heap:=h',toks:=s.toks + 2 }) :
  wpAny (model prog w) A (setAttr (.ref x) name v) Q E s:=by
 obtain ⟨od,J,hl⟩:=I.look;refine PySem.W.set_plain X J hs (PySem.W.osa_open (s:={ s with toks:=s.toks + 1 }) (r:=none) X J hp ht λb=>?_);obtain ⟨cd,hc,hd'⟩:=PySem.W.any_some hh;have hx:s.heap.get? x=some ⟨.ref C,some dx,.plain,#[]⟩:=I.obj
 refine wpAny_bind (wpAny_pure (wpAny_bind (wpAny_bind (wpAny_loadPart hx (wpAny_bind (PySem.W.Looks.here (s:={ s with toks:=s.toks + 1 }) (PySem.W.looks_clsIn X hc) ?_))))));rw [hd'];refine wpAny_pure (a:=some dx) (wpAny_bind (wpAny_pure (wpAny_bind ?_)));refine wpAny_nsSet1 (s:={ s with toks:=s.toks + 1 }) I.ns λh' hn2 hs2=>?_;obtain ⟨oD,esD,epD,hoD,hdD,hcD⟩:=hn2.count (PySem.Within.cons name v hw);refine wpAny_bind (wpAny_lookBehind hoD (by rw [hdD];exact pastItsLine_dict (Nat.le_trans hcD (by rw [List.length_cons];omega))) ?_);exact wpAny_pure (h _ ⟨(hs2.2 _ (Ne.symm I.ne)).trans I.obj,hn2,I.ne⟩ hs2)
theorem jwi{R:Result->Shared->Prop}{vs:List Value}{kw:List (Str×Value)}(X:K.In s.heap)(hm:PySem.W.makesIn K C=true)
  (hi:PySem.W.findIn K (.ref C) "__init__"=some (some (.ref f))) (hf:PySem.W.typeIn K (.ref f)=some (.type "function"))
  (h:codeAny (model prog w) (A.under (.builtin "type.__call__" ⟨.ref C::vs,kw⟩)) (.call (.ref f) ⟨.ref (s.heap.objs.size + 1)::vs,kw⟩) (PySem.W.InitBack (s.heap.objs.size + 1) R)
   { s with heap:=(s.heap.push PySem.W.emptyDict).push (PySem.W.instObj C s.heap.objs.size) }) :
  codeAny (model prog w) A (.call (.ref C) ⟨vs,kw⟩) R s:=by
 obtain ⟨hh,g,d,t,os⟩:=s;exact PySem.W.make_core (PySem.W.makes_of X hm) (PySem.W.looks_findIn X hi) (λself=>PySem.W.bind_fn X self hf) (.inl rfl) h
end
def jaa(f:Str)(v:V):List (Str×V)->List (Str×V)
 | []=>[(f,v)]
 | (g,x)::r=>if g=f then (g,v)::r else (g,x)::jaa f v r
theorem je7(f g:Str)(v:V):∀ fs:List (Str×V),(jaa f v fs).lookup g=if g=f then some v else fs.lookup g
 | []=>by
  show List.lookup g [(f,v)]=_;by_cases h:g=f
  ·have hb:(g == f)=true:=beq_iff_eq.mpr h;simp only [List.lookup,hb,if_pos h]
  ·have hb:(g == f)=false:=beq_eq_false_iff_ne.mpr h;simp only [List.lookup,hb,if_neg h]
 | (k,x)::r=>by
  have ih:=je7 f g v r;rw [show jaa f v ((k,x)::r)=(if k=f then (k,v)::r else (k,x)::jaa f v r) from rfl];by_cases hk:k=f
  ·rw [if_pos hk];by_cases h:g=k
   ·have hb:(g == k)=true:=beq_iff_eq.mpr h;simp only [List.lookup,hb,if_pos (h.trans hk)]
   ·have hb:(g == k)=false:=beq_eq_false_iff_ne.mpr h;simp only [List.lookup,hb,if_neg (λe:g=f=>h (e.trans hk.symm))]
  ·rw [if_neg hk];by_cases h:g=k
   ·have hb:(g == k)=true:=beq_iff_eq.mpr h;simp only [List.lookup,hb,if_neg (λe:g=f=>hk (h.symm.trans e))]
   ·have hb:(g == k)=false:=beq_eq_false_iff_ne.mpr h;simp only [List.lookup,hb];exact ih
theorem jdd(f:Str)(v:V):∀ fs:List (Str×V),f∈(jaa f v fs).map (·.1)/\∀ g,g∈fs.map (·.1)->g∈(jaa f v fs).map (·.1)
 | []=>⟨by simp [jaa],λg h=>by simp at h⟩
 | (k,x)::r=>by
  obtain ⟨i1,i2⟩:=jdd f v r;rw [show jaa f v ((k,x)::r)=(if k=f then (k,v)::r else (k,x)::jaa f v r) from rfl];by_cases hk:k=f
  ·rw [if_pos hk];subst hk;exact ⟨by simp,λg h=>by simpa using h⟩
  ·rw [if_neg hk];refine ⟨?_,λg h=>?_⟩
   ·rw [List.map_cons];exact List.mem_cons_of_mem _ i1
   ·rw [List.map_cons] at h ⊢;rcases List.mem_cons.mp h with e | e
    ·exact List.mem_cons.mpr (.inl e)
    ·exact List.mem_cons_of_mem _ (i2 g e)
theorem jid(f:Str)(v:V):∀ fs:List (Str×V),(jaa f v fs).length<=fs.length + 1
 | []=>by simp [jaa]
 | (k,x)::r=>by
  have ih:=jid f v r;rw [show jaa f v ((k,x)::r)=(if k=f then (k,v)::r else (k,x)::jaa f v r) from rfl];by_cases hk:k=f
  ·rw [if_pos hk,List.length_cons,List.length_cons];omega
  ·rw [if_neg hk,List.length_cons,List.length_cons];omega
theorem vo.some_of{v:V}{o:Option Value}(r:vo (some v) o):∃ u,o=some u/\xj v u:=by
 cases o with
 | none=>exact (show False from r).elim
 | some u=>exact ⟨u,rfl,r⟩
theorem vo.none_of{o:Option Value}(r:vo none o):o=none:=by
 cases o with
 | none=>rfl
 | some u=>exact (show False from r).elim
theorem juj{v:V}{u:Value}(r:xj v u):PySem.W.handedIn u=true:=by
 cases v with
 | non=>cases (show u=Value.none from r);rfl
 | bl b=>cases (show u=Value.bool b from r);rfl
 | int i=>obtain ⟨t,e⟩:=(show ∃ t,u=Value.int i t from r);cases e;rfl
 | str x=>obtain ⟨t,e⟩:=(show ∃ t,u=Value.str x t from r);cases e;rfl
 | byt b=>obtain ⟨t,e⟩:=(show ∃ t,u=Value.bytes b t from r);cases e;rfl
 | flt b=>obtain ⟨t,e⟩:=(show ∃ t,u=Value.float b t from r);cases e;rfl
 | ref a=>cases (show u=Value.ref a from r);rfl
 | ty n=>cases (show u=Value.type n from r);rfl
section
variable{P:Program}{w:World}{H H':Hp}{h h':Heap}{a C dx:Addr}{fs fs':List (Str×V)}
theorem jk3(hok:HOk P w H h)(e:H a=some (.ins C dx fs)):∃ mA,ji8 h a dx C mA/\(∀ f,vo (fs.lookup f) (mA f))/\PySem.Within mA (fs.map (·.1))/\fs.length<=1000/\H dx=some (.own a):=by
 obtain ⟨d,z,ne,ob,mA,n,r,q⟩:=(show y6 P w H h a (.ins C dx fs) from hok a _ e)
 exact ⟨mA,⟨ob,n,ne⟩,r,q,z,d⟩
end
structure Cls(K:PySem.W.Frag)(C:Addr):Prop where
 pg:PySem.W.plainGet K C Str.empty=true
 hd:PySem.W.hasDictIn K C=true
 po:PySem.W.plainOver K C=true
 sa:PySem.W.findIn K (.ref C) "__setattr__"=some (some (.builtin "object.__setattr__"))
theorem Cls.get{K:PySem.W.Frag}{C:Addr}(c:Cls K C)(f:Str):PySem.W.plainGet K C f=true:=c.pg
def jdg(K:PySem.W.Frag)(C:Addr)(f:Str):Prop:=PySem.W.findIn K (.ref C) f=some none
theorem jdg.taker{K:PySem.W.Frag}{C:Addr}{f:Str}(n:jdg K C f):PySem.W.takerIn K C f=some none:=by
 unfold PySem.W.takerIn;rw [show PySem.W.findIn K (.ref C) f=some none from n];rfl
structure jla(K:PySem.W.Frag)(C:Addr)(m:Str)(f:Addr):Prop where
 at_:PySem.W.findIn K (.ref C) m=some (some (.ref f))
 fn:PySem.W.isFn K (.ref f)=true
 kp:PySem.W.keepIn K (.ref f)=true
section
variable{X:Cx}{pins:List (Addr×Obj)}{σ:St}{H:Hp}{s:Shared}{a C dx:Addr}{fs:List (Str×V)}{f:Str}{v:V}{A:Around}{E:Value->Shared->Prop}
theorem jj5{b:Bool}{Q:Value->Shared->Prop}(I:Inv X pins σ H s)(e:H a=some (.ins C dx fs))(c:Cls X.K C)(n:jdg X.K C f)(l:fs.lookup f=some v)
  (h:∀ u s',Inv X pins σ H s'->xj v u->Q u s'):wpAny (model X.prog X.w) A (getAttr (.ref a) f b) Q E s:=by
 obtain ⟨mA,O,r,_,_,_⟩:=jk3 I.hok e;obtain ⟨u,hu,ru⟩:=vo.some_of (v:=v) (o:=mA f) (by rw [<- l];exact r f);exact jy6 I.kIn O (c.get f) c.hd n hu (juj ru) (h u _ (I.tok _) ru)
theorem jgm{m:Str}{g:Addr}{pl:Sem Bool}{Q:Value×List Value->Shared->Prop}(I:Inv X pins σ H s)(e:H a=some (.ins C dx fs))(c:Cls X.K C)(k:jla X.K C m g)(l:fs.lookup m=none)
  (h:Q (.ref g,[.ref a]) s):wpAny (model X.prog X.w) A (getMethod (.ref a) m pl) Q E s:=by
 obtain ⟨mA,O,r,_,_,_⟩:=jk3 I.hok e;have hn:mA m=none:=vo.none_of (by rw [<- l];exact r m)
 exact jwr I.kIn O (c.get m) k.at_ k.fn hn h
theorem jjh{y:V}{u:Value}{Q:Unit->Shared->Prop}(I:Inv X pins σ H s)(e:H a=some (.ins C dx fs))(c:Cls X.K C)(n:jdg X.K C f)(hl:fs.length < 1000)(ry:xj y u)
  (h:∀ s',Inv X pins σ (upd H a (.ins C dx (jaa f y fs))) s'->Q () s'):wpAny (model X.prog X.w) A (setAttr (.ref a) f u) Q E s:=by
 obtain ⟨mA,O,r,wi,_,ho⟩:=jk3 I.hok e;have hz:(fs.map (·.1)).length<=sizeLine:=by rw [List.length_map,sizeLine_eq];omega
 refine jxz I.kIn O c.sa c.po n.taker c.hd wi hz λh' O' sb=>h _ ?_;have hd:∃ o,h'.get? dx=some o:=let ⟨o,_,_,e',_⟩:=O'.ns;⟨o,e'⟩
 refine I.write (x:=a) (e:=dx) (by rw [e];exact True.intro) (.inr ho) (λb q hb z=>(sb.2 b hb).trans z) hd ?_;refine ⟨by rw [jm O.ne];exact ho,?_,O.ne,O'.obj,_,O'.ns,λg=>?_,λg hg=>?_⟩
 ·have:=jid f y fs;omega
 ·show vo ((jaa f y fs).lookup g) (if g=f then some u else mA g);rw [je7];by_cases q:g=f
  ·rw [if_pos q,if_pos q];exact ry
  ·rw [if_neg q,if_neg q];exact r g
 ·by_cases q:g=f
  ·rw [q];exact (jdd f y fs).1
  ·refine (jdd f y fs).2 g (wi g λz=>hg ?_);show (if g=f then some u else mA g)=none
   rw [if_neg q];exact z
theorem Inv.made(I:Inv X pins σ H s):Inv X pins σ (upd (upd H s.heap.objs.size (.own (s.heap.objs.size + 1))) (s.heap.objs.size + 1) (.ins C s.heap.objs.size []))
  { s with heap:=(s.heap.push PySem.W.emptyDict).push (PySem.W.instObj C s.heap.objs.size) }:=by
 have e1:(s.heap.push PySem.W.emptyDict).get? s.heap.objs.size=some PySem.W.emptyDict:=Heap.get?_push_size s.heap rfl;have e2:((s.heap.push PySem.W.emptyDict).push (PySem.W.instObj C s.heap.objs.size)).get? (s.heap.objs.size + 1)=some (PySem.W.instObj C s.heap.objs.size):=by
  have:=Heap.get?_push_size (s.heap.push PySem.W.emptyDict) (o:=PySem.W.instObj C s.heap.objs.size) rfl
  rwa [Heap.size_push] at this
 have e3:(s.heap.push PySem.W.emptyDict).Ns s.heap.objs.size (λ_=>none):=⟨PySem.W.emptyDict,#[],_,e1,rfl,(λe he=>absurd he (by simp)),λ_=>rfl⟩
 have I1:=I.laid (a:=s.heap.objs.size) (o:=.own (s.heap.objs.size + 1)) (h':=s.heap.push PySem.W.emptyDict) (t':=s.toks) (λb u q=>Heap.get?_push_of_some _ q) (Nat.le_refl _) ⟨_,e1⟩;refine I1.laid (a:=s.heap.objs.size + 1) (o:=.ins C s.heap.objs.size []) (t':=s.toks) (λb u q=>Heap.get?_push_of_some _ q) (Nat.le_of_eq (Heap.size_push _ _)) ?_;have ne:s.heap.objs.size≠s.heap.objs.size + 1:=Nat.ne_of_lt (Nat.lt_succ_self _)
 refine ⟨by rw [jm ne,jd],Nat.zero_le _,ne,e2,λ_=>none,(Heap.Ns1.of_empty e3).at λo q=>Heap.get?_push_of_some _ q,λ_=>True.intro,λy hy=>absurd rfl hy⟩
theorem jzf{prog:Program}{w:World}{env:Env}{e:Expr}{f:Str}{pos:Pos}{s:Shared}{Q:Value->Shared->Prop}(hb:attributeBase e f env (eval e env)=eval e env)
  (h:wpAny (model prog w) A (eval e env) (λo s₁=>wpAny (model prog w) A (getAttr o f true) Q E s₁) E s):wpAny (model prog w) A (eval (.Attribute e f pos) env) Q E s :=
 Attribute_any_ h (by rw [arm_eval_Attribute,hb])
end
def ja1(K:PySem.W.Frag)(ta:TE)(f:Str):TE:=λσ H Q=>ta σ H λx H1=>∃ a C dx fs v,x = .ref a/\H1 a=some (.ins C dx fs)/\Cls K C/\jdg K C f/\fs.lookup f=some v/\Q v H1
def j2h(K:PySem.W.Frag)(ta tv:TE)(f:Str):TS:=λD σ H=>tv σ H λy H1=>ta σ H1 λx H2=>∃ a C dx fs,x = .ref a/\H2 a=some (.ins C dx fs)/\Cls K C/\jdg K C f/\fs.length < 1000/\
 D.nx σ (upd H2 a (.ins C dx (jaa f y fs)))
def j1b(X:Cx)(op:Operator)(rd:V->V->Hp->VK->Prop):Prop :=
 ∀ (pins:List (Addr×Obj)) (s:Shared) (σ:St) (H:Hp) (x y:V) (u v:Value) (Q:VK),Inv X pins σ H s->xj x u->xj y v->rd x y H Q->wpAny (model X.prog X.w) X.A (inplaceOp op u v) (EP X pins σ Q) X.xe s
def jx6(K:PySem.W.Frag)(ta tv:TE)(rd:V->V->Hp->VK->Prop)(f:Str):TS:=λD σ H=>ta σ H λx H1=>∃ a C dx fs v,x = .ref a/\H1 a=some (.ins C dx fs)/\Cls K C/\jdg K C f/\fs.lookup f=some v/\
 tv σ H1 λy H2=>rd v y H2 λz H3=>∃ dx' fs',H3 a=some (.ins C dx' fs')/\fs'.length < 1000/\D.nx σ (upd H3 a (.ins C dx' (jaa f z fs')))
section
variable{X:Cx}{o e value:Expr}{f:Str}{pos pos' tpos:Pos}{ta tv:TE}
theorem qi(he:PE X e ta)(hb:attributeBase e f X.env (eval e X.env)=eval e X.env):PE X (.Attribute e f pos) (ja1 X.K ta f):=by
 intro pins s σ H Q I h;refine jzf hb (thn (he pins s σ H _ I h) λu s1 ⟨x,H1,I1,rx,a,C,dx,fs,v,ex,ea,c,n,l,q⟩=>?_);subst ex;obtain rfl:u=Value.ref a:=rx;exact jj5 I1 ea c n l λu' s2 I2 ru=>⟨v,H1,I2,ru,q⟩
theorem vy(ha:PE X o ta)(hv:PE X value tv)(hs:swapsWith value (some (.Attribute o f pos')) pos.line X.env=pure false):PS X (.Assign [.Attribute o f pos'] value pos) (j2h X.K ta tv f):=by
 intro pins s σ H D I h;refine plainObj_wpAny_Assign_Attribute (thn (hv pins s σ H _ I h) λu s1 ⟨y,H1,I1,ry,q⟩=>thn (ha pins s1 σ H1 _ I1 q) λov s2 ⟨x,H2,I2,rx,a,C,dx,fs,ex,ea,c,n,l,q2⟩=>?_) hs;subst ex;obtain rfl:ov=Value.ref a:=rx;exact jjh I2 ea c n l ry λs3 I3=>⟨σ,_,I3,q2⟩
theorem jlq{op:Operator}{rd:V->V->Hp->VK->Prop}(ha:PE X o ta)(hv:PE X value tv)(hop:j1b X op rd):PS X (.AugAssign (.Attribute o f tpos) op value pos) (jx6 X.K ta tv rd f):=by
 intro pins s σ H D I h;refine wpAny_AugAssign_AttributeAny (thn (ha pins s σ H _ I h) λov s1 ⟨x,H1,I1,rx,a,C,dx,fs,v,ex,ea,c,n,l,q⟩=>?_);subst ex;obtain rfl:ov=Value.ref a:=rx;refine jj5 I1 ea c n l λu s2 I2 ru=>thn (hv pins s2 σ H1 _ I2 q) λw3 s3 ⟨y,H2,I3,ry,q3⟩=>thn (hop pins s3 σ H2 v y u w3 _ I3 ru ry q3) λw4 s4 ⟨z,H3,I4,rz,dx',fs',ea',l',q4⟩=>?_;exact jjh I4 ea' c n l' rz λs5 I5=>⟨σ,_,I5,q4⟩
def j2m:V->V->Hp->VK->Prop:=λx y H Q=>∃ i j,x = .int i/\y = .int j/\Q (.int (i + j)) H
theorem jug:j1b X .Add j2m:=by
 rintro pins s σ H x y u v Q I rx ry ⟨i,j,rfl,rfl,q⟩;obtain ⟨t,rfl⟩:=(show ∃ t,u=Value.int i t from rx)
 obtain ⟨t',rfl⟩:=(show ∃ t',v=Value.int j t' from ry)
 exact PyProof.Rows.iadd_int ⟨.int (i + j),H,I.tok _,⟨_,rfl⟩,q⟩
theorem j1e{pl:Sem Bool}{m:Str}{apos:Pos}{args:List Expr}{pins:List (Addr×Obj)}{s:Shared}{σ:St}{H:Hp}{Q:Value->Shared->Prop}{te:TE}(he:PE X e te)(I:Inv X pins σ H s)
  (h:te σ H λx H1=>∃ a C dx fs g,x = .ref a/\H1 a=some (.ins C dx fs)/\Cls X.K C/\jla X.K C m g/\fs.lookup m=none/\
   ∀ s1,Inv X pins σ H1 s1->wpAny (model X.prog X.w) X.A (callWith pos (.ref g) [.ref a] (backTo pos (starEach args X.env)) (backToKw pos (keywordEach [] X.env))) Q X.xe s1)
  (ht:eval (.Call (.Attribute e m apos) args [] pos) X.env=(do
   let ov <- eval e X.env
   standAt apos.atName
   let (f,first) <- holding [ov] (getMethod ov m pl)
   callWith pos f first (backTo pos (starEach args X.env)) (backToKw pos (keywordEach [] X.env)))) :
  wpAny (model X.prog X.w) X.A (eval (.Call (.Attribute e m apos) args [] pos) X.env) Q X.xe s:=by
 refine PySem.W.methodCall_KW (pl:=pl) (thn (he pins s σ H _ I h) λu s1 ⟨x,H1,I1,rx,a,C,dx,fs,g,ex,ea,c,k,l,q⟩=>?_) ht;subst ex;obtain rfl:u=Value.ref a:=rx;exact jgm I1 ea c k l (q s1 I1)
end
structure xu(k:Nat)(A:Around):Prop where
 hd:A.handled=none
 dp:A.depth + k + 5 < recursionLimit
 un:A.units + 16 * k + 200 < cLine
theorem xu.mono{j k:Nat}{A:Around}(r:xu k A)(h:j<=k):xu j A:=⟨r.hd,by have:=r.dp;omega,by have:=r.un;omega⟩
theorem xu.deeper{k:Nat}{A:Around}(r:xu (k + 1) A)(env:Env):xu k (A.deeper env) :=
 ⟨r.hd,by have:=r.dp;show A.depth + 1 + k + 5 < _;omega,by have:=r.un;show A.units + 3 + 16 * k + 200 < _;omega⟩
theorem jrn{A:Around}{C:Addr}{us:List Value}{kw:List (Str×Value)}:(A.under (.builtin "type.__call__" ⟨.ref C::us,kw⟩)).depth=A.depth + 1:=by
 first | rfl | simp [Around.under,Code.weight,Code.isCreation,Code.isGuard,Code.isCaller,Code.frames,Code.isFrame,guardIds]
theorem jrm{A:Around}{C:Addr}{us:List Value}{kw:List (Str×Value)}:(A.under (.builtin "type.__call__" ⟨.ref C::us,kw⟩)).units=A.units + 1:=by
 first | rfl | simp [Around.under,Code.cUnits,Code.frames,Code.isFrame]
theorem xu.make{k:Nat}{A:Around}(r:xu (k + 1) A)(C:Addr)(us:List Value)(kw:List (Str×Value)):xu k (A.under (.builtin "type.__call__" ⟨.ref C::us,kw⟩)) :=
 ⟨r.hd,by have:=r.dp;rw [jrn];omega,by have:=r.un;rw [jrm];omega⟩
theorem xu.depth{k:Nat}{A:Around}(r:xu k A):A.depth < recursionLimit:=by have:=r.dp;omega
theorem xu.units{k:Nat}{A:Around}(r:xu k A):A.units + 64 < cLine:=by have:=r.un;omega
def xc:TA:=λ_ H Q=>Q [] H
def qj(ta:TE)(tr:TA):TA:=λσ H Q=>ta σ H λx H1=>tr σ H1 λxs H2=>Q (x::xs) H2
section
variable{X:Cx}{e:Expr}{es:List Expr}{te:TE}{t:TA}{pos:Pos}
theorem jb:PA X [] xc:=λ_ _ _ _ H Q I h=>Calls.spliced_nil ⟨[],H,I,.nil,h⟩
theorem ja(ha:PE X e te)(hr:PA X es t)(hs:starEach (e::es) X.env=(false,eval e X.env)::starEach es X.env:=by rfl):PA X (e::es) (qj te t):=by
 intro pos pins s σ H Q I h;rw [hs];show wpAny _ _ (spliced ((false,eval e X.env)::backTo pos (starEach es X.env))) _ _ s
 refine Calls.spliced_cons (thn (ha pins s σ H _ I h) λu s1 ⟨x,H1,I1,r1,q1⟩=>?_);exact thn (hr pos pins s1 σ H1 _ I1 q1) λus s2 ⟨xs,H2,I2,r2,q2⟩=>⟨x::xs,H2,I2,.cons r1 r2,q2⟩
def jqk(t:TA):TE:=λσ H Q=>t σ H λxs H1=>xs.length<=sizeLine/\∀ p,H1 p=none->Q (.ref p) (upd H1 p (.tup xs))
def jgw(t:TA):TE:=λσ H Q=>t σ H λxs H1=>xs.length<=sizeLine/\∀ p,H1 p=none->Q (.ref p) (upd H1 p (.lst xs))
theorem jbq{x1}(h:PA X es t):PE X (.Tuple es x1 pos) (jqk t):=by
 intro pins s σ H Q I hq;refine wpAny_Tuple_spliced (thn (h pos pins s σ H _ I hq) λus s1 ⟨xs,H1,I1,r,z,q⟩=>⟨by rw [<- r.length];exact z,?_⟩);have hf:H1 s1.heap.objs.size=none:=I1.hok.fresh (Nat.le_refl _)
 refine ⟨.ref s1.heap.objs.size,upd H1 s1.heap.objs.size (.tup xs),I1.laid (t':=s1.toks) (λb u e=>Heap.get?_push_of_some _ e) (Nat.le_refl _) ?_,rfl,q _ hf⟩;exact ⟨z,us,r,⟨_,Heap.get?_push_size _ rfl,rfl,_,rfl⟩⟩
theorem j3(h:PA X es t):PE X (.List es pos) (jgw t):=by
 intro pins s σ H Q I hq;refine wpAny_List_spliced (thn (h pos pins s σ H _ I hq) λus s1 ⟨xs,H1,I1,r,z,q⟩=>⟨by rw [<- r.length];exact z,?_⟩);have hf:H1 s1.heap.objs.size=none:=I1.hok.fresh (Nat.le_refl _)
 refine ⟨.ref s1.heap.objs.size,upd H1 s1.heap.objs.size (.lst xs),I1.laid (t':=s1.toks) (λb u e=>Heap.get?_push_of_some _ e) (Nat.le_refl _) ?_,rfl,q _ hf⟩;exact ⟨z,us,0,r,Heap.get?_push_size _ rfl⟩
end
abbrev Sp:=List V->Hp->VK->XK->Prop
abbrev CXT:=List Env->Hp->Shared->XK->Value->Shared->Prop
structure ji9(P:Program)(w:World)(K:PySem.W.Frag)(mg:Str->Option Value)(base:Heap)(A:Around)(outer:List Env)(s:Shared)(H:Hp):Prop where
 frames:A.frames=some outer
 mod:Mod K mg base
 bs:∀ b o,base.get? b=some o->s.heap.get? b=some o/\H b=none
 bsz:base.objs.size<=s.heap.objs.size
 funs:s.heap.FunFrames base outer
 frf:∀ b∈frs outer,H b=none
 hok:HOk P w H s.heap
 bare:AllBare s.gens
def CE(outer:List Env)(P:Program)(w:World)(H:Hp)(s:Shared)(Q:VK)(u:Value)(s':Shared):Prop :=
 ∃ v H',s'.os=s.os/\AllBare s'.gens/\Un (frs outer) [] H H' s.heap s'.heap/\HOk P w H' s'.heap/\xj v u/\Q v H'
def CR(CX:CXT)(outer:List Env)(P:Program)(w:World)(H:Hp)(s:Shared)(Q:VK)(E:XK)(r:Result)(s':Shared):Prop :=
 match r with
 | .ok (.ret u)=>CE outer P w H s Q u s'
 | .ok _=>False
 | .error e=>CX outer H s E e s'
structure xh(P:Program)(w:World)(K:PySem.W.Frag)(mg:Str->Option Value)(base:Heap)(CX:CXT)(k:Nat)(f:Addr)(fd:FuncData)(ps:List Str)(sp:Sp):Prop where
 len:∀ vs H Q E,sp vs H Q E->vs.length=ps.length
 run:∀ (A:Around) (outer:List Env) (s:Shared) (H:Hp) (args:Args) (us:List Value) (vs:List V) (Q:VK) (E:XK),xu k A->ji9 P w K mg base A outer s H->BindsTo s fd args (ps.zip us)->q_ vs us->sp vs H Q E->
  codeAny (model P w) A (.call (.ref f) args) (CR CX outer P w H s Q E) s
theorem ji9.make{P:Program}{w:World}{K:PySem.W.Frag}{mg:Str->Option Value}{base:Heap}{A:Around}{outer:List Env}{s:Shared}{H:Hp}(e:ji9 P w K mg base A outer s H)(C:Addr)(us:List Value)(kw:List (Str×Value)) :
  ji9 P w K mg base (A.under (.builtin "type.__call__" ⟨.ref C::us,kw⟩)) outer s H:=⟨by first | exact e.frames | (simpa [Around.under,Code.envs,Code.isFrame,pushEnvs] using e.frames),e.mod,e.bs,e.bsz,e.funs,e.frf,e.hok,e.bare⟩
section
variable{X:Cx}{pins:List (Addr×Obj)}{σ:St}{H:Hp}{s s':Shared}
theorem Inv.env0(I:Inv X pins σ H s):ji9 X.prog X.w X.K X.mg X.base X.A X.stack s H :=
 ⟨I.ok.frames,I.ok.mod,I.bs,Nat.le_trans I.ok.bsz I.sz,I.stack,I.stkFree,I.hok,I.bare⟩
theorem Inv.after{Q:VK}{u:Value}(I:Inv X pins σ H s)(h:CE X.stack X.prog X.w H s Q u s'):EP X pins σ Q u s':=by
 obtain ⟨v,H',os,bare,un,hok,r,q⟩:=h;obtain ⟨hh,g,d,t,os'⟩:=s';obtain rfl:os'=s.os:=os;exact ⟨v,H',I.call (h':=hh) (g':=g) (d':=d) (t':=t) (ch:=[]) un hok bare (λb z=>absurd z (by simp)),r,q⟩
end
def yh(sp:Sp)(dvs:List V)(E:XK)(t:TA):TE:=λσ H Q=>t σ H λvs H1=>sp (vs ++ dvs) H1 Q E
def vd(C:Addr)(m:Str)(sp:Sp)(dvs:List V)(E:XK)(ta:TE)(t:TA):TE:=λσ H Q=>ta σ H λx H1=>∃ a dx fs,x = .ref a/\H1 a=some (.ins C dx fs)/\fs.lookup m=none/\
 t σ H1 λvs H2=>sp (x::(vs ++ dvs)) H2 Q E
def jmg(C:Addr)(sp:Sp)(dvs:List V)(E:XK)(t:TA):TE:=λσ H Q=>t σ H λvs H1=>∀ x dx,H1 x=none->H1 dx=none->dx≠x->
 sp (.ref x::(vs ++ dvs)) (upd (upd H1 dx (.own x)) x (.ins C dx [])) (λv H2=>v = .non/\Q (.ref x) H2) E
def zk(K:PySem.W.Frag)(fd:FuncData)(ps:List Str)(ds:List Value):Prop :=
 ∀ (s:Shared) (us:List Value),K.In s.heap->(us ++ ds).length=ps.length->BindsTo s fd ⟨us,[]⟩ (ps.zip (us ++ ds))
theorem zk.all{K:PySem.W.Frag}{fd:FuncData}{ps:List Str}(h:∀ us:List Value,us.length=ps.length->bindArgs fd ⟨us,[]⟩=pure (ps.zip us)):zk K fd ps []:=λs us _ hl=>by
 rw [List.append_nil] at hl ⊢;exact .of_eq (h us hl)
def jao(CX:CXT)(X:Cx)(E:XK):Prop:=∀ (pins:List (Addr×Obj)) (σ:St) (H:Hp) (s:Shared) (e:Value) (s':Shared),Inv X pins σ H s->CX X.stack H s E e s'->X.xe e s'
section
variable{X:Cx}{CX:CXT}{k:Nat}{f C:Addr}{fd:FuncData}{ps:List Str}{sp:Sp}{dvs:List V}{ds:List Value}{E:XK}{x m:Str}{p pos apos:Pos}{e o:Expr}{es:List Expr}{ta:TE}{t:TA}
theorem jnk{pins:List (Addr×Obj)}{σ:St}{H:Hp}{s:Shared}{Q:VK}{us:List Value}{vs:List V}(F:xh X.prog X.w X.K X.mg X.base CX k f fd ps sp)(hr:xu k X.A)(hb:zk X.K fd ps ds)(hd:q_ dvs ds)(hx:jao CX X E)
  (I:Inv X pins σ H s) (r:q_ vs us) (h:sp (vs ++ dvs) H Q E):wpAny (model X.prog X.w) X.A (call (.ref f) us) (EP X pins σ Q) X.xe s:=by
 have r2:q_ (vs ++ dvs) (us ++ ds):=r.append hd;have hl:(us ++ ds).length=ps.length:=by rw [<- r2.length];exact F.len _ _ _ _ h
 refine wpAny_call (codeAny_mono (F.run X.A X.stack s H ⟨us,[]⟩ (us ++ ds) (vs ++ dvs) Q E hr I.env0 (hb s us I.kIn hl) r2 h) λr s' hq=>?_);cases r with
 | error e=>exact hx pins σ H s e s' I hq
 | ok fl =>
  cases fl with
  | ret u=>exact I.after hq
  | next=>exact False.elim hq
  | brk=>exact False.elim hq
  | cont=>exact False.elim hq
theorem vf(F:xh X.prog X.w X.K X.mg X.base CX k f fd ps sp)(hr:xu k X.A)(hg:Gl X x)(hm:X.mg x=some (.ref f))(hk:PySem.W.keepIn X.K (.ref f)=true)(hb:zk X.K fd ps ds)(hd:q_ dvs ds)(hx:jao CX X E)
  (ha:PA X (e::es) t) (hdb:(x == ("__debug__":Str))=false:=by decide) (he:starEach (e::es) X.env=(false,eval e X.env)::starEach es X.env:=by rfl) (hpl:(backTo pos (starEach es X.env)).any (·.1)=false:=by rfl) :
  PE X (.Call (.Name x p) (e::es) [] pos) (yh sp dvs E t):=by
 intro pins s σ H Q I h;refine wpAny_Call_Name_kw (jfn I hg hm ?_ hdb);refine PySem.W.callWith_K (h₀:=X.base) I.ok.mod.kin hk (thn (ha pos pins s σ H _ I h) λus s1 ⟨vs,H1,I1,r,q⟩=>⟨I1.kIn,?_⟩) he hpl;exact jnk F hr hb hd hx I1 r q
theorem jya{pl:Sem Bool}(he:PE X o ta)(c:Cls X.K C)(hm:jla X.K C m f)(F:xh X.prog X.w X.K X.mg X.base CX k f fd ps sp)(hr:xu k X.A)(hb:zk X.K fd ps ds)(hd:q_ dvs ds)(hx:jao CX X E)(ha:PA X (e::es) t)
  (hst:starEach (e::es) X.env=(false,eval e X.env)::starEach es X.env:=by rfl) (hpl:(backTo pos (starEach es X.env)).any (·.1)=false:=by rfl)
  (ht:eval (.Call (.Attribute o m apos) (e::es) [] pos) X.env=(do
   let ov <- eval o X.env
   standAt apos.atName
   let (f,first) <- holding [ov] (getMethod ov m pl)
   callWith pos f first (backTo pos (starEach (e::es) X.env)) (backToKw pos (keywordEach [] X.env))):=by rfl) :
  PE X (.Call (.Attribute o m apos) (e::es) [] pos) (vd C m sp dvs E ta t):=by
 intro pins s σ H Q I h;refine PySem.W.methodCall_KW (pl:=pl) (thn (he pins s σ H _ I h) λu s1 ⟨x,H1,I1,rx,a,dx,fs,ex,ea,l,q⟩=>?_) ht;subst ex;obtain rfl:u=Value.ref a:=rx;refine jgm I1 ea c hm l ?_;refine PySem.W.callWith_K (first:=[.ref a]) (h₀:=X.base) I.ok.mod.kin hm.kp (thn (ha pos pins s1 σ H1 _ I1 q) λus s2 ⟨vs,H2,I2,r,q2⟩=>⟨I2.kIn,?_⟩) hst hpl;exact jnk (us:=.ref a::us) (vs:=.ref a::vs) F hr hb hd hx I2 (.cons rfl r) q2
theorem jvr{pl:Sem Bool}(he:PE X o ta)(c:Cls X.K C)(hm:jla X.K C m f)(F:xh X.prog X.w X.K X.mg X.base CX k f fd ps sp)(hr:xu k X.A)(hb:zk X.K fd ps ds)(hd:q_ dvs ds)(hx:jao CX X E)
  (ht:eval (.Call (.Attribute o m apos) [] [] pos) X.env=(do
   let ov <- eval o X.env
   standAt apos.atName
   let (f,first) <- holding [ov] (getMethod ov m pl)
   callWith pos f first (backTo pos (starEach [] X.env)) (backToKw pos (keywordEach [] X.env))):=by rfl) :
  PE X (.Call (.Attribute o m apos) [] [] pos) (vd C m sp dvs E ta xc):=by
 intro pins s σ H Q I h;refine PySem.W.methodCall_KW (pl:=pl) (thn (he pins s σ H _ I h) λu s1 ⟨x,H1,I1,rx,a,dx,fs,ex,ea,l,q⟩=>?_) ht;subst ex;obtain rfl:u=Value.ref a:=rx;refine jgm I1 ea c hm l ?_;exact PySem.W.callWith_K0 (first:=[.ref a]) I1.kIn hm.kp (jnk (us:=[.ref a]) (vs:=[.ref a]) F hr hb hd hx I1 (.cons rfl .nil) q)
structure Mk(K:PySem.W.Frag)(C f:Addr):Prop where
 makes:PySem.W.makesIn K C=true
 init:PySem.W.findIn K (.ref C) "__init__"=some (some (.ref f))
 fn:PySem.W.isFn K (.ref f)=true
 kp:PySem.W.keepIn K (.ref C)=true
theorem jvf{pins:List (Addr×Obj)}{σ:St}{H:Hp}{s:Shared}{Q:VK}{us:List Value}{vs:List V}(M:Mk X.K C f)(F:xh X.prog X.w X.K X.mg X.base CX k f fd ps sp)(hr:xu (k + 1) X.A)(hb:zk X.K fd ps ds)(hd:q_ dvs ds)
  (hx:jao CX X E) (I:Inv X pins σ H s) (r:q_ vs us)
  (h:∀ x dx,H x=none->H dx=none->dx≠x->sp (.ref x::(vs ++ dvs)) (upd (upd H dx (.own x)) x (.ins C dx [])) (λv H2=>v = .non/\Q (.ref x) H2) E) :
  wpAny (model X.prog X.w) X.A (call (.ref C) us) (EP X pins σ Q) X.xe s:=by
 have hq:=h (s.heap.objs.size + 1) s.heap.objs.size (I.hok.fresh (Nat.le_succ _)) (I.hok.fresh (Nat.le_refl _)) (Nat.ne_of_lt (Nat.lt_succ_self _));have I2:=Inv.made (C:=C) I
 have r2:q_ (V.ref (s.heap.objs.size + 1)::(vs ++ dvs)) (Value.ref (s.heap.objs.size + 1)::(us ++ ds)):=.cons rfl (r.append hd);have hl:(Value.ref (s.heap.objs.size + 1)::us ++ ds).length=ps.length:=by
  have e:=r2.length;rw [F.len _ _ _ _ hq] at e;exact e.symm
 refine wpAny_call (jwi (f:=f) I.kIn M.makes M.init (beq_iff_eq.mp M.fn) (codeAny_mono (F.run _ X.stack _ _ ⟨Value.ref (s.heap.objs.size + 1)::us,[]⟩ (Value.ref (s.heap.objs.size + 1)::(us ++ ds)) _ _ E (hr.make C us [])
  (I2.env0.make C us []) (hb _ (Value.ref (s.heap.objs.size + 1)::us) I2.kIn hl) r2 hq) λr s' hq'=>?_))
 cases r with
 | error e=>exact hx pins σ _ _ e s' I2 hq'
 | ok fl =>
  cases fl with
  | ret u =>
   obtain ⟨v,H',I3,rv,ev,q3⟩:=I2.after hq';subst ev;exact ⟨rv,⟨V.ref (s.heap.objs.size + 1),H',I3,rfl,q3⟩⟩
  | next=>exact False.elim hq'
  | brk=>exact False.elim hq'
  | cont=>exact False.elim hq'
theorem jbl(M:Mk X.K C f)(F:xh X.prog X.w X.K X.mg X.base CX k f fd ps sp)(hr:xu (k + 1) X.A)(hg:Gl X x)(hm:X.mg x=some (.ref C))(hb:zk X.K fd ps ds)(hd:q_ dvs ds)(hx:jao CX X E)
  (ha:PA X (e::es) t) (hdb:(x == ("__debug__":Str))=false:=by decide) (he:starEach (e::es) X.env=(false,eval e X.env)::starEach es X.env:=by rfl) (hpl:(backTo pos (starEach es X.env)).any (·.1)=false:=by rfl) :
  PE X (.Call (.Name x p) (e::es) [] pos) (jmg C sp dvs E t):=by
 intro pins s σ H Q I h;refine wpAny_Call_Name_kw (jfn I hg hm ?_ hdb);refine PySem.W.callWith_K (h₀:=X.base) I.ok.mod.kin M.kp (thn (ha pos pins s σ H _ I h) λus s1 ⟨vs,H1,I1,r,q⟩=>⟨I1.kIn,?_⟩) he hpl;exact jvf M F hr hb hd hx I1 r q
end
structure jv(N P:List Str)(sc:Scope):Prop where
 kind:sc.kind = .function
 co:sc.isCoroutine=false
 gen:sc.isGenerator=false
 nd:N.Nodup
 pre:N.take P.length=P
 par:∀ x∈P,sc.names.lookup x=some .local\/sc.names.lookup x=some .cell
 nofree:∀ y∈sc.names,y.2≠.free
theorem jl6{kindOf:Str->Option NameKind}{x:Str}:∀ {binds:List (Str×Value)} {m:Str->Option Value},(∀ v,(x,v)∉binds)->bindL kindOf binds m x=m x
 | [],_,_=>rfl
 | (n,v)::r,m,h=>by
  unfold bindL;rw [jl6 λw hw=>h w (List.mem_cons_of_mem _ hw)];split
  ·have:x≠n:=by rintro rfl;exact h v List.mem_cons_self
   simp [this]
  ·rfl
theorem jl8{kindOf:Str->Option NameKind}{x:Str}:∀ {binds:List (Str×Value)} {m:Str->Option Value},(∀ v,(x,v)∉binds)->bindC kindOf binds m x=m x
 | [],_,_=>rfl
 | (n,v)::r,m,h=>by
  unfold bindC;rw [jl8 λw hw=>h w (List.mem_cons_of_mem _ hw)];split
  ·rfl
  ·have:x≠n:=by rintro rfl;exact h v List.mem_cons_self
   simp [this]
theorem jl7{kindOf:Str->Option NameKind}{x:Str}{v:Value}:∀ {P:List Str} {vs:List Value} {i:Nat} {m:Str->Option Value},P.Nodup->P[i]? = some x->vs[i]? = some v->kindOf x=some .local->
  bindL kindOf (P.zip vs) m x=some v
 | [],_,_,_,_,h,_,_=>by simp at h
 | _::_,[],_,_,_,_,h,_=>by simp at h
 | p::P,w::vs,0,m,nd,h1,h2,hk=>by
  simp at h1 h2;subst h1;subst h2;show bindL kindOf ((p,w)::P.zip vs) m p=_
  unfold bindL;rw [jl6 λv hv=>(List.nodup_cons.mp nd).1 (List.of_mem_zip hv).1,if_pos hk];simp
 | p::P,w::vs,i + 1,m,nd,h1,h2,hk=>by
  show bindL kindOf ((p,w)::P.zip vs) m x=_;unfold bindL;exact jl7 (i:=i) (List.nodup_cons.mp nd).2 (by simpa using h1) (by simpa using h2) hk
theorem jl9{kindOf:Str->Option NameKind}{x:Str}{v:Value}:∀ {P:List Str} {vs:List Value} {i:Nat} {m:Str->Option Value},P.Nodup->P[i]? = some x->vs[i]? = some v->kindOf x≠some .local->
  bindC kindOf (P.zip vs) m x=some v
 | [],_,_,_,_,h,_,_=>by simp at h
 | _::_,[],_,_,_,_,h,_=>by simp at h
 | p::P,w::vs,0,m,nd,h1,h2,hk=>by
  simp at h1 h2;subst h1;subst h2;show bindC kindOf ((p,w)::P.zip vs) m p=_
  unfold bindC;rw [jl8 λv hv=>(List.nodup_cons.mp nd).1 (List.of_mem_zip hv).1,if_neg hk];simp
 | p::P,w::vs,i + 1,m,nd,h1,h2,hk=>by
  show bindC kindOf ((p,w)::P.zip vs) m x=_;unfold bindC;exact jl9 (i:=i) (List.nodup_cons.mp nd).2 (by simpa using h1) (by simpa using h2) hk
def jcx(N:List Str)(vs:List V):St:=vs.map some ++ List.replicate (N.length - vs.length) none
def xt(CX:CXT)(P:Program)(w:World)(K:PySem.W.Frag)(mg:Str->Option Value)(base:Heap)(N:List Str)(qual:Str)(scope:Scope)(f:Addr)(cd:Value)(A:Around)(outer:List Env)(s:Shared)(H:Hp)(E:XK):Cx where
 prog:=P
 w:=w
 K:=K
 mg:=mg
 base:=base
 A:=A.deeper (envOfC qual scope s.heap.objs.size f cd)
 N:=N
 s_0:=s
 H_0:=H
 env:=envOfC qual scope s.heap.objs.size f cd
 outer:=outer
 stack:=envOfC qual scope s.heap.objs.size f cd::outer
 ex:=[]
 calm:=true
 fn:=λ_=>true
 pn:=[]
 xe:=λe s'=>wpAny (model P w) (A.deeper (envOfC qual scope s.heap.objs.size f cd)) (leaving (envOfC qual scope s.heap.objs.size f cd) e) (λ_ s''=>CX outer H s E e s'') (λe' s''=>CX outer H s E e' s'') s'
theorem joi{sc:Scope}{n:Nat}{x:Str}(h:sc.names.lookup x=some .cell):∃ c,(cellsFrom n sc.names []).lookup x=some c:=by
 have q:=PySem.W.cellsFrom_some sc.names n [] (.inl h);exact Option.isSome_iff_exists.mp q
theorem juf{CX:CXT}{P:Program}{w:World}{K:PySem.W.Frag}{mg:Str->Option Value}{base:Heap}{N ps:List Str}{qual:Str}{scope:Scope}{f:Addr}{cd:Value}{A:Around}{outer:List Env}{s s1:Shared}{H:Hp}{E:XK}{us:List Value}{vs:List V}
  (S:jv N ps scope) (hd:A.handled=none) (e0:ji9 P w K mg base A outer s H) (hl:vs.length=ps.length) (r:q_ vs us)
  (x:InCallC s s.heap.objs.size (bindL (envOfC qual scope s.heap.objs.size f cd).kindOf (ps.zip us) λ_=>none) (cellsFrom (s.heap.objs.size + 1) scope.names []) (bindC (envOfC qual scope s.heap.objs.size f cd).kindOf (ps.zip us) λ_=>none) s1) :
  Inv (xt CX P w K mg base N qual scope f cd A outer s H E) [] (jcx N vs) H s1:=by
 have hpl:ps.length<=N.length:=by have:=congrArg List.length S.pre;rw [List.length_take] at this;omega
 obtain ⟨h1,tk,rfl,hk⟩:=x.done;have noA:∀ b:Addr,b∉(xt CX P w K mg base N qual scope f cd A outer s H E).ex:=λb z=>absurd (show b∈([]:List Addr) from z) (by simp)
 refine ⟨⟨e0.mod,S.kind,rfl,rfl,Nat.le_refl _,λy z c h1 h2=>?_,λy hy=>?_,λy c _ h=>?_,λ_=>hd,Around.frames_deeper e0.frames,.inr ⟨rfl,rfl⟩,λb z=>absurd z (noA b),e0.bs,e0.bsz,λb _ _=>noA b,λb z=>absurd z (noA b),e0.funs,e0.frf⟩,
  rfl,e0.bare,Un.kept hk,⟨_,x.toInCall.ns,λi y v h1 h2 h3=>?_⟩,λy c h=>⟨_,x.cell y c h⟩,e0.hok.fresh (Nat.le_refl _),λy c h=>?_,λp hp=>absurd (show p∈([]:List (Addr×Obj)) from hp) (by simp),e0.hok.kept hk,?_⟩
 ·exact name_of_addr x.apart (PySem.mem_of_lookup h1) (PySem.mem_of_lookup h2)
 ·have hy:scope.names.lookup y=some .cell\/scope.names.lookup y=some .free:=hy;rcases hy with hy | hy
  ·exact joi hy
  ·exact absurd rfl (S.nofree _ (PySem.mem_of_lookup hy))
 ·exact Nat.le_of_lt (x.above y c (PySem.mem_of_lookup h))
 ·have hi:i < vs.length:=by
   unfold jcx at h2;by_cases hi:i < vs.length
   ·exact hi
   ·rw [List.getElem?_append_right (by simpa using hi)] at h2;rw [List.getElem?_replicate] at h2;split at h2 <;> cases h2
  have ha:vs[i]? = some v:=by
   unfold jcx at h2;rw [List.getElem?_append_left (by simpa using hi),List.getElem?_map] at h2;cases e:vs[i]? with
   | none=>rw [e] at h2;cases h2
   | some a=>rw [e] at h2;cases h2;rfl
  obtain ⟨u,hu,rv⟩:=r.get ha;have hp:ps[i]? = some y:=by
   rw [<- S.pre,List.getElem?_take_of_lt (by omega)];exact h1
  have ndP:ps.Nodup:=by rw [<- S.pre];exact S.nd.sublist (List.take_sublist _ _)
  refine ⟨u,rv,?_⟩;rcases S.par y (List.mem_of_getElem? hp) with k | k
  ·exact .inl ⟨k,jl7 ndP hp hu k⟩
  ·obtain ⟨c,e⟩:=joi (n:=s.heap.objs.size + 1) k;refine .inr ⟨.inl k,c,e,?_⟩;have q:=x.cell y c e
   rw [jl9 ndP hp hu (by show scope.names.lookup y≠_;rw [k];decide)] at q;exact q
 ·exact e0.hok.fresh (Nat.le_of_lt (x.above y c (PySem.mem_of_lookup h)))
 ·unfold jcx;show _=N.length
  rw [List.length_append,List.length_map,List.length_replicate];omega
theorem j10{CX:CXT}{P:Program}{w:World}{K:PySem.W.Frag}{mg:Str->Option Value}{base:Heap}{k:Nat}{f:Addr}{name qual:Str}{params:Arguments}{body:List Stmt}{scope:Scope}{dV kV doc pm cdv ct oc:Value}{an od:Option Addr}
  {osl:Array (Option Value)} {N ps:List Str} {sp:Sp} (lk:K.lookup f=some ⟨oc,od,.func (PySem.W.fnOf name qual params body scope dV kV doc pm an cdv ct),osl⟩) (hcd:PySem.W.codeIn K cdv qual=true) (S:jv N ps scope)
  (len:∀ vs H Q E,sp vs H Q E->vs.length=ps.length)
  (hbody:∀ (A:Around) (outer:List Env) (s:Shared) (H:Hp) (vs:List V) (Q:VK) (E:XK),xu k (A.deeper (envOfC qual scope s.heap.objs.size f cdv))->sp vs H Q E->
   ∃ t,PSs (xt CX P w K mg base N qual scope f cdv A outer s H E) body t/\t { nx:=λ_ H'=>Q .non H',rt:=Q } (jcx N vs) H) :
  xh P w K mg base CX (k + 1) f (PySem.W.fnOf name qual params body scope dV kV doc pm an cdv ct) ps sp:=by
 refine ⟨len,λA outer s H args us vs Q E hr e0 hb r hsp=>?_⟩;have hl:=len _ _ _ _ hsp
 have KX:K.In s.heap:=e0.mod.kin.keeps λb o e=>(e0.bs b o e).1;have lim:s.heap.NoLimit:=e0.mod.nolimit.keeps λb o e=>(e0.bs b o e).1
 have hkind:∀ y∈ps.zip us,scope.names.lookup y.1=some .local\/(scope.names.lookup y.1=some .cell/\((cellsFrom (s.heap.objs.size + 1) scope.names []).lookup y.1).isSome=true):=λ⟨n,v⟩ hy=>by
  rcases S.par n (List.of_mem_zip hy).1 with q | q
  ·exact .inl q
  ·exact .inr ⟨q,PySem.W.cellsFrom_some _ _ _ (.inl q)⟩
 refine codeAny_call_function hr.depth (KX _ _ lk) rfl S.co S.gen rfl (PySem.W.codeRec_of KX hcd) (hb _ _ _ _ ?_);refine wpAny_newFunctionEnv_cells S.kind hkind λenv he s1 x=>?_;subst he;refine ⟨lim.keeps x.toInCall.keep,codeAny_func ?_⟩;obtain ⟨t,ht,hq⟩:=hbody A outer s H vs Q E (hr.deeper _) hsp;have I:Inv (xt CX P w K mg base N qual scope f cdv A outer s H E) [] (jcx N vs) H s1:=juf S hr.hd e0 hl r x
 refine wpAny_mono (ht [] s1 (jcx N vs) H _ I hq) (λfl s' hs=>?_) λe s' hs=>hs;have fin:∀ {σ':St} {H':Hp} {v:V} {u:Value},Inv (xt CX P w K mg base N qual scope f cdv A outer s H E) [] σ' H' s'->xj v u->Q v H'->CE outer P w H s Q u s' :=
  λ{σ' H' v u} J rv q=>⟨v,H',J.os,J.bare,J.base,J.hok,rv,q⟩
 cases fl with
 | ret u =>
  obtain ⟨v,σ',H',J,rv,q⟩:=hs;exact fin J rv q
 | next =>
  obtain ⟨σ',H',J,q⟩:=hs;exact fin (v:=V.non) (u:=Value.none) J rfl q
 | brk =>
  obtain ⟨_,_,_,q⟩:=hs;exact False.elim q
 | cont =>
  obtain ⟨_,_,_,q⟩:=hs;exact False.elim q
section
variable{X:Cx}{x:Str}{p pos:Pos}{e:Expr}{es:List Expr}{t:TA}{id T:String}{r:List V->Hp->VK->Prop}
def tCB(r:List V->Hp->VK->Prop)(t:TA):TE:=λσ H Q=>t σ H λvs H1=>r vs H1 Q
theorem yt(hc:jd5 X (.builtin id) r)(hg:Gl X x)(hm:X.mg x=none)(hv:bootBuiltins x=some (.builtin id))(ha:PA X (e::es) t)(hn:x≠"__name__":=by decide)(hdb:(x == ("__debug__":Str))=false:=by decide)
  (he:starEach (e::es) X.env=(false,eval e X.env)::starEach es X.env:=by rfl) (hpl:(backTo pos (starEach es X.env)).any (·.1)=false:=by rfl):PE X (.Call (.Name x p) (e::es) [] pos) (tCB r t):=by
 intro pins s σ H Q I h;refine wpAny_Call_Name_kw (jhj I hg hm hv ?_ hn hdb);exact PyProof.Rows.callWith_builtin1 (thn (ha pos pins s σ H _ I h) λus s1 ⟨vs,H1,I1,r1,q1⟩=>hc pins s1 σ H1 vs us Q I1 r1 q1) he hpl
theorem jhf(hc:jd5 X (.type T) r)(hg:Gl X x)(hm:X.mg x=none)(hv:bootBuiltins x=some (.type T))(ha:PA X (e::es) t)(hn:x≠"__name__":=by decide)(hdb:(x == ("__debug__":Str))=false:=by decide)
  (he:starEach (e::es) X.env=(false,eval e X.env)::starEach es X.env:=by rfl) (hpl:(backTo pos (starEach es X.env)).any (·.1)=false:=by rfl):PE X (.Call (.Name x p) (e::es) [] pos) (tCB r t):=by
 intro pins s σ H Q I h;refine wpAny_Call_Name_kw (jhj I hg hm hv ?_ hn hdb);exact PyProof.Rows.callWith_type1 (thn (ha pos pins s σ H _ I h) λus s1 ⟨vs,H1,I1,r1,q1⟩=>hc pins s1 σ H1 vs us Q I1 r1 q1) he hpl
end
end L2
namespace HT
open PySem PyProof.Rows
section
variable{prog:Program}{w:World}{A:Around}{E:Value->Shared->Prop}{s:Shared}
def sIx(n d:Nat):Option Int->Nat
 | none=>d
 | some v=>if v < 0 then (v + (n:Int)).toNat else min v.toNat n
theorem jnj(n d:Nat):sIx n d none=d:=rfl
theorem jd6(n d k:Nat):sIx n d (some (k:Int))=min k n:=by
 show (if (k:Int) < 0 then ((k:Int) + (n:Int)).toNat else min (k:Int).toNat n)=min k n;rw [if_neg (by omega),Int.toNat_natCast]
end
end HT
namespace L2
open PySem PySem.Spec PyProof.Rows
abbrev TO:=St->Hp->(Option Int->Hp->Prop)->Prop
def PO(X:Cx)(e:Option Expr)(t:TO):Prop :=
 ∀ (pins:List (Addr×Obj)) (s:Shared) (σ:St) (H:Hp) (Q:Option Int->Hp->Prop),Inv X pins σ H s->t σ H Q->
  wpAny (model X.prog X.w) X.A (evalPart e X.env) (λu s'=>∃ o H',Inv X pins σ H' s'/\IsPart u o/\Q o H') X.xe s
def jpj:TO:=λ_ H Q=>Q none H
def jxa(t:TE):TO:=λσ H Q=>t σ H λx H1=>∃ i,x = .int i/\Q (some i) H1
section
variable{X:Cx}{e:Expr}{te:TE}{lo hi:Option Expr}{tl th:TO}{pos p2:Pos}
theorem jd7:PO X none jpj:=by
 intro pins s σ H Q I h;rw [evalPart_none];exact wpAny_pure ⟨none,H,I,.none,h⟩
theorem jar(h:PE X e te):PO X (some e) (jxa te):=by
 intro pins s σ H Q I hw;rw [evalPart_some];refine thn (h pins s σ H _ I hw) λu s1 ⟨x,H1,I1,r1,q1⟩=>?_;obtain ⟨i,rfl,q⟩:=q1;obtain ⟨t,rfl⟩:=r1;exact ⟨some i,H1,I1,.int i t,q⟩
def SlR(X:Cx)(r:V->Option Int->Option Int->Hp->VK->Prop):Prop :=
 ∀ (pins:List (Addr×Obj)) (s:Shared) (σ:St) (H:Hp) (x:V) (v vl vu:Value) (lo hi:Option Int) (sl:Addr) (Q:VK),Inv X pins σ H s->xj x v->s.heap.IsSliceOf sl vl vu .none->IsPart vl lo->IsPart vu hi->r x lo hi H Q->
  ∃ T id,typeLookup (.type T) "__getitem__"=pure (some (.builtin id))/\s.TypeIs v T/\wpAny (model X.prog X.w) X.A (getItem v (.ref sl)) (EP X pins σ Q) X.xe s
def tSl(r:V->Option Int->Option Int->Hp->VK->Prop)(te:TE)(tl th:TO):TE:=λσ H Q=>te σ H λx H1=>tl σ H1 λl H2=>th σ H2 λu H3=>r x l u H3 Q
theorem ja6{r:V->Option Int->Option Int->Hp->VK->Prop}(hr:SlR X r)(he:PE X e te)(hl:PO X lo tl)(hu:PO X hi th):PE X (.Subscript e (.Slice lo hi none p2) pos) (tSl r te tl th):=by
 intro pins s σ H Q I h;refine Subscript_ (thn (he pins s σ H _ I h) λv s1 ⟨x,H1,I1,r1,q1⟩=>?_);refine wpAny_Slice (thn (hl pins s1 σ H1 _ I1 q1) λvl s2 ⟨l,H2,I2,pl,q2⟩=>thn (hu pins s2 σ H2 _ I2 q2) λvu s3 ⟨u,H3,I3,pu,q3⟩=>?_);rw [evalPart_none];refine wpAny_pure ?_;have I4:Inv X pins σ H3 { s3 with heap:=s3.heap.push { cls:=.type "slice",data:=.fields #[vl,vu,.none] } }:=I3.kept (t':=s3.toks) λb ob q=>Heap.get?_push_of_some _ q
 obtain ⟨T,id,hT,ht,hg⟩:=hr pins { s3 with heap:=s3.heap.push { cls:=.type "slice",data:=.fields #[vl,vu,.none] } } σ H3 x v vl vu l u s3.heap.objs.size Q I4 r1 (Heap.IsSliceOf.new ..) pl pu q3;show wpAny (model X.prog X.w) X.A (subscriptTail e (.Slice lo hi none p2) v (.ref s3.heap.objs.size)) (EP X pins σ Q) X.xe { s3 with heap:=s3.heap.push { cls:=.type "slice",data:=.fields #[vl,vu,.none] } }
 exact tail_any (ops:=[.ref s3.heap.objs.size,v]) ht hT hg (by with_unfolding_all rfl)
def jcj(xs:List V)(lo hi:Option Int):List V:=(xs.drop (HT.sIx xs.length 0 lo)).take (HT.sIx xs.length xs.length hi - HT.sIx xs.length 0 lo)
theorem jpd(xs:List V)(lo hi:Option Int):(jcj xs lo hi).length<=xs.length:=by
 unfold jcj;rw [List.length_take,List.length_drop];omega
end
def ixN(n:Nat)(i:Int):Option Nat:=if 0<=i then (if i < n then some i.toNat else none) else if -(n:Int)<=i then some (i + n).toNat else none
def atI{α:Type}(xs:List α)(i:Int):Option α:=(ixN xs.length i).bind λj=>xs[j]?
theorem jy5{n:Nat}{i:Int}{j:Nat}(h:ixN n i=some j):seqIndex? i n=some j/\j < n/\-(n:Int)<=i/\i < n:=by
 unfold ixN at h;by_cases h0:0<=i
 ·rw [if_pos h0] at h;by_cases h1:i < n
  ·rw [if_pos h1] at h;have e:i.toNat=j:=Option.some.inj h
   exact ⟨by rw [seqIndex_of h0 h1,e],by omega,by omega,h1⟩
  ·rw [if_neg h1] at h;cases h
 ·rw [if_neg h0] at h;by_cases h1 : -(n:Int)<=i
  ·rw [if_pos h1] at h;have e:(i + n).toNat=j:=Option.some.inj h
   exact ⟨by rw [seqIndex_neg (by omega) h1,e],by omega,h1,by omega⟩
  ·rw [if_neg h1] at h;cases h
theorem jk9{α:Type}{xs:List α}{i:Int}{v:α}(h:atI xs i=some v):∃ j,seqIndex? i xs.length=some j/\xs[j]? = some v/\j < xs.length/\-(xs.length:Int)<=i/\i < xs.length:=by
 unfold atI at h;cases e:ixN xs.length i with
 | none=>rw [e] at h;cases h
 | some j =>
  rw [e] at h;obtain ⟨h1,h2,h3,h4⟩:=jy5 e;exact ⟨j,h1,h,h2,h3,h4⟩
theorem jaw{α:Type}{xs:List α}{j:Nat}{v:α}(h:xs[j]? = some v):atI xs (j:Int)=some v:=by
 have hj:j < xs.length:=(List.getElem?_eq_some_iff.mp h).1;have e:ixN xs.length (j:Int)=some j:=by
  unfold ixN;rw [if_pos (by omega),if_pos (by omega)];simp
 unfold atI;rw [e];exact h
def jzh(b:Expr):Prop:=∀ o i,subscripted b false o i=operate [o,i] (getItem o i)
def IxR(X:Cx)(r:R2):Prop :=
 ∀ (value slice:Expr) (pins:List (Addr×Obj)) (s:Shared) (σ:St) (H:Hp) (x y:V) (v u:Value) (Q:VK),Inv X pins σ H s->xj x v->xj y u->r x y H Q->
  subscripted slice false v u=operate [v,u] (getItem v u)->wpAny (model X.prog X.w) X.A (subscriptTail value slice v u) (EP X pins σ Q) X.xe s
def MtR(X:Cx)(id:String)(r:V->List V->Hp->VK->Prop):Prop :=
 ∀ (pins:List (Addr×Obj)) (s:Shared) (σ:St) (H:Hp) (x:V) (xs:List V) (v:Value) (us:List Value) (Q:VK),Inv X pins σ H s->xj x v->q_ xs us->r x xs H Q->
  wpAny (model X.prog X.w) X.A (call (.builtin id) (v::us)) (EP X pins σ Q) X.xe s
section
variable{X:Cx}{a b:Expr}{ta tb:TE}{pos:Pos}
theorem xo{r:R2}(hr:IxR X r)(ha:PE X a ta)(hb:PE X b tb)(hs:jzh b):PE X (.Subscript a b pos) (tOp r ta tb):=by
 intro pins s σ H Q I h;exact Subscript_ (jw0 ha hb I h λv u s2 x y H2 I2 rx ry q=>hr a b pins s2 σ H2 x y v u Q I2 rx ry q (hs _ _))
def jgb(K:PySem.W.Frag):R2:=λx y H Q=>∃ p xs i v,x = .ref p/\y = .int i/\SqL K H p xs/\atI xs i=some v/\Q v H
def jvj(K:PySem.W.Frag):R2:=λx y H Q=>∃ p xs i v,x = .ref p/\y = .int i/\SqT K H p xs/\atI xs i=some v/\Q v H
def j2l:R2:=λx y H Q=>∃ z i c,x = .str z/\y = .int i/\z.length<=sizeLine/\atI z.cps.toList i=some c/\Q (.str ⟨#[c]⟩) H
theorem qv:IxR X (jgb X.K):=by
 intro value slice pins s σ H x y v u Q I rx ry h hs;obtain ⟨p,xs,i,z,rfl,rfl,hq,he,q⟩:=h;cases rx;obtain ⟨t,rfl⟩:=ry;obtain ⟨its,r,pl,hz⟩:=I.list hq;obtain ⟨j,h1,h2,h3,h4,h5⟩:=jk9 he;obtain ⟨w,ew,rw'⟩:=r.get h2;have hl:=r.length
 have hn:=jhi;have fin:EP X pins σ Q w s:=⟨z,H,I,rw',q⟩
 by_cases h0:0<=i
 ·have hj:i.toNat=j:=by
   rw [seqIndex_of h0 h5] at h1;exact Option.some.inj h1
  exact item_listR pl.isList h0 (by omega) (by rw [hj];simpa using ew) fin hs
 ·have hj:(i + (its.toArray.size:Int)).toNat=j:=by
   rw [seqIndex_neg (by omega) h4] at h1;rw [List.size_toArray,<- hl];exact Option.some.inj h1
  exact subscriptTail_builtinR (x:=w) pl.isList.typeIs slot_list_getitem.lookup
   (wpAny_getItem_list_neg (Q:=λr s'=>r=w/\EP X pins σ Q r s') pl.isList (by omega) (by rw [List.size_toArray] <;> omega) (by omega) (by rw [hj];simpa using ew) ⟨rfl,fin⟩) hs
theorem jj3:IxR X (jvj X.K):=by
 intro value slice pins s σ H x y v u Q I rx ry h hs;obtain ⟨p,xs,i,z,rfl,rfl,hq,he,q⟩:=h;cases rx;obtain ⟨t,rfl⟩:=ry;obtain ⟨its,r,pl,hz⟩:=I.tuple hq;obtain ⟨j,h1,h2,h3,h4,h5⟩:=jk9 he;obtain ⟨w,ew,rw'⟩:=r.get h2;have hl:=r.length
 have hn:=jhi;have fin:EP X pins σ Q w s:=⟨z,H,I,rw',q⟩
 exact subscriptTail_builtinR (x:=w) pl.typeIs slot_tuple_getitem.lookup
  (getItem_tuple (j:=j) (Q:=λr s'=>r=w/\EP X pins σ Q r s') pl (by omega) (by omega) (by rw [List.size_toArray,<- hl];exact h1) (by simpa using ew) ⟨rfl,fin⟩) hs
theorem j0z:IxR X j2l:=by
 intro value slice pins s σ H x y v u Q I rx ry h hs;obtain ⟨z,i,c,rfl,rfl,hz,he,q⟩:=h;obtain ⟨t,rfl⟩:=rx;obtain ⟨t',rfl⟩:=ry;obtain ⟨j,h1,h2,h3,h4,h5⟩:=jk9 he;have hl:z.cps.toList.length=z.length:=by simp [Str.length]
 rw [hl] at h1 h4 h5;have hn:=jhi
 exact tail_any (typeIs_str s z t) slot_str_getitem.lookup (getItem_str (c:=c) (by
  have e1:decide (i < -(2 ^ 63:Int))=false:=decide_eq_false (by omega);have e2:decide (i ≥ 2 ^ 63)=false:=decide_eq_false (by omega)
  rw [e1,e2,Bool.or_false]) (by rw [h1];simpa using h2) ⟨.str ⟨#[c]⟩,H,I.tok _,⟨_,rfl⟩,q⟩) hs
theorem jm1(lo hi:Option Int)(n:Nat):(sliceBounds lo hi none n).1=((HT.sIx n 0 lo:Nat):Int)/\(sliceBounds lo hi none n).2.1=((HT.sIx n n hi:Nat):Int)/\(sliceBounds lo hi none n).2.2=1:=by
 refine ⟨?_,?_,rfl⟩
 ·cases lo with
  | none=>simp [sliceBounds,HT.sIx]
  | some i =>
   simp only [sliceBounds,HT.sIx,Option.getD_none,show (1:Int) > 0 by decide,if_true];by_cases h:i < 0
   ·simp only [h,if_true] <;> omega
   ·simp only [h,if_false] <;> omega
 ·cases hi with
  | none=>simp [sliceBounds,HT.sIx]
  | some i =>
   simp only [sliceBounds,HT.sIx,Option.getD_none,show (1:Int) > 0 by decide,if_true];by_cases h:i < 0
   ·simp only [h,if_true] <;> omega
   ·simp only [h,if_false] <;> omega
theorem jmb(its:List Value)(lo hi:Option Int):slicePick its.toArray lo hi none=((its.drop (HT.sIx its.length 0 lo)).take (HT.sIx its.length its.length hi - HT.sIx its.length 0 lo)).toArray:=by
 obtain ⟨h1,h2,h3⟩:=jm1 lo hi its.toArray.size;unfold slicePick;rw [h1,h2,h3];simp only [sliceRange_one,pick_run,List.size_toArray] <;> rfl
def jz9(K:PySem.W.Frag):V->Option Int->Option Int->Hp->VK->Prop:=λx lo hi H Q=>∃ a xs,x = .ref a/\SqL K H a xs/\∀ p,H p=none->Q (.ref p) (upd H p (.lst (jcj xs lo hi)))
theorem jb3:SlR X (jz9 X.K):=by
 intro pins s σ H x v vl vu lo hi sl Q I rx hs pl pu h;obtain ⟨a,xs,rfl,hx,q⟩:=h;cases rx;obtain ⟨its,r,ht,hz⟩:=I.list hx;have hlen:=r.length
 refine ⟨"list",_,slot_list_getitem.lookup,ht.isList.typeIs,?_⟩;refine wpAny_getItem_list_slice ht.isList hs pl pu .none (by simp) ?_ (by rw [List.size_toArray] <;> omega);rw [jmb,<- hlen];refine ⟨.ref s.heap.objs.size,_,I.laid (t':=s.toks) (o:=.lst (jcj xs lo hi)) (λb ob q=>Heap.get?_push_of_some _ q) (Nat.le_refl _) ?_,rfl,q _ (I.hok.fresh (Nat.le_refl _))⟩;exact ⟨Nat.le_trans (jpd xs lo hi) hz,_,0,(r.drop (HT.sIx xs.length 0 lo)).take (HT.sIx xs.length xs.length hi - HT.sIx xs.length 0 lo),Heap.get?_push_size _ rfl⟩
def jd2:V->Bool
 | .non=>true
 | .bl _=>true
 | .int _=>true
 | .str _=>true
 | _=>false
def eqV:V->V->Bool
 | .non,.non=>true
 | .bl a,.bl b=>a == b
 | .bl a,.int b=>(if a then 1 else 0) == b
 | .int a,.bl b=>a == (if b then 1 else 0)
 | .int a,.int b=>a == b
 | .str a,.str b=>a == b
 | _,_=>false
theorem j03{A:Around}{s:Shared}{y x:V}{u v:Value}(ry:xj y u)(rx:xj x v)(fy:jd2 y=true)(fx:jd2 x=true):SeqAt.EqAt A s u v (eqV y x):=by
 cases y with
 | non =>
  cases ry;cases x with
  | non=>cases rx;exact SeqAt.EqAt.same _
  | bl b=>cases rx;exact SeqAt.EqAt.none_bool b
  | int b=>obtain ⟨t,rfl⟩:=rx;exact SeqAt.EqAt.none_int b t
  | str b=>obtain ⟨t,rfl⟩:=rx;exact SeqAt.EqAt.none_str b t
  | _=>exact absurd (show false=true from fx) Bool.false_ne_true
 | bl a =>
  cases ry;cases x with
  | non=>cases rx;exact SeqAt.EqAt.bool_none a
  | bl b=>cases rx;exact SeqAt.EqAt.bool_bool a b
  | int b=>obtain ⟨t,rfl⟩:=rx;exact SeqAt.EqAt.bool_int a b t
  | str b=>obtain ⟨t,rfl⟩:=rx;exact SeqAt.EqAt.bool_str a b t
  | _=>exact absurd (show false=true from fx) Bool.false_ne_true
 | int a =>
  obtain ⟨t',rfl⟩:=ry;cases x with
  | non=>cases rx;exact SeqAt.EqAt.int_none a t'
  | bl b=>cases rx;exact SeqAt.EqAt.int_bool a t' b
  | int b=>obtain ⟨t,rfl⟩:=rx;exact SeqAt.EqAt.int_int a t' b t
  | str b=>obtain ⟨t,rfl⟩:=rx;exact SeqAt.EqAt.int_str a t' b t
  | _=>exact absurd (show false=true from fx) Bool.false_ne_true
 | str a =>
  obtain ⟨t',rfl⟩:=ry;cases x with
  | non=>cases rx;exact SeqAt.EqAt.str_none a t'
  | bl b=>cases rx;exact SeqAt.EqAt.str_bool a t' b
  | int b=>obtain ⟨t,rfl⟩:=rx;exact SeqAt.EqAt.str_int a t' b t
  | str b=>obtain ⟨t,rfl⟩:=rx;exact SeqAt.EqAt.str_str a t' b t
  | _=>exact absurd (show false=true from fx) Bool.false_ne_true
 | _=>exact absurd (show false=true from fy) Bool.false_ne_true
def eqU(x:V)(u:Value):Bool:=match u with
 | .none=>eqV .non x
 | .bool b=>eqV (.bl b) x
 | .int i _=>eqV (.int i) x
 | .str z _=>eqV (.str z) x
 | _=>false
theorem juq{x y:V}{u:Value}(r:xj y u)(f:jd2 y=true):eqU x u=eqV y x:=by
 cases y with
 | non=>cases r;rfl
 | bl b=>cases r;rfl
 | int i=>obtain ⟨t,rfl⟩:=r;rfl
 | str z=>obtain ⟨t,rfl⟩:=r;rfl
 | _=>exact absurd (show false=true from f) Bool.false_ne_true
theorem jk_{x:V}:∀ {xs:List V} {us:List Value},q_ xs us->xs.all jd2=true->us.any (eqU x)=xs.any λy=>eqV y x
 | _,_,.nil,_=>rfl
 | y::xs,u::us,.cons r t,f=>by
  rw [List.all_cons,Bool.and_eq_true] at f;rw [List.any_cons,List.any_cons,juq r f.1,jk_ t f.2]
theorem jix{A:Around}{s:Shared}{x:V}{v:Value}(rx:xj x v)(fx:jd2 x=true):∀ {xs:List V} {us:List Value},q_ xs us->xs.all jd2=true->∀ u∈us,SeqAt.EqAt A s u v (eqU x u)
 | _,_,.nil,_=>λu hu=>by cases hu
 | y::xs,u::us,.cons r t,f=>λu' hu=>by
  rw [List.all_cons,Bool.and_eq_true] at f;rcases List.mem_cons.mp hu with rfl | hu
  ·rw [juq r f.1];exact j03 r rx f.1 fx
  ·exact jix rx fx t f.2 u' hu
def inV(x:V)(xs:List V):Bool:=xs.any λy=>eqV y x
def rIn(K:PySem.W.Frag)(neg:Bool):R2:=λx y H Q=>∃ p xs,y = .ref p/\(SqL K H p xs\/SqT K H p xs)/\jd2 x=true/\xs.all jd2=true/\Q (.bl (if neg then !inV x xs else inV x xs)) H
theorem zw:OpR X (compareOp .In) (rIn X.K false):=by
 intro pins s σ H x y v u Q I rx ry h;obtain ⟨p,xs,rfl,hq,fx,fs,q⟩:=h;cases ry;rcases hq with hq | hq
 ·obtain ⟨its,r,pl,hz⟩:=I.list hq;refine SeqAt.in_listAt (eqU x) pl.isList (λw hw=>jix rx fx r fs w (by simpa using hw)) ⟨.bl _,H,I,rfl,?_⟩;rw [show its.toArray.any (eqU x)=its.any (eqU x) by simp,jk_ r fs];exact q
 ·obtain ⟨its,r,pl,hz⟩:=I.tuple hq;refine SeqAt.in_tupleAt (eqU x) pl (λw hw=>jix rx fx r fs w (by simpa using hw)) ⟨.bl _,H,I,rfl,?_⟩;rw [show its.toArray.any (eqU x)=its.any (eqU x) by simp,jk_ r fs];exact q
theorem x9:jd5 X (.builtin "len") (λxs H Q=>∃ p ys,xs=[.ref p]/\(SqL X.K H p ys\/SqT X.K H p ys)/\Q (.int ys.length) H):=by
 intro pins s σ H xs us Q I r h;obtain ⟨p,ys,rfl,hq,q⟩:=h;obtain ⟨u,rfl,rx⟩:=jht r;cases rx;have hn:=jhi
 rcases hq with hq | hq
 ·obtain ⟨its,r',pl,hz⟩:=I.list hq;have hlen:=r'.length
  exact Calls.call_len_list pl.isList (by simp only [List.size_toArray] <;> omega) ⟨.int ys.length,H,I.tok _,⟨s.toks + 1,by rw [List.size_toArray,hlen]⟩,q⟩
 ·obtain ⟨its,r',pl,hz⟩:=I.tuple hq;have hlen:=r'.length
  exact len_tuple pl (by simp only [List.size_toArray] <;> omega) ⟨.int ys.length,H,I.tok _,⟨s.toks + 1,by rw [List.size_toArray,hlen]⟩,q⟩
theorem jol:jd5 X (.builtin "len") (λxs H Q=>∃ z,xs=[.str z]/\z.length<=sizeLine/\Q (.int z.length) H):=by
 intro pins s σ H xs us Q I r h;obtain ⟨z,rfl,hz,q⟩:=h;obtain ⟨u,rfl,t,rfl⟩:=jht r;have hn:=jhi
 exact len_str (by omega) ⟨.int z.length,H,I.tok _,⟨_,rfl⟩,q⟩
theorem jok:jd5 X (.type "list") (λxs H Q=>∃ p ys,xs=[.ref p]/\(SqL X.K H p ys\/SqT X.K H p ys)/\∀ l,H l=none->Q (.ref l) (upd H l (.lst ys))):=by
 intro pins s σ H xs us Q I r h;obtain ⟨p,ys,rfl,hq,q⟩:=h;obtain ⟨u,rfl,rx⟩:=jht r;cases rx;have fin:∀ (its:List Value),q_ ys its->ys.length<=sizeLine->∀ (h':Heap) (c':Nat),(∀ b o',s.heap.get? b=some o'->h'.get? b=some o')->
   h'.get? s.heap.objs.size=some { cls:=.type "list",dict:=none,data:=.seq its.toArray c',slots := #[] }->EP X pins σ Q (.ref s.heap.objs.size) { s with heap:=h' }:=λits r' hz h' c' kp e =>
  ⟨.ref s.heap.objs.size,_,I.laid (t':=s.toks) kp (Nat.le_refl _) (show y6 X.prog X.w _ h' _ (.lst ys) from ⟨hz,its,c',r',e⟩),rfl,q _ (I.hok.fresh (Nat.le_refl _))⟩
 rcases hq with hq | hq
 ·obtain ⟨its,r',pl,hz⟩:=I.list hq;have hlen:=r'.length
  obtain ⟨o,ho,hc,n,hd⟩:=pl.isList;exact call_list_seq p (.inl rfl) ho hc hd (λh' c' kp e=>fin its r' hz h' c' kp e) (by simp only [List.size_toArray] <;> omega)
 ·obtain ⟨its,r',pl,hz⟩:=I.tuple hq;have hlen:=r'.length
  obtain ⟨o,ho,hc,n,hd⟩:=pl;exact call_list_seq p (.inr rfl) ho hc hd (λh' c' kp e=>fin its r' hz h' c' kp e) (by simp only [List.size_toArray] <;> omega)
theorem jmf:jd5 X (.type "tuple") (λxs H Q=>∃ p ys,xs=[.ref p]/\((SqL X.K H p ys/\∀ l,H l=none->Q (.ref l) (upd H l (.tup ys)))\/(SqT X.K H p ys/\Q (.ref p) H))):=by
 intro pins s σ H xs us Q I r h;obtain ⟨p,ys,rfl,h⟩:=h;obtain ⟨u,rfl,rx⟩:=jht r;cases rx;rcases h with ⟨hq,q⟩ | ⟨hq,q⟩
 ·obtain ⟨its,r',pl,hz⟩:=I.list hq;have hlen:=r'.length
  refine call_tuple_list pl.isList (λh' kp=>?_) (by simp only [List.size_toArray] <;> omega);have I1:Inv X pins σ H { s with heap:=h' }:=I.kept (t':=s.toks) kp
  have I2:Inv X pins σ (upd H h'.objs.size (.tup ys)) { s with heap:=h'.push { cls:=.type "tuple",data:=.seq its.toArray } } :=
   I1.laid (t':=s.toks) (λb o e=>Heap.get?_push_of_some _ e) (Nat.le_refl _) (show y6 X.prog X.w _ _ _ (.tup ys) from ⟨hz,its,r',IsTup.new _ _⟩)
  exact ⟨.ref h'.objs.size,_,I2,rfl,q _ (I1.hok.fresh (Nat.le_refl _))⟩
 ·obtain ⟨its,r',pl,hz⟩:=I.tuple hq;exact call_tuple_same pl ⟨.ref p,H,I,rfl,q⟩
def tyV(K:PySem.W.Frag)(T:String)(x:V)(H:Hp):Prop:=match x with
 | .str _=>T = "str"
 | .int _=>T = "int"
 | .ref p=>(T = "list"/\∃ xs,SqL K H p xs)\/(T = "tuple"/\∃ o,K.lookup p=some o/\o.cls = .type "tuple"/\o.dict=none)\/
   (T = "dict"/\((∃ kvs,H p=some (.dK kvs))\/∃ kvs,H p=some (.dT kvs)))\/(T = "set"/\∃ S n,H p=some (.set S n))
 | _=>False
theorem jzj{pins:List (Addr×Obj)}{σ:St}{H:Hp}{s:Shared}{T:String}{x:V}{v:Value}(I:Inv X pins σ H s)(r:xj x v)(ty:tyV X.K T x H) :
  s.TypeIs v T/\∀ a,v = .ref a->∃ ob,s.heap.get? a=some ob/\ob.dict=none:=by
 cases x with
 | str z =>
  obtain ⟨t,rfl⟩:=r;cases (show T = "str" from ty);exact ⟨typeIs_str s z t,λ_ e=>nomatch e⟩
 | int i =>
  obtain ⟨t,rfl⟩:=r;cases (show T = "int" from ty);exact ⟨typeIs_int s i t,λ_ e=>nomatch e⟩
 | ref p =>
  cases r;rcases ty with ⟨rfl,xs,hq⟩ | ⟨rfl,o,hk,hc,hd⟩ | ⟨rfl,hk⟩ | ⟨rfl,S,n,hk⟩
  ·obtain ⟨its,_,pl,_⟩:=I.list hq;refine ⟨pl.isList.typeIs,λa e=>?_⟩;cases e;obtain ⟨o,n,e,c,hd,_⟩:=pl;exact ⟨o,e,hd⟩
  ·refine ⟨⟨o,I.kIn p o hk,hc⟩,λa e=>?_⟩;cases e;exact ⟨o,I.kIn _ o hk,hd⟩
  ·have z:∃ o,s.heap.get? p=some o/\o.ExactDict:=by
    rcases hk with ⟨kvs,hk⟩ | ⟨kvs,hk⟩
    ·obtain ⟨_,_,_,_,o,_,_,e,ex,_⟩:=I.hok p _ hk;exact ⟨o,e,ex⟩
    ·obtain ⟨_,_,_,_,o,_,_,e,ex,_⟩:=I.hok p _ hk;exact ⟨o,e,ex⟩
   obtain ⟨o,e,ex⟩:=z;refine ⟨⟨o,e,ex.1⟩,λa e2=>?_⟩;cases e2;exact ⟨o,e,ex.2.1⟩
  ·obtain ⟨o,_,_,_,e,ex,_⟩:=I.hok p _ hk;refine ⟨⟨o,e,ex.1⟩,λa e2=>?_⟩;cases e2;exact ⟨o,e,ex.2.1⟩
 | _=>exact False.elim ty
def tBM(K:PySem.W.Frag)(T:String)(r:V->List V->Hp->VK->Prop)(to:TE)(t:TA):TE:=λσ H Q=>to σ H λx H1=>tyV K T x H1/\t σ H1 λxs H2=>r x xs H2 Q
variable{o e:Expr}{es:List Expr}{to:TE}{t:TA}{name:Str}{apos cpos:Pos}{T id:String}{r:V->List V->Hp->VK->Prop}
theorem vk(pa:PlainAttrs T)(slot:Slot T name id)(hty:typeOf (.builtin id)=pure (.type "method_descriptor"))(hm:MtR X id r)(ho:PE X o to)(ha:PA X (e::es) t)
  (hbase:attributeBase o name X.env (eval o X.env)=eval o X.env:=by rfl)
  (hfew:((backTo cpos (starEach (e::es) X.env)).all (λx => !x.1) && (backToKw cpos (keywordEach [] X.env)).all (λx=>x.1.isSome)
   && decide ((e::es).length + ([]:List Keyword).length + (if ([]:List Keyword).isEmpty then 0 else 1) < 30))=true:=by rfl)
  (hline:(apos.endLine == cpos.line)=true:=by rfl) (hs:starEach (e::es) X.env=(false,eval e X.env)::starEach es X.env:=by rfl) (hplain:(backTo cpos (starEach es X.env)).any (·.1)=false:=by rfl) :
  PE X (.Call (.Attribute o name apos) (e::es) [] cpos) (tBM X.K T r to t):=by
 intro pins s σ H Q I h;refine wpAny_Call_method_late hbase hfew hline rfl (thn (ho pins s σ H _ I h) λv s1 ⟨x,H1,I1,r1,ty,q1⟩=>?_);obtain ⟨h1,h2⟩:=jzj I1 r1 ty;refine ⟨T,id,pa,slot,hty,h1,h2,?_⟩;have hA:=ha cpos pins s1 σ H1 _ I1 q1
 rw [hs] at hA ⊢;refine Calls.callWith_builtin (by show (false || (backTo cpos (starEach es X.env)).any (·.1))=false;rw [hplain] <;> rfl) (Calls.evalArgs_plain ?_);exact thn hA λus s2 ⟨vs,H2,I2,r2,q2⟩=>hm pins s2 σ H2 x vs v us Q I2 r1 r2 q2
end
def MtM(X:Cx)(id:String)(r:V->List V->Hp->VK->Prop):Prop :=
 ∀ (pins:List (Addr×Obj)) (s:Shared) (σ:St) (H:Hp) (x:V) (xs:List V) (v:Value) (us:List Value) (Q:VK),Inv X pins σ H s->xj x v->q_ xs us->r x xs H Q->
  wpAny (model X.prog X.w) X.A (call (.builtin id) (v::us)) (EP X pins σ Q) X.xe s
theorem q_.one:∀ {x:V} {us:List Value},q_ [x] us->∃ u,us=[u]/\xj x u
 | _,_,.cons r .nil=>⟨_,rfl,r⟩
section
variable{X:Cx}{pins:List (Addr×Obj)}{σ:St}{H:Hp}{s:Shared}{l b:Addr}{xs ys zs:List V}
theorem Inv.lset{its its':List Value}{n:Nat}{f:Array Value->Array Value}{t':Nat}(I:Inv X pins σ H s)(hH:H l=some (.lst xs))
  (e:s.heap.get? l=some { cls:=.type "list",data:=.seq its.toArray n }) (hf:f its.toArray=its'.toArray) (hv:q_ ys its') (hz:ys.length<=sizeLine) :
  Inv X pins σ (upd H l (.lst ys)) { s with heap:=s.heap.update l (Obj.mapSeq f),toks:=t' }:=by
 have q:=PySem.IsL.update e f;rw [hf] at q;refine I.write (x:=l) (e:=l) (by rw [hH];exact trivial) (.inl rfl) (λb' u hb hu=>(Heap.get?_update_other s.heap (Obj.mapSeq f) (Ne.symm hb)).trans hu) ⟨_,q⟩ ?_;exact ⟨hz,its',_,hv,q⟩
theorem Inv.lnew{its:List Value}{t':Nat}(I:Inv X pins σ H s)(hv:q_ ys its)(hz:ys.length<=sizeLine) :
  Inv X pins σ (upd H s.heap.objs.size (.lst ys)) { s with heap:=s.heap.push { cls:=.type "list",data:=.seq its.toArray },toks:=t' } :=
 I.laid (λ_ _ q=>Heap.get?_push_of_some _ q) (Nat.le_refl _) ⟨hz,its,0,hv,Heap.get?_push_size _ rfl⟩
theorem Inv.fresh(I:Inv X pins σ H s):H s.heap.objs.size=none:=I.hok.fresh (Nat.le_refl _)
theorem Inv.lstM(I:Inv X pins σ H s)(hH:H l=some (.lst xs)):xs.length<=sizeLine/\∃ (its:List Value) (n:Nat),q_ xs its/\xs.length=its.length/\s.heap.get? l=some { cls:=.type "list",data:=.seq its.toArray n }:=by
 obtain ⟨z,its,n,r,e⟩:=I.hok l _ hH;exact ⟨z,its,n,r,r.length,e⟩
theorem jny{n:Nat}(h:n<=sizeLine):Builtin.List.listTooLong n=false:=by
 unfold Builtin.List.listTooLong;exact decide_eq_false (by omega)
end
section
variable{X:Cx}
def jx8:V->List V->Hp->VK->Prop:=λx vs H Q=>∃ l xs y,x = .ref l/\vs=[y]/\H l=some (.lst xs)/\xs.length < sizeLine/\Q .non (upd H l (.lst (xs ++ [y])))
theorem zg:MtM X "list.append" jx8:=by
 intro pins s σ H x vs v us Q I rx rv h;obtain ⟨l,xs,y,rfl,rfl,hH,hz,q⟩:=h;cases rx;obtain ⟨u,rfl,ru⟩:=rv.one;obtain ⟨z,its,n,r,hl,e⟩:=I.lstM hH;refine call_meets F.slot_list_append ⟨_,e,rfl⟩ F.entry_list_append (F.args_list_append_2 _ _) (PySem.list_append l its.toArray n u (by rw [List.size_toArray];omega)) ⟨e,?_⟩;refine ⟨.non,_,I.lset (its':=its ++ [u]) hH e (by simp) (r.append (.cons ru .nil)) ?_,rfl,q⟩;rw [List.length_append,List.length_singleton];omega
def jx7:V->List V->Hp->VK->Prop:=λx vs H Q=>∃ l b xs zs,x = .ref l/\vs=[.ref b]/\H l=some (.lst xs)/\H b=some (.lst zs)/\xs.length + zs.length<=sizeLine/\Q .non (upd H l (.lst (xs ++ zs)))
theorem jev:MtM X "list.extend" jx7:=by
 intro pins s σ H x vs v us Q I rx rv h;obtain ⟨l,b,xs,zs,rfl,rfl,hH,hB,hz,q⟩:=h;cases rx;obtain ⟨u,rfl,ru⟩:=rv.one;cases ru;obtain ⟨z,its,n,r,hl,e⟩:=I.lstM hH;obtain ⟨z2,its2,n2,r2,hl2,e2⟩:=I.lstM hB;have hsz:its.toArray.size + its2.toArray.size<=sizeLine:=by rw [List.size_toArray,List.size_toArray];omega
 have hlong:¬ (!its.toArray.isEmpty && Builtin.List.listTooLong (its.toArray.size + its2.toArray.size))=true:=by
  rw [jny hsz,Bool.and_false];exact Bool.false_ne_true
 refine call_meets F.slot_list_extend ⟨_,e,rfl⟩ F.entry_list_extend (F.args_list_extend_2 _ _)
  (AutoSeq1.list_extend_list_list_0 l its.toArray n b its2.toArray n2 hlong (by rw [List.size_toArray];omega) (by omega)) ⟨e,e2,?_⟩
 refine ⟨.non,_,I.lset (its':=its ++ its2) hH e (by simp) (r.append r2) ?_,rfl,q⟩;rw [List.length_append];omega
def jhb:R2:=λx y H Q=>∃ l b xs zs,x = .ref l/\y = .ref b/\H l=some (.lst xs)/\H b=some (.lst zs)/\xs.length + zs.length<=sizeLine/\∀ p,H p=none->Q (.ref p) (upd H p (.lst (xs ++ zs)))
theorem qg:OpR X (binaryOp .Add) jhb:=by
 intro pins s σ H x y v u Q I rx ry h;obtain ⟨l,b,xs,zs,rfl,rfl,hH,hB,hz,q⟩:=h;cases rx;cases ry;obtain ⟨z,its,n,r,hl,e⟩:=I.lstM hH;obtain ⟨z2,its2,n2,r2,hl2,e2⟩:=I.lstM hB;refine PySem.P.add_list e e2 ?_ (by rw [List.size_toArray,List.size_toArray];omega);have ea:its.toArray ++ its2.toArray=(its ++ its2).toArray:=by simp
 rw [ea];exact ⟨.ref _,_,I.lnew (t':=s.toks) (r.append r2) (by rw [List.length_append];omega),rfl,q _ I.fresh⟩
end
section
variable{prog:Program}{w:World}{A:Around}{E:Value->Shared->Prop}{s:Shared}
set_option maxRecDepth 100000 in
end
theorem q_.ints:∀ {ns:List Int} {us:List Value},q_ (ns.map V.int) us->IntsAre us ns
 | [],us,h=>by
  rw [List.map_nil] at h;cases h;exact IntsAre.nil
 | n::ns,us,h=>by
  rw [List.map_cons] at h;cases h with
  | cons r t =>
   obtain ⟨k,rfl⟩:=r;exact IntsAre.cons n k (q_.ints t)
theorem q_.ref1{a:Addr}{us:List Value}(r:q_ [V.ref a] us):us=[Value.ref a]:=by
 cases r with
 | cons r t =>
  cases t;cases r;rfl
section
variable{prog:Program}{w:World}{A:Around}{E:Value->Shared->Prop}{s:Shared}{l:Addr}{its:List Value}{ns:List Int}{Q:Value->Shared->Prop}
theorem jy2(hh:A.handled=none)(hl:s.heap.IsList l its.toArray)(hi:IntsAre its ns)(hne:0 < ns.length)
  (h:∀ h' tk M t',(∀ b o,s.heap.get? b=some o->h'.get? b=some o)->M∈ns->(∀ a,a∈ns->a<=M)->Q (.int M t') { s with heap:=h',toks:=tk }):wpAny (model prog w) A (call (.builtin "max") [.ref l]) Q E s:=by
 obtain ⟨xs,e⟩:=hi.allInts.items;have hn:numsOf (intItems xs).toList=ns:=by rw [<- e];exact hi.numsOf
 rw [nums_intItems] at hn;subst hn;rw [e] at hl;have hsz:0 < xs.size:=by simpa using hne
 refine PySem.max_intList hh hl hsz λv h' tk hv hk=>?_;obtain ⟨t,rfl⟩:=intItems_at hv;obtain ⟨h1,h2⟩:=argBest_gt (numAt xs) (xs.size - 1);refine h h' tk _ t hk ?_ λa ha=>?_
 ·rw [numAt_eq];exact PySem.getD_mem (by rw [List.length_map,Array.length_toList];omega)
 ·obtain ⟨j,hj,rfl⟩:=mem_getD ha;rw [List.length_map,Array.length_toList] at hj;rw [<- numAt_eq];exact h2 j (by omega)
end
section
variable{X:Cx}
def j2k(K:PySem.W.Frag):List V->Hp->VK->Prop:=λvs H Q=>∃ (a:Addr) (ns:List Int),vs=[V.ref a]/\SqL K H a (ns.map V.int)/\0 < ns.length/\∀ m,m∈ns->(∀ y,y∈ns->y<=m)->Q (.int m) H
theorem j07(hc:X.calm=true):jd5 X (.builtin "max") (j2k X.K):=by
 intro pins s σ H vs us Q I r h;obtain ⟨a,ns,rfl,hs,hne,q⟩:=h;obtain ⟨its,rv,hl,_⟩:=I.list hs;rw [q_.ref1 r];exact jy2 (I.ok.hd hc) hl.isList rv.ints hne λh' tk m t' hk h1 h2=>⟨.int _,H,I.kept hk,⟨_,rfl⟩,q m h1 h2⟩
end
abbrev ju4(h:Heap)(c:Addr)(v:Option Value):Prop:=h.IsCell c v
def j2j(scope sc:Scope):Scope :=
 { scope with names:=scope.names.map λ(n,k)=>if (k == .free && sc.kind == .function && sc.names.lookup n == some .cell) then (n,.cell) else (n,k) }
def yo(cells:List (Str×Addr)):List (Str×NameKind)->List (Str×Addr)->List (Str×Addr)
 | [],acc=>acc
 | (n,k)::r,acc=>if k == .free then yo cells r ((n,(cells.lookup n).getD 0)::acc) else yo cells r acc
theorem jho(env:Env)(f:Str×NameKind->List (Str×Addr)->Sem (ForInStep (List (Str×Addr))))
  (hf:∀ n k c,f (n,k) c=if k == .free then (do let a <- cellOf env n;pure (.yield ((n,a)::c))) else pure (.yield c)) :
  ∀ (names:List (Str×NameKind)) (acc:List (Str×Addr)),(∀ y∈names,y.2 = .free->∃ c,env.cells.lookup y.1=some c)->forIn names acc f=pure (yo env.cells names acc)
 | [],acc,_=>by rw [List.forIn_nil];rfl
 | (n,k)::r,acc,h=>by
  rw [List.forIn_cons,hf];have ih:=λacc=>jho env f hf r acc λy hy=>h y (List.mem_cons_of_mem _ hy)
  unfold yo;by_cases hk:(k == NameKind.free)=true
  ·rw [if_pos hk,if_pos hk];obtain ⟨c,hc⟩:=h (n,k) List.mem_cons_self (by simpa using hk);have e:cellOf env n=pure c:=by unfold cellOf;rw [hc]
   rw [e];have e2:(env.cells.lookup n).getD 0=c:=by rw [hc];rfl
   rw [e2];exact ih _
  ·rw [if_neg hk,if_neg hk];exact ih _
theorem jsa{scope:Scope}{env:Env}(h:∀ y∈scope.names,y.2 = .free->∃ c,env.cells.lookup y.1=some c):closureFor scope env=pure (yo env.cells scope.names []):=by
 simp only [closureFor];rw [jho env _ (λn k c=>rfl) scope.names [] h];rfl
theorem jgi{α:Type}:∀ {l:List (Str×α)} {n:Str} {c:α},(n,c)∈l->∃ c',l.lookup n=some c'
 | (k,v)::r,n,c,h=>by
  rw [List.lookup_cons];cases hb:n == k with
  | true=>exact ⟨_,rfl⟩
  | false =>
   rcases List.mem_cons.mp h with e | h
   ·cases e;simp at hb
   ·exact jgi h
theorem jc7{cells:List (Str×Addr)}:∀ {names:List (Str×NameKind)} {acc:List (Str×Addr)} {n:Str} {c:Addr},(n,c)∈yo cells names acc->(n,c)∈acc\/((n,.free)∈names/\c=(cells.lookup n).getD 0)
 | [],_,_,_,h=>.inl h
 | (m,k)::r,acc,n,c,h=>by
  unfold yo at h;split at h
  ·rename_i hk;have hk:k = .free:=by simpa using hk
   rcases jc7 h with h | ⟨h1,h2⟩
   ·rcases List.mem_cons.mp h with e | h
    ·cases e;exact .inr ⟨hk▸List.mem_cons_self,rfl⟩
    ·exact .inl h
   ·exact .inr ⟨List.mem_cons_of_mem _ h1,h2⟩
  ·rcases jc7 h with h | ⟨h1,h2⟩
   ·exact .inl h
   ·exact .inr ⟨List.mem_cons_of_mem _ h1,h2⟩
theorem je9{cells:List (Str×Addr)}:∀ {names:List (Str×NameKind)} {acc:List (Str×Addr)} {p:Str×Addr},p∈acc->p∈yo cells names acc
 | [],_,_,h=>h
 | (m,k)::r,acc,p,h=>by
  unfold yo;split
  ·exact je9 (List.mem_cons_of_mem _ h)
  ·exact je9 h
theorem je8{cells:List (Str×Addr)}:∀ {names:List (Str×NameKind)} {acc:List (Str×Addr)} {n:Str},(n,.free)∈names->(n,(cells.lookup n).getD 0)∈yo cells names acc
 | (m,k)::r,acc,n,h=>by
  unfold yo;rcases List.mem_cons.mp h with e | h
  ·cases e;exact je9 List.mem_cons_self
  ·split
   ·exact je8 h
   ·exact je8 h
theorem jde:∀ {names:List (Str×NameKind)} {h:Heap} {acc:List (Str×Addr)} {x:Str} {c:Addr},(x,c)∈cellsFrom h.objs.size names acc->
  (x,c)∈acc\/((x,.cell)∈names/\h.objs.size<=c/\ju4 (pushCells h names) c none)
 | [],_,_,_,_,h=>.inl h
 | (n,k)::r,h,acc,x,c,hm=>by
  unfold cellsFrom at hm;unfold pushCells;split at hm
  ·rename_i hk;rw [if_pos hk];have hk:k = .cell:=by simpa using hk
   rw [<- Heap.size_push h { cls:=.type "cell",data:=.cell none }] at hm;rcases jde hm with hm | ⟨h1,h2,h3⟩
   ·rcases List.mem_cons.mp hm with e | hm
    ·cases e;exact .inr ⟨hk▸List.mem_cons_self,Nat.le_refl _,_,pushCells_keeps r _ _ _ (Heap.get?_push_size _ rfl),rfl⟩
    ·exact .inl hm
   ·rw [Heap.size_push] at h2;exact .inr ⟨List.mem_cons_of_mem _ h1,Nat.le_of_succ_le h2,h3⟩
  ·rename_i hk;rw [if_neg hk];rcases jde hm with hm | ⟨h1,h2,h3⟩
   ·exact .inl hm
   ·exact .inr ⟨List.mem_cons_of_mem _ h1,h2,h3⟩
theorem jew:∀ {names:List (Str×NameKind)} {n:Nat} {acc:List (Str×Addr)} {p:Str×Addr},p∈acc->p∈cellsFrom n names acc
 | [],_,_,_,h=>h
 | (m,k)::r,n,acc,p,h=>by
  unfold cellsFrom;split
  ·exact jew (List.mem_cons_of_mem _ h)
  ·exact jew h
theorem jhr:∀ {names:List (Str×NameKind)} {n:Nat} {acc:List (Str×Addr)} {x:Str},(x,.cell)∈names->∃ c,(x,c)∈cellsFrom n names acc
 | (m,k)::r,n,acc,x,h=>by
  unfold cellsFrom;rcases List.mem_cons.mp h with e | h
  ·cases e;exact ⟨n,jew List.mem_cons_self⟩
  ·split
   ·exact jhr h
   ·exact jhr h
theorem jhq:∀ {names:List (Str×NameKind)} {h:Heap} {acc:List (Str×Addr)} {x y:Str} {c:Addr},(∀ p∈acc,p.2 < h.objs.size)->(∀ x y c,(x,c)∈acc->(y,c)∈acc->x=y)->
  (x,c)∈cellsFrom h.objs.size names acc->(y,c)∈cellsFrom h.objs.size names acc->x=y
 | [],_,_,_,_,_,_,hi,h1,h2=>hi _ _ _ h1 h2
 | (n,k)::r,h,acc,x,y,c,hl,hi,h1,h2=>by
  unfold cellsFrom at h1 h2;split at h1
  ·rename_i hk;rw [if_pos hk] at h2;rw [<- Heap.size_push h { cls:=.type "cell",data:=.cell none }] at h1 h2;refine jhq (h:=h.push _) (λp hp=>?_) (λx y c a b=>?_) h1 h2
   ·rw [Heap.size_push];rcases List.mem_cons.mp hp with rfl | hp
    ·exact Nat.lt_succ_self _
    ·exact Nat.lt_succ_of_lt (hl p hp)
   ·rcases List.mem_cons.mp a with e | a <;> rcases List.mem_cons.mp b with e' | b
    ·cases e;cases e';rfl
    ·cases e;exact absurd (hl _ b) (Nat.lt_irrefl _)
    ·cases e';exact absurd (hl _ a) (Nat.lt_irrefl _)
    ·exact hi _ _ _ a b
  ·rename_i hk;rw [if_neg hk] at h2;exact jhq hl hi h1 h2
theorem jo1{M:Model}{A:Around}{E:Value->Shared->Prop}{s:Shared}{scope:Scope}{globals:Addr}{closure:List (Str×Addr)}{qual:Str}{func:Option Addr}{code:Value}{around:Env}{builtins:Addr}{Q:Env->Shared->Prop}
  (h:Q (newEnv scope s.heap.objs.size globals (cellsFrom (s.heap.objs.size + 1) scope.names closure) qual func code (some around) builtins)
   { s with heap:=pushCells (s.heap.push { cls:=.type "dict",data:=.dict #[] }) scope.names }) :
  wpAny M A (newFunctionEnv scope globals closure [] qual func code (some around) builtins) Q E s:=by
 simp only [newFunctionEnv,Option.isSome_some,if_true];refine wpAny_bind (wpAny_alloc ?_);refine wpAny_bind (wpAny_layCells _ (λn k c=>rfl) scope.names closure _ _ ?_);rw [show ({ s with heap:=s.heap.push { cls:=.type "dict",data:=.dict #[] } }:Shared).heap.objs.size=s.heap.objs.size + 1 from Heap.size_push ..];rw [List.forIn_nil];exact wpAny_bind (wpAny_pure (wpAny_pure h))
theorem je6{sc:Scope}:∀ {names:List (Str×NameKind)} {x:Str} {k:NameKind},
  (names.map λ(n,k)=>if (k == NameKind.free && sc.kind == .function && sc.names.lookup n == some .cell) then (n,NameKind.cell) else (n,k)).lookup x=some k->
  ∃ k',names.lookup x=some k'/\(k=k'\/(k' = .free/\k = .cell))
 | [],_,_,h=>by simp at h
 | (n,k₀)::r,x,k,h=>by
  have ih := @je6 sc r x k;have h':List.lookup x ((if (k₀ == NameKind.free && sc.kind == .function && sc.names.lookup n == some .cell)=true then (n,NameKind.cell) else (n,k₀))::(r.map _))=some k:=h
  cases hx:x == n with
  | true =>
   simp only [List.lookup_cons,hx];by_cases hc:(k₀ == NameKind.free && sc.kind == .function && sc.names.lookup n == some .cell)=true
   ·rw [if_pos hc] at h';simp only [List.lookup_cons,hx] at h';cases h';simp only [Bool.and_eq_true,beq_iff_eq] at hc;exact ⟨k₀,rfl,.inr ⟨hc.1.1,rfl⟩⟩
   ·rw [if_neg hc] at h';simp only [List.lookup_cons,hx] at h';cases h';exact ⟨_,rfl,.inl rfl⟩
  | false =>
   simp only [List.lookup_cons,hx];by_cases hc:(k₀ == NameKind.free && sc.kind == .function && sc.names.lookup n == some .cell)=true
   ·rw [if_pos hc] at h';simp only [List.lookup_cons,hx] at h';exact ih h'
   ·rw [if_neg hc] at h';simp only [List.lookup_cons,hx] at h';exact ih h'
structure jbo(N:List Str)(sc scope:Scope)(own:List (Str×Nat)):Prop where
 kind:scope.kind = .function
 uniq:∀ y∈scope.names,scope.names.lookup y.1=some y.2
 ix:∀ p∈own,N[p.2]? = some p.1
 free:∀ y∈scope.names,y.2 = .free->sc.names.lookup y.1=some .cell\/sc.names.lookup y.1=some .free
 own:∀ y∈scope.names,y.2 = .local\/y.2 = .cell->y.1∈own.map (·.1)\/y.1∉N
def zp(σ:St):List Nat->St
 | []=>σ
 | v::vs=>(zp σ vs).set v none
theorem jex(σ:St):∀ vs:List Nat,(zp σ vs).length=σ.length
 | []=>rfl
 | v::vs=>by unfold zp;rw [List.length_set,jex σ vs]
theorem jgv{σ:St}{i:Nat}{x:V}:∀ {vs:List Nat},(zp σ vs)[i]? = some (some x)->σ[i]? = some (some x)/\i∉vs
 | [],h=>⟨h,by simp⟩
 | v::vs,h=>by
  unfold zp at h;by_cases hi:v=i
  ·subst hi;by_cases hv:v < (zp σ vs).length
   ·rw [List.getElem?_set_self hv] at h;cases h
   ·rw [List.getElem?_eq_none (by simpa using hv)] at h;cases h
  ·rw [List.getElem?_set_ne hi] at h;obtain ⟨h1,h2⟩:=jgv h;exact ⟨h1,by simp only [List.mem_cons,not_or];exact ⟨λe=>hi e.symm,h2⟩⟩
abbrev Cx.blk(X:Cx)(s:Shared)(H:Hp)(scope:Scope)(cenv:Env)(fp:List Addr):Cx:={ X with s_0:=s,H_0:=H,env:=cenv,outer:=X.stack,ex:=fp,fn:=λx=>scope.names.lookup x == some .cell,pn:=[],xe:=λ_ _=>False }
section
variable{X:Cx}{pins:List (Addr×Obj)}{σ:St}{H:Hp}{s:Shared}
theorem jpe{scope:Scope}{own:List (Str×Nat)}{fp:List Addr}(I:Inv X pins σ H s)(ok:jbo X.N X.env.scope scope own)(hN:X.N.Nodup)(hfp:∀ b∈fp,jdm X pins H b/\b < s.heap.objs.size) :
  Inv (X.blk s H scope (compEnvC scope (cellsFrom (s.heap.objs.size + 1) scope.names (yo X.env.cells scope.names [])) s.heap.objs.size X.env) fp) [] (zp σ (own.map (·.2))) H { s with heap:=pushCells (s.heap.push { cls:=.type "dict",data:=.dict #[] }) scope.names }:=by
 have hfree:∀ y∈scope.names,y.2 = .free->∃ c,X.env.cells.lookup y.1=some c:=λy hy e=>by
  rcases ok.free y hy e with k | k
  ·exact I.ok.has _ (.inl k)
  ·exact I.ok.has _ (.inr k)
 generalize hcenv:compEnvC scope (cellsFrom (s.heap.objs.size + 1) scope.names (yo X.env.cells scope.names [])) s.heap.objs.size X.env=cenv;have kp:∀ b o,s.heap.get? b=some o->(pushCells (s.heap.push { cls:=.type "dict",data:=.dict #[] }) scope.names).get? b=some o:=λb o e=>pushCells_keeps _ _ _ _ (Heap.get?_push_of_some _ e)
 have hL:cenv.locals=s.heap.objs.size:=by rw [<- hcenv];rfl
 have hcl:cenv.cells=cellsFrom (s.heap.objs.size + 1) scope.names (yo X.env.cells scope.names []):=by rw [<- hcenv];rfl
 have hsc:cenv.scope=j2j scope X.env.scope:=by rw [<- hcenv];rfl
 rw [<- Heap.size_push s.heap { cls:=.type "dict",data:=.dict #[] }] at hcl;have cm:∀ {y c},(y,c)∈yo X.env.cells scope.names []->X.env.cells.lookup y=some c/\c < s.heap.objs.size:=λ{y c} hm=>by
  rcases jc7 hm with hm | ⟨h1,rfl⟩
  ·cases hm
  ·obtain ⟨c,hc⟩:=hfree _ h1 rfl;rw [hc];obtain ⟨w,z⟩:=I.cell _ _ hc;exact ⟨rfl,z.lt⟩
 have mem:∀ {y c},cenv.cells.lookup y=some c->(X.env.cells.lookup y=some c/\c < s.heap.objs.size)\/(s.heap.objs.size + 1<=c/\ju4 (pushCells (s.heap.push { cls:=.type "dict",data:=.dict #[] }) scope.names) c none):=λ{y c} e=>by
  rw [hcl] at e;rcases jde (PySem.mem_of_lookup e) with hm | ⟨_,h2,h3⟩
  ·exact .inl (cm hm)
  ·rw [Heap.size_push] at h2;exact .inr ⟨h2,h3⟩
 have look:∀ {y},scope.names.lookup y=some .free->∃ c,cenv.cells.lookup y=some c/\X.env.cells.lookup y=some c:=λ{y} hl=>by
  have hy:(y,NameKind.free)∈scope.names:=PySem.mem_of_lookup hl;obtain ⟨c',e'⟩:=jgi (jew (names:=scope.names) (n:=(s.heap.push { cls:=.type "dict",data:=.dict #[] }).objs.size) (je8 (cells:=X.env.cells) (acc:=[]) hy));rw [<- hcl] at e';refine ⟨c',e',?_⟩;rw [hcl] at e';rcases jde (PySem.mem_of_lookup e') with hm | ⟨h1,_,_⟩
  ·exact (cm hm).1
  ·have:=ok.uniq _ h1;rw [hl] at this;cases this
 have okB:(X.blk s H scope cenv fp).Ok:=by
  refine ⟨I.ok.mod,by show cenv.scope.kind=_;rw [hsc];exact ok.kind,by show cenv.globals=_;rw [<- hcenv];exact I.ok.glob,by show cenv.builtins=_;rw [<- hcenv];exact I.ok.blt,by show s.heap.objs.size<=cenv.locals;rw [hL];exact Nat.le_refl _,
   λy z c e1 e2=>?_,λy hy=>?_,λy c z e=>?_,I.ok.hd,I.ok.frames,.inl rfl,λb hb=>⟨?_,λy c e z=>?_⟩,I.bs,Nat.le_trans I.ok.bsz I.sz,λb o e hb=>?_,λb hb z=>?_,I.stack,I.stkFree⟩
  ·have e1:cenv.cells.lookup y=some c:=e1;have e2:cenv.cells.lookup z=some c:=e2
   rw [hcl] at e1 e2;refine jhq (λp hp=>?_) (λy z c a b=>I.ok.inj y z c (cm a).1 (cm b).1) (PySem.mem_of_lookup e1) (PySem.mem_of_lookup e2);rw [Heap.size_push];exact Nat.lt_succ_of_lt (cm (y:=p.1) (c:=p.2) hp).2
  ·show ∃ c,cenv.cells.lookup y=some c;have key:∀ k,cenv.kindOf y=some k->(k = .cell\/k = .free)->∃ c,cenv.cells.lookup y=some c:=λk hk hk'=>by
    unfold Env.kindOf at hk;rw [hsc] at hk;obtain ⟨k',e,r⟩:=je6 hk;have:k' = .cell\/k' = .free:=by
     rcases r with rfl | ⟨rfl,_⟩
     ·exact hk'
     ·exact .inr rfl
    rcases this with rfl | rfl
    ·obtain ⟨c,hm⟩:=jhr (n:=(s.heap.push { cls:=.type "dict",data:=.dict #[] }).objs.size) (acc:=yo X.env.cells scope.names []) (PySem.mem_of_lookup e);obtain ⟨c',e'⟩:=jgi hm;exact ⟨c',by rw [hcl];exact e'⟩
    ·obtain ⟨c,h1,_⟩:=look e;exact ⟨c,h1⟩
   rcases hy with hy | hy
   ·exact key _ hy (.inl rfl)
   ·exact key _ hy (.inr rfl)
  ·have z:(scope.names.lookup y == some NameKind.cell)=true:=z;have z:scope.names.lookup y=some .cell:=by simpa using z
   have e:cenv.cells.lookup y=some c:=e;rw [hcl] at e;rcases jde (PySem.mem_of_lookup e) with hm | ⟨_,h2,_⟩
   ·rcases jc7 hm with hm | ⟨h1,_⟩
    ·cases hm
    ·have q:=ok.uniq _ h1;rw [z] at q;cases q
   ·rw [Heap.size_push] at h2;exact Nat.le_of_succ_le h2
  ·show b≠cenv.locals;rw [hL];exact Nat.ne_of_lt (hfp b hb).2
  ·have e:cenv.cells.lookup y=some c:=e;rcases mem e with ⟨h1,_⟩ | ⟨h1,_⟩
   ·exact (hfp b hb).1.2.2.2.2.1 y c h1 z
   ·have h2:s.heap.objs.size + 1<=b:=by rw [<- z];exact h1
    exact absurd (Nat.lt_of_lt_of_le (hfp b hb).2 (Nat.le_of_succ_le h2)) (Nat.lt_irrefl _)
  ·rcases (hfp b hb).1.2.2.2.1 with z | z
   ·exact I.ok.noex b o e z
   ·exact absurd (Nat.lt_of_lt_of_le (Heap.lt_size e) (Nat.le_trans I.ok.bsz z)) (Nat.lt_irrefl _)
  ·rcases List.mem_cons.mp (I.stkSub b z) with z | z
   ·exact (hfp b hb).1.2.1 z
   ·exact (hfp b hb).1.2.2.1 z
 refine ⟨okB,rfl,I.bare,Un.kept kp,⟨λ_=>none,?_,λi y av e1 e2 e3=>?_⟩,λy c e=>?_,?_,λy c e=>?_,λp hp=>?_,I.hok.kept kp,by rw [jex];exact I.len⟩
 ·show Heap.Ns _ cenv.locals _;rw [hL];exact Heap.Ns.keeps (Heap.Ns.new ..) λb o e=>pushCells_keeps _ _ _ _ e
 ·obtain ⟨e2,hne⟩:=jgv e2;have hfr:scope.names.lookup y=some .free/\(cenv.kindOf y=some .cell\/cenv.kindOf y=some .free):=by
   have key:∀ k,cenv.scope.names.lookup y=some k->k = .local\/k = .cell\/k = .free->scope.names.lookup y=some .free/\(cenv.kindOf y=some .cell\/cenv.kindOf y=some .free):=λk hk hk'=>by
    have hk0:=hk;rw [hsc] at hk;obtain ⟨k',e,r⟩:=je6 hk;have no:¬ (k' = .local\/k' = .cell):=λhh=>by
     rcases ok.own _ (PySem.mem_of_lookup e) hh with e' | e'
     ·obtain ⟨p,hp,hpy⟩:=List.mem_map.mp e';have e3:=ok.ix p hp
      have:p.1=y:=hpy;rw [this] at e3;exact hne (List.mem_map.mpr ⟨p,hp,jiw hN e3 e1⟩)
     ·exact e' (List.mem_of_getElem? e1)
    rcases r with rfl | ⟨rfl,rfl⟩
    ·rcases hk' with rfl | rfl | rfl
     ·exact absurd (.inl rfl) no
     ·exact absurd (.inr rfl) no
     ·exact ⟨e,.inr hk0⟩
    ·exact ⟨e,.inl hk0⟩
   have e3:Vis cenv.scope y:=e3;rcases e3 with e3 | e3 | e3
   ·exact key _ e3 (.inl rfl)
   ·exact key _ e3 (.inr (.inl rfl))
   ·exact key _ e3 (.inr (.inr rfl))
  obtain ⟨m,hn,hl⟩:=I.loc;have hvis:Vis X.env.scope y:=(ok.free _ (PySem.mem_of_lookup hfr.1) rfl).elim (λk=>.inr (.inl k)) (λk=>.inr (.inr k))
  obtain ⟨w,r,q⟩:=hl i y av e1 e2 hvis;refine ⟨w,r,.inr ⟨hfr.2,?_⟩⟩;obtain ⟨c,h1,h2⟩:=look hfr.1;rcases q with ⟨k,_⟩ | ⟨_,c',e',z⟩
  ·have k:X.env.scope.names.lookup y=some .local:=k;rcases ok.free _ (PySem.mem_of_lookup hfr.1) rfl with k' | k' <;> rw [show X.env.scope.names.lookup y=_ from k'] at k <;> cases k
  ·rw [h2] at e';cases e';exact ⟨c,h1,z.keeps kp⟩
 ·have e:cenv.cells.lookup y=some c:=e;rcases mem e with ⟨h1,_⟩ | ⟨_,z⟩
  ·obtain ⟨w,z⟩:=I.cell y c h1;exact ⟨w,z.keeps kp⟩
  ·exact ⟨_,z⟩
 ·show H cenv.locals=none;rw [hL];exact I.hok.fresh (Nat.le_refl _)
 ·have e:cenv.cells.lookup y=some c:=e;rcases mem e with ⟨h1,_⟩ | ⟨h1,_⟩
  ·exact I.freeC y c h1
  ·exact I.hok.fresh (Nat.le_of_succ_le h1)
 ·exact absurd (show p∈([]:List (Addr×Obj)) ++ [] from hp) (by simp)
theorem j09{E:Value->Shared->Prop}{D:Addr}{xs:List V}{y:V}{v:Value}{Q:Value->Shared->Prop}(I:Inv X pins σ H s)(hD:H D=some (.lst xs))(hz:xs.length < sizeLine)(r:xj y v)
  (h:∀ s',Inv X pins σ (upd H D (.lst (xs ++ [y]))) s'->Q .none s'):wpAny (model X.prog X.w) X.A (call (.builtin "list.append") [.ref D,v]) Q E s:=by
 obtain ⟨hz',its,n,ri,e⟩:=I.hok D _ hD;have hl:=ri.length
 refine append_at (hsz:=by rw [List.size_toArray];omega) e λh' sb ho'=>?_;refine h { s with heap:=h' } (I.write (t':=s.toks) (by rw [hD];trivial) (.inl rfl) (λb u hb q=>(sb.2 b hb).trans q) ⟨_,ho'⟩ ⟨by rw [List.length_append];exact hz,its ++ [v],n + 1,ri.append (.cons r .nil),?_⟩);rw [ho'];simp
def PTs(X:Cx)(ifs:List Expr)(t:TT):Prop :=
 ∀ (pins:List (Addr×Obj)) (s:Shared) (σ:St) (H:Hp) (Q:Bool->Hp->Prop),Inv X pins σ H s->t σ H Q->
  wpAny (model X.prog X.w) X.A (forIn ifs true λc r=>if r=true then do let ok <- isTrue c X.env (eval c X.env);pure (ForInStep.yield ok) else pure (ForInStep.yield r)) (TP X pins σ Q) X.xe s
def jkl:TT:=λ_ H Q=>Q true H
theorem jbk:PTs X [] jkl:=λ_ _ _ H _ I h=>wpAny_tests_nil ⟨H,I,h⟩
end
theorem jkk{α:Type}{t:Sem α}{Q Q':α->Shared->Prop}{M:Model}{A:Around}{E:Value->Shared->Prop}{s:Shared}(h:wpAny M A t Q (λ_ _=>False) s)(hQ:∀ a s,Q a s->Q' a s):wpAny M A t Q' E s:=wpAny_mono h hQ λ_ _ z=>False.elim z
theorem jof{prog:Program}{w:World}{A:Around}{R:Result->Shared->Prop}{s:Shared}{elt target iter:Expr}{ifs:List Expr}{scope:Scope}{pos:Pos}{it acc:Value}{env:Env}(I:Nat->Shared->Prop)
  (turn:∀ n s,I n s->wpAny (model prog w) A (pyNext it) (λr s₁=>match r with
   | none=>R (.ok .next) s₁
   | some v=>wpAny (model prog w) A (letOwnedTupleGo target it v) (λ_ s₁'=>wpAny (model prog w) A (assign target env v) (λ_ s₂ =>
     wpAny (model prog w) A (forIn ifs true λc r=>if r=true then do let ok <- isTrue c env (eval c env);pure (ForInStep.yield ok) else pure (ForInStep.yield r)) (λok s₃ =>
      if ok=true then wpAny (model prog w) A (eval elt env) (λx s₄ =>
       wpAny (model prog w) A (call (.builtin "list.append") [acc,x]) (λ_ s₅=>∃ m,m < n/\I m s₅) (notedBy (model prog w) A env λe s'=>R (.error e) s') s₄) (notedBy (model prog w) A env λe s'=>R (.error e) s') s₃
      else ∃ m,m < n/\I m s₃) (notedBy (model prog w) A env λe s'=>R (.error e) s') s₂) (notedBy (model prog w) A env λe s'=>R (.error e) s') s₁') (notedBy (model prog w) A env λe s'=>R (.error e) s') s₁) (notedBy (model prog w) A env λe s'=>R (.error e) s') s)
  (n:Nat) (h:I n s) :
  codeAny (model prog w) A (.compLoop (.ListComp elt [⟨target,iter,ifs,0⟩] scope pos) 0 it acc env) R s:=by
 refine codeAny_loop rfl I (λn s hI=>?_) n h;show wpAny _ A ((compTurn (.ListComp elt [⟨target,iter,ifs,0⟩] scope pos) 0 it acc env).onRaise (λx=>do noteFrame x env;theTreesLotGoes x)) _ _ s
 refine wpAny_noted ?_;rw [compTurn_list];refine wpAny_bind (wpAny_standAt (wpAny_bind (wpAny_mono (turn n s hI) (λr s₁ h₁=>?_) λ_ _ h'=>h')));cases r with
 | none=>exact wpAny_pure h₁
 | some v =>
  refine wpAny_bind (wpAny_mono h₁ (λ_ s₁' h₁'=>?_) λ_ _ h'=>h');refine wpAny_bind (wpAny_mono h₁' (λ_ s₂ h₂=>wpAny_bind (wpAny_mono h₂ (λok s₃ h₃=>?_) λ_ _ h'=>h')) λ_ _ h'=>h');cases ok with
  | false=>exact wpAny_pure ⟨rfl,h₃⟩
  | true =>
   exact wpAny_bind (wpAny_bind (wpAny_mono h₃ (λx s₄ h₄=>wpAny_bind (wpAny_mono h₄ (λ_ s₅ h₅=>wpAny_pure (wpAny_pure ⟨rfl,h₅⟩)) λ_ _ h'=>h')) λ_ _ h'=>h'))
section
variable{X:Cx}
def tLc(wi:TI)(g:TG)(tt:TT)(te:TE)(vs:List Nat):TE:=λσ H Q=>wi σ H λJ H1=>∀ D,H1 D=none->∃ W:Nat->Nat->Hp->Prop,(∃ m,W 0 m (upd H1 D (.lst [])))/\∀ i m H,W i m H->
 (J.stop i H/\Q (.ref D) H)\/(J.go i H/\∃ Nx:Hp->Prop,(∀ H',Nx H'->∃ m',m' < m/\W (i + 1) m' H')/\∀ x H',J.yld i H x H'->g x (zp σ vs) H' λσ2 H2=>zp σ2 vs=zp σ vs/\tt σ2 H2 λb H3 =>
  if b=true then te σ2 H3 λy H4=>∃ acc,H4 D=some (.lst acc)/\acc.length < sizeLine/\Nx (upd H4 D (.lst (acc ++ [y]))) else Nx H3)
theorem jp6{pins:List (Addr×Obj)}{s:Shared}{σ:St}{H:Hp}{Q:VK}{elt tg iter:Expr}{ifs:List Expr}{scope:Scope}{own:List (Str×Nat)}{pos pos':Pos}{wi:TI}{g:TG}{tt:TT}{te:TE}{use:Option (Value->Sem Unit)}{Qf:Value->Shared->Prop}
  (hc:X.calm=true) (hN:X.N.Nodup) (I:Inv X pins σ H s) (hi:PI X tg iter wi) (ok:jbo X.N X.env.scope scope own)
  (hg:∀ (s:Shared) (H:Hp) (C:Addr) (cl:List (Str×Addr)) (fp:List Addr),PG (X.blk s H scope (compEnvC scope cl C X.env) fp) tg g) (ht:∀ (s:Shared) (H:Hp) (C:Addr) (cl:List (Str×Addr)) (fp:List Addr),PTs (X.blk s H scope (compEnvC scope cl C X.env) fp) ifs tt)
  (he:∀ (s:Shared) (H:Hp) (C:Addr) (cl:List (Str×Addr)) (fp:List Addr),PE (X.blk s H scope (compEnvC scope cl C X.env) fp) elt te) (hs:∀ x,foldedSetIterable iter X.env x=pure x)
  (h:tLc wi g tt te (own.map (·.2)) σ H Q)
  (hRR:∀ D C s' m H',Inv X pins σ H' s'->Q (.ref D) H'->s'.heap.Ns C m->jdm X pins H' C->compPost (model X.prog X.w) X.A X.xe use Qf (.ref D) C (.ok .next) s') :
  wpAny (model X.prog X.w) X.A (comprehension (.ListComp elt [⟨tg,iter,ifs,0⟩] scope pos) scope X.env pos' (newList []) false (eval iter X.env) use) Qf X.xe s:=by
 have hfree:∀ y∈scope.names,y.2 = .free->∃ c,X.env.cells.lookup y.1=some c:=λy hy e=>by
  rcases ok.free y hy e with k | k
  ·exact I.ok.has _ (.inl k)
  ·exact I.ok.has _ (.inr k)
 refine wpAny_comprehension_free (use:=use) rfl hs (jsa hfree) ok.kind (λy hy e=>by rw [ok.uniq y hy,e])
  (thn (hi pins s σ H _ I h) λxv s1 hx=>thn hx λitv s2 h2=>?_)
 obtain ⟨it,fp,tn,J,H2,e,I2,T,st2,f2,q⟩:=h2;subst e;refine wpAny_newObj_type (jo1 ?_) (by show 0<=sizeLine;decide);generalize hD:s2.heap.objs.size=D;have hDn:H2 D=none:=I2.hok.fresh (Nat.le_of_eq hD)
 obtain ⟨W,⟨m0,w0⟩,turn⟩:=q D hDn;generalize hs3:({ s2 with heap:=s2.heap.push { cls:=.type "list",data:=.seq ([]:List Value).toArray } }:Shared)=s3;have I3:Inv X pins σ (upd H2 D (.lst [])) s3:=by
  rw [<- hs3];refine I2.laid (t':=s2.toks) (λb o e=>Heap.get?_push_of_some _ e) (Nat.le_of_eq hD) ⟨Nat.zero_le _,[],0,.nil,?_⟩;rw [<- hD];exact Heap.get?_push_size _ rfl
 have h3:s3.heap=s2.heap.push { cls:=.type "list",data:=.seq ([]:List Value).toArray }:=by rw [<- hs3]
 have sz:∀ b∈fp,b < s2.heap.objs.size:=λb hb=>by
  obtain ⟨o,e,_⟩:=T.obj _ _ st2 b hb;exact Heap.lt_size e
 have f3:∀ b∈fp,jdm X pins (upd H2 D (.lst [])) b/\b < s3.heap.objs.size:=λb hb=>by
  have hlt:=sz b hb;refine ⟨⟨?_,(f2 b hb).2⟩,by rw [h3,Heap.size_push];exact Nat.lt_succ_of_lt hlt⟩;rw [jm (by rw [<- hD];exact Nat.ne_of_lt hlt)];exact (f2 b hb).1
 have st3:tn 0 s3.heap:=T.keep _ _ _ st2 λb _ o e=>by rw [h3];exact Heap.get?_push_of_some _ e
 have I4:=jpe I3 ok hN f3;have pg:=hg s3 (upd H2 D (.lst [])) s3.heap.objs.size (cellsFrom (s3.heap.objs.size + 1) scope.names (yo X.env.cells scope.names [])) fp
 have pt:=ht s3 (upd H2 D (.lst [])) s3.heap.objs.size (cellsFrom (s3.heap.objs.size + 1) scope.names (yo X.env.cells scope.names [])) fp;have pe:=he s3 (upd H2 D (.lst [])) s3.heap.objs.size (cellsFrom (s3.heap.objs.size + 1) scope.names (yo X.env.cells scope.names [])) fp
 show codeAny _ _ (.compStart (.ListComp elt [⟨tg,iter,ifs,0⟩] scope pos) 0 (.ref it) (.ref D) (compEnvC scope (cellsFrom (s3.heap.objs.size + 1) scope.names (yo X.env.cells scope.names [])) s3.heap.objs.size X.env)) (compPost (model X.prog X.w) X.A X.xe use Qf (.ref D) s3.heap.objs.size) { s3 with heap:=pushCells (s3.heap.push { cls:=.type "dict",data:=.dict #[] }) scope.names };have nfp:∀ b∈fp,(upd H2 D (.lst [])) b=none:=λb hb=>(f3 b hb).1.1
 generalize hce:compEnvC scope (cellsFrom (s3.heap.objs.size + 1) scope.names (yo X.env.cells scope.names [])) s3.heap.objs.size X.env=ce at I4 pg pt pe ⊢;have cL:ce.locals=s3.heap.objs.size:=by subst hce;rfl
 generalize hH3:upd H2 D (.lst [])=H3 at I3 I4 pg pt pe w0 nfp f3;generalize hs4:({ s3 with heap:=pushCells (s3.heap.push { cls:=.type "dict",data:=.dict #[] }) scope.names }:Shared)=s4 at I4 ⊢;have st4:tn 0 s4.heap:=T.keep _ _ _ st3 λb _ o e=>by rw [<- hs4];exact pushCells_keeps _ _ _ _ (Heap.get?_push_of_some _ e)
 have stat:∀ {σ':St} {H':Hp} {s':Shared},Inv (X.blk s3 H3 scope ce fp) [] σ' H' s'->(∀ b∈fp,H' b=none)->∀ b∈fp,jdm (X.blk s3 H3 scope ce fp) [] H' b:=λ{σ' H' s'} I' hn b hb =>
  ⟨hn b hb,(I'.ok.exf b hb).1,I'.ok.exfs b hb,.inl hb,λx c e=>(I'.ok.exf b hb).2 x c e,λp hp=>absurd (show p∈([]:List (Addr×Obj)) ++ [] from hp) (by simp)⟩
 have loop:codeAny (model X.prog X.w) X.A (.compLoop (.ListComp elt [⟨tg,iter,ifs,0⟩] scope pos) 0 (.ref it) (.ref D) ce) (compPost (model X.prog X.w) X.A X.xe use Qf (.ref D) s3.heap.objs.size) s4:=by
  refine jof (λn s'=>∃ i H',Inv (X.blk s3 H3 scope ce fp) [] (zp σ (own.map (·.2))) H' s'/\tn i s'.heap/\(∀ b∈fp,H' b=none)/\W i n H') ?_ m0 ⟨0,H3,I4,st4,nfp,w0⟩;rintro n s5 ⟨i,H5,I5,st5,n5,w5⟩;rcases turn i n H5 w5 with ⟨stop,qq⟩ | ⟨go,Nx,hNx,step⟩
  ·have td:=T.done (X.blk s3 H3 scope ce fp) rfl rfl rfl hc i [] s5 _ H5 (λ_ _=>False) I5 (stat I5 n5) st5 stop;refine jkk td λr s6 ⟨hr,I6⟩=>?_;subst hr;have I7:Inv X pins σ H5 s6:=I3.call' (ch:=fp) I6.os I6.base I6.hok I6.bare λb hb=>⟨(f3 b hb).1.2.2.2.1,(f3 b hb).1.2.1,(f3 b hb).1.2.2.2.2.1,(f3 b hb).1.2.2.2.2.2⟩
   have nC:H5 s3.heap.objs.size=none:=by
    have z:H5 ce.locals=none:=I6.free;rw [cL] at z;exact z
   obtain ⟨m,hn,_⟩:=I6.loc;have hn:s6.heap.Ns ce.locals m:=hn
   rw [cL] at hn;exact hRR D s3.heap.objs.size s6 m H5 I7 qq hn (I3.fpOk (Nat.le_refl _) nC)
  ·have ti:=T.item (X.blk s3 H3 scope ce fp) rfl rfl rfl hc i [] s5 _ H5 (λ_ _=>False) I5 (stat I5 n5) st5 go;refine jkk ti λr s6 ⟨u,hr,h6⟩=>?_;subst hr;refine jkk h6 λ_ s7 ⟨x,H7,I7,r7,y7,st7,n7⟩=>?_;have I7':=I7.pinned (stat I7 n7) (T.obj _ _ st7)
   refine jkk (pg _ s7 _ H7 x u _ I7' r7 (step x H7 y7)) λ_ s8 ⟨σ8,H8,I8,hw8,q8⟩=>?_;refine jkk (pt _ s8 σ8 H8 _ I8 q8) λb s9 ⟨H9,I9,q9⟩=>?_;have fin:∀ {s':Shared} {H':Hp},Inv (X.blk s3 H3 scope ce fp) ([] ++ jhe fp s7.heap) σ8 H' s'->Nx H'->∃ m,m < n/\∃ i H',Inv (X.blk s3 H3 scope ce fp) [] (zp σ (own.map (·.2))) H' s'/\tn i s'.heap/\(∀ b∈fp,H' b=none)/\W i m H':=λ{s' H'} I' nx=>by
    obtain ⟨m',hm,w'⟩:=hNx H' nx;have pin':∀ b∈fp,∀ o,s7.heap.get? b=some o->s'.heap.get? b=some o/\H' b=none:=λb hb o e =>
     let z:=I'.pin (b,o) (List.mem_append_right _ (List.mem_append_right _ (jgh hb e)))
     ⟨z.1,z.2.1⟩
    have hl:(zp σ (own.map (·.2))).length=σ8.length:=by rw [<- hw8,jex]
    refine ⟨m',hm,i + 1,H',(I'.unpinned (pins:=[])).weak hl (λj v e=>?_),T.keep _ _ _ st7 λb hb o e=>(pin' b hb o e).1,λb hb=>?_,w'⟩
    ·rw [<- hw8] at e;exact (jgv e).1
    ·obtain ⟨o,e,_⟩:=T.obj _ _ st7 b hb;exact (pin' b hb o e).2
   cases b with
   | false =>
    simp only [Bool.false_eq_true,if_false] at q9 ⊢;exact fin I9 q9
   | true =>
    simp only [if_true] at q9 ⊢;refine jkk (pe _ s9 σ8 H9 _ I9 q9) λz s10 ⟨yv,H10,I10,r10,acc,hD10,hz10,nx⟩=>?_;exact j09 (X:=X.blk s3 H3 scope ce fp) I10 hD10 hz10 r10 λs11 I11=>fin I11 nx
 exact codeAny_compStart_list loop (T.self X.A 0 _ _ _ st4 loop)
theorem jeu{elt tg iter:Expr}{ifs:List Expr}{scope:Scope}{own:List (Str×Nat)}{pos:Pos}{wi:TI}{g:TG}{tt:TT}{te:TE}(hc:X.calm=true)(hN:X.N.Nodup)(hi:PI X tg iter wi)(ok:jbo X.N X.env.scope scope own)
  (hg:∀ (s:Shared) (H:Hp) (C:Addr) (cl:List (Str×Addr)) (fp:List Addr),PG (X.blk s H scope (compEnvC scope cl C X.env) fp) tg g) (ht:∀ (s:Shared) (H:Hp) (C:Addr) (cl:List (Str×Addr)) (fp:List Addr),PTs (X.blk s H scope (compEnvC scope cl C X.env) fp) ifs tt)
  (he:∀ (s:Shared) (H:Hp) (C:Addr) (cl:List (Str×Addr)) (fp:List Addr),PE (X.blk s H scope (compEnvC scope cl C X.env) fp) elt te) (hs:∀ x,foldedSetIterable iter X.env x=pure x:=by intro _;rfl) :
  PE X (.ListComp elt [⟨tg,iter,ifs,0⟩] scope pos) (tLc wi g tt te (own.map (·.2))):=by
 intro pins s σ H Q I h;rw [eval_ListComp];refine jp6 hc hN I hi ok hg ht he hs h λD C s' m H' I' q hn f=>⟨m,hn,λh'' sb=>?_⟩
 obtain ⟨f0,f1,f2,f3,f4,f5⟩:=f;exact ⟨.ref D,H',I'.turned (t':=s'.toks) (λb o hb e=>(sb.2 b hb).trans e) f0 f1 f3 f4 f5,rfl,q⟩
theorem jvm{i:Nat}{y:Str}{py:Pos}{elt tg iter:Expr}{ifs:List Expr}{scope:Scope}{own:List (Str×Nat)}{pos spos:Pos}{wi:TI}{g:TG}{tt:TT}{te:TE}(hc:X.calm=true)(hN:X.N.Nodup)(hy:X.N[i]? = some y)(hyl:X.env.scope.names.lookup y=some .local)
  (hsw:swapsWith (.ListComp elt [⟨tg,iter,ifs,0⟩] scope pos) (some (.Name y py)) spos.line X.env=pure true) (hi:PI X tg iter wi) (ok:jbo X.N X.env.scope scope own)
  (hg:∀ (s:Shared) (H:Hp) (C:Addr) (cl:List (Str×Addr)) (fp:List Addr),PG (X.blk s H scope (compEnvC scope cl C X.env) fp) tg g) (ht:∀ (s:Shared) (H:Hp) (C:Addr) (cl:List (Str×Addr)) (fp:List Addr),PTs (X.blk s H scope (compEnvC scope cl C X.env) fp) ifs tt)
  (he:∀ (s:Shared) (H:Hp) (C:Addr) (cl:List (Str×Addr)) (fp:List Addr),PE (X.blk s H scope (compEnvC scope cl C X.env) fp) elt te) (hs:∀ x,foldedSetIterable iter X.env x=pure x:=by intro _;rfl) :
  PS X (.Assign [.Name y py] (.ListComp elt [⟨tg,iter,ifs,0⟩] scope pos) spos) (jgx (tLc wi g tt te (own.map (·.2))) (jai i)):=by
 intro pins s σ H D I h;rw [exec_Assign_Name_used _ _ _ _ hsw];refine wpAny_bind (wpAny_standAt (wpAny_bind ?_));show wpAny _ X.A (do let _ <- comprehension (.ListComp elt [⟨tg,iter,ifs,0⟩] scope pos) scope X.env (firstIterPos [⟨tg,iter,ifs,0⟩] pos) (newList []) false (eval iter X.env) (some (assign (.Name y py) X.env))) _ _ s
 have h:tLc wi g tt te (own.map (·.2)) σ H (λx H1=>jai i x σ H1 D.nx):=h;refine wpAny_bind (thn (jp6 (Qf:=λ_ s'=>SP X pins D .next s') hc hN I hi ok hg ht he hs h λL C s' m H' I' q hn f=>?_) λ_ s' hq=>wpAny_pure (wpAny_pure hq));show wpAny _ _ (assign (.Name y py) X.env (.ref L)) _ _ _
 refine wpAny_assign_Name (jle (v:=V.ref L) I' hN hy (.inl hyl) rfl (λs2 I2 ⟨a,sb,ha⟩=>?_) (.inr hyl));obtain ⟨f0,f1,f2,f3,f4,f5⟩:=f;have haC:C≠a:=by
  rcases ha with z | z
  ·rw [z];exact f1
  ·exact λe=>f4 y a z e.symm
 refine ⟨m,hn.sameBut sb haC,λh3 sb3=>?_⟩;exact ⟨_,H',I2.turned (t':=s2.toks) (λb o hb e=>(sb3.2 b hb).trans e) f0 f1 f3 f4 f5,q⟩
end
section
variable{κ:Type}[DecidableEq κ]
def ze(kvs:List (κ×V))(k:κ):Option V:=(kvs.find? λkv=>decide (kv.1=k)).map (·.2)
theorem jaz{p:κ×V}{r:List (κ×V)}{k:κ}(e:p.1=k):ze (p::r) k=some p.2:=by simp [ze,List.find?_cons,e]
theorem zr{p:κ×V}{r:List (κ×V)}{k:κ}(e:¬ p.1=k):ze (p::r) k=ze r k:=by simp [ze,List.find?_cons,e]
theorem vo.isSome_eq{o:Option V}{u:Option Value}(r:vo o u):o.isSome=u.isSome:=by
 cases o with
 | none=>cases u with
  | none=>rfl
  | some _=>exact (show False from r).elim
 | some _=>cases u with
  | none=>exact (show False from r).elim
  | some _=>rfl
theorem vo.getD{o:Option V}{u:Option Value}{d:V}{d':Value}(r:vo o u)(rd:xj d d'):xj (o.getD d) (u.getD d'):=by
 cases o with
 | none=>cases u with
  | none=>exact rd
  | some _=>exact (show False from r).elim
 | some _=>cases u with
  | none=>exact (show False from r).elim
  | some _=>exact r
end
theorem jj2{P:Program}{w:World}{k:Key}{u:Value}(r:xj (kV k) u):(yn P w).is k u=true:=by
 cases k with
 | inl i=>obtain ⟨t,e⟩:=(show ∃ t,u=Value.int i t from r);subst e;exact jo3 P w i t
 | inr x=>obtain ⟨t,e⟩:=(show ∃ t,u=Value.str x t from r);subst e;exact jo2 P w x t
theorem jl3{P:Program}{w:World}:∀ {ks:List Key} {us:List Value},q_ (ks.map kV) us->ItemsAre (yn P w) ks us
 | [],_,r=>by rw [List.map_nil] at r;cases r;exact .nil
 | k::ks,_,r=>by
  rw [List.map_cons] at r;cases r with
  | cons h t=>exact .cons (jj2 h) (jl3 t)
section
variable{P:Program}{w:World}{H:Hp}{h:Heap}{a:Addr}
theorem jud{ks:List Key}(ok:HOk P w H h)(e:H a=some (.tup (ks.map kV))):(tupleKind (yn P w)).is h ks a:=by
 obtain ⟨_,its,r,o,h1,h2,n,h3⟩:=(show y6 P w H h a (.tup (ks.map kV)) from ok a _ e)
 exact ⟨o,its.toArray,n,h1,h2,h3,by simpa using jl3 r⟩
end
def jw7(i:Expr):Prop:=∀ ov iv,subscripted i false ov iv=operate [ov,iv] (getItem ov iv)
theorem jpk{prog:Program}{w:World}{A:Around}{E:Value->Shared->Prop}{s:Shared}{env:Env}{value slice:Expr}{pos:Pos}{T id:String}{Q:Value->Shared->Prop}
  (hl:typeLookup (.type T) "__getitem__"=pure (some (.builtin id))) (hs:jw7 slice)
  (h:wpAny (model prog w) A (eval value env) (λo s₁=>wpAny (model prog w) A (eval slice env) (λi s₂=>s₂.TypeIs o T/\wpAny (model prog w) A (getItem o i) Q E s₂) E s₁) E s) :
  wpAny (model prog w) A (eval (.Subscript value slice pos) env) Q E s:=by
 refine Subscript_ (wpAny_mono h (λo s₁ h₁=>wpAny_mono h₁ (λi s₂ h₂=>?_) λ_ _ x=>x) λ_ _ x=>x);obtain ⟨hT,h₂⟩:=h₂;unfold subscriptTail;refine wpAny_bind ?_;rw [getitemInPython_of_ne hT.not_modules];refine wpAny_bind (wpAny_specialOf hT hl ?_);have fin:wpAny (model prog w) A (subscripted slice false o i) (λr s₃=>wpAny (model prog w) A (letTemporaryGo value o r >>= λ_=>pure r) Q E s₃) E s₂:=by
  rw [hs o i];exact wpAny_operating (wpAny_mono h₂ (λr s₃ h₃=>wpAny_bind (wpAny_letTemporaryGo (wpAny_pure h₃))) λ_ _ x=>x)
 first
  | exact wpAny_pure (wpAny_bind fin)
  | exact wpAny_bind (wpAny_pure (wpAny_bind fin))
  | exact wpAny_bind fin
structure M2(X:Cx)(o:Expr)(m:Str)(apos:Pos)(e f:Expr)(cpos:Pos):Prop where
 base:attributeBase o m X.env (eval o X.env)=eval o X.env
 few:((backTo cpos (starEach [e,f] X.env)).all (λx => !x.1) && (backToKw cpos (keywordEach [] X.env)).all (λx=>x.1.isSome)
  && decide (([e,f]:List Expr).length + ([]:List Keyword).length + (if ([]:List Keyword).isEmpty then 0 else 1) < 30))=true
 line:(apos.endLine == cpos.line)=true
 trees:backTo cpos (starEach [e,f] X.env)=[(false,eval e X.env),(false,eval f X.env)]
section
variable{X:Cx}{pins:List (Addr×Obj)}{σ:St}{H:Hp}{s:Shared}{h':Heap}
theorem Inv.turnedL{t':Nat}{ch:List Addr}(I:Inv X pins σ H s)(k:∀ b o,b∉ch->s.heap.get? b=some o->h'.get? b=some o)(hf:∀ b∈ch,jdm X pins H b):Inv X pins σ H { s with heap:=h',toks:=t' }:=by
 have nit:∀ b u,H b=some u->b∉ch:=λb u e z=>by
  have q:=(hf b z).1;rw [q] at e;cases e
 refine I.step (g':=s.gens) (d':=s.drawn) (ch:=ch) (λb hb=>⟨(hf b hb).2.2.2.1,(hf b hb).2.1,(hf b hb).2.2.2.2.1,(hf b hb).2.2.2.2.2⟩) (λb o _ _ hc e _=>k b o hc e) (λb o _ _ hc e _=>⟨o.slots,k b o hc e⟩)
  (λ_ _ _ _ n=>n) (λb o hc e=>⟨o,k b o hc e⟩) (λ_ _ e=>e) (λ_ _ _ e=>e) (λb ps e=>⟨#[],by rw [e];simp⟩) (λm hm=>?_) (λb u e=>?_) I.bare
 ·obtain ⟨o,es,ep,ho,r⟩:=hm;exact ⟨o,es,ep,k _ o (λz=>(hf _ z).2.1 rfl) ho,r⟩
 ·refine (I.hok b u e).stay (λc v hc q=>k c v ?_ q) (λ_ q=>q) λ_ _ q=>q;rcases hc with z | z
  ·rw [z];exact nit b u e
  ·exact nit c _ z
theorem Inv.turnedNew{t':Nat}{ch:List Addr}{T:Addr}{ob:HO}(I:Inv X pins σ H s)(k:∀ b o,b∉ch->s.heap.get? b=some o->h'.get? b=some o)(hf:∀ b∈ch,jdm X pins H b)(hT:s.heap.objs.size<=T)
  (new:y6 X.prog X.w (upd H T ob) h' T ob):Inv X pins σ (upd H T ob) { s with heap:=h',toks:=t' }:=by
 have hn:H T=none:=I.hok.fresh hT;have nit:∀ b u,H b=some u->b∉ch:=λb u e z=>by
  have q:=(hf b z).1;rw [q] at e;cases e
 refine I.step (g':=s.gens) (d':=s.drawn) (ch:=ch) (λb hb=>⟨(hf b hb).2.2.2.1,(hf b hb).2.1,(hf b hb).2.2.2.2.1,(hf b hb).2.2.2.2.2⟩) (λb o _ _ hc e _=>k b o hc e) (λb o _ _ hc e _=>⟨o.slots,k b o hc e⟩)
  (λb o _ e n=>?_) (λb o hc e=>⟨o,k b o hc e⟩) (λb xs e=>?_) (λb o u e=>?_) (λb ps e=>⟨#[],?_⟩) (λm hm=>?_) (λb u e=>?_) I.bare
 ·rw [jm (Nat.ne_of_lt (Nat.lt_of_lt_of_le (Heap.lt_size e) hT))];exact n
 ·rw [jm (qt e hn)];exact e
 ·rw [jm (qt e hn)];exact e
 ·rw [jm (qt e hn),e];simp
 ·obtain ⟨o,es,ep,ho,r⟩:=hm;exact ⟨o,es,ep,k _ o (λz=>(hf _ z).2.1 rfl) ho,r⟩
 ·by_cases hb:b=T
  ·subst hb;rw [jd] at e;cases e;exact new
  ·rw [jm hb] at e;refine (I.hok b u e).stay (λc v hc q=>k c v ?_ q) (λc q=>by rw [jm (qt q hn)];exact q) λc xs q=>by rw [jm (qt q hn)];exact q
   rcases hc with z | z
   ·rw [z];exact nit b u e
   ·exact nit c _ z
end
section
variable{X:Cx}
theorem jtq{tg:Expr}{pins:List (Addr×Obj)}{σ:St}{H:Hp}{s:Shared}{R:It->Hp->Prop}{J:It}{tn:Nat->Heap->Prop}{tk:Nat}(I:Inv X pins σ H s)(o:Obj)
  (T:ji5 X.prog X.w X.K tg J [s.heap.objs.size] s.heap.objs.size tn) (st:tn 0 (s.heap.push o)) (q:R J H):PIE X pins σ tg R (.ref s.heap.objs.size) { s with heap:=s.heap.push o,toks:=tk }:=by
 refine ⟨s.heap.objs.size,[s.heap.objs.size],tn,J,H,rfl,I.kept λb ob e=>Heap.get?_push_of_some _ e,T,st,λb hb=>?_,q⟩;have e:b=s.heap.objs.size:=by simpa using hb
 subst e;exact I.fpOk (Nat.le_refl _) (I.hok.fresh (Nat.le_refl _))
end
def Its(x:Str):It:=⟨λi _=>i < x.cps.size,λi H v H'=>H'=H/\∃ c,x.cps[i]? = some c/\v = .str ⟨#[c]⟩,λi _=>x.cps.size<=i⟩
theorem jmp{P:Program}{w:World}{K:PySem.W.Frag}{tg:Expr}(it:Addr)(x:Str)(t:Tok)(ty:String)(hty:ty = "str_ascii_iterator"\/ty = "str_iterator") :
  ji5 P w K tg (Its x) [it] it (λi h=>h.IsStrIter it ty x t i) where
 mem:=by simp
 obj:=λi h st b hb=>by
  have e:b=it:=by simpa using hb
  subst e;obtain ⟨o,e,c,d⟩:=st;exact ⟨o,e,λv z=>by rw [d] at z;cases z⟩
 keep:=λi h h' st k=>let ⟨o,ho,r⟩:=st;⟨o,k it (by simp) o ho,r⟩
 item:=by
  intro X hP hw hK hc i pins s σ H E I hf st hg;subst hP hw hK;obtain ⟨f0,f1,f2,f3,f4,f5⟩:=hf it (by simp);have W:Walks X.prog X.w X.A it [it] [it] x.cps.size (SignAt x) (λi h=>h.IsStrIter it ty x t i):=by
   rcases hty with e | e
   ·rw [e];exact Walks.strAscii (I.ok.hd hc) it x t
   ·rw [e];exact Walks.strWide (I.ok.hd hc) it x t
  have hno:["enumerate", "zip", "dict_itemiterator", "dict_reverseitemiterator", "odict_iterator", "itertools.zip_longest", "itertools.pairwise"].contains ty=false:=by
   rcases hty with e | e
   ·rw [e];decide
   ·rw [e];decide
  refine W.item i s _ _ hg st λv h' tk hv st' kk=>?_;obtain ⟨c,u,hcx,rfl⟩:=hv;have I1:Inv X pins σ H { s with heap:=h',toks:=tk }:=I.turned (λb o hb e=>kk b o (by simpa using hb) e) f0 f1 f3 f4 f5
  obtain ⟨oi,e,cc,dd⟩:=id st';exact ⟨_,rfl,jry (s:={ s with heap:=h',toks:=tk }) e cc dd hno ⟨.str ⟨#[c]⟩,H,I1,⟨u,rfl⟩,⟨rfl,c,hcx,rfl⟩,st',λb hb=>(hf b hb).1⟩⟩
 done:=by
  intro X hP hw hK hc i pins s σ H E I hf st hg;subst hP hw hK;obtain ⟨f0,f1,f2,f3,f4,f5⟩:=hf it (by simp);have hx:x.cps[i]? = none:=Array.getElem?_eq_none hg
  rcases hty with e | e
  ·rw [e] at st;exact wpAny_pyNext_ascii_end (I.ok.hd hc) st hx λh' eb=>⟨rfl,I.turned (t':=s.toks) (λb o hb e=>eb b o hb e) f0 f1 f3 f4 f5⟩
  ·rw [e] at st;exact wpAny_pyNext_wide_end (I.ok.hd hc) st hx λh' eb=>⟨rfl,I.turned (t':=s.toks) (λb o hb e=>eb b o hb e) f0 f1 f3 f4 f5⟩
 self:=λA i s Q E st h=>by
  rcases hty with e | e
  ·rw [e] at st;exact wpAny_pyIter_striter_ascii st h
  ·rw [e] at st;exact wpAny_pyIter_striter_wide st h
def j2q(te:TE):TI:=λσ H R=>te σ H λv H1=>∃ x,v = .str x/\R (Its x) H1
theorem j0g{X:Cx}{tg e:Expr}{te:TE}(he:PE X e te):PI X tg e (j2q te):=by
 intro pins s σ H R I h;refine thn (he pins s σ H _ I h) λv s1 ⟨y,H1,I1,r1,x,ex,q⟩=>?_;subst ex;obtain ⟨t,rfl⟩:=r1;cases ha:x.cps.all (· < 128)
 ·exact wpAny_pyIter_wide ha (jtq (tk:=s1.toks) I1 _ (jmp _ x t "str_iterator" (.inr rfl)) ⟨_,Heap.get?_push_size _ rfl,rfl,rfl⟩ q)
 ·exact wpAny_pyIter_ascii ha (jtq (tk:=s1.toks) I1 _ (jmp _ x t "str_ascii_iterator" (.inl rfl)) ⟨_,Heap.get?_push_size _ rfl,rfl,rfl⟩ q)
def Ite(K:PySem.W.Frag)(a:Addr):It :=
 ⟨λi H=>∃ (xs:List V) (x:V),SqL K H a xs/\xs[i]? = some x,λi H v H'=>∃ T x,v = .ref T/\H T=none/\H'=upd H T (.tup [.int (i:Nat),x])/\∀ xs,SqL K H a xs->xs[i]? = some x,λi H=>∃ xs:List V,SqL K H a xs/\xs.length<=i⟩
theorem jsn{P:Program}{w:World}{K:PySem.W.Frag}{elts:List Expr}{kk:Nat}{tpos:Pos}(a e it:Addr) :
  ji5 P w K (.Tuple elts kk tpos) (Ite K a) [e,it] e (λi h=>(∃ old,IsEnum h e it ((i:Nat):Int) old)/\h.IsListIter it a i/\e≠it) where
 mem:=by simp
 obj:=λi h st b hb=>by
  obtain ⟨⟨old,he⟩,⟨o,ho,hc,hd⟩,_⟩:=st;have e':b=e\/b=it:=by simpa using hb
  rcases e' with z | z
  ·rw [z];exact ⟨_,he,λv q=>nomatch q⟩
  ·rw [z];exact ⟨o,ho,λv q=>by rw [hd] at q;cases q⟩
 keep:=λi h h' st k=>let ⟨⟨old,he⟩,hi,hne⟩:=st;⟨⟨old,k e (by simp) _ he⟩,hi.at λo q=>k it (by simp) o q,hne⟩
 item:=by
  intro X hP hw hK hc i pins s σ H E I hf st hg;subst hP hw hK;obtain ⟨⟨old,he⟩,hit,hne⟩:=st;obtain ⟨xs,x,hq,hx⟩:=hg;obtain ⟨its,rv,p,hz⟩:=I.list hq;obtain ⟨u,hu,ru⟩:=rv.get hx;have hel:e < s.heap.objs.size:=Heap.lt_size he
  have hil:it < s.heap.objs.size:=by obtain ⟨_,q,_⟩:=hit;exact Heap.lt_size q
  refine wpAny_pyNext_enum_item he hit p.isList (x:=u) (by simpa using hu) hne λh' ho hit' hT hsz hk=>?_;refine ⟨_,rfl,wpAny_letOwnedTupleGo_enum (s:={ s with heap:=h',toks:=s.toks + 1 }) ho λh'' he' sb=>?_⟩;have hT2:h''.get? s.heap.objs.size=some { cls:=.type "tuple",data:=.seq #[.int i s.toks,u] }:=(sb.2 _ (Nat.ne_of_gt hel)).trans hT
  have new:y6 X.prog X.w (upd H s.heap.objs.size (.tup [.int (i:Nat),x])) h'' s.heap.objs.size (.tup [.int (i:Nat),x]) :=
   ⟨by show 2<=sizeLine;decide,[.int i s.toks,u],.cons ⟨_,rfl⟩ (.cons ru .nil),⟨_,hT2,rfl,_,rfl⟩⟩
  have I1:Inv X pins σ (upd H s.heap.objs.size (.tup [.int (i:Nat),x])) { s with heap:=h'',toks:=s.toks + 1 } :=
   I.turnedNew (ch:=[e,it]) (λb ob hb q=>(sb.2 b (λz=>hb (by simp [z]))).trans (hk b ob (λz=>hb (by simp [z])) (λz=>hb (by simp [z])) q)) hf (Nat.le_refl _) new
  refine ⟨.ref s.heap.objs.size,_,I1,rfl,⟨_,x,rfl,I.hok.fresh (Nat.le_refl _),rfl,λys hy=>by rw [I.list_inj hy hq];exact hx⟩,⟨⟨u,?_⟩,hit'.at λo q=>(sb.2 it (Ne.symm hne)).trans q,hne⟩,λb hb=>?_⟩
  ·have e1:((i + 1:Nat):Int)=(i:Int) + 1:=by omega
   rw [e1];exact he'
  ·have hb':b < s.heap.objs.size:=by
    have e':b=e\/b=it:=by simpa using hb
    rcases e' with z | z
    ·rw [z];exact hel
    ·rw [z];exact hil
   rw [jm (Nat.ne_of_lt hb')];exact (hf b hb).1
 done:=by
  intro X hP hw hK hc i pins s σ H E I hf st hg;subst hP hw hK;obtain ⟨⟨old,he⟩,hit,hne⟩:=st;obtain ⟨xs,hq,hx⟩:=hg;obtain ⟨its,rv,p,hz⟩:=I.list hq;obtain ⟨f0,f1,f2,f3,f4,f5⟩:=hf it (by simp);have hl:=rv.length
  exact wpAny_pyNext_enum_end (I.ok.hd hc) he hit p.isList (by simp;omega) λh' eb=>⟨rfl,I.turned (t':=s.toks) (λb o hb q=>eb b o hb q) f0 f1 f3 f4 f5⟩
 self:=λA i s Q E st h=>let ⟨⟨_,he⟩,_⟩:=st;wpAny_pyIter_enum he h
def j1x(K:PySem.W.Frag)(ta:TA):TI:=λσ H R=>ta σ H λvs H1=>∃ a xs,vs=[.ref a]/\SqL K H1 a xs/\R (Ite K a) H1
theorem jp0{X:Cx}{e:Expr}{ta:TA}{p pos tpos:Pos}{elts:List Expr}{kk:Nat}(hg:Gl X "enumerate")(hm:X.mg "enumerate"=none)(ha:PA X [e] ta)(hs:starEach [e] X.env=[(false,eval e X.env)]:=by rfl) :
  PI X (.Tuple elts kk tpos) (.Call (.Name "enumerate" p) [e] [] pos) (j1x X.K ta):=by
 intro pins s σ H R I h;refine Call_ (jhj I hg hm boot_enumerate (PyProof.Rows.callWith_type1 (thn (ha pos pins s σ H _ I h) λus s1 ⟨vs,H1,I1,r1,q1⟩=>?_) hs rfl));obtain ⟨a,xs,ex,hq,q⟩:=q1;subst ex;cases r1 with
 | cons r rr =>
  cases rr;cases r;obtain ⟨its,rv,p',hz⟩:=I1.list hq;refine call_enumerate_list p'.isList λh' he hit hsz hk=>wpAny_pyIter_enum he ?_;have I2:Inv X pins σ H1 { s1 with heap:=h' }:=I1.kept (t':=s1.toks) hk
  refine ⟨s1.heap.objs.size + 1,[s1.heap.objs.size + 1,s1.heap.objs.size],_,_,H1,rfl,I2,jsn a (s1.heap.objs.size + 1) s1.heap.objs.size,⟨⟨.none,he⟩,hit,Nat.succ_ne_self _⟩,λb hb=>?_,q⟩;have e':b=s1.heap.objs.size + 1\/b=s1.heap.objs.size:=by simpa using hb
  have hle:s1.heap.objs.size<=b:=by
   rcases e' with z | z
   ·rw [z];exact Nat.le_add_right _ _
   ·rw [z];exact Nat.le_refl _
  exact I1.fpOk hle (I1.hok.fresh hle)
theorem juv:bootBuiltins "zip"=some (.type "zip"):=by decide +kernel
def Itz(K:PySem.W.Frag)(a b:Addr):It :=
 ⟨λi H=>∃ (xs ys:List V) (x y:V),SqL K H a xs/\SqL K H b ys/\xs[i]? = some x/\ys[i]? = some y,
  λi H v H'=>∃ T x y,v = .ref T/\H T=none/\H'=upd H T (.tup [x,y])/\(∀ xs,SqL K H a xs->xs[i]? = some x)/\∀ ys,SqL K H b ys->ys[i]? = some y,
  λi H=>∃ xs ys:List V,SqL K H a xs/\SqL K H b ys/\(xs.length<=i\/ys.length<=i)⟩
theorem ju6{P:Program}{w:World}{K:PySem.W.Frag}{elts:List Expr}{kk:Nat}{tpos:Pos}{a b z TI TO i1 i2:Addr}(D:ZipApart z TI TO i1 i2 a b) :
  ji5 P w K (.Tuple elts kk tpos) (Itz K a b) [z,TI,TO,i1,i2] z (λi h=>IsZip h z TI TO .none/\IsPair h TI (.ref i1) (.ref i2)/\(∃ x y,IsPair h TO x y)/\h.IsListIter i1 a i/\h.IsListIter i2 b i) where
 mem:=by simp
 obj:=λi h st c hc=>by
  obtain ⟨hz,hTI,⟨x,y,hTO⟩,⟨o1,e1,_,d1⟩,⟨o2,e2,_,d2⟩⟩:=st;have e':c=z\/c=TI\/c=TO\/c=i1\/c=i2:=by simpa using hc
  rcases e' with q | q | q | q | q
  ·rw [q];exact ⟨_,hz,λv q=>nomatch q⟩
  ·rw [q];exact ⟨_,hTI,λv q=>nomatch q⟩
  ·rw [q];exact ⟨_,hTO,λv q=>nomatch q⟩
  ·rw [q];exact ⟨o1,e1,λv q=>by rw [d1] at q;cases q⟩
  ·rw [q];exact ⟨o2,e2,λv q=>by rw [d2] at q;cases q⟩
 keep:=λi h h' st k=>by
  obtain ⟨hz,hTI,⟨x,y,hTO⟩,h1,h2⟩:=st;exact ⟨k z (by simp) _ hz,k TI (by simp) _ hTI,⟨x,y,k TO (by simp) _ hTO⟩,h1.at λo q=>k i1 (by simp) o q,h2.at λo q=>k i2 (by simp) o q⟩
 item:=by
  intro X hP hw hK hc i pins s σ H E I hf st hg;subst hP hw hK;obtain ⟨hz,hTI,⟨x0,y0,hTO⟩,h1,h2⟩:=st;obtain ⟨xs,ys,x,y,hqx,hqy,hx,hy⟩:=hg;obtain ⟨its,rv,p,_⟩:=I.list hqx;obtain ⟨its2,rv2,p2,_⟩:=I.list hqy;obtain ⟨u,hu,ru⟩:=rv.get hx;obtain ⟨u2,hu2,ru2⟩:=rv2.get hy;have hzl:z < s.heap.objs.size:=Heap.lt_size hz
  refine wpAny_pyNext_zip_item D hz hTI hTO h1 h2 p.isList p2.isList (x:=u) (y:=u2) (by simpa using hu) (by simpa using hu2) λh' z' TO' h1' h2' hT hsz hk=>?_;refine ⟨_,rfl,wpAny_letOwnedTupleGo_zip (s:={ s with heap:=h' }) z' λh'' z'' sb=>?_⟩;have hT2:h''.get? s.heap.objs.size=some { cls:=.type "tuple",data:=.seq #[u,u2] }:=(sb.2 _ (Nat.ne_of_gt hzl)).trans hT
  have new:y6 X.prog X.w (upd H s.heap.objs.size (.tup [x,y])) h'' s.heap.objs.size (.tup [x,y]) :=
   ⟨by show 2<=sizeLine;decide,[u,u2],.cons ru (.cons ru2 .nil),⟨_,hT2,rfl,_,rfl⟩⟩
  have I1:Inv X pins σ (upd H s.heap.objs.size (.tup [x,y])) { s with heap:=h'' } :=
   I.turnedNew (t':=s.toks) (ch:=[z,TI,TO,i1,i2]) (λc o hb q=>(sb.2 c (λq'=>hb (by simp [q']))).trans (hk c o (λq'=>hb (by simp [q'])) (λq'=>hb (by simp [q'])) (λq'=>hb (by simp [q'])) (λq'=>hb (by simp [q'])) q)) hf (Nat.le_refl _) new
  refine ⟨.ref s.heap.objs.size,_,I1,rfl,⟨_,x,y,rfl,I.hok.fresh (Nat.le_refl _),rfl,λl hl=>by rw [I.list_inj hl hqx];exact hx,λl hl=>by rw [I.list_inj hl hqy];exact hy⟩,⟨z'',?_,⟨u,u2,?_⟩,?_,?_⟩,λc hcm=>?_⟩
  ·exact (sb.2 _ D.TIz).trans (hk _ _ D.TIz D.TITO D.TIi1 D.TIi2 hTI)
  ·exact (sb.2 _ D.TOz).trans TO'
  ·exact h1'.at λo q=>(sb.2 _ D.i1z).trans q
  ·exact h2'.at λo q=>(sb.2 _ D.i2z).trans q
  ·have hlt:c < s.heap.objs.size:=by
    have e':c=z\/c=TI\/c=TO\/c=i1\/c=i2:=by simpa using hcm
    rcases e' with q | q | q | q | q
    ·rw [q];exact hzl
    ·rw [q];exact Heap.lt_size hTI
    ·rw [q];exact Heap.lt_size hTO
    ·rw [q];obtain ⟨_,e1,_⟩:=h1;exact Heap.lt_size e1
    ·rw [q];obtain ⟨_,e2,_⟩:=h2;exact Heap.lt_size e2
   rw [jm (Nat.ne_of_lt hlt)];exact (hf c hcm).1
 done:=by
  intro X hP hw hK hc i pins s σ H E I hf st hg;subst hP hw hK;obtain ⟨hz,hTI,⟨x0,y0,hTO⟩,h1,h2⟩:=st;obtain ⟨xs,ys,hqx,hqy,hend⟩:=hg;obtain ⟨its,rv,p,_⟩:=I.list hqx;obtain ⟨its2,rv2,p2,_⟩:=I.list hqy;have l1:=rv.length
  have l2:=rv2.length;have he:its.toArray[i]? = none\/its2.toArray[i]? = none:=by
   rcases hend with q | q
   ·exact .inl (by simp;omega)
   ·exact .inr (by simp;omega)
  exact wpAny_pyNext_zip_end (I.ok.hd hc) D hz hTI hTO h1 h2 p.isList p2.isList he λh' hk=>⟨rfl,I.turnedL (t':=s.toks) (ch:=[z,TI,TO,i1,i2]) (λc o hb q =>
   hk c o (λq'=>hb (by simp [q'])) (λq'=>hb (by simp [q'])) (λq'=>hb (by simp [q'])) (λq'=>hb (by simp [q'])) q) hf⟩
 self:=λA i s Q E st h=>wpAny_pyIter_zip st.1 h
def j2o(K:PySem.W.Frag)(ta:TA):TI:=λσ H R=>ta σ H λvs H1=>∃ a b xs ys,vs=[.ref a,.ref b]/\SqL K H1 a xs/\SqL K H1 b ys/\R (Itz K a b) H1
theorem j0e{X:Cx}{e e2:Expr}{ta:TA}{p pos tpos:Pos}{elts:List Expr}{kk:Nat}(hg:Gl X "zip")(hm:X.mg "zip"=none)(ha:PA X [e,e2] ta)
  (hs:starEach [e,e2] X.env=(false,eval e X.env)::starEach [e2] X.env:=by rfl) (hpl:(backTo pos (starEach [e2] X.env)).any (·.1)=false:=by rfl) :
  PI X (.Tuple elts kk tpos) (.Call (.Name "zip" p) [e,e2] [] pos) (j2o X.K ta):=by
 intro pins s σ H R I h;refine Call_ (jhj I hg hm juv (PyProof.Rows.callWith_type1 (thn (ha pos pins s σ H _ I h) λus s1 ⟨vs,H1,I1,r1,q1⟩=>?_) hs hpl));obtain ⟨a,b,xs,ys,ex,hqx,hqy,q⟩:=q1;subst ex;cases r1 with
 | cons r rr =>
  cases rr with
  | cons r' rr =>
   cases rr;cases r;cases r';obtain ⟨its,rv,p1,_⟩:=I1.list hqx;obtain ⟨its2,rv2,p2,_⟩:=I1.list hqy;have la:a < s1.heap.objs.size:=p1.lt
   have lb:b < s1.heap.objs.size:=p2.lt;refine call_zip_2 p1.isList p2.isList λh' hz hTI hTO h1 h2 hsz hk=>wpAny_pyIter_zip hz ?_;have I2:Inv X pins σ H1 { s1 with heap:=h' }:=I1.kept (t':=s1.toks) hk
   refine ⟨s1.heap.objs.size + 4,[s1.heap.objs.size + 4,s1.heap.objs.size + 2,s1.heap.objs.size + 3,s1.heap.objs.size,s1.heap.objs.size + 1],_,_,H1,rfl,I2,ju6 (PySem.W.ktu_apart s1.heap.objs.size a b la lb),⟨hz,hTI,⟨_,_,hTO⟩,h1,h2⟩,λc hcm=>?_,q⟩;have e':c=s1.heap.objs.size + 4\/c=s1.heap.objs.size + 2\/c=s1.heap.objs.size + 3\/c=s1.heap.objs.size\/c=s1.heap.objs.size + 1:=by simpa using hcm
   have hle:s1.heap.objs.size<=c:=by
    rcases e' with z | z | z | z | z
    ·rw [z];exact Nat.le_add_right _ _
    ·rw [z];exact Nat.le_add_right _ _
    ·rw [z];exact Nat.le_add_right _ _
    ·rw [z];exact Nat.le_refl _
    ·rw [z];exact Nat.le_add_right _ _
   exact I1.fpOk hle (I1.hok.fresh hle)
end L2
section
namespace Bits
open PySem PyProof.Rows
end Bits
end
section
namespace TL
open PySem PySem.Builtin PySem.Builtin.Str PySem.StrLaws
end TL
end
namespace L2
open PySem PySem.Spec PyProof.Rows
section
variable{X:Cx}
end
end L2
namespace Att
open PySem PySem.W PySem.Calls PyProof.Rows
section
variable{prog:Program}{w:World}{A:Around}{E:Value->Shared->Prop}{s:Shared}{K:Frag}
end
end Att
namespace L2
open PySem PySem.Spec PyProof.Rows
def jat(s:Stmt)(j:Nat):Stmt:=match s with
 | .ClassDef _ _ _ body _ _ _ _ _ _ _=>body.getD j (.Pass ⟨0,0,0,0⟩)
 | _=>.Pass ⟨0,0,0,0⟩
def wm(s:Stmt):Arguments:=match s with
 | .FunctionDef _ a _ _ _ _ _ _ _ _=>a
 | _=>{ posonlyargs:=[],args:=[],vararg:=none,kwonlyargs:=[],kw_defaults:=[],kwarg:=none,defaults:=[] }
def z0(s:Stmt):List Stmt:=match s with
 | .FunctionDef _ _ b _ _ _ _ _ _ _=>b
 | _=>[]
def ji(s:Stmt):Scope:=match s with
 | .FunctionDef _ _ _ _ _ _ sc _ _ _=>sc
 | _=>{ kind:=.function,names:=[],isGenerator:=false,isCoroutine:=false }
structure Fun(K:PySem.W.Frag)(x qual:Str)(st:Stmt)(f:Addr)(fd:FuncData):Prop where
 ex:∃ (oc:Value) (od:Option Addr) (kV doc pm:Value) (an:Option Addr) (cdv ct:Value) (osl:Array (Option Value)),
  fd=PySem.W.fnOf x qual (wm st) (z0 st) (ji st) .none kV doc pm an cdv ct/\K.lookup f=some ⟨oc,od,.func fd,osl⟩/\PySem.W.codeIn K cdv qual=true
 kp:PySem.W.keepIn K (.ref f)=true
section
variable{P:Program}{w:World}{K:PySem.W.Frag}{mg:Str->Option Value}{base:Heap}
theorem Fun.binds{x qual:Str}{st:Stmt}{f:Addr}{fd:FuncData}{ps:List Str}(F:Fun K x qual st f fd)
  (h:∀ (kV doc pm:Value) (an:Option Addr) (cdv ct:Value) (us:List Value),us.length=ps.length->bindArgs (PySem.W.fnOf x qual (wm st) (z0 st) (ji st) .none kV doc pm an cdv ct) ⟨us,[]⟩=pure (ps.zip us)):zk K fd ps []:=by
 obtain ⟨oc,od,kV,doc,pm,an,cdv,ct,osl,rfl,lk,hcd⟩:=F.ex;exact .all (h kV doc pm an cdv ct)
theorem jfp{x qual:Str}{st:Stmt}{f:Addr}{oc:Value}{od an:Option Addr}{osl:Array (Option Value)}{kV doc pm cdv ct:Value}(l:K.lookup f=some ⟨oc,od,.func (PySem.W.fnOf x qual (wm st) (z0 st) (ji st) .none kV doc pm an cdv ct),osl⟩)
  (c:PySem.W.codeIn K cdv qual=true) (k:PySem.W.keepIn K (.ref f)=true):Fun K x qual st f (PySem.W.fnOf x qual (wm st) (z0 st) (ji st) .none kV doc pm an cdv ct):=⟨⟨oc,od,kV,doc,pm,an,cdv,ct,osl,rfl,l,c⟩,k⟩
end
theorem j1y{A:Around}{k:Nat}(hr:xu k A):A.units + 1 < cLine:=Nat.lt_of_le_of_lt (Nat.add_le_add_left (by decide:1<=64) _) hr.units
section
variable{X:Cx}
theorem pv(i:Nat){x:Str}{pos:Pos}(hN:X.N[i]? = some x:=by rfl)(hv:Vis X.env.scope x:=by first | exact Or.inl rfl | exact Or.inr (Or.inl rfl) | exact Or.inr (Or.inr rfl))(hd:(x == ("__debug__":Str))=false:=by decide)
  (hcd:(x == ("__classdict__":Str))=false:=by decide):PE X (.Name x pos) (qy i):=j0h hN hv hd hcd
end
theorem qb{c A B:Prop}[Decidable c](h1:c->A)(h2:¬ c->B):if c then A else B:=by
 by_cases h:c
 ·rw [if_pos h];exact h1 h
 ·rw [if_neg h];exact h2 h
def jh(H H':Hp):Prop:=∀ b o,H b=some o->H' b=some o
theorem jh.refl(H:Hp):jh H H:=λ_ _ h=>h
theorem jh.trans{H H1 H2:Hp}(a:jh H H1)(b:jh H1 H2):jh H H2:=λc o h=>b c o (a c o h)
theorem jh.seq{K:PySem.W.Frag}{H H':Hp}{a:Addr}{xs:List V}(e:jh H H')(h:SqL K H a xs):SqL K H' a xs:=by
 rcases h with (h | ⟨o,h⟩) | h
 ·exact .inl (.inl (e _ _ h))
 ·exact .inl (.inr ⟨o,e _ _ h⟩)
 ·exact .inr h
theorem jh.made{H H1:Hp}{x dx C:Addr}(nx:H x=Option.none)(nd:H dx=Option.none)(k:∀ b o,(upd (upd H dx (.own x)) x (.ins C dx [])) b=some o->b≠x->H1 b=some o):jh H H1:=λb o e =>
 k b o (by rw [jm (qt e nx),jm (qt e nd)];exact e) (qt e nx)
end L2
end
section
set_option autoImplicit false
namespace CX
open PySem
abbrev frm(l:List Env):List Addr:=l.filterMap (·.frame)
structure Air(h:Heap)(x T:Addr)(C:Value)(dx:Option Addr)(fl:Value):Prop where
 obj:∃ o vs,h.get? x=some o/\o.cls=C/\o.dict=dx/\o.data = .fields vs/\vs[1]? = some (.ref T)
 ne:T≠x
 tb:∃ o ts,h.get? T=some o/\o.data = .fields ts/\ts[3]? = some fl
structure jw8(l:List Env)(x:Addr)(head:Value)(h h':Heap):Prop where
 keep:∀ b o,b≠x->head≠.ref b->b∉frm l->h.get? b=some o->h'.get? b=some o
 slot:∀ b o,b∈frm l->h.get? b=some o->∃ sl,h'.get? b=some { o with slots:=sl }
 there:∀ b o,h.get? b=some o->∃ o',h'.get? b=some o'
theorem jwu(o:Obj)(f:Array Value->Array Value):(o.mapFields f).dict=o.dict:=by
 obtain ⟨c,d,dt,sl⟩:=o;cases dt <;> rfl
section
variable{M:Model}{A:Around}{E:Value->Shared->Prop}{s:Shared}{base:Heap}{env:Env}{outer:List Env}{L x:Addr}{o:Obj}{vs:Array Value}{head:Value}{Q:Unit->Shared->Prop}
theorem jn_{had:Bool}(hfr:A.frames=some (env::outer))(hl:s.heap.FunFrames base (env::outer))(hf:env.frame=some L)(hx:s.heap.get? x=some o)(hd:o.data = .fields vs)(hz:1 < vs.size)
  (h:∀ h' T,s.heap.objs.size<=T->jw8 (env::outer) x .none s.heap h'->Air h' x T o.cls o.dict (rawInt L)->Q () { s with heap:=h' }) :
  wpAny M A (do let a <- frameOf env;let pl <- entryPlaceOf L had;let y <- EntryCells.newEntry head a .none (rawInt L) .none pl;setField (.ref x) 1 y) Q E s:=by
 have xn:x∉frm (env::outer):=λhm=>by
  obtain ⟨_,u,hu,hv⟩:=hl.mem hm;rw [hx] at hu;cases hu;exact hv vs hd
 refine wpAny_bind (wpAny_frameOf_fun hfr hl hf λg1 so=>?_);refine wpAny_bind (wpAny_entryPlaceOf λpl hp=>?_);unfold EntryCells.newEntry newFields;refine wpAny_bind (wpAny_newObj_type ?_ (hp.sizeOk5 _ _ _ _ _));have hx1:g1.get? x=some o:=(so.2.1 x xn).trans hx
 generalize hob:({ cls:=.type "traceback",dict:=none,data:=.fields ([head,.ref L,.none,rawInt L,.none] ++ (if pl.isEmpty then List.replicate 6 Value.none else pl)).toArray }:Obj)=tb;have hfree:tb.isFreed=false:=by subst hob;rfl
 have hx2:=Heap.get?_push_of_some (h:=g1) tb hx1;have hT2:(g1.push tb).get? g1.objs.size=some tb:=Heap.get?_push_size g1 hfree
 have nTx:g1.objs.size≠x:=Nat.ne_of_gt (Heap.lt_size hx1);refine wpAny_setField hx2 hd hz ?_;have hd3:=Obj.data_mapFields hd (·.setIfInBounds 1 (Value.ref g1.objs.size))
 refine h _ g1.objs.size ?_ ⟨λb u hb _ hbf hbu=>?_,λb u hbf hbu=>?_,λb u hbu=>?_⟩ ⟨⟨_,_,Heap.get?_update_self _ hx2 (Obj.isFreed_of_fields hd3),Obj.cls_mapFields _ _,jwu _ _,hd3,?_⟩,nTx,tb,_,?_,by subst hob;rfl,?_⟩
 ·rw [so.1];exact Nat.le_refl _
 ·rw [Heap.get?_update_other _ _ (Ne.symm hb)];exact Heap.get?_push_of_some _ ((so.2.1 b hbf).trans hbu)
 ·obtain ⟨sl,e⟩:=so.2.2 b u hbu;have hb:b≠x:=λz=>xn (z▸hbf)
  exact ⟨sl,by rw [Heap.get?_update_other _ _ (Ne.symm hb)];exact Heap.get?_push_of_some _ e⟩
 ·obtain ⟨sl,e⟩:=so.2.2 b u hbu;by_cases hb:b=x
  ·subst hb;exact ⟨_,Heap.get?_update_self _ hx2 (Obj.isFreed_of_fields hd3)⟩
  ·exact ⟨_,by rw [Heap.get?_update_other _ _ (Ne.symm hb)];exact Heap.get?_push_of_some _ e⟩
 ·simp [hz]
 ·rw [Heap.get?_update_other _ _ (Ne.symm nTx)];exact hT2
 ·first
   | rfl
   | (rcases hp with rfl | ⟨_,_,_,_,_,_,_,rfl⟩ <;> simp)
theorem jp3(hfr:A.frames=some (env::outer))(hl:s.heap.FunFrames base (env::outer))(hf:env.frame=some L)(hx:s.heap.get? x=some o)(hd:o.data = .fields vs)(h1:vs[1]? = some head)
  (hh:head = .none\/∃ T u ts,head = .ref T/\T≠x/\s.heap.get? T=some u/\u.data = .fields ts/\ts[3]? = some .none)
  (h:∀ h' T,s.heap.objs.size<=T->jw8 (env::outer) x head s.heap h'->Air h' x T o.cls o.dict (rawInt L)->Q () { s with heap:=h' }):wpAny M A (noteFrame (.ref x) env) Q E s:=by
 have hz:1 < vs.size:=(Array.getElem?_eq_some_iff.mp h1).1;unfold noteFrame;simp only [hf];refine wpAny_bind (wpAny_field hx hd h1 ?_);rcases hh with rfl | ⟨T,u,ts,rfl,nT,hT,hdT,h3⟩
 ·rw [if_neg (by decide)];exact jn_ hfr hl hf hx hd hz λh' T a b c=>h h' T a ⟨λq r i1 _ i3 i4=>b.keep q r i1 (by simp) i3 i4,b.slot,b.there⟩ c
 ·rw [if_pos (by simp)];refine wpAny_bind (wpAny_field hT hdT h3 ?_);rw [if_neg (by simp [rawInt])];refine wpAny_bind (wpAny_setField hT hdT (Array.getElem?_eq_some_iff.mp h3).1 ?_);have ot:∀ b,b≠T->(s.heap.update T (Obj.mapFields (·.setIfInBounds 3 Value.none))).get? b=s.heap.get? b:=λb hb=>Heap.get?_update_other _ _ (Ne.symm hb)
  have nf:∀ b q,s.heap.get? b=some q->(∀ ws,q.data≠.fields ws)->b≠T:=λb q hb hq z=>by
   rw [z,hT] at hb;cases hb;exact hq ts hdT
  have hl2:=hl.of_keeps (h':=s.heap.update T (Obj.mapFields (·.setIfInBounds 3 Value.none))) λb q hb hq=>⟨q,(ot b (nf b q hb hq)).trans hb,rfl⟩
  refine jn_ (s:={ s with heap:=s.heap.update T (Obj.mapFields (·.setIfInBounds 3 Value.none)) }) hfr hl2 hf ((ot x (Ne.symm nT)).trans hx) hd hz λh' T' a b c=>h h' T' ?_ ⟨λq r i1 i2 i3 i4=>?_,λq r i1 i2=>?_,λq r i1=>?_⟩ c
  ·have a':(s.heap.update T (Obj.mapFields (·.setIfInBounds 3 Value.none))).objs.size<=T':=a
   rwa [Heap.size_after_update] at a'
  ·have nq:q≠T:=λz=>i2 (by rw [z]);exact b.keep q r i1 (by simp) i3 ((ot q nq).trans i4)
  ·obtain ⟨_,r',hr',hv⟩:=hl.mem i1;rw [i2] at hr';cases hr';exact b.slot q r i1 ((ot q (nf q r i2 hv)).trans i2)
  ·by_cases hq:q=T
   ·subst hq;exact b.there q _ (Heap.get?_update_self (Obj.mapFields (·.setIfInBounds 3 Value.none)) hT (Obj.isFreed_of_fields (Obj.data_mapFields hdT _)))
   ·exact b.there q r ((ot q hq).trans i1)
theorem jgo{T:Addr}{C:Value}{dx:Option Addr}{fl:Value}(a:Air s.heap x T C dx fl)
  (h:∀ h',(∀ b u,b≠T->s.heap.get? b=some u->h'.get? b=some u)->Air h' x T C dx .none->Q () { s with heap:=h' }):wpAny M A (setFlight (.ref x) none) Q E s:=by
 obtain ⟨⟨o,vs,hx,hc,hdx,hd,h1⟩,nT,u,ts,hT,hdT,h3⟩:=a;have hz:3 < ts.size:=(Array.getElem?_eq_some_iff.mp h3).1
 unfold setFlight;refine wpAny_bind (wpAny_field hx hd h1 ?_);rw [if_pos (by simp)];refine wpAny_setField hT hdT hz (h _ (λb q hb hq=>?_) ⟨⟨o,vs,?_,hc,hdx,hd,h1⟩,nT,_,_,Heap.get?_update_self _ hT (Obj.isFreed_of_fields (Obj.data_mapFields hdT _)),Obj.data_mapFields hdT _,by simp [hz]⟩)
 ·rw [Heap.get?_update_other _ _ (Ne.symm hb)];exact hq
 ·rw [Heap.get?_update_other _ _ nT];exact hx
theorem jwm(hfr:A.frames=some (env::outer))(hl:s.heap.FunFrames base (env::outer))(hf:env.frame=some L)(hx:s.heap.get? x=some o)(hd:o.data = .fields vs)(h1:vs[1]? = some head)
  (hh:head = .none\/∃ T u ts,head = .ref T/\T≠x/\s.heap.get? T=some u/\u.data = .fields ts/\ts[3]? = some .none)
  (h:∀ h' T,s.heap.objs.size<=T->jw8 (env::outer) x head s.heap h'->Air h' x T o.cls o.dict .none->Q () { s with heap:=h' }):wpAny M A (leaving env (.ref x)) Q E s:=by
 unfold leaving;refine wpAny_bind (jp3 hfr hl hf hx hd h1 hh λh1 T a b c=>?_);refine jgo (s:={ s with heap:=h1 }) c λh2 k c2=>h h2 T a ⟨λq r i1 i2 i3 i4=>?_,λq r i1 i2=>?_,λq r i1=>?_⟩ c2
 ·exact k q r (λz=>absurd (Nat.lt_of_lt_of_le (Heap.lt_size i4) (z▸a)) (Nat.lt_irrefl _)) (b.keep q r i1 i2 i3 i4)
 ·obtain ⟨sl,e⟩:=b.slot q r i1 i2;exact ⟨sl,k q _ (λz=>absurd (Nat.lt_of_lt_of_le (Heap.lt_size i2) (z▸a)) (Nat.lt_irrefl _)) e⟩
 ·obtain ⟨u,e⟩:=b.there q r i1;exact ⟨u,k q u (λz=>absurd (Nat.lt_of_lt_of_le (Heap.lt_size i1) (z▸a)) (Nat.lt_irrefl _)) e⟩
end
end CX
end
section
set_option autoImplicit false
set_option maxRecDepth 100000
namespace CX
open PySem Builtin Builtin.ObjectAttr
section
variable{prog:Program}{w:World}{A:Around}{E:Value->Shared->Prop}{h:Heap}{g:Array GenState}{d:Drawn}{t:Nat}{os:OsState}
variable{nm qn:Str}{C N x:Addr}{bs bm:List Value}{sn:List Str}{sub:List Value}{ab:Bool}{col:Option Bool}{dd:Option Addr}{c0 c1 c2 c3 c5:Option Value}{B newId sa owner:String}
 {mN mA:Str->Option Value} {name:Str} {v:Value} {o:Obj}
structure jxq(h h':Heap)(x:Addr)(o:Obj)(name:Str)(v:Value):Prop where
 obj:h'.get? x=some { o with dict:=some h.objs.size }
 ns:h'.Ns1 h.objs.size (λy=>if y=name then some v else none)
 keep:∀ b u,b≠x->h.get? b=some u->h'.get? b=some u
theorem jo9{tk:Tok}{Q:Fin->Shared->Prop}(SF:StoreFacts B bm sa owner)(cls:h.get? C=some (excClassObj nm qn C N bs bm true sn sub ab col dd c0 c1 c2 c3 c5 newId))(hn:h.Ns N mN)(hna:mN name=none)
  (hB:typeLookup (.type B) name=pure none) (hx:h.get? x=some o) (hc:o.cls = .ref C) (hnc:∀ y,o.data≠.cls y) (hdn:o.dict=none)
  (hq:∀ h' tk',jxq h h' x o name v->Q (.done (.ret .none)) ⟨h',g,d,tk',os⟩) :
  wpAny (model prog w) A (Builtin.«object.__setattr__» ⟨[.ref x,.str name tk,v],[]⟩) Q E ⟨h,g,d,t,os⟩:=by
 have pas:=SF.passes (.ref x);unfold Builtin.«object.__setattr__»
 repeat (first
  | rw [refuse_eq]
  | (rw [refuseLoop_ref,pas])
  | (with_reducible refine wpAny_loadPart_at hx ?_
     rw [hc])
  | with_reducible refine wpAny_mroOf_exc cls ?_
  | (with_reducible refine wpAny_typeLookup_exc cls hn SF.mro hB ?_
     rw [hna])
  | wp_step)
 rw [hdn,if_neg (by simp [typeHasDict])];split
 ·rename_i q;cases q
 split
 ·rename_i y q;exact absurd q (hnc y)
 have hx1:(h.push { cls:=.type "dict",data:=.dict #[] }).get? x=some o:=Heap.get?_push_of_some _ hx;have nx:x≠h.objs.size:=Nat.ne_of_lt (Heap.lt_size hx)
 refine wpAny_bind (wpAny_alloc' ?_);refine wpAny_bind (wpAny_update' hx1 ?_);refine wpAny_pure ?_;have free:({ o with dict:=some h.objs.size }:Obj).isFreed=false:=by
  have z:=(Heap.get?_some_iff.mp hx).2;obtain ⟨oc,od,odt,osl⟩:=o;cases odt <;> first | rfl | exact z
 have gd:=(Heap.get?_update_other (h.push { cls:=.type "dict",data:=.dict #[] }) (λu=>{ cls:=u.cls,dict:=some h.objs.size,data:=u.data,slots:=u.slots }) nx).trans (Heap.get?_push_at (h:=h) (o:={ cls:=.type "dict",data:=.dict #[] }) rfl rfl);have gx:=Heap.get?_update_self (λu=>{ cls:=u.cls,dict:=some h.objs.size,data:=u.data,slots:=u.slots }) hx1 free
 have nd:((h.push { cls:=.type "dict",data:=.dict #[] }).update x λu=>{ cls:=u.cls,dict:=some h.objs.size,data:=u.data,slots:=u.slots }).Ns h.objs.size (λ_=>none) :=
  ⟨_,#[],_,gd,rfl,λe he=>absurd he (by simp),λ_=>rfl⟩
 show wpAny _ _ (storeInDict h.objs.size (.str name tk) name v) _ _ _;unfold storeInDict newKeyGuard;refine wpAny_bind (wpAny_pure (wpAny_bind (wpAny_nsSet1 (Heap.Ns1.of_empty nd) λh2 n2 sb=>?_)));obtain ⟨oD,eD,pD,hoD,hdD,hcD⟩:=n2.count (Within.cons name v Within.nil);refine wpAny_bind (wpAny_lookBehind hoD (by rw [hdD];exact pastItsLine_dict (Nat.le_trans hcD (by rw [List.length_cons,List.length_nil,sizeLine_eq];omega))) ?_)
 wp_walk
 refine hq h2 _ ⟨(sb.2 x nx).trans gx,n2,λb u hb e=>?_⟩;exact (sb.2 b (Nat.ne_of_lt (Heap.lt_size e))).trans ((Heap.get?_update_ne _ _ _ _ hb).trans (Heap.get?_push_of_some _ e))
theorem jrz{Q:Unit->Shared->Prop}(SF:StoreFacts B bm sa owner)(cls:h.get? C=some (excClassObj nm qn C N bs bm true sn sub ab col dd c0 c1 c2 c3 c5 newId))(hn:h.Ns N mN)(hns:mN "__setattr__"=none)
  (hna:mN name=none) (hB:typeLookup (.type B) name=pure none) (hx:h.get? x=some o) (hc:o.cls = .ref C) (hnc:∀ y,o.data≠.cls y) (hdn:o.dict=none)
  (hq:∀ h' tk',jxq h h' x o name v->Q () ⟨h',g,d,tk',os⟩):wpAny (model prog w) A (setAttr (.ref x) name v) Q E ⟨h,g,d,t,os⟩:=by
 have bd:=SF.slot.bind (.ref x);unfold setAttr callSpecial? specialOf
 repeat (any_goals (first
  | assumption
  | (with_reducible refine wpAny_loadPart_at hx ?_
     rw [hc])
  | (with_reducible refine wpAny_typeLookup_exc cls hn SF.mro SF.slot.lookup ?_
     rw [hns])
  | wp_step))
 refine codeAny_call_builtin SF.slot.plain SF.entry (wpAny_check_sa SF cls hx hc (jo9 SF cls hn hna hB hx hc hnc hdn λh2 t2 f=>?_))
 repeat (any_goals (first | assumption | wp_step))
 exact hq h2 t2 f
end
end CX
end
section
set_option maxRecDepth 100000
namespace L2
open PySem PySem.Spec PyProof.Rows
def CXF(P:Program)(w:World):CXT:=λouter H s E e s' =>
 ∃ (x T:Addr) (C:Value) (dx:Addr) (H':Hp),e = .ref x/\s'.os=s.os/\AllBare s'.gens/\Un (frs outer) [] H H' s.heap s'.heap/\HOk P w H' s'.heap/\s.heap.get? x=none/\s.heap.get? T=none/\H' x=none/\H' T=none/\
  CX.Air s'.heap x T C (some dx) .none/\E C (some dx) H'
theorem jl1{X:Cx}{pins:List (Addr×Obj)}{σ:St}{H:Hp}{s:Shared}{E:XK}{E':Value->Shared->Prop}{x dx:Addr}{o:Obj}{vs:Array Value}{head:Value}
  (I:Inv X pins σ H s) (hst:X.stack=X.env::X.outer) (hf:X.env.frame=some X.env.locals) (hex:X.ex=[]) (hx:s.heap.get? x=some o) (hd:o.data = .fields vs) (h1:vs[1]? = some head) (hdx:o.dict=some dx)
  (hh:head = .none\/∃ T u ts,head = .ref T/\T≠x/\s.heap.get? T=some u/\u.data = .fields ts/\ts[3]? = some .none/\X.s_0.heap.get? T=none/\H T=none)
  (sx:X.s_0.heap.get? x=none) (nx:H x=none) (hE:E o.cls (some dx) H) :
  wpAny (model X.prog X.w) X.A (leaving X.env (.ref x)) (λ_ s''=>CXF X.prog X.w X.outer X.H_0 X.s_0 E (.ref x) s'') E' s:=by
 have fr:X.A.frames=some (X.env::X.outer):=by rw [<- hst];exact I.ok.frames
 have fl:s.heap.FunFrames X.base (X.env::X.outer):=by rw [<- hst];exact I.stack
 have nex:∀ b,b∉X.ex:=λb z=>by rw [hex] at z;cases z
 have old:∀ {b:Addr} {u:Obj},X.s_0.heap.get? b=some u->b < X.s_0.heap.objs.size:=λe=>Heap.lt_size e;have neT:∀ b,head = .ref b->X.s_0.heap.get? b=none/\H b=none:=λb e=>by
  rcases hh with z | ⟨T,_,_,z,_,_,_,_,z1,z2⟩
  ·rw [z] at e;cases e
  ·rw [z] at e;cases e;exact ⟨z1,z2⟩
 refine CX.jwm fr fl hf hx hd h1 (hh.imp id λ⟨T,u,ts,a1,a2,a3,a4,a5,_⟩=>⟨T,u,ts,a1,a2,a3,a4,a5⟩) λh' T sT Lf ar=>?_;have memL:∀ b,b∈CX.frm (X.env::X.outer)->b=X.env.locals\/b∈frs X.outer:=λb hb=>by
  unfold CX.frm at hb;rw [List.filterMap_cons,hf] at hb;exact List.mem_cons.mp hb
 have outL:∀ b,b∈frs X.outer->b∈CX.frm (X.env::X.outer):=λb hb=>by
  unfold CX.frm;rw [List.filterMap_cons,hf];exact List.mem_cons_of_mem _ hb
 have nfr:∀ b u,X.s_0.heap.get? b=some u->b∉frs X.outer->b∉CX.frm (X.env::X.outer):=λb u e nb z=>by
  rcases memL b z with z | z
  ·exact absurd (Nat.lt_of_lt_of_le (old e) (z▸I.ok.above)) (Nat.lt_irrefl _)
  ·exact nb z
 have nbx:∀ b u,X.s_0.heap.get? b=some u->b≠x:=λb u e z=>by rw [z,sx] at e;cases e
 have nbT:∀ b u,X.s_0.heap.get? b=some u->head≠.ref b:=λb u e z=>by rw [(neT b z).1] at e;cases e
 have un:Un (frs X.outer) [] X.H_0 H X.s_0.heap h':=by
  refine ⟨λb u e n hb _=>Lf.keep b u (nbx b u e) (nbT b u e) (nfr b u e hb) (I.base.keep b u e n hb (nex b)),λb u e n hb _=>?_,λb u e n _=>I.base.free b u e n (nex b),λb u e _=>?_,I.base.tups,I.base.frzs,I.base.tbls⟩
  ·obtain ⟨sl,e1⟩:=I.base.slot b u e n hb (nex b);obtain ⟨sl',e2⟩:=Lf.slot b _ (outL b hb) e1;exact ⟨sl',e2⟩
  ·obtain ⟨u1,e1⟩:=I.base.there b u e (nex b);by_cases hb:b∈frs X.outer
   ·obtain ⟨sl,e2⟩:=Lf.slot b u1 (outL b hb) e1;exact ⟨_,e2⟩
   ·exact ⟨u1,Lf.keep b u1 (nbx b u e) (nbT b u e) (nfr b u e hb) e1⟩
 have hok:HOk X.prog X.w H h':=λa u e=>(I.hok a u e).stay (λb v hb q=>by
  have tr:∃ z,H b=some z:=by
   rcases hb with rfl | hb
   ·exact ⟨_,e⟩
   ·exact ⟨_,hb⟩
  obtain ⟨z,hz⟩:=tr;refine Lf.keep b v (λy=>by rw [y,nx] at hz;cases hz) (λy=>by rw [(neT b y).2] at hz;cases hz) (λy=>?_) q;have y':b∈frs X.stack:=by rw [hst];exact y
  rw [I.stkFree b y'] at hz;cases hz) (λ_ q=>q) λ_ _ q=>q
 rw [hdx] at ar;exact ⟨x,T,o.cls,dx,H,rfl,I.os,I.bare,un,hok,sx,Heap.get?_none_of_le (Nat.le_trans I.sz sT),nx,I.hok.fresh sT,ar,hE⟩
section
variable{P:Program}{w:World}{K:PySem.W.Frag}{mg:Str->Option Value}{base:Heap}{N:List Str}{qual:Str}{scope:Scope}{f:Addr}{cd:Value}{A:Around}{outer:List Env}{s:Shared}{H:Hp}{E:XK}
theorem wu:jao (CXF P w) (xt (CXF P w) P w K mg base N qual scope f cd A outer s H E) E:=by
 rintro pins σ H1 s1 e s2 I ⟨x,T,C,dx,H2,rfl,os,bare,un,hok,sx,sT,nx,nT,ar,hE⟩;have back:∀ b,s1.heap.get? b=none->s.heap.get? b=none:=λb z=>by
  cases q:s.heap.get? b with
  | none=>rfl
  | some u =>
   obtain ⟨u',e'⟩:=I.base.there b u q (λm=>nomatch (show b∈([]:List Addr) from m));rw [z] at e';cases e'
 have I2:=I.call' (ch:=[]) os un hok bare (λb z=>absurd z (by simp));obtain ⟨⟨o,vs,hx,hc,hdx,hd,h1⟩,ne,u,ts,hT,hdT,h3⟩:=ar;subst hc;exact jl1 I2 rfl rfl rfl hx hd h1 hdx (.inr ⟨T,u,ts,rfl,ne,hT,hdT,h3,back T sT,nT⟩) (back x sx) nx hE
theorem Fun.okF{x qual:Str}{st:Stmt}{f:Addr}{fd:FuncData}{N ps:List Str}{k:Nat}{sp:Sp}(F:Fun K x qual st f fd)(S:jv N ps (ji st))(len:∀ vs H Q E,sp vs H Q E->vs.length=ps.length)
  (hbody:∀ (cdv:Value) (A:Around) (outer:List Env) (s:Shared) (H:Hp) (vs:List V) (Q:VK) (E:XK),xu k (A.deeper (envOfC qual (ji st) s.heap.objs.size f cdv))->sp vs H Q E->
   ∃ t,PSs (xt (CXF P w) P w K mg base N qual (ji st) f cdv A outer s H E) (z0 st) t/\t { nx:=λ_ H'=>Q .non H',rt:=Q } (jcx N vs) H):xh P w K mg base (CXF P w) (k + 1) f fd ps sp:=by
 obtain ⟨oc,od,kV,doc,pm,an,cdv,ct,osl,rfl,lk,hcd⟩:=F.ex;exact j10 lk hcd S len λA outer s H vs Q E hr hsp=>hbody cdv A outer s H vs Q E hr hsp
theorem jag:PassesOwn (model P w) (xt (CXF P w) P w K mg base N qual scope f cd A outer s H E).A (xt (CXF P w) P w K mg base N qual scope f cd A outer s H E).env (xt (CXF P w) P w K mg base N qual scope f cd A outer s H E).xe:=PassesOwn.leaving
end
end L2
end
section
set_option maxRecDepth 100000
set_option maxHeartbeats 1000000
namespace L2
open PySem PySem.Spec PyProof.Rows
abbrev jka:List Value:=[.type "Exception",.type "BaseException",.type "object"]
def jj1(e:DictEntry):Bool:=match e.key with
 | .str _ _=>true
 | _=>false
def jb8(K:PySem.W.Frag)(C fI:Addr)(fs:List Str):Bool:=match K.lookup C with
 | some ⟨.type "type",_,.cls cd,sl⟩=>(match sl.toList with
  | [_,_,_,_,some (.builtin nw),_]=>cd.mro == .ref C::jka && cd.hasDict && !cd.hasDel && nw == "Exception.__new__" && (match K.lookup cd.ns with
   | some ⟨_,_,.dict es _,_⟩=>es.toList.all jj1 && nsFind es "__init__" == some (.ref fI) && (nsFind es "__setattr__" == none && (nsFind es "__getattribute__" == none && (nsFind es "__getattr__" == none && fs.all λf=>nsFind es f == none)))
   | _=>false) && PySem.W.typeIn K (.ref fI) == some (.type "function")
  | _=>false)
 | _=>false
theorem jec{K:PySem.W.Frag}{h:Heap}{C fI:Addr}{fs:List Str}(X:K.In h)(q:jb8 K C fI fs=true):∃ nm qn N bs sn sub ab col dd c0 c1 c2 c3 c5 mN,
  h.get? C=some (excClassObj nm qn C N bs jka true sn sub ab col dd c0 c1 c2 c3 c5 "Exception.__new__")/\h.Ns N mN/\mN "__init__"=some (.ref fI)/\mN "__setattr__"=none/\mN "__getattribute__"=none/\mN "__getattr__"=none/\
   (∀ f∈fs,mN f=none)/\∃ oI,h.get? fI=some oI/\oI.cls = .type "function":=by
 unfold jb8 at q;split at q
 ·rename_i dd cd sl ho;split at q
  ·rename_i c0 c1 c2 c3 nw c5 hs;simp only [Bool.and_eq_true,beq_iff_eq,Bool.not_eq_true'] at q;obtain ⟨⟨⟨⟨⟨q1,q2⟩,q3⟩,q4⟩,q5⟩,q6⟩:=q;split at q5
   ·rename_i oc od es n osl hN;simp only [Bool.and_eq_true,beq_iff_eq] at q5;obtain ⟨⟨r1,r2⟩,r3,r4,r5,r6⟩:=q5;obtain ⟨oI,hI,hIc⟩:=Option.map_eq_some_iff.mp (show (K.lookup fI).map (·.cls)=some (.type "function") from q6);obtain ⟨nm,bs,mro,ns,qn,hd,sn,sub,ab,col,del⟩:=cd;dsimp only at q1 q2 q3 hN;subst q1 q2 q3 q4;have hsl:sl = #[c0,c1,c2,c3,some (.builtin "Exception.__new__"),c5]:=by
     obtain ⟨l⟩:=sl;simp only at hs;rw [hs]
    subst hsl;refine ⟨nm,qn,ns,bs,sn,sub,ab,col,dd,c0,c1,c2,c3,c5,nsFind es,X _ _ ho,⟨_,es,n,X _ _ hN,rfl,λe he=>?_,λ_=>rfl⟩,r2,r3,r4,r5,λf hf=>beq_iff_eq.mp (List.all_eq_true.mp r6 f hf),oI,X _ _ hI,hIc⟩;have z:=List.all_eq_true.mp r1 e (Array.mem_toList_iff.mpr he)
    unfold jj1 at z;split at z
    ·rename_i a b c;exact ⟨a,b,c⟩
    ·cases z
   ·cases q5
  ·cases q
 ·cases q
abbrev jj_(C:Addr)(dxo:Option Addr)(t:Addr):Obj:={ cls:=.ref C,dict:=dxo,data:=.fields #[.ref t,.none,.none,.none,.bool false,.none] }
def XO(C:Addr)(dxo:Option Addr)(x:Addr):HO:=.ext λh=>∃ t,h.get? x=some (jj_ C dxo t)
def XD(dx:Addr)(fs:List (Str×V)):HO:=.ext λh=>∃ mA,h.Ns1 dx mA/\(∀ f,vo (fs.lookup f) (mA f))/\PySem.Within mA (fs.map (·.1))
section
variable{P:Program}{w:World}{H:Hp}{h:Heap}{x dx C t:Addr}{dxo:Option Addr}{fs:List (Str×V)}
theorem XO.ok(e:h.get? x=some (jj_ C dxo t)):y6 P w H h x (XO C dxo x):=⟨⟨t,e⟩,⟨_,e⟩,λh1 h2 ⟨t,e⟩ k=>⟨t,k _ e⟩⟩
theorem XD.ok{mA:Str->Option Value}(n:h.Ns1 dx mA)(r:∀ f,vo (fs.lookup f) (mA f))(wi:PySem.Within mA (fs.map (·.1))):y6 P w H h dx (XD dx fs) :=
 ⟨⟨mA,n,r,wi⟩,let ⟨o,_,_,e,_⟩:=n;⟨o,e⟩,λh1 h2 ⟨mA,n,r⟩ k=>⟨mA,n.at k,r⟩⟩
theorem XO.get(hok:HOk P w H h)(e:H x=some (XO C dxo x)):∃ t,h.get? x=some (jj_ C dxo t):=(show y6 P w H h x (XO C dxo x) from hok x _ e).1
theorem XD.get(hok:HOk P w H h)(e:H dx=some (XD dx fs)):∃ mA,h.Ns1 dx mA/\(∀ f,vo (fs.lookup f) (mA f))/\PySem.Within mA (fs.map (·.1)):=(show y6 P w H h dx (XD dx fs) from hok dx _ e).1
theorem XO.ne(hok:HOk P w H h)(e:H x=some (XO C dxo x))(e2:H dx=some (XD dx fs)):dx≠x:=λz=>by
 obtain ⟨t,e3⟩:=XO.get hok e;obtain ⟨mA,⟨o,es,ep,e4,d,_⟩,_⟩:=XD.get hok e2;rw [z,e3] at e4;cases e4;cases d
end
theorem HOk.none_of{P:Program}{w:World}{H:Hp}{h:Heap}{a:Addr}(hok:HOk P w H h)(e:h.get? a=none):H a=none:=by
 cases q:H a with
 | none=>rfl
 | some o =>
  exfalso;have z:y6 P w H h a o:=hok a o q
  cases o with
  | lst xs=>obtain ⟨_,_,_,_,y⟩:=z;rw [e] at y;cases y
  | tup xs=>obtain ⟨_,_,_,_,y,_⟩:=z;rw [e] at y;cases y
  | dK kvs=>obtain ⟨_,_,_,_,o,_,_,y,_⟩:=z;rw [e] at y;cases y
  | dT kvs=>obtain ⟨_,_,_,_,o,_,_,y,_⟩:=z;rw [e] at y;cases y
  | set S n=>obtain ⟨o,_,_,_,y,_⟩:=z;rw [e] at y;cases y
  | ins C dx fs=>obtain ⟨_,_,_,y,_⟩:=z;rw [e] at y;cases y
  | own y=>obtain ⟨_,y⟩:=z;rw [e] at y;cases y
  | xd fs=>obtain ⟨_,⟨_,_,_,y,_⟩,_⟩:=z;rw [e] at y;cases y
  | rng lo hi=>obtain ⟨_,_,_,y⟩:=z;rw [e] at y;cases y
  | frz ob u=>obtain ⟨y,_⟩:=z;rw [e] at y;cases y
  | tbl ps=>have y:h.get? a=some _:=z;rw [e] at y;cases y
  | met f y=>have y:h.get? a=some _:=z;rw [e] at y;cases y
  | ext φ=>obtain ⟨_,⟨_,y⟩,_⟩:=z;rw [e] at y;cases y
section
variable{X:Cx}{pins:List (Addr×Obj)}{σ:St}{H:Hp}{s:Shared}{h':Heap}{x dx C fI:Addr}{fs:List Str}{f:Str}{y:V}{u:Value}{A:Around}{E:Value->Shared->Prop}
theorem Inv.laidN{a:Addr}{o:HO}{t':Nat}(I:Inv X pins σ H s)(k:∀ b u,s.heap.get? b=some u->h'.get? b=some u)(hn:s.heap.get? a=none)(new:y6 X.prog X.w (upd H a o) h' a o) :
  Inv X pins σ (upd H a o) { s with heap:=h',toks:=t' }:=by
 have nH:=I.hok.none_of hn;have nb:∀ b u,s.heap.get? b=some u->b≠a:=λb u e z=>by rw [z,hn] at e;cases e
 refine I.un ⟨λb u q _ _ _=>k b u q,λb u q _ _ _=>⟨u.slots,k b u q⟩,λb u q n _=>by rw [jm (nb b u q)];exact n,λb u q _=>⟨u,k b u q⟩,λb xs q=>by rw [jm (qt q nH)];exact q,
  λb u xs q=>by rw [jm (qt q nH)];exact q,λb ps q=>⟨#[],by rw [jm (qt q nH),q];simp⟩⟩ λb u e=>?_
 by_cases hb:b=a
 ·subst hb;rw [jd] at e;cases e;exact new
 ·rw [jm hb] at e;exact (I.hok b u e).stay (λc v _ q=>k c v q) (λc q=>by rw [jm (qt q nH)];exact q) λc xs q=>by rw [jm (qt q nH)];exact q
theorem j1l{Q:Unit->Shared->Prop}(I:Inv X pins σ H s)(e:H x=some (XO C none x))(q:jb8 X.K C fI fs=true)(hf:f∈fs)(hB:typeLookup (.type "Exception") f=pure none)(ry:xj y u)
  (h:∀ dx s',H dx=none->dx≠x->Inv X pins σ (upd (upd H x (XO C (some dx) x)) dx (XD dx [(f,y)])) s'->Q () s'):wpAny (model X.prog X.w) A (setAttr (.ref x) f u) Q E s:=by
 obtain ⟨t,hx⟩:=XO.get I.hok e;obtain ⟨nm,qn,N,bs,sn,sub,ab,col,dd,c0,c1,c2,c3,c5,mN,hC,hN,_,n1,n2,n3,n4,_⟩:=jec I.kIn q;obtain ⟨hp,g,d,tk,os⟩:=s;refine CX.jrz PySem.F.store_Exception hC hN n1 (n4 f hf) hB hx rfl (λy z=>by cases z) rfl λh' tk' fr=>?_;have nd:H hp.objs.size=none:=I.hok.fresh (Nat.le_refl _)
 have ne:hp.objs.size≠x:=Nat.ne_of_gt (Heap.lt_size hx);have nt:∀ b o,H b=some o->(∀ φ,o≠.ext φ)->b≠x:=λb o q1 q2 z=>by rw [z,e] at q1;exact q2 _ (Option.some.inj q1).symm
 refine h hp.objs.size _ nd ne ?_;have sk:∀ {b:Addr} {o:HO},b≠x->H b=some o->(upd (upd H x (XO C (some hp.objs.size) x)) hp.objs.size (XD hp.objs.size [(f,y)])) b=some o:=λhb q1=>by
  rw [jm (qt q1 nd),jm hb];exact q1
 have I':=I.un (t':=tk') (h':=h') (H':=upd (upd H x (XO C (some hp.objs.size) x)) hp.objs.size (XD hp.objs.size [(f,y)])) ⟨λb v q1 n _ _=>fr.keep b v (λz=>by rw [z,e] at n;cases n) q1,λb v q1 n _ _=>⟨v.slots,fr.keep b v (λz=>by rw [z,e] at n;cases n) q1⟩,
  λb v q1 n _=>by rw [jm (Nat.ne_of_lt (Heap.lt_size q1)),jm (λz=>by rw [z,e] at n;cases n)];exact n,
  λb v q1 _=>by
   by_cases hb:b=x
   ·subst hb;exact ⟨_,fr.obj⟩
   ·exact ⟨v,fr.keep b v hb q1⟩,
  λb xs q1=>sk (nt b _ q1 λφ z=>by cases z) q1,λb o' u' q1=>sk (nt b _ q1 λφ z=>by cases z) q1,λb ps q1=>⟨#[],by rw [sk (nt b _ q1 λφ z=>by cases z) q1];simp⟩⟩ λb o' q1=>?_
 ·exact I'
 by_cases h1:b=hp.objs.size
 ·subst h1;rw [jd] at q1;cases q1;refine XD.ok fr.ns (λk=>?_) (λk hk=>?_)
  ·show vo (List.lookup k [(f,y)]) (if k=f then some u else none);by_cases hk:k=f
   ·have hb:(k == f)=true:=beq_iff_eq.mpr hk;simp only [List.lookup,hb,if_pos hk];exact ry
   ·have hb:(k == f)=false:=beq_eq_false_iff_ne.mpr hk;simp only [List.lookup,hb,if_neg hk];exact True.intro
  ·show k∈[f];by_cases hk':k=f
   ·rw [hk'];exact List.mem_singleton.mpr rfl
   ·exact absurd (if_neg hk') hk
 ·rw [jm h1] at q1;by_cases h2:b=x
  ·subst h2;rw [jd] at q1;cases q1;exact XO.ok fr.obj
  ·rw [jm h2] at q1;exact (I.hok b o' q1).stay (λc v hc z=>fr.keep c v (by
    rcases hc with rfl | hc
    ·exact h2
    ·exact nt c _ hc λφ z=>by cases z) z) (λc z=>sk (nt c _ z λφ z=>by cases z) z) λc xs z=>sk (nt c _ z λφ z=>by cases z) z
theorem j1k{Q:Unit->Shared->Prop}{fs0:List (Str×V)}(I:Inv X pins σ H s)(e:H x=some (XO C (some dx) x))(e2:H dx=some (XD dx fs0))(q:jb8 X.K C fI fs=true)(hf:f∈fs)(hB:typeLookup (.type "Exception") f=pure none)(ry:xj y u)
  (hl:fs0.length<=1000) (h:∀ s',Inv X pins σ (upd H dx (XD dx (jaa f y fs0))) s'->Q () s'):wpAny (model X.prog X.w) A (setAttr (.ref x) f u) Q E s:=by
 obtain ⟨t,hx⟩:=XO.get I.hok e;obtain ⟨mA,ns,rel,wi⟩:=XD.get I.hok e2;have ne:=XO.ne I.hok e e2
 obtain ⟨nm,qn,N,bs,sn,sub,ab,col,dd,c0,c1,c2,c3,c5,mN,hC,hN,_,n1,n2,n3,n4,_⟩:=jec I.kIn q;have nxC:x≠C:=λz=>by rw [z,hC] at hx;cases hx
 obtain ⟨hp,g,d,tk,os⟩:=s;refine PySem.store_attr (ns:=fs0.map (·.1)) PySem.F.store_Exception hC hN n1 (n4 f hf) hB nxC ⟨_,hx,rfl,(λc z=>by cases z),.inr ⟨dx,rfl,ne,ns⟩⟩ (λh' tk' J k o1=>h _ ?_) wi (by rw [List.length_map,sizeLine_eq];omega);obtain ⟨ob,hob,b1,b2,b3,b4⟩:=o1 _ hx;have hx':h'.get? x=some (jj_ C (some dx) t):=by
  rw [hob];obtain ⟨z1,z2,z3,z4⟩:=ob;have b5:=b4 dx rfl
  dsimp only at b1 b2 b3 b5;rw [b1,b2,b3,b5]
 obtain ⟨ob2,hob2,_,_,dn⟩:=J;rw [hx'] at hob2;cases hob2;rcases dn with ⟨z,_⟩ | ⟨d2,z,_,ns'⟩
 ·cases z
 cases z;refine I.write (x:=dx) (e:=dx) (by rw [e2];exact True.intro) (.inl rfl) (λb v hb z=>?_) (let ⟨o,_,_,e',_⟩:=ns';⟨o,e'⟩) (XD.ok ns' (λk=>?_) (λk hk=>?_))
 ·by_cases hbx:b=x
  ·subst hbx;rw [hx] at z;cases z;exact hx'
  ·exact k b v hbx (λo0 d0 z1 z2=>by rw [hx] at z1;cases z1;cases z2;exact hb) z
 ·show vo ((jaa f y fs0).lookup k) (if k=f then some u else mA k);rw [je7];by_cases z:k=f
  ·rw [if_pos z,if_pos z];exact ry
  ·rw [if_neg z,if_neg z];exact rel k
 ·by_cases z:k=f
  ·rw [z];exact (jdd f y fs0).1
  ·exact (jdd f y fs0).2 k (wi k λz2=>hk (by show (if k=f then some u else mA k)=none;rw [if_neg z];exact z2))
end
end L2
end
section
set_option autoImplicit false
set_option maxRecDepth 100000
namespace CX
open PySem
def jxs(h:Heap)(C:Addr):Prop:=∃ (nm qn:Str) (N:Addr) (bs bm:List Value) (hdct:Bool) (sn:List Str) (sub:List Value) (ab:Bool) (col:Option Bool) (dd:Option Addr) (c0 c1 c2 c3 c5:Option Value) (newId:String),
 h.get? C=some (excClassObj nm qn C N bs bm hdct sn sub ab col dd c0 c1 c2 c3 c5 newId)/\bm.contains (.type "BaseException")=true
section
variable{M:Model}{A:Around}{E:Value->Shared->Prop}{env:Env}{C:Addr}
theorem jqz{s:Shared}{y:Sem Value}{Q:Flow->Shared->Prop}(hh:A.handled=none)
  (hw:wpAny M A y (λv s1=>∃ e t dx,v = .ref e/\jxs s1.heap C/\s1.heap.get? e=some { cls:=.ref C,dict:=dx,data:=.fields #[.ref t,.none,.none,.none,.bool false,.none] }/\E (.ref e) s1) E s) :
  wpAny M A (raiseStmt env (some y) none) Q E s:=by
 unfold raiseStmt;refine wpAny_bind (wpAny_mono hw (λv s1 h1=>?_) λ_ _ z=>z);obtain ⟨e,t,dx,rfl,⟨nm,qn,N,bs,bm,hdct,sn,sub,ab,col,dd,c0,c1,c2,c3,c5,newId,hC,hbase⟩,he,hE⟩:=h1;have has:(Value.ref C::bm).contains (.type "BaseException")=true:=by rw [List.contains_cons,hbase,Bool.or_true]
 obtain ⟨hp,g,d,tk,os⟩:=s1
 repeat (first
  | with_reducible refine wpAny_loadPart_at he ?_
  | with_reducible refine wpAny_loadPart_at hC ?_
  | (with_reducible refine wpAny_isSubtype_exc hC ?_
     rw [has])
  | wp_step)
 exact wpAny_raiseNew_none hh hE
theorem raise_exec{s:Shared}{e:Expr}{pos:Pos}{Q:Flow->Shared->Prop}(hh:A.handled=none)
  (hw:wpAny M A (eval e env) (λv s1=>∃ a t dx,v = .ref a/\jxs s1.heap C/\s1.heap.get? a=some { cls:=.ref C,dict:=dx,data:=.fields #[.ref t,.none,.none,.none,.bool false,.none] }/\E (.ref a) s1) E s) :
  wpAny M A (exec (.Raise (some e) none pos) env) Q E s:=by
 rw [arm_exec_Raise];refine wpAny_bind (wpAny_standAt ?_);show wpAny M A (raiseStmt env (some (do let v <- eval e env;standAt pos;pure v)) none) Q E s
 refine jqz (C:=C) hh (wpAny_bind (wpAny_mono hw (λv s1 h1=>?_) λ_ _ z=>z));exact wpAny_bind (wpAny_standAt (wpAny_pure h1))
end
end CX
end
section
set_option maxRecDepth 100000
set_option maxHeartbeats 1000000
namespace L2
open PySem PySem.Spec PyProof.Rows
def unt(H:Hp)(x:Addr):Hp:=λb=>if b=x then none else H b
theorem jmn{H:Hp}{x:Addr}:unt H x x=none:=by unfold unt;rw [if_pos rfl]
theorem jmo{H:Hp}{x b:Addr}(h:b≠x):unt H x b=H b:=by unfold unt;rw [if_neg h]
section
variable{X:Cx}{pins:List (Addr×Obj)}{σ:St}{H:Hp}{s:Shared}{x:Addr}
theorem Inv.untrack{φ:Heap->Prop}(I:Inv X pins σ H s)(e:H x=some (.ext φ)):Inv X pins σ (unt H x) s:=by
 have ns:∀ {b:Addr} {o:HO},H b=some o->(∀ φ,o≠.ext φ)->unt H x b=some o:=λq1 q2=>by
  rw [jmo (λz=>by rw [z,e] at q1;exact q2 _ (Option.some.inj q1).symm)];exact q1
 have nn:∀ {b:Addr},H b=none->unt H x b=none:=λq=>by unfold unt;split <;> first | rfl | exact q
 refine ⟨I.ok,I.os,I.bare,⟨I.base.keep,I.base.slot,λb o q n hx=>nn (I.base.free b o q n hx),I.base.there,λb xs q=>ns (I.base.tups b xs q) (λφ z=>by cases z),λb o u q=>ns (I.base.frzs b o u q) (λφ z=>by cases z),λb ps q=>?_⟩,I.loc,I.cell,nn I.free,λy c q=>nn (I.freeC y c q),λp hp=>?_,λb o q=>?_,I.len⟩
 ·obtain ⟨m,q2⟩:=I.base.tbls b ps q;exact ⟨m,ns q2 (λφ z=>by cases z)⟩
 ·obtain ⟨a,n,r⟩:=I.pin p hp;exact ⟨a,nn n,r⟩
 ·have hb:b≠x:=λz=>by rw [z,jmn] at q;cases q
  rw [jmo hb] at q;exact (I.hok b o q).stay (λ_ _ _ z=>z) (λc z=>ns z (λφ z=>by cases z)) λc xs z=>ns z (λφ z=>by cases z)
theorem Inv.old(I:Inv X pins σ H s){b:Addr}(hx:b∉X.ex)(z:s.heap.get? b=none):X.s_0.heap.get? b=none:=by
 cases q:X.s_0.heap.get? b with
 | none=>rfl
 | some u =>
  obtain ⟨u',e'⟩:=I.base.there b u q hx;rw [z] at e';cases e'
end
section
variable{X:Cx}{CX:CXT}{k:Nat}{C fI:Addr}{fd:FuncData}{ps:List Str}{sp:Sp}{E:XK}{fs:List Str}
theorem jti{pins:List (Addr×Obj)}{σ:St}{H:Hp}{s:Shared}{R:Addr->Hp->Prop}{us:List Value}{vs:List V}(q:jb8 X.K C fI fs=true)(F:xh X.prog X.w X.K X.mg X.base CX k fI fd ps sp)(hr:xu (k + 1) X.A)
  (hb:zk X.K fd ps []) (hx:jao CX X E) (I:Inv X pins σ H s) (r:q_ vs us) (hlen:vs.length<=1000)
  (h:∀ x,H x=none->sp (.ref x::vs) (upd H x (XO C none x)) (λv H2=>v = .non/\R x H2) E) :
  wpAny (model X.prog X.w) X.A (call (.ref C) us) (λu s'=>∃ x H',u = .ref x/\s.heap.get? x=none/\Inv X pins σ H' s'/\R x H') X.xe s:=by
 obtain ⟨nm,qn,N,bs,sn,sub,ab,col,dd,c0,c1,c2,c3,c5,mN,hC,hN,n0,n1,n2,n3,n4,oI,hI,hIc⟩:=jec I.kIn q;obtain ⟨hp,g,d,tk,os⟩:=s;refine wpAny_call_exc_init (F:=PySem.F.excBase_Exception) hC hN n0 hI hIc (λh' e hm=>?_) (by rw [<- r.length,sizeLine_eq];omega);obtain ⟨t,he,_,_⟩:=hm.there;have I2:=I.laidN (a:=e) (o:=XO C none e) (h':=h') (t':=tk) hm.keeps hm.new (XO.ok he)
 have hq:=h e (I.hok.none_of hm.new);have r2:q_ (V.ref e::vs) (Value.ref e::us):=.cons rfl r
 have hl:(Value.ref e::us ++ []).length=ps.length:=by
  rw [List.append_nil,<- r2.length];exact F.len _ _ _ _ hq
 have bd:=hb _ (Value.ref e::us) I2.kIn hl;rw [List.append_nil] at bd;refine wpAny_call (codeAny_mono (F.run _ X.stack _ _ ⟨Value.ref e::us,[]⟩ (Value.ref e::us) _ _ E (hr.make C us []) (I2.env0.make C us []) bd r2 hq) λz s' hq'=>?_);cases z with
 | error y=>exact hx pins σ _ _ y s' I2 hq'
 | ok fl =>
  cases fl with
  | ret u =>
   obtain ⟨v,H',I3,rv,ev,q3⟩:=I2.after hq';subst ev;exact ⟨rv,e,H',rfl,hm.new,I3,q3⟩
  | next=>exact False.elim hq'
  | brk=>exact False.elim hq'
  | cont=>exact False.elim hq'
def ju2(X:Cx)(C:Addr)(E:XK):Prop:=∀ (pins:List (Addr×Obj)) (σ:St) (H:Hp) (s:Shared) (x dx:Addr),Inv X pins σ H s->H x=some (XO C (some dx) x)->X.s_0.heap.get? x=none->E (.ref C) (some dx) (unt H x)->X.xe (.ref x) s
def jst(C:Addr)(sp:Sp)(E:XK)(t:TA):TS:=λ_ σ H=>t σ H λvs H1=>vs.length<=1000/\∀ x,H1 x=none->
 sp (.ref x::vs) (upd H1 x (XO C none x)) (λv H2=>v = .non/\∃ dx,H2 x=some (XO C (some dx) x)/\E (.ref C) (some dx) (unt H2 x)) E
theorem jtn{x:Str}{e:Expr}{es:List Expr}{t:TA}{np cpos pos:Pos}(q:jb8 X.K C fI fs=true)(F:xh X.prog X.w X.K X.mg X.base CX k fI fd ps sp)(hr:xu (k + 1) X.A)(hg:Gl X x)(hm:X.mg x=some (.ref C))
  (hk:PySem.W.keepIn X.K (.ref C)=true) (hb:zk X.K fd ps []) (hx:jao CX X E) (hR:ju2 X C E) (hc:X.calm=true) (hex:X.ex=[]) (ha:PA X (e::es) t)
  (hdb:(x == ("__debug__":Str))=false:=by decide) (he:starEach (e::es) X.env=(false,eval e X.env)::starEach es X.env:=by rfl) (hpl:(backTo cpos (starEach es X.env)).any (·.1)=false:=by rfl) :
  PS X (.Raise (some (.Call (.Name x np) (e::es) [] cpos)) none pos) (jst C sp E t):=by
 intro pins s σ H D I h;refine _root_.CX.raise_exec (C:=C) (I.ok.hd hc) ?_;refine wpAny_Call_Name_kw (jfn I hg hm ?_ hdb);refine PySem.W.callWith_K (h₀:=X.base) I.ok.mod.kin hk (thn (ha cpos pins s σ H _ I h) λus s1 ⟨vs,H1,I1,r,z,q1⟩=>⟨I1.kIn,?_⟩) he hpl;refine thn (jti q F hr hb hx I1 r z q1) λu s2 ⟨y,H2,eu,ny,I2,dx,e2,q2⟩=>?_;obtain ⟨t,ht⟩:=XO.get I2.hok e2;obtain ⟨nm,qn,N,bs,sn,sub,ab,col,dd,c0,c1,c2,c3,c5,mN,hC,_⟩:=jec I2.kIn q;exact ⟨y,t,some dx,eu,⟨nm,qn,N,bs,jka,true,sn,sub,ab,col,dd,c0,c1,c2,c3,c5,_,hC,by decide⟩,ht,hR pins σ H2 s2 y dx I2 e2 (I1.old (by rw [hex];simp) ny) q2⟩
end
section
variable{P:Program}{w:World}{K:PySem.W.Frag}{mg:Str->Option Value}{base:Heap}{N:List Str}{qual:Str}{scope:Scope}{f:Addr}{cd:Value}{A:Around}{outer:List Env}{s:Shared}{H:Hp}{E:XK}{C:Addr}
theorem jz8:ju2 (xt (CXF P w) P w K mg base N qual scope f cd A outer s H E) C E:=by
 intro pins σ H1 s1 x dx I e n hE;obtain ⟨t,ht⟩:=XO.get I.hok e;have I2:=I.untrack e
 exact jl1 I2 rfl rfl rfl ht rfl rfl rfl (.inl rfl) n jmn hE
end
end L2
end
section
set_option maxRecDepth 100000
set_option maxHeartbeats 1000000
namespace L2
open PySem PySem.Spec PyProof.Rows
abbrev Cx.with(X:Cx)(pn:List (Addr×Obj))(E:Value->Shared->Prop):Cx:={ X with pn:=pn,xe:=E }
abbrev Cx.clause(X:Cx)(pn:List (Addr×Obj))(e:Value):Cx:={ X with pn:=pn,xe:=λ_ _=>False,A:=X.A.mark (some e),calm:=false }
theorem Cx.Ok.with{X:Cx}(ok:X.Ok)(pn:List (Addr×Obj))(E:Value->Shared->Prop):(X.with pn E).Ok :=
 ⟨ok.mod,ok.kind,ok.glob,ok.blt,ok.above,ok.inj,ok.has,ok.cab,ok.hd,ok.frames,ok.stk,ok.exf,ok.bs,ok.bsz,ok.noex,ok.exfs,ok.funs,ok.frf⟩
theorem Cx.Ok.clause{X:Cx}(ok:X.Ok)(pn:List (Addr×Obj))(e:Value):(X.clause pn e).Ok :=
 ⟨ok.mod,ok.kind,ok.glob,ok.blt,ok.above,ok.inj,ok.has,ok.cab,(λz=>nomatch z),ok.frames,ok.stk,ok.exf,ok.bs,ok.bsz,ok.noex,ok.exfs,ok.funs,ok.frf⟩
section
variable{X:Cx}{pins pn:List (Addr×Obj)}{σ:St}{H:Hp}{s:Shared}{x:Addr}
theorem Inv.toPn(I:Inv X pins σ H s)(E:Value->Shared->Prop):Inv (X.with (X.pn ++ pins) E) [] σ H s :=
 ⟨I.ok.with _ E,I.os,I.bare,I.base,I.loc,I.cell,I.free,I.freeC,λp hp=>I.pin p (by simpa using hp),I.hok,I.len⟩
theorem Inv.ofPn{E:Value->Shared->Prop}{pins':List (Addr×Obj)}(ok:X.Ok)(I:Inv (X.with (X.pn ++ pins) E) pins' σ H s):Inv X pins σ H s :=
 ⟨ok,I.os,I.bare,I.base,I.loc,I.cell,I.free,I.freeC,λp hp=>I.pin p (List.mem_append_left _ hp),I.hok,I.len⟩
theorem Inv.toClause{E:Value->Shared->Prop}{pins':List (Addr×Obj)}(ok:X.Ok)(I:Inv (X.with pn E) pins' σ H s)(e:Value):Inv (X.clause pn e) pins' σ H s :=
 ⟨ok.clause pn e,I.os,I.bare,I.base,I.loc,I.cell,I.free,I.freeC,I.pin,I.hok,I.len⟩
theorem Inv.ofClause{e:Value}{pins':List (Addr×Obj)}(ok:X.Ok)(I:Inv (X.clause (X.pn ++ pins) e) pins' σ H s):Inv X pins σ H s :=
 ⟨ok,I.os,I.bare,I.base,I.loc,I.cell,I.free,I.freeC,λp hp=>I.pin p (List.mem_append_left _ hp),I.hok,I.len⟩
theorem Inv.track{φ:Heap->Prop}{o:Obj}{vs:Array Value}(I:Inv X pins σ H s)(nx:H x=none)(n0:X.s_0.heap.get? x=none)(hx:s.heap.get? x=some o)(hd:o.data = .fields vs)(hφ:φ s.heap)
  (hst:∀ h1 h2:Heap,φ h1->(∀ o,h1.get? x=some o->h2.get? x=some o)->φ h2) (hp:∀ p∈X.pn ++ pins,p.1≠x):Inv X pins σ (upd H x (.ext φ)) s:=by
 have sk:∀ {b:Addr} {o:HO},H b=some o->upd H x (.ext φ) b=some o:=λq=>by rw [jm (qt q nx)];exact q
 refine ⟨I.ok,I.os,I.bare,⟨I.base.keep,I.base.slot,λb u q n hx'=>?_,I.base.there,λb xs q=>sk (I.base.tups b xs q),λb u' v q=>sk (I.base.frzs b u' v q),λb ps q=>?_⟩,I.loc,I.cell,?_,λy c q=>?_,λp hp'=>?_,λb u q=>?_,I.len⟩
 ·rw [jm (λz=>by rw [z,n0] at q;cases q)];exact I.base.free b u q n hx'
 ·obtain ⟨m,q2⟩:=I.base.tbls b ps q;exact ⟨m,sk q2⟩
 ·rw [jm (λz=>?_)]
  ·exact I.free
  ·obtain ⟨m,⟨ol,es,ep,hl,hld,_⟩,_⟩:=I.loc;rw [z,hx] at hl;cases hl;rw [hd] at hld;cases hld
 ·rw [jm (λz=>?_)]
  ·exact I.freeC y c q
  ·obtain ⟨v,oc,hc,hcd⟩:=I.cell y c q;rw [z,hx] at hc;cases hc;rw [hd] at hcd;cases hcd
 ·obtain ⟨a,n,r⟩:=I.pin p hp';exact ⟨a,by rw [jm (hp p hp')];exact n,r⟩
 ·by_cases hb:b=x
  ·subst hb;rw [jd] at q;cases q;exact ⟨hφ,⟨o,hx⟩,hst⟩
  ·rw [jm hb] at q;exact (I.hok b u q).stay (λ_ _ _ z=>z) (λc z=>sk z) λc xs z=>sk z
end
def yu(x:Addr):HO:=.ext λh=>∃ o,h.get? x=some o
theorem yu.ok{P:Program}{w:World}{H:Hp}{h:Heap}{x:Addr}{o:Obj}(e:h.get? x=some o):y6 P w H h x (yu x):=⟨⟨o,e⟩,⟨o,e⟩,λh1 h2 ⟨o,e⟩ k=>⟨o,k o e⟩⟩
section
variable{X:Cx}{pins pins' pn:List (Addr×Obj)}{σ:St}{H:Hp}{s s2:Shared}{E':Value->Shared->Prop}{e:Value}{EB:XK}{M:Model}{A:Around}{E:Value->Shared->Prop}{Q:Unit->Shared->Prop}
theorem jsr(hst:X.stack=X.env::X.outer)(hf:X.env.frame=some X.env.locals)(hex:X.ex=[])(I:Inv X pins σ H s)(c:CXF X.prog X.w X.stack H s EB e s2)
  (h:∀ (x T:Addr) (C:Value) (dx:Addr) (H2 H3:Hp) (s3:Shared),e = .ref x->EB C (some dx) H2->H2 x=none->jh H2 H3->H3 x=some (yu x)->H3 T=some (yu T)->CX.Air s3.heap x T C (some dx) .none->Inv X pins σ H3 s3->Q () s3)
  (hA:A.frames=X.A.frames):wpAny M A (noteFrame e X.env) (λ_ s3=>wpAny M A (setFlight e none) Q E s3) E s2:=by
 obtain ⟨x,T,C,dx,H2,rfl,os,bare,un,hok,sx,sT,nx,nT,ar,hE⟩:=c;have I2:=I.call' (ch:=[]) os un hok bare (λb z=>absurd z (by simp))
 obtain ⟨⟨o,vs,hx,hc,hdx,hd,h1⟩,ne,u,ts,hT,hdT,h3⟩:=ar;have nox:∀ b,b∉X.ex:=λb z=>by rw [hex] at z;cases z
 have px:∀ b,s.heap.get? b=none->∀ p∈X.pn ++ pins,p.1≠b:=λb hb p hp z=>by
  have q:=(I.pin p hp).1;rw [z,hb] at q;cases q
 have I3:Inv X pins σ (upd H2 x (yu x)) s2:=I2.track (x:=x) (φ:=λh=>∃ o,h.get? x=some o) nx (I.old (nox x) sx) hx hd ⟨o,hx⟩ (λh1 h2 ⟨o,q⟩ k=>⟨o,k o q⟩) (px x sx);have nT':upd H2 x (yu x) T=none:=by rw [jm ne];exact nT
 have I4:Inv X pins σ (upd (upd H2 x (yu x)) T (yu T)) s2:=I3.track (x:=T) (φ:=λh=>∃ o,h.get? T=some o) nT' (I.old (nox T) sT) hT hdT ⟨u,hT⟩ (λh1 h2 ⟨o,q⟩ k=>⟨o,k o q⟩) (px T sT);have fr:A.frames=some (X.env::X.outer):=by rw [hA,<- hst];exact I.ok.frames
 have fl:s2.heap.FunFrames X.base (X.env::X.outer):=by rw [<- hst];exact I2.stack
 have fe:frs X.stack=CX.frm (X.env::X.outer):=by rw [hst];rfl
 refine CX.jp3 fr fl hf hx hd h1 (.inr ⟨T,u,ts,rfl,ne,hT,hdT,h3⟩) λg1 T1 sT1 Lf ar1=>?_;have tx:(upd (upd H2 x (yu x)) T (yu T)) x=some (yu x):=by rw [jm (Ne.symm ne),jd]
 have tT:(upd (upd H2 x (yu x)) T (yu T)) T=some (yu T):=jd;have fresh:(upd (upd H2 x (yu x)) T (yu T)) T1=none:=I4.hok.fresh sT1
 have nb:∀ b v,(upd (upd H2 x (yu x)) T (yu T)) b=none->s2.heap.get? b=some v->b≠x/\Value.ref T≠.ref b:=λb v n _=>⟨λz=>(by rw [z,tx] at n;cases n),λz=>(by cases z;rw [tT] at n;cases n)⟩
 have oldT1:∀ b v,s2.heap.get? b=some v->b≠T1:=λb v q=>Nat.ne_of_lt (Nat.lt_of_lt_of_le (Heap.lt_size q) sT1);have sk:∀ {b:Addr} {o:HO},(upd (upd H2 x (yu x)) T (yu T)) b=some o->(upd (upd (upd H2 x (yu x)) T (yu T)) T1 (yu T1)) b=some o:=λq=>by rw [jm (qt q fresh)];exact q
 obtain ⟨⟨ox,vx,hx1,cx1,dx1,dd1,v1⟩,neT1,oT1,tsT1,hT1,hdT1,h31⟩:=id ar1;have I5:Inv X pins σ (upd (upd (upd H2 x (yu x)) T (yu T)) T1 (yu T1)) { s2 with heap:=g1 }:=by
  refine I4.call' (ch:=[]) (s':={ s2 with heap:=g1 }) rfl ⟨λb v q n hb _=>Lf.keep b v (nb b v n q).1 (nb b v n q).2 (fe▸hb) q,λb v q n hb _=>Lf.slot b v (fe▸hb) q,λb v q n _=>by rw [jm (oldT1 b v q)];exact n,λb v q _=>Lf.there b v q,λb xs q=>sk q,λb o' u' q=>sk q,
   λb ps q=>⟨#[],by rw [sk q];simp⟩⟩ (λb v q=>?_) bare (λb z=>absurd z (by simp))
  by_cases h1:b=T1
  ·subst h1;rw [jd] at q;cases q;exact yu.ok hT1
  ·rw [jm h1] at q;by_cases h2:b=T
   ·subst h2;rw [jd] at q;cases q;obtain ⟨v',e'⟩:=Lf.there b u hT;exact yu.ok e'
   ·have q':=q;rw [jm h2] at q;by_cases h3:b=x
    ·subst h3;rw [jd] at q;cases q;exact yu.ok hx1
    ·rw [jm h3] at q;refine (I4.hok b v q').stay (λc y hc z=>?_) (λc z=>sk z) λc xs z=>sk z;have tr:∃ o',H2 c=some o':=by
      rcases hc with rfl | hc
      ·exact ⟨_,q⟩
      ·by_cases a1:c=T
       ·rw [a1,tT] at hc;cases hc
       ·by_cases a2:c=x
        ·rw [a2,tx] at hc;cases hc
        ·rw [jm a1,jm a2] at hc;exact ⟨_,hc⟩
     obtain ⟨o',ho'⟩:=tr;refine Lf.keep c y (λz=>by rw [z,nx] at ho';cases ho') (λz=>by cases z;rw [nT] at ho';cases ho') (λz=>?_) z;have z':c∈frs X.stack:=fe▸z
     rw [I2.stkFree c z'] at ho';cases ho'
 refine CX.jgo (s:={ s2 with heap:=g1 }) ar1 λg2 k2 ar2=>?_;obtain ⟨oT2,tsT2,hT2,_⟩:=ar2.tb;have I6:=I5.write (x:=T1) (e:=T1) (o:=yu T1) (h':=g2) (t':=s2.toks) (by rw [jd];exact True.intro) (.inl rfl) (λb v hb q=>k2 b v hb q) ⟨_,hT2⟩ (yu.ok hT2)
 subst hc;rw [hdx] at ar2;refine h x T1 o.cls dx H2 _ { s2 with heap:=g2 } rfl hE nx (λb v q=>?_) ?_ jd ar2 I6
 ·have a1:b≠x:=qt q nx;have a2:b≠T:=qt q nT
  have a3:(upd (upd H2 x (yu x)) T (yu T)) b=some v:=by rw [jm a2,jm a1];exact q
  rw [jb2];exact sk a3
 ·rw [jb2];exact sk tx
theorem joo{x T:Addr}{C:Value}{dx:Option Addr}(I:Inv X pins σ H s)(eT:H T=some (yu T))(ar:CX.Air s.heap x T C dx .none)
  (h:∀ s',CX.Air s'.heap x T C dx .none->Inv X pins σ H s'->Q () s'):wpAny M A (setFlight (.ref x) none) Q E s:=by
 refine CX.jgo ar λg k ar2=>?_;obtain ⟨oT,tsT,hT,_⟩:=ar2.tb;have I2:=I.write (x:=T) (e:=T) (o:=yu T) (h':=g) (t':=s.toks) (by rw [eT];exact True.intro) (.inl rfl) (λb v hb q=>k b v hb q) ⟨_,hT⟩ (yu.ok hT)
 have e2:upd H T (yu T)=H:=by
  funext b
  unfold upd;split
  ·rename_i z;rw [z,eT]
  ·rfl
 rw [e2] at I2;exact h _ ar2 I2
end
end L2
end
section
set_option maxRecDepth 100000
set_option maxHeartbeats 1000000
namespace L2
open PySem PySem.Spec PyProof.Rows
def jck(w:World)(K:PySem.W.Frag)(a:Addr)(kvs:List (Key×V)):Prop:=(a == sysModules)=false/\∃ o es ep,K.lookup a=some o/\o.ExactDict/\o.data = .dict es ep/\
 Paired (λ(e:DictEntry) (kv:Key×V)=>w_ kv.1 e.key=true/\e.hash=ji2 w kv.1/\xj kv.2 e.val) es.toList kvs
theorem jck.map{P:Program}{w:World}{K:PySem.W.Frag}{h:Heap}{a:Addr}{kvs:List (Key×V)}(X:K.In h)(d:jck w K a kvs):∃ f,h.MapOf (yn P w) a f/\∀ k,vo (ze kvs k) (f k):=by
 obtain ⟨_,o,es,ep,l,x,hd,p⟩:=d;refine ⟨findBy (yn P w).is es,⟨o,es,ep,X _ _ l,x,hd,λe he=>?_,λ_=>rfl⟩,λk=>?_⟩
 ·have all:∀ {l:List DictEntry} {m:List (Key×V)},Paired (λ(e:DictEntry) (kv:Key×V)=>w_ kv.1 e.key=true/\e.hash=ji2 w kv.1/\xj kv.2 e.val) l m->∀ e∈l,∃ k,w_ k e.key=true/\e.hash=ji2 w k:=by
   intro l m q;induction q with
   | nil=>intro e he;cases he
   | cons r t ih =>
    intro e he;rcases List.mem_cons.mp he with z | z
    ·subst z;exact ⟨_,r.1,r.2.1⟩
    ·exact ih e z
  exact all p e (Array.mem_toList_iff.mpr he)
 ·have all:∀ {l:List DictEntry} {m:List (Key×V)},Paired (λ(e:DictEntry) (kv:Key×V)=>w_ kv.1 e.key=true/\e.hash=ji2 w kv.1/\xj kv.2 e.val) l m->
    vo (ze m k) ((l.find? λe=>w_ k e.key).map (·.val)):=by
   intro l m q;induction q with
   | nil=>exact True.intro
   | @cons e kv es' kvs' r t ih =>
    by_cases z:kv.1=k
    ·have b:w_ k e.key=true:=by rw [<- z];exact r.1
     rw [jaz z,List.find?_cons,b];exact r.2.2
    ·have b:w_ k e.key=false:=by
      cases c:w_ k e.key with
      | false=>rfl
      | true=>exact absurd ((yn P w).inj e.key kv.1 k r.1 c) z
     rw [zr z,List.find?_cons,b];exact ih
  have e1:=all p;obtain ⟨l⟩:=es;unfold findBy;rw [<- Array.find?_toList];exact e1
section
variable{X:Cx}
def jvk(w:World)(K:PySem.W.Frag)(neg:Bool):R2:=λx y H Q=>∃ a kvs k,y = .ref a/\jck w K a kvs/\x=kV k/\Q (.bl (if neg then !(ze kvs k).isSome else (ze kvs k).isSome)) H
theorem jhh:OpR X (compareOp .In) (jvk X.w X.K false):=by
 rintro pins s σ H x y v u Q I rx ry ⟨a,kvs,k,rfl,d,rfl,q⟩;cases ry;obtain ⟨f,m,rel⟩:=d.map (P:=X.prog) I.kIn;refine wpAny_in_of (jj2 rx) d.1 m ?_;rw [<- (rel k).isSome_eq];exact ⟨.bl _,H,I.tok _,rfl,q⟩
theorem jtt:OpR X (compareOp .NotIn) (jvk X.w X.K true):=by
 rintro pins s σ H x y v u Q I rx ry ⟨a,kvs,k,rfl,d,rfl,q⟩;cases ry;obtain ⟨f,m,rel⟩:=d.map (P:=X.prog) I.kIn;refine wpAny_notIn_of (jj2 rx) d.1 m ?_;rw [<- (rel k).isSome_eq];exact ⟨.bl _,H,I.tok _,rfl,q⟩
def jzn(w:World)(K:PySem.W.Frag)(td ty:TE):TE:=λσ H Q=>td σ H λx H1=>ty σ H1 λy H2=>∃ a kvs k v,x = .ref a/\jck w K a kvs/\y=kV k/\ze kvs k=some v/\Q v H2
theorem jcr{o i:Expr}{td ty:TE}{pos:Pos}(ho:PE X o td)(hi:PE X i ty)(hs:jw7 i):PE X (.Subscript o i pos) (jzn X.w X.K td ty):=by
 intro pins s σ H Q I h;refine jpk PySem.F.slot_dict_getitem.lookup hs (thn (ho pins s σ H _ I h) λu s1 ⟨x,H1,I1,rx,q1⟩=>thn (hi pins s1 σ H1 _ I1 q1) λiv s2 ⟨y,H2,I2,ry,a,kvs,k,v,ex,d,ey,l,q2⟩=>?_);subst ex ey;obtain rfl:u=Value.ref a:=rx;obtain ⟨f,m,rel⟩:=d.map (P:=X.prog) I2.kIn;obtain ⟨w',hw,rw'⟩:=vo.some_of (v:=v) (o:=f k) (by rw [<- l];exact rel k);exact ⟨m.typeIs,wpAny_getItem_of (jj2 ry) m hw ⟨v,H2,I2.tok _,rw',q2⟩⟩
def jkh(P:Program)(w:World)(K:PySem.W.Frag)(a:Addr)(kvs:List (List Key×V)):Prop:=(a == sysModules)=false/\∃ o es ep,∃ xs:List (List Key×Addr×Value),K.lookup a=some o/\o.ExactDict/\o.data = .dict es ep/\
 es.toList=xs.map (entryOfKey (tupleKind (yn P w)))/\(xs.map (·.1)).Nodup/\
 Paired (λ(p:List Key×V) (q:List Key×Addr×Value)=>p.1=q.1/\xj p.2 q.2.2/\∃ o its n,K.lookup q.2.1=some o/\o.cls = .type "tuple"/\o.data = .seq its n/\ItemsAre (yn P w) q.1 its.toList) kvs xs
theorem jkh.dic{P:Program}{w:World}{K:PySem.W.Frag}{h:Heap}{a:Addr}{kvs:List (List Key×V)}(X:K.In h)(d:jkh P w K a kvs) :
  ∃ xs,h.DictOfH (tupleKind (yn P w)) a xs/\∀ k,vo (ze kvs k) ((atKey xs k).map (·.2)):=by
 obtain ⟨_,o,es,ep,xs,l,x,hd,he,nd,p⟩:=d;refine ⟨xs,⟨o,es,ep,X _ _ l,x,hd,he,?_,nd⟩,λk=>?_⟩
 ·clear he nd;induction p with
  | nil=>intro x hx;cases hx
  | cons r t ih =>
   intro x hx;rcases List.mem_cons.mp hx with z | z
   ·subst z;obtain ⟨_,_,o',its,n,q1,q2,q3,q4⟩:=r;exact ⟨o',its,n,X _ _ q1,q2,q3,q4⟩
   ·exact ih x z
 ·clear he nd;induction p with
  | nil=>exact True.intro
  | @cons p q ps qs r t ih =>
   obtain ⟨h1,h2,_⟩:=r;by_cases e:p.1=k
   ·have e':q.1=k:=h1.symm.trans e;have b:atKey (q::qs) k=some q.2:=by simp [atKey,List.find?_cons,e']
    rw [jaz e,b];exact h2
   ·have e':¬ q.1=k:=λz=>e (h1.trans z);have b:atKey (q::qs) k=atKey qs k:=by simp [atKey,List.find?_cons,e']
    rw [zr e,b];exact ih
def j1n(P:Program)(w:World)(K:PySem.W.Frag):R2:=λx y H Q=>∃ a kvs b k,y = .ref a/\jkh P w K a kvs/\x = .ref b/\H b=some (.tup (k.map kV))/\Q (.bl (ze kvs k).isSome) H
theorem jyd(hu:X.A.units + 1 < cLine):OpR X (compareOp .In) (j1n X.prog X.w X.K):=by
 rintro pins s σ H x y v u Q I rx ry ⟨a,kvs,b,k,rfl,d,rfl,eb,q⟩;cases ry;cases rx;obtain ⟨xs,m,rel⟩:=d.dic I.kIn;refine wpAny_in_heap (tupleKind_room_in1 hu) (jud I.hok eb) d.1 m ?_;have z:=(rel k).isSome_eq
 rw [Option.isSome_map] at z;rw [<- z];exact ⟨.bl _,H,I.tok _,rfl,q⟩
def jxw(P:Program)(w:World)(K:PySem.W.Frag)(td ty:TE):TE:=λσ H Q=>td σ H λx H1=>ty σ H1 λy H2=>∃ a kvs b k v,x = .ref a/\jkh P w K a kvs/\y = .ref b/\H2 b=some (.tup (k.map kV))/\ze kvs k=some v/\Q v H2
theorem jts{o i:Expr}{td ty:TE}{pos:Pos}(hu:X.A.units + 1 < cLine)(ho:PE X o td)(hi:PE X i ty)(hs:jw7 i):PE X (.Subscript o i pos) (jxw X.prog X.w X.K td ty):=by
 intro pins s σ H Q I h;refine jpk PySem.F.slot_dict_getitem.lookup hs (thn (ho pins s σ H _ I h) λu s1 ⟨x,H1,I1,rx,q1⟩=>thn (hi pins s1 σ H1 _ I1 q1) λiv s2 ⟨y,H2,I2,ry,a,kvs,b,k,v,ex,d,ey,eb,l,q2⟩=>?_);subst ex ey;obtain rfl:u=Value.ref a:=rx;obtain rfl:iv=Value.ref b:=ry;obtain ⟨xs,m,rel⟩:=d.dic I2.kIn;obtain ⟨w',hw,rw'⟩:=vo.some_of (v:=v) (o:=(atKey xs k).map (·.2)) (by rw [<- l];exact rel k);obtain ⟨p,hp,hp2⟩:=Option.map_eq_some_iff.mp hw;refine ⟨m.typeIs,wpAny_getItem_heap (tupleKind_room_in1 hu) (jud I2.hok eb) m hp ?_⟩;rw [hp2];exact ⟨v,H2,I2.tok _,rw',q2⟩
end
end L2
end
section
set_option maxRecDepth 100000
set_option maxHeartbeats 1000000
namespace L2
open PySem PySem.Spec PyProof.Rows
section
variable{X:Cx}{C fI:Addr}{fs:List Str}{o value:Expr}{f:Str}{pos pos':Pos}{ta tv:TE}
def jz5(C:Addr)(ta tv:TE)(f:Str):TS:=λD σ H=>tv σ H λy H1=>ta σ H1 λv H2=>∃ x,v = .ref x/\H2 x=some (XO C none x)/\∀ dx,H2 dx=none->dx≠x->D.nx σ (upd (upd H2 x (XO C (some dx) x)) dx (XD dx [(f,y)]))
def jz4(C:Addr)(ta tv:TE)(f:Str):TS:=λD σ H=>tv σ H λy H1=>ta σ H1 λv H2=>∃ x dx fs0,v = .ref x/\H2 x=some (XO C (some dx) x)/\H2 dx=some (XD dx fs0)/\fs0.length<=1000/\D.nx σ (upd H2 dx (XD dx (jaa f y fs0)))
theorem jvo(q:jb8 X.K C fI fs=true)(hf:f∈fs)(hB:typeLookup (.type "Exception") f=pure none)(ha:PE X o ta)(hv:PE X value tv)(hs:swapsWith value (some (.Attribute o f pos')) pos.line X.env=pure false) :
  PS X (.Assign [.Attribute o f pos'] value pos) (jz5 C ta tv f):=by
 intro pins s σ H D I h;refine plainObj_wpAny_Assign_Attribute (thn (hv pins s σ H _ I h) λu s1 ⟨y,H1,I1,ry,q1⟩=>thn (ha pins s1 σ H1 _ I1 q1) λov s2 ⟨v,H2,I2,rx,x,ex,e1,q2⟩=>?_) hs;subst ex;obtain rfl:ov=Value.ref x:=rx;exact j1l I2 e1 q hf hB ry λdx s3 n1 n2 I3=>⟨σ,_,I3,q2 dx n1 n2⟩
theorem jvn(q:jb8 X.K C fI fs=true)(hf:f∈fs)(hB:typeLookup (.type "Exception") f=pure none)(ha:PE X o ta)(hv:PE X value tv)(hs:swapsWith value (some (.Attribute o f pos')) pos.line X.env=pure false) :
  PS X (.Assign [.Attribute o f pos'] value pos) (jz4 C ta tv f):=by
 intro pins s σ H D I h;refine plainObj_wpAny_Assign_Attribute (thn (hv pins s σ H _ I h) λu s1 ⟨y,H1,I1,ry,q1⟩=>thn (ha pins s1 σ H1 _ I1 q1) λov s2 ⟨v,H2,I2,rx,x,dx,fs0,ex,e1,e2,l,q2⟩=>?_) hs;subst ex;obtain rfl:ov=Value.ref x:=rx;exact j1k I2 e1 e2 q hf hB ry l λs3 I3=>⟨σ,_,I3,q2⟩
end
end L2
end
section
set_option autoImplicit false
namespace Cell
open Vanbka
def bw(t:Tok):Int:=if opening t.lex then 1 else if closing t.lex then -1 else 0
def bal:List Tok->Int
 | []=>0
 | t::r=>bw t + bal r
theorem jqc:∀ (c d:List Tok),bal (c ++ d)=bal c + bal d
 | [],d=>by simp [bal]
 | t::c,d=>by
  have ih:=jqc c d;simp only [List.cons_append,bal,ih];omega
def Con(ts r:List Tok)(z:Int)(m:Nat):Prop:=∃ c,ts=c ++ r/\bal c=z/\m<=c.length
theorem Con.refl(ts:List Tok):Con ts ts 0 0:=⟨[],rfl,rfl,Nat.zero_le _⟩
theorem Con.trans{a b c:List Tok}{z y:Int}{m k:Nat}(h:Con a b z m)(g:Con b c y k):Con a c (z + y) (m + k):=by
 obtain ⟨p,rfl,hp,lp⟩:=h;obtain ⟨q,rfl,hq,lq⟩:=g;refine ⟨p ++ q,by simp,by rw [jqc,hp,hq],?_⟩;rw [List.length_append];omega
theorem Con.to{a b:List Tok}{z y:Int}{m k:Nat}(h:Con a b z m)(e:z=y)(l:k<=m):Con a b y k:=by
 obtain ⟨p,h1,h2,h3⟩:=h;exact ⟨p,h1,h2.trans e,by omega⟩
theorem Con.len{a b:List Tok}{z:Int}{m:Nat}(h:Con a b z m):b.length + m<=a.length:=by
 obtain ⟨p,rfl,_,h3⟩:=h;rw [List.length_append];omega
theorem Con.one(t:Tok)(r:List Tok):Con (t::r) r (bw t) 1:=⟨[t],rfl,by simp [bal],by simp⟩
def Res{α:Type}(x:Except Nat (α×List Tok))(ts:List Tok)(z:Int)(m:Nat):Prop:=match x with
 | .ok (_,r)=>Con ts r z m
 | .error l=>l<=ts.length
def zb(x:Except Nat (List Tok))(ts:List Tok)(z:Int)(m:Nat):Prop:=match x with
 | .ok r=>Con ts r z m
 | .error l=>l<=ts.length
section
variable{α β:Type}{ts:List Tok}{z y:Int}{m k:Nat}
theorem Res.halt:Res (halt_ ts:Except Nat (α×List Tok)) ts z m:=Nat.le_refl _
theorem Res.ret{a:α}{r:List Tok}:Res (Except.ok (a,r)) r 0 0:=Con.refl r
theorem Res.bind{x:Except Nat (α×List Tok)}{f:α×List Tok->Except Nat (β×List Tok)}(hx:Res x ts z m)(hf:∀ a r,x = .ok (a,r)->Res (f (a,r)) r y k):Res (x >>= f) ts (z + y) (m + k):=by
 cases x with
 | error l=>exact hx
 | ok p =>
  obtain ⟨a,r⟩:=p;have hx:Con ts r z m:=hx
  have q:=hf a r rfl;show Res (f (a,r)) ts _ _
  cases e:f (a,r) with
  | error l =>
   rw [e] at q;have q:l<=r.length:=q
   have:=hx.len;show l<=ts.length
   omega
  | ok p2 =>
   rw [e] at q;exact hx.trans q
theorem zb.bind{x:Except Nat (List Tok)}{f:List Tok->Except Nat (β×List Tok)}(hx:zb x ts z m)(hf:∀ r,x = .ok r->Res (f r) r y k):Res (x >>= f) ts (z + y) (m + k):=by
 cases x with
 | error l=>exact hx
 | ok r =>
  have hx:Con ts r z m:=hx;have q:=hf r rfl
  show Res (f r) ts _ _;cases e:f r with
  | error l =>
   rw [e] at q;have q:l<=r.length:=q
   have:=hx.len;show l<=ts.length
   omega
  | ok p2 =>
   rw [e] at q;exact hx.trans q
theorem Res.to{x:Except Nat (α×List Tok)}(h:Res x ts z m)(e:z=y)(l:k<=m):Res x ts y k:=by
 cases x with
 | error _=>exact h
 | ok p=>exact Con.to h e l
theorem Res.after{x:Except Nat (α×List Tok)}{r:List Tok}(c:Con ts r z m)(h:Res x r y k):Res x ts (z + y) (m + k):=by
 cases x with
 | error l =>
  have h:l<=r.length:=h;have:=c.len
  show l<=ts.length;omega
 | ok p=>exact c.trans h
end
def sw(s:String):Int:=bw { lex:=.sign (b s),place:=0,len:=0 }
theorem jk8{s:String}{t:Tok}(h:isSign s t=true):bw t=sw s:=by
 have e:t.lex = .sign (b s):=by simpa [isSign] using h
 unfold sw bw;rw [e]
theorem jcu{w:Bytes}{t:Tok}(h:t.lex = .word w):bw t=0:=by
 unfold bw opening closing;rw [h];simp
theorem jdf{s:String}{t:Tok}(h:isWord s t=true):bw t=0:=jcu (w:=b s) (by simpa [isWord] using h)
theorem jb5{p:Tok->Bool}{ts:List Tok}(h:next p ts=true):∃ t r,ts=t::r/\p t=true/\ts.drop 1=r:=by
 cases ts with
 | nil=>simp [next] at h
 | cons t r=>exact ⟨t,r,rfl,h,rfl⟩
theorem xy{s:String}{ts:List Tok}(h:next (isSign s) ts=true):Con ts (ts.drop 1) (sw s) 1:=by
 obtain ⟨t,r,rfl,hp,_⟩:=jb5 h;rw [<- jk8 hp];exact Con.one t r
theorem yg{s:String}{ts:List Tok}(h:next (isWord s) ts=true):Con ts (ts.drop 1) 0 1:=by
 obtain ⟨t,r,rfl,hp,_⟩:=jb5 h;have:=Con.one t r
 rw [jdf hp] at this;exact this
theorem qr{s:String}{ts:List Tok}:zb (eat (isSign s) ts) ts (sw s) 1:=by
 unfold eat;split
 ·rename_i h;exact xy h
 ·exact Nat.le_refl _
theorem jga{s:String}{ts:List Tok}:zb (eat (isWord s) ts) ts 0 1:=by
 unfold eat;split
 ·rename_i h;exact yg h
 ·exact Nat.le_refl _
theorem jmd{ts:List Tok}{x:Bytes}(h:nameNext ts=some x):∃ t r,ts=t::r/\t.lex = .word x/\reserved.contains x=false:=by
 unfold nameNext at h;split at h
 ·rename_i w p l r;split at h
  ·cases h
  ·rename_i hr;cases h;exact ⟨_,_,rfl,rfl,by simpa using hr⟩
 ·cases h
theorem ji4{ts:List Tok}{x:Bytes}(h:nameNext ts=some x):Con ts (ts.drop 1) 0 1:=by
 obtain ⟨t,r,rfl,e,_⟩:=jmd h;have:=Con.one t r
 rw [jcu e] at this;exact this
theorem y8{ts:List Tok}:Res (name ts) ts 0 1:=by
 unfold name;split
 ·rename_i x h;exact ji4 h
 ·exact Nat.le_refl _
theorem juu{n:Nat}{t:Tok}(h:t.lex = .num n):bw t=0:=by
 unfold bw opening closing;rw [h];simp
theorem jl4{s:Bytes}{t:Tok}(h:t.lex = .quoted s):bw t=0:=by
 unfold bw opening closing;rw [h];simp
theorem jf_{ts:List Tok}:Res (number ts) ts 0 1:=by
 unfold number;split
 ·rename_i n p l r;have:=Con.one { lex:=.num n,place:=p,len:=l } r
  rw [juu rfl] at this;exact this
 ·exact Nat.le_refl _
theorem jf9{ts:List Tok}:Res (quoted ts) ts 0 1:=by
 unfold quoted;split
 ·rename_i n p l r;have:=Con.one { lex:=.quoted n,place:=p,len:=l } r
  rw [jl4 rfl] at this;exact this
 ·exact Nat.le_refl _
theorem jms:sw "-"=0:=by decide +kernel
theorem jco:sw ","=0:=by decide +kernel
theorem jij:sw ":"=0:=by decide +kernel
theorem jfc:sw ";"=0:=by decide +kernel
theorem jmh:sw "="=0:=by decide +kernel
theorem j2c:sw "?"=0:=by decide +kernel
theorem jsv:sw "."=0:=by decide +kernel
theorem jdq:sw "("=1:=by decide +kernel
theorem jbu:sw ")" = -1:=by decide +kernel
theorem jqn:sw "["=1:=by decide +kernel
theorem jqo:sw "]" = -1:=by decide +kernel
theorem jxb:sw "{"=1:=by decide +kernel
theorem j1j:sw "}" = -1:=by decide +kernel
theorem jha{ts:List Tok}:Res (whole ts) ts 0 1:=by
 unfold whole;split
 ·rename_i h;refine Res.to (Res.after (xy h) (Res.bind (y:=0) (k:=0) jf_ ?_)) (by rw [jms];rfl) (by omega);intro a r _;exact Res.ret
 ·refine Res.to (Res.bind (y:=0) (k:=0) jf_ ?_) rfl (by omega);intro a r _;exact Res.ret
theorem jdj:∀ (n:Nat) (ts:List Tok),Res (namesMore n ts) ts 0 0
 | 0,ts=>Con.refl ts
 | n + 1,ts=>by
  unfold namesMore;split
  ·rename_i h;refine Res.to (Res.after (xy h) (Res.bind (y:=0 + 0) (k:=0 + 0) y8 ?_)) (by rw [jco];rfl) (by omega);intro a r _;refine Res.bind (jdj n r) ?_;intro a r _;exact Res.ret
  ·exact Con.refl ts
theorem jfk:∀ (n:Nat) (ts:List Tok),Res (quotedMore n ts) ts 0 0
 | 0,ts=>Con.refl ts
 | n + 1,ts=>by
  unfold quotedMore;split
  ·rename_i h;refine Res.to (Res.after (xy h) (Res.bind (y:=0 + 0) (k:=0 + 0) jf9 ?_)) (by rw [jco];rfl) (by omega);intro a r _;refine Res.bind (jfk n r) ?_;intro a r _;exact Res.ret
  ·exact Con.refl ts
theorem jjo{ts:List Tok}:Res (params ts) ts (-1) 1:=by
 unfold params;split
 ·rename_i h;exact (xy h).to (by rw [jbu]) (Nat.le_refl _)
 ·refine Res.to (Res.bind (y:=0 + (sw ")" + 0)) (k:=0 + (1 + 0)) y8 ?_) (by rw [jbu];rfl) (by omega);intro a r _;refine Res.bind (jdj _ r) ?_;intro l r _;refine zb.bind qr ?_;intro r _;exact Res.ret
theorem jye{k:Nat}{t:Tok}{o:Op}(h:opOf k t.lex=some o):bw t=0:=by
 unfold opOf at h;split at h
 ·rename_i e;exact jcu e
 ·rename_i e;exact jcu e
 all_goals first
  | (cases h;done)
  | (rename_i s e
     repeat' split at h
     all_goals first
      | (cases h;done)
      | (rename_i q;have q:=eq_of_beq q;subst q;unfold bw;rw [e];decide +kernel))
theorem joe{k:Nat}{ts:List Tok}{o:Op}(h:opNext k ts=some o):Con ts (ts.drop 1) 0 1:=by
 cases ts with
 | nil=>simp [opNext] at h
 | cons t r =>
  have e:bw t=0:=jye h;have:=Con.one t r
  rw [e] at this;exact this
end Cell
end
section
set_option autoImplicit false
namespace Cell
open Vanbka
structure jw9(n:Nat):Prop where
 expr:∀ ts,Res (expr n ts) ts 0 1
 line:∀ k ts,Res (line n k ts) ts 0 1
 chain:∀ k x ts,Res (chain n k x ts) ts 0 0
 reach:∀ x ts,Res (reach n x ts) ts 0 0
 listed:∀ s ts,Res (listed n s ts) ts (sw s) 1
 more:∀ ts,Res (more n ts) ts 0 0
 fields:∀ ts,Res (fields n ts) ts 0 1
 simple:∀ ts,Res (simple n ts) ts 0 1
 parts:∀ k ts,Res (parts n k ts) ts (-1) 1
 inBrackets:∀ ts,Res (inBrackets n ts) ts (-1) 1
 function:∀ ts,Res (function n ts) ts 0 1
 block:∀ ts,Res (block n ts) ts 0 1
 statements:∀ ts,Res (statements n ts) ts 0 0
 statement:∀ ts,Res (statement n ts) ts 0 1
theorem j11:jw9 0:=by
 constructor <;> intros <;> simp only [expr,line,chain,reach,listed,more,fields,simple,parts,inBrackets,function,block,statements,statement] <;> exact Res.halt
theorem jav{t:Tok}{r:List Tok}{z:Int}(e:bw t=z):Con (t::r) r z 1:=e▸Con.one t r
section
variable{n:Nat}(F:jw9 n)
include F
theorem juo(ts:List Tok):Res (expr (n + 1) ts) ts 0 1:=by
 rw [expr];refine Res.to (Res.bind (y:=0) (k:=0) (F.line 1 ts) ?_) rfl (by omega);intro c r _;dsimp only;split
 ·rename_i h;refine Res.to (Res.after (xy h) (Res.bind (y:=sw ":" + (0 + 0)) (k:=1 + (1 + 0)) (F.line 1 _) ?_)) (by rw [j2c,jij];rfl) (by omega);intro x r _;refine zb.bind qr ?_;intro r _;refine Res.bind (F.line 1 r) ?_;intro y r _;exact Res.ret
 ·exact Res.ret
theorem jun(k:Nat)(ts:List Tok):Res (line (n + 1) k ts) ts 0 1:=by
 rw [line];split
 ·split
  ·rename_i h;refine Res.to (Res.after (yg h) (Res.bind (y:=0) (k:=0) (F.line 4 _) ?_)) rfl (by omega);intro e r _;exact Res.ret
  ·exact F.line 4 ts
 split
 ·refine Res.to (Res.bind (y:=0) (k:=0) (F.line 5 ts) ?_) rfl (by omega);intro x r _;dsimp only;split
  ·rename_i o h;refine Res.to (Res.after (joe h) (Res.bind (y:=0) (k:=0) (F.line 5 _) ?_)) rfl (by omega);intro y r _;exact Res.ret
  ·exact Res.ret
 split
 ·split
  ·rename_i h;refine Res.to (Res.after (xy h) (Res.bind (y:=0) (k:=0) (F.line 9 _) ?_)) (by rw [jms];rfl) (by omega);intro e r _;exact Res.ret
  ·exact F.line 9 ts
 split
 ·refine Res.to (Res.bind (y:=0) (k:=0) (F.simple ts) ?_) rfl (by omega);intro x r _;exact F.reach x r
 ·refine Res.to (Res.bind (y:=0) (k:=0) (F.line _ ts) ?_) rfl (by omega);intro x r _;exact F.chain k x r
theorem jr2(k:Nat)(x:Expr)(ts:List Tok):Res (chain (n + 1) k x ts) ts 0 0:=by
 rw [chain];split
 ·rename_i o h;refine Res.to (Res.after (joe h) (Res.bind (y:=0) (k:=0) (F.line _ _) ?_)) rfl (by omega);intro y r _;exact F.chain k _ r
 ·exact Con.refl ts
theorem jr0(x:Expr)(ts:List Tok):Res (reach (n + 1) x ts) ts 0 0:=by
 rw [reach];split
 ·rename_i h;refine Res.to (Res.after (xy h) (Res.bind (y:=0) (k:=0) (F.listed ")" _) ?_)) (by rw [jdq,jbu];rfl) (by omega);intro l r _;exact F.reach _ r
 split
 ·rename_i h;refine Res.to (Res.after (xy h) (Res.bind (y:=sw "]" + 0) (k:=1 + 0) (F.expr _) ?_)) (by rw [jqn,jqo];rfl) (by omega);intro e r _;refine zb.bind qr ?_;intro r _;exact F.reach _ r
 split
 ·rename_i h;refine Res.to (Res.after (xy h) (Res.bind (y:=0) (k:=0) y8 ?_)) (by rw [jsv];rfl) (by omega);intro y r _;exact F.reach _ r
 ·exact Con.refl ts
theorem jpb(s:String)(ts:List Tok):Res (listed (n + 1) s ts) ts (sw s) 1:=by
 rw [listed];split
 ·rename_i h;exact xy h
 ·refine Res.to (Res.bind (y:=0 + (sw s + 0)) (k:=0 + (1 + 0)) (F.expr _) ?_) (by omega) (by omega);intro e r _;refine Res.bind (F.more r) ?_;intro l r _;refine zb.bind qr ?_;intro r _;exact Res.ret
theorem jum(ts:List Tok):Res (more (n + 1) ts) ts 0 0:=by
 rw [more];split
 ·rename_i h;refine Res.to (Res.after (xy h) (Res.bind (y:=0 + 0) (k:=0 + 0) (F.expr _) ?_)) (by rw [jco];rfl) (by omega);intro e r _;refine Res.bind (F.more r) ?_;intro l r _;exact Res.ret
 ·exact Con.refl ts
theorem jpc(ts:List Tok):Res (fields (n + 1) ts) ts 0 1:=by
 rw [fields];refine Res.to (Res.bind (y:=sw ":" + (0 + 0)) (k:=1 + (1 + 0)) y8 ?_) (by rw [jij];rfl) (by omega);intro x r _;refine zb.bind qr ?_;intro r _;refine Res.bind (F.expr r) ?_;intro e r _;dsimp only;split
 ·rename_i h;refine Res.to (Res.after (xy h) (Res.bind (y:=0) (k:=0) (F.fields _) ?_)) (by rw [jco];rfl) (by omega);intro l r _;exact Res.ret
 ·exact Res.ret
theorem jo_(ts:List Tok):Res (simple (n + 1) ts) ts 0 1:=by
 rw [simple.eq_def];dsimp only;split
 ·exact jav (juu rfl)
 ·exact jav (jl4 rfl)
 ·rename_i t r _ _;split
  ·rename_i h;refine Res.to (Res.after (jav (jk8 h)) (Res.bind (y:=0) (k:=0) (F.listed "]" r) ?_)) (by rw [jqn,jqo];rfl) (by omega);intro l r _;exact Res.ret
  split
  ·rename_i h;exact Res.to (Res.after (jav (jk8 h)) (F.inBrackets r)) (by rw [jdq];rfl) (by omega)
  split
  ·rename_i h;exact Res.to (Res.after (jav (jdf h)) (F.function r)) rfl (by omega)
  split
  ·rename_i h;exact jav (jdf h)
  split
  ·rename_i h;exact jav (jdf h)
  split
  ·rename_i h;exact jav (jdf h)
  split
  ·rename_i x h;exact ji4 h
  split
  ·rename_i p k h;have hw:∃ w,t.lex = .word w:=by
    cases e:wordNext (t::r) with
    | none=>rw [e] at h;cases h
    | some w =>
     unfold wordNext at e;split at e
     ·rename_i w' _ _ _ q;exact ⟨w',by have:=(List.cons.inj q).1;rw [this]⟩
     ·cases e
   obtain ⟨w,hw⟩:=hw;refine Res.to (Res.after (jav (jcu hw)) (zb.bind (y:=-1 + 0) (k:=1 + 0) qr ?_)) (by rw [jdq];rfl) (by omega);intro r _;refine Res.bind (F.parts _ r) ?_;intro l r _;exact Res.ret
  ·exact Res.halt
 ·exact Res.halt
theorem jr1(k:Nat)(ts:List Tok):Res (parts (n + 1) k ts) ts (-1) 1:=by
 rw [parts];refine Res.to (Res.bind (y:=-1) (k:=0) (F.expr ts) ?_) rfl (by omega);intro e r _;dsimp only;split
 ·refine Res.to (zb.bind (y:=0) (k:=0) qr ?_) (by rw [jbu];rfl) (by omega);intro r _;exact Res.ret
 ·refine Res.to (zb.bind (y:=-1 + 0) (k:=1 + 0) qr ?_) (by rw [jco];rfl) (by omega);intro r _;refine Res.bind (F.parts _ r) ?_;intro l r _;exact Res.ret
theorem jj9(ts:List Tok):Res (inBrackets (n + 1) ts) ts (-1) 1:=by
 rw [inBrackets];split
 ·rename_i h;refine Res.to (Res.after (xy h) (zb.bind (y:=0) (k:=0) qr ?_)) (by rw [jij,jbu];rfl) (by omega);intro r _;exact Res.ret
 split
 ·refine Res.to (Res.bind (y:=sw ")" + 0) (k:=1 + 0) (F.fields ts) ?_) (by rw [jbu];rfl) (by omega);intro l r _;refine zb.bind qr ?_;intro r _;exact Res.ret
 ·refine Res.to (Res.bind (y:=sw ")" + 0) (k:=1 + 0) (F.expr ts) ?_) (by rw [jbu];rfl) (by omega);intro l r _;refine zb.bind qr ?_;intro r _;exact Res.ret
theorem jr3(ts:List Tok):Res (block (n + 1) ts) ts 0 1:=by
 rw [block];refine Res.to (zb.bind (y:=0 + (sw "}" + 0)) (k:=0 + (1 + 0)) qr ?_) (by rw [jxb,j1j];rfl) (by omega);intro r _;refine Res.bind (F.statements r) ?_;intro s r _;refine zb.bind qr ?_;intro r _;exact Res.ret
theorem jme(ts:List Tok):Res (function (n + 1) ts) ts 0 1:=by
 rw [function];dsimp only;cases e:nameNext ts with
 | none =>
  refine Res.to (zb.bind (y:=-1 + (0 + 0)) (k:=1 + (1 + 0)) qr ?_) (by rw [jdq];rfl) (by omega);intro r _;refine Res.bind jjo ?_;intro l r _;refine Res.bind (F.block r) ?_;intro s r _;exact Res.ret
 | some x =>
  refine Res.to (Res.after (ji4 e) (zb.bind (y:=-1 + (0 + 0)) (k:=1 + (1 + 0)) qr ?_)) (by rw [jdq];rfl) (by omega);intro r _;refine Res.bind jjo ?_;intro l r _;refine Res.bind (F.block r) ?_;intro s r _;exact Res.ret
theorem jj8(ts:List Tok):Res (statements (n + 1) ts) ts 0 0:=by
 rw [statements];split
 ·exact Con.refl ts
 ·refine Res.to (Res.bind (y:=0 + 0) (k:=0 + 0) (F.statement ts) ?_) rfl (by omega);intro s r _;refine Res.bind (F.statements r) ?_;intro l r _;exact Res.ret
theorem jml{ts:List Tok}{w:Bytes}(h:wordNext ts=some w):Con ts (ts.drop 1) 0 1:=by
 unfold wordNext at h;split at h
 ·exact jav (jcu rfl)
 ·cases h
theorem jk5(ts:List Tok):Res (statement (n + 1) ts) ts 0 1:=by
 rw [statement];dsimp only;split
 ·rename_i h;refine Res.to (Res.after (yg h) (Res.bind (y:=sw "=" + (0 + (sw ";" + 0))) (k:=0) y8 ?_)) (by rw [jmh,jfc];rfl) (by omega);intro x r _;refine Res.to (zb.bind (y:=0 + (sw ";" + 0)) (k:=0) qr ?_) rfl (by omega);intro r _;refine Res.to (Res.bind (y:=sw ";" + 0) (k:=0) (F.expr r) ?_) rfl (by omega);intro e r _;refine Res.to (zb.bind (y:=0) (k:=0) qr ?_) rfl (by omega);intro r _;exact Res.ret
 split
 ·rename_i h;refine Res.to (Res.after (yg h) (Res.bind (y:=sw "=" + (0 + (sw ";" + 0))) (k:=0) y8 ?_)) (by rw [jmh,jfc];rfl) (by omega);intro x r _;refine Res.to (zb.bind (y:=0 + (sw ";" + 0)) (k:=0) qr ?_) rfl (by omega);intro r _;refine Res.to (Res.bind (y:=sw ";" + 0) (k:=0) (F.expr r) ?_) rfl (by omega);intro e r _;refine Res.to (zb.bind (y:=0) (k:=0) qr ?_) rfl (by omega);intro r _;exact Res.ret
 split
 ·rename_i h;refine Res.to (Res.after (yg h) (Res.bind (y:=0 + 0) (k:=0) (F.expr _) ?_)) rfl (by omega);intro c r _;refine Res.to (Res.bind (y:=0) (k:=0) (F.block r) ?_) rfl (by omega);intro x r _;dsimp only;split
  ·rename_i h2;refine Res.to (Res.after (yg h2) (Res.bind (y:=0) (k:=0) (F.block _) ?_)) rfl (by omega);intro y r _;exact Res.ret
  ·exact Res.ret
 split
 ·rename_i h;refine Res.to (Res.after (yg h) (Res.bind (y:=0 + 0) (k:=0) (F.expr _) ?_)) rfl (by omega);intro c r _;refine Res.to (Res.bind (y:=0) (k:=0) (F.block r) ?_) rfl (by omega);intro x r _;exact Res.ret
 split
 ·rename_i h;refine Res.to (Res.after (yg h) (Res.bind (y:=0 + (0 + (0 + 0))) (k:=0) y8 ?_)) rfl (by omega);intro x r _;refine Res.to (zb.bind (y:=0 + (0 + 0)) (k:=0) jga ?_) rfl (by omega);intro r _;refine Res.to (Res.bind (y:=0 + 0) (k:=0) (F.expr r) ?_) rfl (by omega);intro e r _;refine Res.to (Res.bind (y:=0) (k:=0) (F.block r) ?_) rfl (by omega);intro l r _;exact Res.ret
 split
 ·rename_i h;refine Res.to (Res.after (yg h) (Res.bind (y:=0) (k:=0) y8 ?_)) rfl (by omega);intro x r _;refine Res.to (zb.bind (y:=0) (k:=0) qr ?_) (by rw [jmh];rfl) (by omega);intro r _;refine Res.to (Res.bind (y:=0) (k:=0) jha ?_) rfl (by omega);intro v r _;refine Res.to (zb.bind (y:=0) (k:=0) jga ?_) rfl (by omega);intro r _;refine Res.to (Res.bind (y:=0) (k:=0) jha ?_) rfl (by omega);intro lo r _;refine Res.to (zb.bind (y:=0) (k:=0) qr ?_) (by rw [jco];rfl) (by omega);intro r _;refine Res.to (Res.bind (y:=0) (k:=0) jha ?_) rfl (by omega);intro hi r _;refine Res.to (zb.bind (y:=0) (k:=0) qr ?_) (by rw [jfc];rfl) (by omega);intro r _;exact Res.ret
 split
 ·rename_i h;refine Res.to (Res.after (yg h) (Res.bind (y:=0) (k:=0) y8 ?_)) rfl (by omega);intro x r _;refine Res.to (zb.bind (y:=0) (k:=0) qr ?_) (by rw [jmh];rfl) (by omega);intro r _;refine Res.to (Res.bind (y:=0) (k:=0) jf_ ?_) rfl (by omega);intro v r _;refine Res.to (zb.bind (y:=0) (k:=0) jga ?_) rfl (by omega);intro r _;refine Res.to (Res.bind (y:=0) (k:=0) jf9 ?_) rfl (by omega);intro o r _;refine Res.to (Res.bind (y:=0) (k:=0) (jfk _ r) ?_) rfl (by omega);intro l r _;refine Res.to (zb.bind (y:=0) (k:=0) qr ?_) (by rw [jfc];rfl) (by omega);intro r _;exact Res.ret
 split
 ·rename_i w h;have hw:∃ u,wordNext ts=some u:=by
   cases e:wordNext ts with
   | none=>rw [e] at h;cases h
   | some u=>exact ⟨u,rfl⟩
  obtain ⟨u,hu⟩:=hw;refine Res.to (Res.after (jml F hu) (Res.bind (y:=sw ";" + 0) (k:=0) (F.expr _) ?_)) (by rw [jfc];rfl) (by omega);intro e r _;refine Res.to (zb.bind (y:=0) (k:=0) qr ?_) rfl (by omega);intro r _;exact Res.ret
 ·exact Res.halt
end
theorem w8:∀ n,jw9 n
 | 0=>j11
 | n + 1=>by
  have F:=w8 n;exact ⟨juo F,jun F,jr2 F,jr0 F,jpb F,jum F,jpc F,jo_ F,jr1 F,jj9 F,jme F,jr3 F,jj8 F,jk5 F⟩
end Cell
end
section
set_option autoImplicit false
namespace Cell
open Vanbka
theorem jze{t:Tok}(h:opening t.lex=true):bw t=1:=by unfold bw;rw [if_pos h]
theorem jwv{h:Int}:∀ {c r:List Tok},tooDeepAt h (c ++ r)=none->tooDeepAt (h + bal c) r=none:=by
 intro c;induction c generalizing h with
 | nil=>intro r q;simpa [bal] using q
 | cons t c ih =>
  intro r q;rw [List.cons_append,tooDeepAt] at q;have e:bal (t::c)=bw t + bal c:=rfl
  rw [e];split at q
  ·rename_i o;split at q
   ·cases q
   ·have:=ih q;rw [jze o,show h + (1 + bal c)=h + 1 + bal c by omega];exact this
  ·rename_i o;split at q
   ·rename_i cl;have:=ih q
    have z:bw t = -1:=by unfold bw;rw [if_neg o,if_pos cl]
    rw [z,show h + (-1 + bal c)=h - 1 + bal c by omega];exact this
   ·rename_i cl;have z:bw t=0:=by unfold bw;rw [if_neg o,if_neg cl]
    rw [z,show h + (0 + bal c)=h + bal c by omega];exact ih q
theorem Con.deep{h:Int}{ts r:List Tok}{z:Int}{m:Nat}(c:Con ts r z m)(q:tooDeepAt h ts=none):tooDeepAt (h + z) r=none:=by
 obtain ⟨p,rfl,rfl,_⟩:=c;exact jwv q
theorem jb6{h:Int}{t:Tok}{r:List Tok}(o:opening t.lex=true)(q:tooDeepAt h (t::r)=none):h < 24:=by
 rw [tooDeepAt,if_pos o] at q;split at q
 ·cases q
 ·omega
end Cell
end
section
set_option autoImplicit false
namespace Cell
open Vanbka
def skip:Bool->Bytes->Nat
 | _,[]=>0
 | cm,c::r=>if c=10 then skip false r + 1 else if c=35 then skip true r + 1 else if c≠32/\cm=false then 0 else skip cm r + 1
theorem jfi:∀ (cm:Bool) (t:Bytes),skip cm t<=t.length
 | _,[]=>Nat.le_refl _
 | cm,c::r=>by
  have h1:=jfi false r;have h2:=jfi true r
  have h3:=jfi cm r;rw [skip,List.length_cons]
  repeat' split
  all_goals omega
theorem jed:∀ (t:Bytes) (cm:Bool),t.drop (skip cm t)=[]\/∃ c r,t.drop (skip cm t)=c::r/\c≠10/\c≠32/\c≠35
 | [],_=>.inl rfl
 | c::r,cm=>by
  rw [skip];split
  ·rw [List.drop_succ_cons];exact jed r false
  split
  ·rw [List.drop_succ_cons];exact jed r true
  split
  ·rename_i h1 h2 h3;exact .inr ⟨c,r,rfl,h1,h3.1,h2⟩
  ·rw [List.drop_succ_cons];exact jed r cm
theorem jdc{t:Bytes}{l:Lex}{k:Nat}(h:lexAt t=some (l,k)):1<=k/\k<=t.length:=by
 have tw:∀ (p:UInt8->Bool) (u:Bytes),(u.takeWhile p).length<=u.length:=λp u=>by
  have:=List.takeWhile_prefix p (l:=u);exact this.length_le
 have qf:∀ (u:Bytes) (x:Bytes×Nat),quotedFrom u=some x->x.2<=u.length:=by
  intro u;induction u using quotedFrom.induct <;> intro x hx <;> simp only [quotedFrom,Option.map_eq_some_iff,Option.some.injEq,reduceCtorEq] at hx
  all_goals first
   | (subst hx;simp)
   | (obtain ⟨y,hy,rfl⟩:=hx;rename_i ih _ ;have:=ih _ hy;simp only [List.length_cons];omega)
   | (obtain ⟨y,hy,rfl⟩:=hx;rename_i ih;have:=ih _ hy;simp only [List.length_cons];omega)
   | skip
 unfold lexAt at h;split at h
 ·cases h
 ·rename_i c r;split at h
  ·rename_i hl;dsimp only at h;split at h
   ·cases h;have hw:wordByte c=true:=by unfold wordByte;rw [hl];rfl
    refine ⟨?_,tw _ _⟩;rw [List.takeWhile_cons,if_pos hw,List.length_cons];omega
   ·cases h
  split at h
  ·rename_i hd;dsimp only at h;split at h
   ·cases h;refine ⟨?_,tw _ _⟩;rw [List.takeWhile_cons,if_pos hd,List.length_cons];omega
   ·cases h
  split at h
  ·cases e:quotedFrom r with
   | none=>rw [e] at h;cases h
   | some x =>
    rw [e] at h;cases h;have:=qf r x e
    rw [List.length_cons];omega
  split at h
  ·rename_i hc;cases h;refine ⟨by omega,?_⟩;have hm:(c::r).take 2∈doubleSigns:=by simpa using hc
   have:∀ s∈doubleSigns,s.length=2:=by decide
   have:=this _ hm;rw [List.length_take] at this;omega
  split at h
  ·cases h;rw [List.length_cons];omega
  ·cases h
end Cell
end
section
set_option autoImplicit false
namespace Cell
open Vanbka
theorem jcw:∀ (n m p:Nat) (t:Bytes),t.length < n->t.length < m->tokensFrom n p t=tokensFrom m p t:=by
 intro n;induction n with
 | zero=>intro m p t h;omega
 | succ n ih =>
  intro m p t h1 h2;obtain ⟨m,rfl⟩:∃ k,m=k + 1:=⟨m - 1,by omega⟩
  cases t with
  | nil=>rfl
  | cons c r =>
   rw [List.length_cons] at h1 h2;rw [tokensFrom,tokensFrom];split
   ·exact ih m (p + 1) r (by omega) (by omega)
   split
   ·rename_i hb hh;dsimp only;have hk:1<=((c::r).takeWhile λx=>x != 10).length:=by
     have hc:c=35:=by simpa using hh
     subst hc;rw [List.takeWhile_cons,if_pos (by decide),List.length_cons];omega
    have hl:((c::r).drop ((c::r).takeWhile λx=>x != 10).length).length < n:=by rw [List.length_drop,List.length_cons];omega
    have hl2:((c::r).drop ((c::r).takeWhile λx=>x != 10).length).length < m:=by rw [List.length_drop,List.length_cons];omega
    exact ih m _ _ hl hl2
   ·cases e:lexAt (c::r) with
    | none=>rfl
    | some x =>
     obtain ⟨l,k⟩:=x;dsimp only;have hk:=jdc e
     rw [ih m (p + k) ((c::r).drop k) (by rw [List.length_drop,List.length_cons];omega) (by rw [List.length_drop,List.length_cons];omega)]
def zx(t:Bytes)(q:Nat):Except Nat (List Tok):=tokensFrom (t.length + 1) q (t.drop q)
theorem jsp(t:Bytes):tokens t=zx t 0:=rfl
theorem jsq{t:Bytes}{q:Nat}(h:t.length<=q):zx t q = .ok []:=by
 unfold zx;rw [List.drop_eq_nil_of_le h];rfl
theorem drop_one{t r:Bytes}{q:Nat}{c:UInt8}(h:t.drop q=c::r):t.drop (q + 1)=r/\q < t.length:=by
 refine ⟨?_,?_⟩
 ·rw [<- List.drop_drop,h];rfl
 ·rcases Nat.lt_or_ge q t.length with z | z
  ·exact z
  ·rw [List.drop_eq_nil_of_le z] at h;cases h
theorem jog:∀ (r:Bytes),skip true r=(r.takeWhile λx=>x != 10).length + skip false (r.drop (r.takeWhile λx=>x != 10).length):=by
 intro r;induction r with
 | nil=>rfl
 | cons c r ih =>
  rw [List.takeWhile_cons];by_cases hc:c=10
  ·subst hc;rw [if_neg (by decide)];simp only [List.length_nil,List.drop_zero,Nat.zero_add];rw [skip,if_pos rfl,skip,if_pos rfl]
  ·have hb:(c != 10)=true:=by simpa using hc
   rw [if_pos hb,List.length_cons,List.drop_succ_cons,skip,if_neg hc];split
   ·rw [ih];omega
   ·rw [if_neg (by simp),ih];omega
theorem jqj(t:Bytes):∀ (n q:Nat),t.length - q<=n->zx t q=zx t (q + skip false (t.drop q)):=by
 intro n;induction n with
 | zero =>
  intro q h;rw [List.drop_eq_nil_of_le (show t.length<=q by omega)];rfl
 | succ n ih =>
  intro q h;cases e:t.drop q with
  | nil=>rfl
  | cons c r =>
   obtain ⟨h1,h2⟩:=drop_one e;have e0:zx t q=tokensFrom (t.length + 1) q (c::r):=by unfold zx;rw [e]
   have lr:r.length + 1 + q=t.length:=by
    have:=congrArg List.length e;rw [List.length_drop,List.length_cons] at this;omega
   rw [skip];split
   ·rename_i hc;subst hc;rw [e0,tokensFrom,if_pos (by decide),jcw _ (t.length + 1) (q + 1) r (by omega) (by omega)];have:tokensFrom (t.length + 1) (q + 1) r=zx t (q + 1):=by unfold zx;rw [h1]
    rw [this,ih (q + 1) (by omega),h1]
    congr 1
    omega
   split
   ·rename_i hc;subst hc;rw [e0,tokensFrom,if_neg (by decide),if_pos (by decide)];dsimp only;have hk:(((35:UInt8)::r).takeWhile λx=>x != 10).length=(r.takeWhile λx=>x != 10).length + 1:=by
     rw [List.takeWhile_cons,if_pos (by decide),List.length_cons]
    have hd:((35:UInt8)::r).drop (((35:UInt8)::r).takeWhile λx=>x != 10).length=t.drop (q + ((r.takeWhile λx=>x != 10).length + 1)):=by
     rw [hk,<- e,List.drop_drop]
    rw [jcw _ (t.length + 1) _ _ (by rw [hk,List.drop_succ_cons,List.length_drop];omega) (by rw [hk,List.drop_succ_cons,List.length_drop];omega),hd,hk];have:tokensFrom (t.length + 1) (q + ((r.takeWhile λx=>x != 10).length + 1)) (t.drop (q + ((r.takeWhile λx=>x != 10).length + 1)))=zx t (q + ((r.takeWhile λx=>x != 10).length + 1)):=rfl
    rw [this,ih _ (by omega)];have hd2:t.drop (q + ((r.takeWhile λx=>x != 10).length + 1))=r.drop (r.takeWhile λx=>x != 10).length:=by
     rw [<- hd,hk,List.drop_succ_cons]
    rw [hd2,jog r]
    congr 1
    omega
   split
   ·rfl
   ·rename_i h3 h4 h5;have hb:blank c=true:=by
     unfold blank;by_cases z:c=32
     ·subst z;decide
     ·exact absurd ⟨z,rfl⟩ h5
    rw [e0,tokensFrom,if_pos hb,jcw _ (t.length + 1) (q + 1) r (by omega) (by omega)];have:tokensFrom (t.length + 1) (q + 1) r=zx t (q + 1):=by unfold zx;rw [h1]
    rw [this,ih (q + 1) (by omega),h1]
    congr 1
    omega
theorem jjc(t:Bytes)(q:Nat):zx t q=zx t (q + skip false (t.drop q)):=jqj t _ q (Nat.le_refl _)
theorem jqi{t r:Bytes}{q:Nat}{c:UInt8}(e:t.drop q=c::r)(h1:c≠10)(h2:c≠32)(h3:c≠35) :
  zx t q=match lexAt (t.drop q) with
   | none=>.error q
   | some (l,k)=>match zx t (q + k) with
    | .error z=>.error z
    | .ok ts=>.ok ({ lex:=l,place:=q,len:=k }::ts):=by
 have hb:¬ blank c=true:=by unfold blank;simp [h1,h2]
 have hh:¬ (c == 35)=true:=by simpa using h3
 have e0:zx t q=tokensFrom (t.length + 1) q (c::r):=by unfold zx;rw [e]
 rw [e0,tokensFrom,if_neg hb,if_neg hh,e];cases el:lexAt (c::r) with
 | none=>rfl
 | some x =>
  obtain ⟨l,k⟩:=x;dsimp only;have hk:=jdc el
  have lr:r.length + 1 + q=t.length:=by
   have:=congrArg List.length e;rw [List.length_drop,List.length_cons] at this;have:=(drop_one e).2
   omega
  rw [jcw _ (t.length + 1) (q + k) ((c::r).drop k) (by rw [List.length_drop,List.length_cons];omega) (by rw [List.length_drop,List.length_cons];omega)];have:(c::r).drop k=t.drop (q + k):=by rw [<- e,List.drop_drop]
  rw [this];rfl
end Cell
end
section
set_option maxRecDepth 100000
set_option maxHeartbeats 4000000
namespace Prg
open PySem L2
def top(i:Nat):PySem.Stmt:=PySem.Challenge.pw_celltexts_s08_splice.main.body.getD i (.Pass ⟨0,0,0,0⟩)
abbrev jae:PySem.Stmt:=jat (top 6) 0
abbrev jes:PySem.Stmt:=top 12
abbrev ja5:PySem.Stmt:=jat (top 13) 0
abbrev vq:PySem.Stmt:=jat (top 21) 0
abbrev jqu:PySem.Stmt:=jat (top 21) 1
abbrev je1:PySem.Stmt:=jat (top 21) 2
abbrev jqw:PySem.Stmt:=jat (top 21) 3
abbrev je5:PySem.Stmt:=jat (top 21) 4
abbrev jks:PySem.Stmt:=jat (top 21) 5
abbrev jqt:PySem.Stmt:=jat (top 21) 6
abbrev jbh:PySem.Stmt:=jat (top 67) 0
abbrev je4:PySem.Stmt:=top 68
abbrev jf6:PySem.Stmt:=top 69
abbrev jg8:PySem.Stmt:=top 71
abbrev jg_:PySem.Stmt:=top 72
abbrev jiq:PySem.Stmt:=top 73
abbrev je2:PySem.Stmt:=top 74
abbrev jf8:PySem.Stmt:=top 75
abbrev jir:PySem.Stmt:=top 76
abbrev jey:PySem.Stmt:=top 77
abbrev jf7:PySem.Stmt:=top 78
abbrev jis:PySem.Stmt:=top 79
def CI(mg:Str->Option Value)(x:Str)(i:Int):Prop:=∃ t,mg x=some (.int i t)
theorem qx{X:Cx}{x:Str}{i:Int}{pos:Pos}(c:CI X.mg x i)(hg:Gl X x)(hd:(x == ("__debug__":Str))=false:=by decide):PE X (.Name x pos) (tC (.int i)):=by
 obtain ⟨t,h⟩:=c;exact jkw hg h ⟨t,rfl⟩ hd
theorem jt8:typeLookup (.type "Exception") "number"=pure none:=by rw [typeLookup_type,builtinLookup_eq_fast];kernel_rfl
theorem jy1:typeLookup (.type "Exception") "told"=pure none:=by rw [typeLookup_type,builtinLookup_eq_fast];kernel_rfl
section
variable{P:Program}{w:World}{K:PySem.W.Frag}{mg:Str->Option Value}{base:Heap}{f CF fI:Addr}{fd fdI:FuncData}
abbrev xfs(n p:Int):List (Str×V):=[("number",.int n),("told",.int p)]
def jva(CF:Addr):Sp:=λvs H Q _=>∃ x n p,vs=[.ref x,.int n,.int p]/\H x=some (XO CF none x)/\
 ∀ dx,H dx=none->dx≠x->Q .non (upd (upd (upd H x (XO CF (some dx) x)) dx (XD dx [("number",.int n)])) dx (XD dx (xfs n p)))
theorem j2g:jv ["self", "number", "told"] ["self", "number", "told"] (ji jae):=⟨rfl,rfl,rfl,by decide +kernel,rfl,by decide +kernel,by decide +kernel⟩
theorem j1t(F:Fun K "__init__" "Fault.__init__" jae f fd)(q:jb8 K CF f ["number", "told"]=true):xh P w K mg base (CXF P w) 1 f fd ["self", "number", "told"] (jva CF):=by
 refine F.okF (k:=0) j2g (λvs H Q E h=>?_) (λcdv A outer s H vs Q E hr h=>?_)
 ·obtain ⟨x,n,p,rfl,_⟩:=h;rfl
 obtain ⟨x,n,p,rfl,hx,k⟩:=h;refine ⟨_,jc (jvo q (.head _) jt8 (pv 0) (pv 1) rfl) (je (jvn q (.tail _ (.head _)) jy1 (pv 0) (pv 2) rfl)),?_⟩;refine ⟨_,rfl,_,rfl,x,rfl,hx,λdx n1 n2=>?_⟩;exact ⟨_,rfl,_,rfl,x,dx,_,rfl,by rw [jm (Ne.symm n2),jd],jd,(by show 1<=1000;decide),k dx n1 n2⟩
def Err(CF:Addr)(E:XK)(n p:Int):Prop:=∀ dx H',H' dx=some (XD dx (xfs n p))->E (.ref CF) (some dx) H'
theorem yx{E:XK}{H1:Hp}{n p:Int}(hE:Err CF E n p):([V.int n,.int p]:List V).length<=1000/\∀ x,H1 x=none->
  jva CF (.ref x::[.int n,.int p]) (upd H1 x (XO CF none x)) (λv H2=>v = .non/\∃ dx,H2 x=some (XO CF (some dx) x)/\E (.ref CF) (some dx) (unt H2 x)) E:=by
 refine ⟨by show 2<=1000;decide,λx hx=>⟨x,n,p,rfl,jd,λdx n1 n2=>⟨rfl,dx,?_,?_⟩⟩⟩
 ·rw [jm (Ne.symm n2),jm (Ne.symm n2),jd]
 ·refine hE dx _ ?_;rw [jmo n2,jd]
structure vt(K:PySem.W.Frag)(mg:Str->Option Value)(CF fI:Addr)(fdI:FuncData):Prop where
 x:jb8 K CF fI ["number", "told"]=true
 F:Fun K "__init__" "Fault.__init__" jae fI fdI
 b:zk K fdI ["self", "number", "told"] []
 m:mg "Fault"=some (.ref CF)
 kp:PySem.W.keepIn K (.ref CF)=true
theorem vz{N:List Str}{qual:Str}{scope:Scope}{f:Addr}{cd:Value}{A:Around}{outer:List Env}{s:Shared}{H:Hp}{E:XK}{a b:PySem.Expr}{ta tb:TE}{np cpos pos:Pos}(T:vt K mg CF fI fdI)
  (hr:xu 2 (xt (CXF P w) P w K mg base N qual scope f cd A outer s H E).A) (hg:Gl (xt (CXF P w) P w K mg base N qual scope f cd A outer s H E) "Fault") (ha:PA (xt (CXF P w) P w K mg base N qual scope f cd A outer s H E) [a,b] (qj ta (qj tb xc)))
  (he:starEach [a,b] (xt (CXF P w) P w K mg base N qual scope f cd A outer s H E).env=(false,eval a (xt (CXF P w) P w K mg base N qual scope f cd A outer s H E).env)::starEach [b] (xt (CXF P w) P w K mg base N qual scope f cd A outer s H E).env:=by rfl)
  (hpl:(backTo cpos (starEach [b] (xt (CXF P w) P w K mg base N qual scope f cd A outer s H E).env)).any (·.1)=false:=by rfl) :
  PS (xt (CXF P w) P w K mg base N qual scope f cd A outer s H E) (.Raise (some (.Call (.Name "Fault" np) [a,b] [] cpos)) none pos) (jst CF (jva CF) E (qj ta (qj tb xc))) :=
 jtn T.x (j1t T.F T.x) hr hg T.m T.kp T.b wu jz8 rfl rfl ha (by decide) he hpl
def jfh:Sp:=λvs H Q _=>∃ i,vs=[.int i]/\Q (.bl (decide (48<=i) && decide (i<=57))) H
theorem jx5:jv ["byte"] ["byte"] (ji jiq):=⟨rfl,rfl,rfl,by decide +kernel,rfl,by decide +kernel,by decide +kernel⟩
theorem jv8(F:Fun K "is_digit" "is_digit" jiq f fd)(c1:CI mg "ZERO" 48)(c2:CI mg "NINE" 57):xh P w K mg base (CXF P w) 1 f fd ["byte"] jfh:=by
 refine F.okF (k:=0) jx5 (λvs H Q E h=>?_) (λcdv A outer s H vs Q E hr h=>?_)
 ·obtain ⟨i,rfl,_⟩:=h;rfl
 obtain ⟨i,rfl,q⟩:=h;refine ⟨_,je (jp (jiu jdy jdy (qx c1 rfl) (pv 0) (qx c2 rfl))),?_⟩;refine ⟨_,rfl,_,_,rfl,rfl,_,rfl,?_⟩;by_cases h:48<=i
 ·rw [decide_eq_true h,Bool.true_and] at q;rw [decide_eq_true h,if_pos rfl];exact ⟨_,_,rfl,rfl,q⟩
 ·rw [decide_eq_false h,Bool.false_and] at q;rw [decide_eq_false h,if_neg Bool.false_ne_true];exact q
end
open Vanbka (Bytes)
def vb(t:Bytes):List V:=t.map λc=>V.int (c.toNat:Int)
theorem xp(t:Bytes):(vb t).length=t.length:=List.length_map _
theorem wq{t:Bytes}{q:Nat}{c:UInt8}(h:t[q]? = some c):atI (vb t) (q:Int)=some (.int (c.toNat:Int)):=jaw (by unfold vb;rw [List.getElem?_map,h];rfl)
theorem ji3{t r:Bytes}{q:Nat}{c:UInt8}(h:t.drop q=c::r):t[q]? = some c:=by
 have:=congrArg (λl=>l[0]?) h;simpa using this
theorem ja_{t:Bytes}{q:Nat}(h:q < t.length):∃ c r,t.drop q=c::r/\t[q]? = some c/\t.drop (q + 1)=r:=by
 refine ⟨t[q],t.drop (q + 1),List.drop_eq_getElem_cons h,List.getElem?_eq_getElem h,rfl⟩
theorem jut{a b c:Int}{Q:V->Prop}(q:Q (.bl (decide (a<=b) && decide (b<=c)))):if decide (a<=b)=true then (∃ i j,V.int b = .int i/\V.int c = .int j/\Q (.bl (decide (i<=j)))) else Q (.bl false):=by
 by_cases h:a<=b
 ·rw [decide_eq_true h,Bool.true_and] at q;rw [decide_eq_true h,if_pos rfl];exact ⟨_,_,rfl,rfl,q⟩
 ·rw [decide_eq_false h,Bool.false_and] at q;rw [decide_eq_false h,if_neg Bool.false_ne_true];exact q
theorem orQ{x:Bool}{T R:Prop}(h1:x=true->T)(h2:x=false->R):∃ c,V.bl x = .bl c/\if c=true then T else R:=by
 refine ⟨x,rfl,?_⟩;cases x with
 | true=>rw [if_pos rfl];exact h1 rfl
 | false=>rw [if_neg Bool.false_ne_true];exact h2 rfl
theorem yp{c:UInt8}{n:Nat}(h:n < 256):((c.toNat:Int)=(n:Int))↔c=UInt8.ofNat n:=by
 constructor
 ·intro e;have e':c.toNat=n:=by omega
  apply UInt8.toNat_inj.mp;rw [UInt8.toNat_ofNat',e'];exact (Nat.mod_eq_of_lt h).symm
 ·intro e;subst e;rw [UInt8.toNat_ofNat'];have:=Nat.mod_eq_of_lt h
  simp only [Nat.reducePow] at *
  omega
section
variable{P:Program}{w:World}{K:PySem.W.Frag}{mg:Str->Option Value}{base:Heap}{f g CF fI:Addr}{fd gd fdI:FuncData}
def jfu(i:Int):Bool:=(decide (65<=i) && decide (i<=90)) || ((decide (97<=i) && decide (i<=122)) || (decide (i=95) || (decide (48<=i) && decide (i<=57))))
def jhu:Sp:=λvs H Q _=>∃ i,vs=[.int i]/\Q (.bl (jfu i)) H
theorem jx0:jv ["byte"] ["byte"] (ji je2):=⟨rfl,rfl,rfl,by decide +kernel,rfl,by decide +kernel,by decide +kernel⟩
theorem jvy(F:Fun K "is_word_byte" "is_word_byte" je2 f fd)(G:xh P w K mg base (CXF P w) 1 g gd ["byte"] jfh)(bG:zk K gd ["byte"] [])(kG:PySem.W.keepIn K (.ref g)=true)(mG:mg "is_digit"=some (.ref g))
  (c1:CI mg "UNDERSCORE" 95):xh P w K mg base (CXF P w) 2 f fd ["byte"] jhu:=by
 refine F.okF (k:=1) jx0 (λvs H Q E h=>?_) (λcdv A outer s H vs Q E hr h=>?_)
 ·obtain ⟨i,rfl,_⟩:=h;rfl
 obtain ⟨i,rfl,q⟩:=h;refine ⟨_,je (jp (jq2 (jiu jdy jdy qd (pv 0) qd) (jq2 (jiu jdy jdy qd (pv 0) qd) (jq2 (jh1 xi (pv 0) (qx c1 rfl) (j6 _)) (jtr (vf G hr rfl mG kG bG .nil wu (ja (pv 0) jb))))))),?_⟩;refine ⟨_,rfl,_,_,rfl,rfl,_,rfl,jut (Q:=λx=>∃ c,x=V.bl c/\if c=true then Q (.bl true) H else _) (orQ (λh1=>?_) (λh1=>?_))⟩
 ·unfold jfu at q;rw [h1,Bool.true_or] at q;exact q
 refine ⟨_,rfl,_,_,rfl,rfl,_,rfl,jut (Q:=λx=>∃ c,x=V.bl c/\if c=true then Q (.bl true) H else _) (orQ (λh2=>?_) (λh2=>?_))⟩
 ·unfold jfu at q;rw [h1,h2,Bool.false_or,Bool.true_or] at q;exact q
 refine ⟨_,rfl,rfl,orQ (λh3=>?_) (λh3=>?_)⟩
 ·have e:i=95:=by have:=of_decide_eq_true h3;injection this
  unfold jfu at q;rw [h1,h2,decide_eq_true e,Bool.false_or,Bool.false_or,Bool.true_or] at q;exact q
 ·have e:¬ i=95:=λz=>by subst z;exact absurd h3 (by simp)
  unfold jfu at q;rw [h1,h2,decide_eq_false e,Bool.false_or,Bool.false_or,Bool.false_or] at q;exact ⟨_,rfl,i,rfl,q⟩
def jmw(K:PySem.W.Frag):Sp:=λvs H Q _=>∃ (a:Addr) (t:Bytes) (p:Nat),vs=[.ref a,.int p]/\SqL K H a (vb t)/\p<=t.length/\Q (.int ((p + Cell.skip false (t.drop p):Nat):Int)) H
theorem jtc:jv ["text", "place", "in_comment", "byte"] ["text", "place"] (ji jg8):=⟨rfl,rfl,rfl,by decide +kernel,rfl,by decide +kernel,by decide +kernel⟩
theorem jyo(F:Fun K "pass_over" "pass_over" jg8 f fd)(ml:mg "len"=none)(c1:CI mg "LINE_FEED" 10)(c2:CI mg "HASH" 35)(c3:CI mg "BLANK" 32):xh P w K mg base (CXF P w) 1 f fd ["text", "place"] (jmw K):=by
 refine F.okF (k:=0) jtc (λvs H Q E h=>?_) (λcdv A outer s H vs Q E hr h=>?_)
 ·obtain ⟨a,t,p,rfl,_⟩:=h;rfl
 obtain ⟨a,t,p,rfl,hS,hp,q⟩:=h;have nd:=jtc.nd
 refine ⟨_,jc (ju (i:=2) nd rfl (Or.inl rfl) jq3)
  (jc (vh jag (js jdx (pv 1) (yt x9 rfl ml PySem.boot_len (ja (pv 0) jb)) (j6 _))
   (jc (ju (i:=3) nd rfl (Or.inl rfl) (xo qv (pv 0) (pv 1) (λ_ _=>rfl)))
   (jc (qh (js xi (pv 3) (qx c1 rfl) (j6 _)) (je (ju (i:=2) nd rfl (Or.inl rfl) jq3))
    (je (qh (js xi (pv 3) (qx c2 rfl) (j6 _)) (je (ju (i:=2) nd rfl (Or.inl rfl) jq3))
     (je (qh (PW.pt (jcc (js jdw (pv 3) (qx c3 rfl) (j6 _)) (jb4 (jnp (jcd (pv 2)))))) (je (jp (pv 1))) jy)))))
   (je (jc_ (i:=1) nd rfl (Or.inl rfl) qd jfo)))))
  (je (jp (pv 1)))),?_⟩
 refine ⟨λm σ H'=>H'=H/\∃ (j:Nat) (cm:Bool) (v3:Option V),σ=[some (.ref a),some (.int (j:Int)),some (.bl cm),v3]/\m=t.length - j/\j<=t.length/\p + Cell.skip false (t.drop p)=j + Cell.skip cm (t.drop j),
  ⟨_,rfl,p,false,none,rfl,rfl,hp,rfl⟩,?_⟩
 rintro m σ H' ⟨rfl,j,cm,v3,rfl,rfl,hj,inv⟩;refine ⟨_,rfl,_,rfl,a,_,rfl,.inl hS,_,_,rfl,rfl,_,rfl,qb (λc=>?_) (λc=>?_)⟩
 ·have hlt:j < t.length:=by
   have:=of_decide_eq_true c;rw [xp] at this;omega
  obtain ⟨b,r,hd,hb,hr'⟩:=ja_ hlt;refine ⟨λσ' H2=>∃ m',m' < t.length - j/\(H2=H'/\∃ (j:Nat) (cm:Bool) (v3:Option V),σ'=[some (.ref a),some (.int (j:Int)),some (.bl cm),v3]/\m'=t.length - j/\j<=t.length/\p + Cell.skip false (t.drop p)=j + Cell.skip cm (t.drop j)),λ_ _ z=>z,?_⟩;refine ⟨_,rfl,_,rfl,a,_,_,_,rfl,rfl,hS,wq hb,?_⟩;have step:∀ cm',Cell.skip cm (t.drop j)=Cell.skip cm' (t.drop (j + 1)) + 1->∃ m',m' < t.length - j/\(H'=H'/\∃ (j':Nat) (cm2:Bool) (v3:Option V),([some (.ref a),some (.int ((j:Int) + 1)),some (.bl cm'),some (.int (b.toNat:Int))]:St)=[some (.ref a),some (.int (j':Int)),some (.bl cm2),v3]/\m'=t.length - j'/\j'<=t.length/\p + Cell.skip false (t.drop p)=j' + Cell.skip cm2 (t.drop j')):=by
   intro cm' e;exact ⟨t.length - (j + 1),by omega,rfl,j + 1,cm',_,rfl,rfl,by omega,by omega⟩
  rw [hd] at step;refine ⟨_,rfl,rfl,_,rfl,qb (λc1=>?_) (λc1=>?_)⟩
  ·have e:b=10:=(yp (n:=10) (by decide)).mp (by have:=of_decide_eq_true c1;injection this);refine ⟨_,rfl,_,_,rfl,rfl,step false ?_⟩;rw [hr',Cell.skip,if_pos e]
  have n1:¬ b=10:=λe=>c1 (decide_eq_true (by rw [(yp (n:=10) (by decide)).mpr e];rfl));refine ⟨_,rfl,rfl,_,rfl,qb (λc2=>?_) (λc2=>?_)⟩
  ·have e:b=35:=(yp (n:=35) (by decide)).mp (by have:=of_decide_eq_true c2;injection this);refine ⟨_,rfl,_,_,rfl,rfl,step true ?_⟩;rw [hr',Cell.skip,if_neg n1,if_pos e]
  have n2:¬ b=35:=λe=>c2 (decide_eq_true (by rw [(yp (n:=35) (by decide)).mpr e];rfl));refine ⟨_,rfl,rfl,_,rfl,qb (λc3=>?_) (λc3=>?_)⟩
  ·have n3:b≠32:=λe=>by
    have:(V.int (b.toNat:Int))=V.int 32:=by rw [(yp (n:=32) (by decide)).mpr e];rfl
    rw [decide_eq_true this] at c3;cases c3
   refine ⟨_,rfl,_,rfl,qb (λc4=>?_) (λc4=>?_)⟩
   ·have ecm:cm=false:=by simpa using c4
    refine ⟨_,rfl,?_⟩;have:Cell.skip cm (t.drop j)=0:=by rw [hd,Cell.skip,if_neg n1,if_neg n2,if_pos ⟨n3,ecm⟩]
    rw [inv,this] at q;exact q
   ·have ecm:cm=true:=by simpa using c4
    refine ⟨_,rfl,_,_,rfl,rfl,step cm ?_⟩;rw [hr',Cell.skip,if_neg n1,if_neg n2,if_neg (λz=>by rw [ecm] at z;exact absurd z.2 (by decide))]
  ·have e:b=32:=(yp (n:=32) (by decide)).mp (by
    have:decide (V.int (b.toNat:Int)=V.int 32)=true:=by simpa using c3
    have:=of_decide_eq_true this;injection this)
   refine qb (λz=>?_) (λ_=>?_)
   ·exact absurd z (by decide)
   ·refine ⟨_,rfl,_,_,rfl,rfl,step cm ?_⟩;rw [hr',Cell.skip,if_neg n1,if_neg n2,if_neg (λz=>z.1 e)]
 ·have e:j=t.length:=by
   have:¬ ((j:Int) < ((vb t).length:Int)):=λz=>c (decide_eq_true z);rw [xp] at this;omega
  refine ⟨_,rfl,?_⟩;have:Cell.skip cm (t.drop j)=0:=by rw [e,List.drop_length];rfl
  rw [inv,this] at q;exact q
end
open Vanbka (allowed)
theorem j08{a b c:Int}{R:Bool->Prop}(q:R (decide (a<=b) && decide (b<=c))):if decide (a<=b)=true then (∃ i j,V.int b = .int i/\V.int c = .int j/\∃ k,V.bl (decide (i<=j)) = .bl k/\R k) else ∃ k,V.bl false = .bl k/\R k:=by
 by_cases h:a<=b
 ·rw [decide_eq_true h,Bool.true_and] at q;rw [decide_eq_true h,if_pos rfl];exact ⟨_,_,rfl,rfl,_,rfl,q⟩
 ·rw [decide_eq_false h,Bool.false_and] at q;rw [decide_eq_false h,if_neg Bool.false_ne_true];exact ⟨_,rfl,q⟩
section
variable{P:Program}{w:World}{K:PySem.W.Frag}{mg:Str->Option Value}{base:Heap}{f g CF fI CT:Addr}{fd gd fdI:FuncData}
def jhs(i:Int):Bool:=decide (i=10) || (decide (32<=i) && decide (i<=126))
theorem jgr(c:UInt8):jhs (c.toNat:Int)=allowed c:=by
 unfold jhs allowed;have h1:decide ((c.toNat:Int)=10)=(c == 10):=by
  by_cases h:c=10
  ·subst h;decide
  ·have hne:¬ ((c.toNat:Int)=10):=λe=>h ((yp (n:=10) (by decide)).mp e);rw [decide_eq_false hne];exact (beq_eq_false_iff_ne.mpr h).symm
 have h2:decide ((32:Int)<=(c.toNat:Int))=decide ((32:UInt8)<=c):=by
  apply decide_eq_decide.mpr;rw [UInt8.le_iff_toNat_le];show (32:Int)<=_↔32<=c.toNat
  omega
 have h3:decide ((c.toNat:Int)<=126)=decide (c<=(126:UInt8)):=by
  apply decide_eq_decide.mpr;rw [UInt8.le_iff_toNat_le];show _<=(126:Int)↔c.toNat<=126
  omega
 rw [h1,h2,h3]
theorem jws{t:Bytes}{i:Nat}{c:UInt8}(h:∀ b∈t.take i,allowed b=true)(e:t[i]? = some c)(n:allowed c=false):t.findIdx? (λc => !allowed c)=some i:=by
 obtain ⟨hi,ec⟩:=List.getElem?_eq_some_iff.mp e;rw [List.findIdx?_eq_some_iff_getElem];refine ⟨hi,by rw [ec,n];rfl,λj hj=>?_⟩;have:t[j]∈t.take i:=by
  rw [List.mem_take_iff_getElem];exact ⟨j,by omega,rfl⟩
 rw [h _ this];simp
theorem jup{t:Bytes}(h:∀ b∈t,allowed b=true):t.findIdx? (λc => !allowed c)=none:=by
 rw [List.findIdx?_eq_none_iff];intro b hb;rw [h b hb];rfl
def jkq(K:PySem.W.Frag)(CF:Addr):Sp:=λvs H Q E=>∃ (a:Addr) (t:Bytes),vs=[.ref a]/\SqL K H a (vb t)/\match t.findIdx? (λc => !allowed c) with
 | some p=>Err CF E 1 (p:Int)
 | none=>∀ H',jh H H'->Q .non H'
theorem jpv:jv ["text", "place", "byte"] ["text"] (ji je4):=⟨rfl,rfl,rfl,by decide +kernel,rfl,by decide +kernel,by decide +kernel⟩
theorem jo{H:Hp}{p:Addr}(h:H p=none)(o:HO):jh H (upd H p o):=λb u q=>by rw [jm (qt q h)];exact q
theorem jv_(F:Fun K "check_bytes" "check_bytes" je4 f fd)(T:vt K mg CF fI fdI)(me:mg "enumerate"=none)(c1:CI mg "LINE_FEED" 10)(c2:CI mg "BLANK" 32)(c3:CI mg "LAST_ALLOWED" 126)(c4:CI mg "FORBIDDEN_BYTE" 1) :
  xh P w K mg base (CXF P w) 3 f fd ["text"] (jkq K CF):=by
 refine F.okF (k:=2) jpv (λvs H Q E h=>?_) (λcdv A outer s H vs Q E hr h=>?_)
 ·obtain ⟨a,t,rfl,_⟩:=h;rfl
 obtain ⟨a,t,rfl,hS,q⟩:=h;have nd:=jpv.nd
 refine ⟨_,je (jek jag rfl (jp0 rfl me (ja (pv 0) jb)) (jnt rfl (jcq (y_ (i:=1) nd rfl (Or.inl rfl)) (jcq (y_ (i:=2) nd rfl (Or.inl rfl)) jkv)))
  (je (qh (PW.pt (jcc (js jdw (pv 2) (qx c1 rfl) (j6 _)) (jb4 (jnp (jnq jdy jdy (qx c2 rfl) (pv 2) (qx c3 rfl)))))) (je (vz T hr rfl (ja (qx c4 rfl) (ja (pv 1) jb)))) jy))),?_⟩
 refine ⟨_,rfl,a,_,rfl,hS,λi m σ H'=>m=t.length - i/\i<=t.length/\jh H H'/\(∃ v1 v2,σ=[some (.ref a),v1,v2])/\∀ b∈t.take i,allowed b=true,⟨_,rfl,Nat.zero_le _,jh.refl H,⟨none,none,rfl⟩,λb hb=>by simp at hb⟩,?_⟩;rintro i m σ H' ⟨rfl,hi,sm,⟨v1,v2,rfl⟩,al⟩;have hS':=sm.seq hS
 by_cases hlt:i < t.length
 ·obtain ⟨c,r,hd,hc,_⟩:=ja_ hlt;have hx:(vb t)[i]? = some (.int (c.toNat:Int)):=by unfold vb;rw [List.getElem?_map,hc];rfl
  refine .inr ⟨⟨_,_,hS',hx⟩,λσ' H2=>∃ m',m' < t.length - i/\(m'=t.length - (i + 1)/\i + 1<=t.length/\jh H H2/\(∃ v1 v2,σ'=[some (.ref a),v1,v2])/\∀ b∈t.take (i + 1),allowed b=true),λ_ _ z=>z,?_⟩;rintro x H2 ⟨Tp,y,rfl,hT,rfl,hy⟩;have ey:=hy _ hS'
  rw [hx] at ey;cases ey;refine ⟨Tp,_,rfl,SqT.of jd,rfl,_,_,rfl,_,_,rfl,rfl,?_⟩;have sm2:jh H (upd H' Tp (.tup [.int (i:Nat),.int (c.toNat:Int)])):=sm.trans (jo hT _)
  have good:allowed c=true->∃ m',m' < t.length - i/\(m'=t.length - (i + 1)/\i + 1<=t.length/\jh H (upd H' Tp (.tup [.int (i:Nat),.int (c.toNat:Int)]))/\(∃ v1 v2,([some (.ref a),some (.int (i:Nat)),some (.int (c.toNat:Int))]:St)=[some (.ref a),v1,v2])/\∀ b∈t.take (i + 1),allowed b=true):=λhac =>
   ⟨_,by omega,rfl,hlt,sm2,⟨_,_,rfl⟩,λb hb=>by
    rw [List.take_add_one,hc] at hb;rcases List.mem_append.mp hb with z | z
    ·exact al b z
    ·have:b=c:=by simpa using z
     rw [this];exact hac⟩
  refine ⟨_,rfl,rfl,_,rfl,qb (λk1=>?_) (λk1=>?_)⟩
  ·have n1:¬ (c.toNat:Int)=10:=λe=>by
    rw [e] at k1;exact absurd k1 (by decide)
   refine ⟨_,rfl,_,_,rfl,rfl,_,rfl,j08 (qb (λk2=>?_) (λk2=>?_))⟩
   ·have bad:allowed c=false:=by
     rw [<- jgr];unfold jhs;rw [decide_eq_false n1,Bool.false_or];exact (Bool.not_eq_true' _).mp k2
    rw [jws al hc bad] at q;exact ⟨_,rfl,yx q⟩
   ·refine good ?_;rw [<- jgr];unfold jhs;rw [decide_eq_false n1,Bool.false_or];simpa using k2
  ·have e:(c.toNat:Int)=10:=by
    have:decide (V.int (c.toNat:Int)=V.int 10)=true:=by simpa using k1
    have:=of_decide_eq_true this;injection this
   refine qb (λz=>?_) (λ_=>?_)
   ·exact absurd z (by decide)
   ·refine good ?_;rw [<- jgr];unfold jhs;rw [decide_eq_true e,Bool.true_or]
 ·have e:i=t.length:=by omega
  subst e;rw [List.take_length] at al;rw [jup al] at q;exact .inl ⟨⟨_,hS',by rw [xp];exact Nat.le_refl _⟩,q H' sm⟩
end
open Vanbka (Lex reserved lexAt digit letter wordByte natOf)
def xm(x:Bytes):Str:=⟨(x.map (·.toNat)).toArray⟩
def jx:Lex->Str
 | .word x=>if reserved.contains x then xm x else "NAME"
 | .num _ => "NUMBER"
 | .quoted _ => "QUOTED"
 | .sign x=>if x == [37] then "percent" else xm x
def jd4(H:Hp):Lex->V->Prop
 | .word x,v=>if reserved.contains x then v = .non else ∃ a,v = .ref a/\H a=some (.lst (vb x))
 | .num n,v=>v = .int n
 | .quoted x,v=>∃ a,v = .ref a/\H a=some (.lst (vb x))
 | .sign _,v=>v = .non
theorem jd4.lists{H H':Hp}(s:∀ a us,H a=some (.lst us)->H' a=some (.lst us)){l:Lex}{v:V}(h:jd4 H l v):jd4 H' l v:=by
 cases l with
 | word x =>
  have h:if reserved.contains x then v = .non else ∃ a,v = .ref a/\H a=some (.lst (vb x)):=h
  show if reserved.contains x then v = .non else ∃ a,v = .ref a/\H' a=some (.lst (vb x))
  by_cases c:reserved.contains x=true
  ·rw [if_pos c] at h ⊢;exact h
  ·rw [if_neg c] at h ⊢;obtain ⟨a,e,q⟩:=h;exact ⟨a,e,s _ _ q⟩
 | num n=>exact h
 | quoted x =>
  obtain ⟨a,e,q⟩:=h;exact ⟨a,e,s _ _ q⟩
 | sign x=>exact h
theorem jd4.same{H H':Hp}(s:jh H H'){l:Lex}{v:V}(h:jd4 H l v):jd4 H' l v:=h.lists λ_ _ q=>s _ _ q
abbrev jdi(k:Str)(p e:Int)(v:V):List (Str×V):=[("kind",.str k),("place",.int p),("end",.int e),("value",v)]
def vm(CT:Addr)(H:Hp)(x:Addr)(t:Vanbka.Tok):Prop:=∃ dx v,H x=some (.ins CT dx (jdi (jx t.lex) t.place ((t.place + t.len:Nat):Int) v))/\jd4 H t.lex v
theorem vm.same{CT:Addr}{H H':Hp}(s:jh H H'){x:Addr}{t:Vanbka.Tok}(h:vm CT H x t):vm CT H' x t:=by
 obtain ⟨dx,v,e,q⟩:=h;exact ⟨dx,v,s _ _ e,q.same s⟩
abbrev noH:Hp:=λ_=>none
def Cut(T H H':Hp):Hp:=λb=>match T b with
 | some o=>some o
 | none=>match H b with
  | none=>H' b
  | some _=>none
theorem j9{T H H':Hp}{b:Addr}{o:HO}(t:T b=none)(h:H b=none)(e:H' b=some o):Cut T H H' b=some o:=by
 unfold Cut;rw [t,h];exact e
theorem jh9{T H H':Hp}{b:Addr}{o:HO}(t:T b=some o):Cut T H H' b=some o:=by
 unfold Cut;rw [t]
theorem jbd{T H H':Hp}{b:Addr}{o:HO}(h:Cut T H H' b=some o):T b=some o\/(T b=none/\H b=none/\H' b=some o):=by
 unfold Cut at h;cases ht:T b with
 | some u=>rw [ht] at h;exact .inl h
 | none =>
  rw [ht] at h;cases hh:H b with
  | none=>rw [hh] at h;exact .inr ⟨rfl,rfl,h⟩
  | some u=>rw [hh] at h;cases h
theorem jk{H H1:Hp}{x:Addr}(s:jh H H1)(n:H1 x=none):H x=none:=by
 cases e:H x with
 | none=>rfl
 | some o=>rw [s _ _ e] at n;cases n
section
variable{P:Program}{w:World}{K:PySem.W.Frag}{mg:Str->Option Value}{base:Heap}{f g CF fI CT tI:Addr}{fd gd fdI tdI:FuncData}
def But(x:Addr)(H H':Hp):Prop:=∀ b o,H b=some o->b≠x->H' b=some o
theorem But.same{x dx C:Addr}{H H1:Hp}(nx:H x=none)(nd:H dx=none)(k:But x (upd (upd H dx (.own x)) x (.ins C dx [])) H1):jh H H1:=jh.made nx nd k
def jzq(CT:Addr):Sp:=λvs H Q _=>∃ x dx k p e v,vs=[.ref x,.str k,.int p,.int e,v]/\H x=some (.ins CT dx [])/\∀ H',But x H H'->H' x=some (.ins CT dx (jdi k p e v))->Q .non H'
theorem j2d:jv ["self", "kind", "place", "end", "value"] ["self", "kind", "place", "end", "value"] (ji jbh):=⟨rfl,rfl,rfl,by decide +kernel,rfl,by decide +kernel,by decide +kernel⟩
structure zu(K:PySem.W.Frag)(mg:Str->Option Value)(x:Str)(C:Addr)(flds:List Str):Prop where
 cl:Cls K C
 no:∀ f∈flds,jdg K C f
 m:mg x=some (.ref C)
structure z5(K:PySem.W.Frag)(mg:Str->Option Value)(CT tI:Addr)(tdI:FuncData):Prop where
 c:zu K mg "Token" CT ["kind", "place", "end", "value"]
 make:Mk K CT tI
 F:Fun K "__init__" "Token.__init__" jbh tI tdI
 b:zk K tdI ["self", "kind", "place", "end", "value"] []
theorem jge(T:z5 K mg CT tI tdI):xh P w K mg base (CXF P w) 1 tI tdI ["self", "kind", "place", "end", "value"] (jzq CT):=by
 refine T.F.okF (k:=0) j2d (λvs H Q E h=>?_) (λcdv A outer s H vs Q E hr h=>?_)
 ·obtain ⟨x,dx,k,p,e,v,rfl,_⟩:=h;rfl
 obtain ⟨x,dx,k,p,e,v,rfl,hx,q⟩:=h;refine ⟨_,jc (vy (pv 0) (pv 1) rfl) (jc (vy (pv 0) (pv 2) rfl) (jc (vy (pv 0) (pv 3) rfl) (je (vy (pv 0) (pv 4) rfl)))),?_⟩;refine ⟨_,rfl,_,rfl,x,CT,dx,_,rfl,hx,T.c.cl,T.c.no _ (.head _),(by show 0 < 1000;decide),?_⟩;refine ⟨_,rfl,_,rfl,x,CT,dx,_,rfl,jd,T.c.cl,T.c.no _ (.tail _ (.head _)),(by show 1 < 1000;decide),?_⟩;refine ⟨_,rfl,_,rfl,x,CT,dx,_,rfl,jd,T.c.cl,T.c.no _ (.tail _ (.tail _ (.head _))),(by show 2 < 1000;decide),?_⟩;refine ⟨_,rfl,_,rfl,x,CT,dx,_,rfl,jd,T.c.cl,T.c.no _ (.tail _ (.tail _ (.tail _ (.head _)))),(by show 3 < 1000;decide),?_⟩;exact q _ (λb o hb ne=>by rw [jm ne,jm ne,jm ne,jm ne];exact hb) jd
def jad(K:PySem.W.Frag)(CF CT:Addr)(G:UInt8->Prop):Sp:=λvs H Q E=>∃ (a:Addr) (t r:Bytes) (q:Nat) (c:UInt8),vs=[.ref a,.int q]/\SqL K H a (vb t)/\t.length<=900000/\t.drop q=c::r/\G c/\match lexAt (t.drop q) with
 | some (l,k)=>∀ x H',jh H H'->vm CT (Cut noH H H') x { lex:=l,place:=q,len:=k }->Q (.ref x) H'
 | none=>Err CF E 2 (q:Int)
theorem jci(c:UInt8):(decide (48<=(c.toNat:Int)) && decide ((c.toNat:Int)<=57))=digit c:=by
 unfold digit;have h2:decide ((48:Int)<=(c.toNat:Int))=decide ((48:UInt8)<=c):=by
  apply decide_eq_decide.mpr;rw [UInt8.le_iff_toNat_le];show (48:Int)<=_↔48<=c.toNat
  omega
 have h3:decide ((c.toNat:Int)<=57)=decide (c<=(57:UInt8)):=by
  apply decide_eq_decide.mpr;rw [UInt8.le_iff_toNat_le];show _<=(57:Int)↔c.toNat<=57
  omega
 rw [h2,h3]
theorem joa{c:UInt8}(hc:digit c=true):letter c=false:=by
 unfold digit at hc;unfold letter;simp only [Bool.and_eq_true,decide_eq_true_eq,UInt8.le_iff_toNat_le] at hc;simp only [Bool.or_eq_false_iff,Bool.and_eq_false_iff,decide_eq_false_iff_not,UInt8.le_iff_toNat_le,beq_eq_false_iff_ne];obtain ⟨h1,h2⟩:=hc;have h2:c.toNat<=57:=h2
 refine ⟨⟨.inl ?_,.inl ?_⟩,λe=>?_⟩
 ·show ¬ 65<=c.toNat;omega
 ·show ¬ 97<=c.toNat;omega
 ·subst e;exact absurd h2 (by decide)
theorem tw_end{p:UInt8->Bool}{u:Bytes}{j:Nat}(h:∀ b∈u.take j,p b=true)(e:j=u.length\/∃ c,u[j]? = some c/\p c=false):u.takeWhile p=u.take j:=by
 induction u generalizing j with
 | nil=>simp
 | cons b u ih =>
  cases j with
  | zero =>
   rcases e with e | ⟨c,e1,e2⟩
   ·simp at e
   ·have:b=c:=by simpa using e1
    subst this;rw [List.takeWhile_cons,e2];simp
  | succ j =>
   have hb:p b=true:=h b (by simp);rw [List.takeWhile_cons,hb,if_pos rfl,List.take_succ_cons,ih (λc hc=>h c (by rw [List.take_succ_cons];exact List.mem_cons_of_mem _ hc))];rcases e with e | ⟨c,e1,e2⟩
   ·left;simpa using e
   ·right;exact ⟨c,by simpa using e1,e2⟩
theorem ja0{u:Bytes}{j:Nat}{c:UInt8}(h:u[j]? = some c):u.take (j + 1)=u.take j ++ [c]:=by
 rw [List.take_add_one,h];rfl
theorem jrj(u:Bytes)(c:UInt8):natOf (u ++ [c])=10 * natOf u + (c.toNat - 48):=by
 unfold natOf;rw [List.foldl_append];rfl
theorem jh8{t:Bytes}{q j:Nat}:(t.drop q)[j]? = t[q + j]? := by rw [List.getElem?_drop]
theorem jxd:jv ["text", "place", "end", "value", "size"] ["text", "place"] (ji jf8):=⟨rfl,rfl,rfl,by decide +kernel,rfl,by decide +kernel,by decide +kernel⟩
theorem j0o(F:Fun K "cut_number" "cut_number" jf8 f fd)(T:vt K mg CF fI fdI)(U:z5 K mg CT tI tdI)(G:xh P w K mg base (CXF P w) 1 g gd ["byte"] jfh)(bG:zk K gd ["byte"] [])(kG:PySem.W.keepIn K (.ref g)=true)
  (mG:mg "is_digit"=some (.ref g)) (ml:mg "len"=none) (c1:CI mg "ZERO" 48) (c2:CI mg "LONGEST_NUMBER" 30) (c3:CI mg "WRONG_TOKEN" 2):xh P w K mg base (CXF P w) 3 f fd ["text", "place"] (jad K CF CT λc=>digit c=true):=by
 refine F.okF (k:=2) jxd (λvs H Q E h=>?_) (λcdv A outer s H vs Q E hr h=>?_)
 ·obtain ⟨a,t,r,q,c,rfl,_⟩:=h;rfl
 obtain ⟨a,t,r,q,c,rfl,hS,hlen,hd,hc,k⟩:=h;have nd:=jxd.nd
 refine ⟨_,jc (ju (i:=2) nd rfl (Or.inl rfl) (pv 1)) (jc (ju (i:=3) nd rfl (Or.inl rfl) qd)
  (jc (vh jag (PW.pt (jcc (js jdx (pv 2) (yt x9 rfl ml PySem.boot_len (ja (pv 0) jb)) (j6 _))
    (jb4 (jcd (vf G (hr.mono (by decide)) rfl mG kG bG .nil wu (ja (xo qv (pv 0) (pv 2) (λ_ _=>rfl)) jb))))))
   (jc (ju (i:=3) nd rfl (Or.inl rfl) (qa jhg (qa jam (qa j0l (pv 3) qd) (xo qv (pv 0) (pv 2) (λ_ _=>rfl))) (qx c1 rfl)))
    (je (jc_ (i:=2) nd rfl (Or.inl rfl) qd jfo))))
  (jc (ju (i:=4) nd rfl (Or.inl rfl) (qa jhg (pv 2) (pv 1)))
  (jc (qh (PW.pt (jh0 (js jdz (pv 4) (qx c2 rfl) (j6 _)) (jhd (PW.pt (jcc (js jdz (pv 4) qd (j6 _)) (jb4 (js xi (xo qv (pv 0) (pv 1) (λ_ _=>rfl)) (qx c1 rfl) (j6 _))))))))
    (je (vz T hr rfl (ja (qx c3 rfl) (ja (pv 1) jb)))) jy)
  (je (jp (jbl U.make (jge U) hr rfl U.c.m U.b .nil wu (ja jf (ja (pv 1) (ja (pv 2) (ja (pv 3) jb)))))))))))
  ,?_⟩
 have hq:q < t.length:=(Cell.drop_one hd).2;have lenu:(t.drop q).length=t.length - q:=List.length_drop
 refine ⟨_,rfl,?_⟩;refine ⟨λm σ H'=>H'=H/\∃ (j:Nat) (v4:Option V),σ=[some (.ref a),some (.int (q:Int)),some (.int ((q + j:Nat):Int)),some (.int (natOf ((t.drop q).take j):Int)),v4]/\m=t.length - (q + j)/\q + j<=t.length/\∀ b∈(t.drop q).take j,digit b=true,
  ⟨_,rfl,0,none,rfl,rfl,by omega,λb hb=>by simp at hb⟩,?_⟩
 rintro m σ H' ⟨rfl,j,v4,rfl,rfl,hj,al⟩;refine (λ(fin:(j=(t.drop q).length\/∃ c,(t.drop q)[j]? = some c/\digit c=false)->?A)=>?main) ?fin
 case main =>
  refine ⟨_,rfl,_,rfl,a,_,rfl,.inl hS,_,_,rfl,rfl,_,rfl,qb (λc1=>?_) (λc1=>?_)⟩
  ·have hlt:q + j < t.length:=by
    have:=of_decide_eq_true c1;rw [xp] at this;omega
   obtain ⟨b,r2,hd2,hb,_⟩:=ja_ hlt;refine ⟨_,rfl,_,rfl,a,_,_,_,rfl,rfl,hS,wq hb,_,rfl,_,rfl,qb (λc2=>?_) (λc2=>?_)⟩
   ·rw [jci] at c2;have d2:=c2
    unfold digit at d2;refine ⟨λσ' H2=>∃ m',m' < t.length - (q + j)/\(H2=H'/\∃ (j:Nat) (v4:Option V),σ'=[some (.ref a),some (.int (q:Int)),some (.int ((q + j:Nat):Int)),some (.int (natOf ((t.drop q).take j):Int)),v4]/\m'=t.length - (q + j)/\q + j<=t.length/\∀ b∈(t.drop q).take j,digit b=true),λ_ _ z=>z,?_⟩;refine ⟨_,rfl,_,_,rfl,rfl,.inr ⟨by decide,by decide⟩,_,rfl,_,rfl,a,_,_,_,rfl,rfl,hS,wq hb,_,_,rfl,rfl,_,_,rfl,rfl,?_⟩;have e1:(t.drop q)[j]? = some b:=by rw [jh8];exact hb
    have ge:48<=b.toNat:=by
     have:=jci b;rw [c2] at this;have:=(Bool.and_eq_true_iff.mp this).1
     have:=of_decide_eq_true this;omega
    refine ⟨_,rfl,_,_,rfl,rfl,t.length - (q + (j + 1)),by omega,rfl,j + 1,v4,?_,rfl,by omega,λz hz=>?_⟩
    ·have e2:(natOf ((t.drop q).take (j + 1)):Int)=(natOf ((t.drop q).take j):Int) * 10 + (b.toNat:Int) - 48:=by
      rw [ja0 e1,jrj];omega
     rw [e2];rfl
    ·rw [ja0 e1] at hz;rcases List.mem_append.mp hz with y | y
     ·exact al z y
     ·have:z=b:=by simpa using y
      rw [this];exact c2
   ·refine fin (.inr ⟨b,by rw [jh8];exact hb,?_⟩);rw [<- jci];exact Bool.eq_false_iff.mpr c2
  ·refine fin (.inl ?_);have:¬ (((q + j:Nat):Int) < ((vb t).length:Int)):=λz=>c1 (decide_eq_true z)
   rw [xp] at this;omega
 case fin =>
  intro e;have tw:=tw_end al e
  have jl:((t.drop q).takeWhile digit).length=j:=by rw [tw,List.length_take,lenu];omega
  have lx:lexAt (t.drop q)=if ((t.drop q).takeWhile digit).length<=30 && (((t.drop q).takeWhile digit).length == 1 || c != 48) then some (.num (natOf ((t.drop q).takeWhile digit)),((t.drop q).takeWhile digit).length) else none:=by
   rw [hd];show (if letter c then _ else if digit c then _ else _)=_
   rw [joa hc,hc];rfl
  rw [lx,jl,tw] at k;have j1:1<=j:=by
   rw [hd,List.takeWhile_cons,hc,if_pos rfl,List.length_cons] at jl;omega
  have sz:((q + j:Nat):Int) - (q:Int)=(j:Int):=by omega
  have raise:(decide (j<=30) && (j == 1 || c != 48))=false->Err CF E 2 (q:Int):=λz=>by
   rw [z] at k;exact k
  have token:(decide (j<=30) && (j == 1 || c != 48))=true->∀ x H2,jh H' H2->vm CT (Cut noH H' H2) x { lex:=.num (natOf ((t.drop q).take j)),place:=q,len:=j }->Q (.ref x) H2:=λz=>by
   rw [z] at k;exact k
  have give:(decide (j<=30) && (j == 1 || c != 48))=true->∀ x dx,H' x=none->H' dx=none->dx≠x->
    jzq CT [.ref x,.str "NUMBER",.int (q:Int),.int ((q + j:Nat):Int),.int (natOf ((t.drop q).take j):Int)] (upd (upd H' dx (.own x)) x (.ins CT dx [])) (λv H2=>v = .non/\Q (.ref x) H2) E:=λz x dx nx ndx ne =>
   ⟨x,dx,_,_,_,_,rfl,jd,λH2 b e=>⟨rfl,token z x H2 (But.same nx ndx b) ⟨dx,_,j9 rfl nx e,rfl⟩⟩⟩
  refine ⟨_,rfl,_,rfl,_,_,rfl,rfl,?_⟩;refine ⟨_,rfl,_,_,rfl,rfl,_,rfl,qb (λk1=>?_) (λk1=>?_)⟩
  ·have:¬ j<=30:=by
    have:=of_decide_eq_true k1;omega
   exact ⟨_,rfl,yx (raise (by rw [decide_eq_false this];rfl))⟩
  have j30:j<=30:=by
   have:¬ ((30:Int) < ((q + j:Nat):Int) - (q:Int)):=λz=>k1 (decide_eq_true z);omega
  refine ⟨_,rfl,_,_,rfl,rfl,_,rfl,qb (λk2=>?_) (λk2=>?_)⟩
  ·have j2:1 < j:=by
    have:=of_decide_eq_true k2;omega
   have n1:(j == 1)=false:=by simpa using (show j≠1 by omega)
   refine ⟨_,rfl,_,rfl,a,_,_,_,rfl,rfl,hS,wq (ji3 hd),rfl,_,rfl,qb (λk3=>?_) (λk3=>?_)⟩
   ·have e48:c=48:=(yp (n:=48) (by decide)).mp (by have:=of_decide_eq_true k3;injection this);refine ⟨_,rfl,yx (raise ?_)⟩;rw [n1,e48];simp
   ·have n48:c≠48:=λe=>k3 (decide_eq_true (by rw [(yp (n:=48) (by decide)).mpr e];rfl));refine ⟨_,rfl,_,rfl,_,rfl,give ?_⟩;rw [decide_eq_true j30];simpa using Or.inr n48
  ·have e1:j=1:=by
    have:¬ ((1:Int) < ((q + j:Nat):Int) - (q:Int)):=λz=>k2 (decide_eq_true z);omega
   refine qb (λz=>absurd z (by decide)) (λ_=>?_);refine ⟨_,rfl,_,rfl,_,rfl,give ?_⟩;rw [decide_eq_true j30,e1];simp
def CS(mg:Str->Option Value)(x:Str)(z:Str):Prop:=∃ t,mg x=some (.str z t)
theorem jxi{X:Cx}{x z:Str}{pos:Pos}(c:CS X.mg x z)(hg:Gl X x)(hd:(x == ("__debug__":Str))=false:=by decide):PE X (.Name x pos) (tC (.str z)):=by
 obtain ⟨t,h⟩:=c;exact jkw hg h ⟨t,rfl⟩ hd
theorem ve{X:Cx}{x:Str}{a:Addr}{pos:Pos}(c:X.mg x=some (.ref a))(hg:Gl X x)(hd:(x == ("__debug__":Str))=false:=by decide):PE X (.Name x pos) (tC (.ref a)):=jkw hg c rfl hd
theorem jrw{X:Cx}:PIp X .Add (λx y H Q=>∃ i j,x = .str i/\y = .str j/\i.length + j.length<=sizeLine/\Q (.str (i ++ j)) H):=jo8
theorem jsw:xm [] = "":=rfl
theorem jqp(u:Bytes)(c:UInt8):xm (u ++ [c])=xm u ++ (⟨#[c.toNat]⟩:Str):=by
 show (⟨((u ++ [c]).map (·.toNat)).toArray⟩:Str)=Str.append ⟨(u.map (·.toNat)).toArray⟩ ⟨#[c.toNat]⟩;unfold Str.append;simp
theorem jgy(u:Bytes):(xm u).length=u.length:=by
 show ((u.map (·.toNat)).toArray).size=_;simp
theorem jgz{u v:Bytes}(h:xm u=xm v):u=v:=by
 have e:(u.map (·.toNat)).toArray=(v.map (·.toNat)).toArray:=Str.mk.inj h;have e:u.map (·.toNat)=v.map (·.toNat):=by simpa using e
 exact (List.map_inj_right (λa b q=>UInt8.toNat_inj.mp q)).mp e
def jch(c:UInt8):Bool:=decide (97<=c.toNat) && decide (c.toNat<=122)
def spell(u:Bytes):Str:=if u.all jch then xm u else ""
def jd_:Str := "abcdefghijklmnopqrstuvwxyz"
theorem jrr:∀ n:Nat,n < 26->jd_.cps.toList[n]? = some (97 + n):=by decide
def jkn(K:PySem.W.Frag):Sp:=λvs H Q _=>∃ (a:Addr) (u:Bytes),vs=[.ref a]/\SqL K H a (vb u)/\u.length<=900000/\Q (.str (spell u)) H
theorem jpr:jv ["word", "spelled", "byte", "at"] ["word"] (ji jey):=⟨rfl,rfl,rfl,by decide +kernel,rfl,by decide +kernel,by decide +kernel⟩
theorem jv3(F:Fun K "spell_lower" "spell_lower" jey f fd)(ml:mg "len"=none)(c1:CI mg "LOWER_A" 97)(c2:CS mg "LOWER_LETTERS" jd_):xh P w K mg base (CXF P w) 1 f fd ["word"] (jkn K):=by
 refine F.okF (k:=0) jpr (λvs H Q E h=>?_) (λcdv A outer s H vs Q E hr h=>?_)
 ·obtain ⟨a,u,rfl,_⟩:=h;rfl
 obtain ⟨a,u,rfl,hS,hu,q⟩:=h;have nd:=jpr.nd
 refine ⟨_,jc (ju (i:=1) nd rfl (Or.inl rfl) jf)
  (jc (jek jag rfl (jab (pv 0)) (y_ (i:=2) nd rfl (Or.inl rfl))
   (jc (ju (i:=3) nd rfl (Or.inl rfl) (qa jhg (pv 2) (qx c1 rfl)))
   (jc (qh (jnp (jnq jdy jdx qd (pv 3) (yt jol rfl ml PySem.boot_len (ja (jxi c2 rfl) jb)))) (je (jp jf)) jy)
   (je (jc_ (i:=1) nd rfl (Or.inl rfl) (xo j0z (jxi c2 rfl) (pv 3) (λ_ _=>rfl)) jrw)))))
  (je (jp (pv 1)))),?_⟩
 refine ⟨_,rfl,a,rfl,⟨_,hS⟩,λi m σ H'=>H'=H/\m=u.length - i/\i<=u.length/\(∃ v2 v3,σ=[some (.ref a),some (.str (xm (u.take i))),v2,v3])/\∀ b∈u.take i,jch b=true,⟨_,rfl,rfl,Nat.zero_le _,⟨none,none,rfl⟩,λb hb=>by simp at hb⟩,?_⟩;rintro i m σ H' ⟨rfl,rfl,hi,⟨v2,v3,rfl⟩,al⟩;by_cases hlt:i < u.length
 ·obtain ⟨c,r,hd,hc,_⟩:=ja_ hlt;have hx:(vb u)[i]? = some (.int (c.toNat:Int)):=by unfold vb;rw [List.getElem?_map,hc];rfl
  refine .inr ⟨⟨_,_,hS,hx⟩,λσ' H2=>∃ m',m' < u.length - i/\(H2=H'/\m'=u.length - (i + 1)/\i + 1<=u.length/\(∃ v2 v3,σ'=[some (.ref a),some (.str (xm (u.take (i + 1)))),v2,v3])/\∀ b∈u.take (i + 1),jch b=true),λ_ _ z=>z,?_⟩;rintro x H2 ⟨rfl,hy⟩;have ey:=hy _ hS
  rw [hx] at ey;cases ey;have l26:jd_.length=26:=by decide
  have no:jch c=false->spell u = "":=λz=>by
   unfold spell;refine if_neg λy=>?_;have:=List.all_eq_true.mp y c (List.mem_of_getElem? hc)
   rw [z] at this;cases this
  refine ⟨_,rfl,_,_,rfl,rfl,?_⟩;refine ⟨_,rfl,_,_,rfl,rfl,_,rfl,qb (λk1=>?_) (λk1=>?_)⟩
  ·have g1:97<=c.toNat:=by have:=of_decide_eq_true k1;omega
   refine ⟨_,rfl,by decide,_,_,rfl,rfl,_,rfl,qb (λk2=>?_) (λk2=>?_)⟩
   ·have g2:¬ c.toNat<=122:=λz=>by
     rw [l26,decide_eq_true (by omega)] at k2;cases k2
    rw [no (by unfold jch;rw [decide_eq_false g2,Bool.and_false])] at q;exact q
   ·have g2:c.toNat<=122:=by
     have k3:decide ((c.toNat:Int) - 97 < (jd_.length:Int))=true:=by simpa using k2
     rw [l26] at k3;have:=of_decide_eq_true k3
     omega
    have lc:jch c=true:=by unfold jch;rw [decide_eq_true g1,decide_eq_true g2];rfl
    have ec:((c.toNat:Int) - 97)=((c.toNat - 97:Nat):Int):=by omega
    have eat:atI jd_.cps.toList ((c.toNat:Int) - 97)=some c.toNat:=by
     rw [ec];refine jaw ?_;rw [jrr _ (by omega)]
     congr 1
     omega
    refine ⟨_,rfl,_,rfl,_,_,_,rfl,rfl,by decide,eat,_,_,rfl,rfl,?_,u.length - (i + 1),by omega,rfl,rfl,by omega,⟨some (.int (c.toNat:Int)),some (.int ((c.toNat:Int) - 97)),?_⟩,λb hb=>?_⟩
    ·rw [jgy,List.length_take];show min i u.length + 1<=2 ^ 24
     omega
    ·rw [ja0 hc,jqp];rfl
    ·rw [ja0 hc] at hb;rcases List.mem_append.mp hb with y | y
     ·exact al b y
     ·have:b=c:=by simpa using y
      rw [this];exact lc
  ·have g1:¬ 97<=c.toNat:=λz=>k1 (decide_eq_true (by omega));refine ⟨_,rfl,qb (λ_=>?_) (λz=>absurd rfl z)⟩;rw [no (by unfold jch;rw [decide_eq_false g1,Bool.false_and])] at q;exact q
 ·have e:i=u.length:=by omega
  subst e;rw [List.take_length] at al ⊢;have:spell u=xm u:=by unfold spell;rw [if_pos (List.all_eq_true.mpr al)]
  rw [this] at q;exact .inl ⟨⟨_,hS,by rw [xp];exact Nat.le_refl _⟩,_,rfl,q⟩
end
theorem jgu(c:UInt8):jfu (c.toNat:Int)=wordByte c:=by
 unfold jfu wordByte letter;rw [jci];have h1:decide ((65:Int)<=(c.toNat:Int))=decide ((65:UInt8)<=c):=by
  apply decide_eq_decide.mpr;rw [UInt8.le_iff_toNat_le];show (65:Int)<=_↔65<=c.toNat;omega
 have h2:decide ((c.toNat:Int)<=90)=decide (c<=(90:UInt8)):=by
  apply decide_eq_decide.mpr;rw [UInt8.le_iff_toNat_le];show _<=(90:Int)↔c.toNat<=90;omega
 have h3:decide ((97:Int)<=(c.toNat:Int))=decide ((97:UInt8)<=c):=by
  apply decide_eq_decide.mpr;rw [UInt8.le_iff_toNat_le];show (97:Int)<=_↔97<=c.toNat;omega
 have h4:decide ((c.toNat:Int)<=122)=decide (c<=(122:UInt8)):=by
  apply decide_eq_decide.mpr;rw [UInt8.le_iff_toNat_le];show _<=(122:Int)↔c.toNat<=122;omega
 have h5:decide ((c.toNat:Int)=95)=(c == 95):=by
  by_cases h:c=95
  ·subst h;decide
  ·have hne:¬ ((c.toNat:Int)=95):=λe=>h ((yp (n:=95) (by decide)).mp e);rw [decide_eq_false hne];exact (beq_eq_false_iff_ne.mpr h).symm
 rw [h1,h2,h3,h4,h5];simp only [Bool.or_assoc]
def jqx:List V:=reserved.map λx=>V.str (xm x)
theorem jlp:∀ x∈reserved,x.all jch=true:=by decide +kernel
theorem jvg:∀ x∈reserved,x≠[]:=by decide +kernel
theorem jvh:jqx.all jd2=true:=by decide +kernel
theorem jz6(u:Bytes)(hu:u≠[]):inV (.str (spell u)) jqx=reserved.contains u:=by
 have key:∀ l:List Bytes,(∀ x∈l,x.all jch=true)->(∀ x∈l,x≠[])->inV (.str (spell u)) (l.map λx=>V.str (xm x))=l.contains u:=by
  intro l;induction l with
  | nil=>intros;rfl
  | cons x l ih =>
   intro h1 h2;have i1:=ih (λy hy=>h1 y (List.mem_cons_of_mem _ hy)) (λy hy=>h2 y (List.mem_cons_of_mem _ hy))
   rw [List.contains_cons,<- i1];show (xm x == spell u || _)=_
   have:(xm x == spell u)=(u == x):=by
    by_cases e:u=x
    ·subst e;have:spell u=xm u:=by unfold spell;rw [h1 u (.head _)];rfl
     rw [this];simp
    ·have ne:¬ xm x=spell u:=λz=>by
      unfold spell at z;by_cases c:u.all jch=true
      ·rw [if_pos c] at z;exact e (jgz z).symm
      ·rw [if_neg c] at z;exact h2 x (.head _) (jgz (z.trans jsw.symm))
     rw [beq_eq_false_iff_ne.mpr ne,beq_eq_false_iff_ne.mpr e]
   rw [this];rfl
 exact key reserved jlp jvg
theorem jtj{u:Bytes}(h:reserved.contains u=true):spell u=xm u:=by
 have m:u∈reserved:=by simpa using h
 unfold spell;rw [jlp u m];rfl
def jfa(K:PySem.W.Frag)(mg:Str->Option Value)(x:Str)(vs:List V):Prop:=∃ a,mg x=some (.ref a)/\∀ H,SqT K H a vs
theorem j05{t:Bytes}{q j:Nat}(h:q + j<=t.length):jcj (vb t) (some (q:Int)) (some ((q + j:Nat):Int))=vb ((t.drop q).take j):=by
 unfold jcj;rw [HT.jd6,HT.jd6,xp,Nat.min_eq_left (show q<=t.length by omega),Nat.min_eq_left h];unfold vb;rw [<- List.map_drop,<- List.map_take]
 congr 2
 omega
section
variable{P:Program}{w:World}{K:PySem.W.Frag}{mg:Str->Option Value}{base:Heap}{f g g2 CF fI CT tI:Addr}{fd gd gd2 fdI tdI:FuncData}
theorem js5:jv ["text", "place", "end", "word", "spelled"] ["text", "place"] (ji jir):=⟨rfl,rfl,rfl,by decide +kernel,rfl,by decide +kernel,by decide +kernel⟩
theorem jyh(F:Fun K "cut_word" "cut_word" jir f fd)(T:vt K mg CF fI fdI)(U:z5 K mg CT tI tdI)(G:xh P w K mg base (CXF P w) 2 g gd ["byte"] jhu)(bG:zk K gd ["byte"] [])(kG:PySem.W.keepIn K (.ref g)=true)
  (mG:mg "is_word_byte"=some (.ref g)) (S:xh P w K mg base (CXF P w) 1 g2 gd2 ["word"] (jkn K)) (bS:zk K gd2 ["word"] []) (kS:PySem.W.keepIn K (.ref g2)=true)
  (mS:mg "spell_lower"=some (.ref g2)) (ml:mg "len"=none) (R:jfa K mg "RESERVED" jqx) (c2:CI mg "LONGEST_WORD" 16) (c3:CI mg "WRONG_TOKEN" 2):xh P w K mg base (CXF P w) 3 f fd ["text", "place"] (jad K CF CT λc=>letter c=true):=by
 refine F.okF (k:=2) js5 (λvs H Q E h=>?_) (λcdv A outer s H vs Q E hr h=>?_)
 ·obtain ⟨a,t,r,q,c,rfl,_⟩:=h;rfl
 obtain ⟨a,t,r,q,c,rfl,hS,hlen,hd,hc,k⟩:=h;obtain ⟨ra,mR,sR⟩:=R;have nd:=js5.nd
 refine ⟨_,jc (ju (i:=2) nd rfl (Or.inl rfl) (pv 1))
  (jc (vh jag (PW.pt (jcc (js jdx (pv 2) (yt x9 rfl ml PySem.boot_len (ja (pv 0) jb)) (j6 _))
    (jb4 (jcd (vf G hr rfl mG kG bG .nil wu (ja (xo qv (pv 0) (pv 2) (λ_ _=>rfl)) jb))))))
   (je (jc_ (i:=2) nd rfl (Or.inl rfl) qd jfo)))
  (jc (qh (js jdz (qa jhg (pv 2) (pv 1)) (qx c2 rfl) (j6 _))
    (je (vz T hr rfl (ja (qx c3 rfl) (ja (pv 1) jb)))) jy)
  (jc (ju (i:=3) nd rfl (Or.inl rfl) (ja6 jb3 (pv 0) (jar (pv 1)) (jar (pv 2))))
  (jc (ju (i:=4) nd rfl (Or.inl rfl) (vf S (hr.mono (by decide)) rfl mS kS bS .nil wu (ja (pv 3) jb)))
  (jc (qh (js zw (pv 4) (ve mR rfl) rfl)
   (je (jp (jbl U.make (jge U) hr rfl U.c.m U.b .nil wu (ja (pv 4) (ja (pv 1) (ja (pv 2) (ja jfl jb))))))) jy)
  (je (jp (jbl U.make (jge U) hr rfl U.c.m U.b .nil wu (ja jf (ja (pv 1) (ja (pv 2) (ja (pv 3) jb))))))))))))
  ,?_⟩
 have hq:q < t.length:=(Cell.drop_one hd).2;have lenu:(t.drop q).length=t.length - q:=List.length_drop
 refine ⟨_,rfl,?_⟩;refine ⟨λm σ H'=>H'=H/\∃ (j:Nat),σ=[some (.ref a),some (.int (q:Int)),some (.int ((q + j:Nat):Int)),none,none]/\m=t.length - (q + j)/\q + j<=t.length/\∀ b∈(t.drop q).take j,wordByte b=true,
  ⟨_,rfl,0,rfl,rfl,by omega,λb hb=>by simp at hb⟩,?_⟩
 rintro m σ H' ⟨rfl,j,rfl,rfl,hj,al⟩;refine (λ(fin:(j=(t.drop q).length\/∃ c,(t.drop q)[j]? = some c/\wordByte c=false)->?A)=>?main) ?fin
 case main =>
  refine ⟨_,rfl,_,rfl,a,_,rfl,.inl hS,_,_,rfl,rfl,_,rfl,qb (λc1=>?_) (λc1=>?_)⟩
  ·have hlt:q + j < t.length:=by
    have:=of_decide_eq_true c1;rw [xp] at this;omega
   obtain ⟨b,r2,hd2,hb,_⟩:=ja_ hlt;refine ⟨_,rfl,_,rfl,a,_,_,_,rfl,rfl,hS,wq hb,_,rfl,_,rfl,qb (λc2=>?_) (λc2=>?_)⟩
   ·rw [jgu] at c2;refine ⟨λσ' H2=>∃ m',m' < t.length - (q + j)/\(H2=H'/\∃ (j:Nat),σ'=[some (.ref a),some (.int (q:Int)),some (.int ((q + j:Nat):Int)),none,none]/\m'=t.length - (q + j)/\q + j<=t.length/\∀ b∈(t.drop q).take j,wordByte b=true),λ_ _ z=>z,?_⟩;have e1:(t.drop q)[j]? = some b:=by rw [jh8];exact hb
    refine ⟨_,rfl,_,_,rfl,rfl,t.length - (q + (j + 1)),by omega,rfl,j + 1,rfl,rfl,by omega,λz hz=>?_⟩;rw [ja0 e1] at hz;rcases List.mem_append.mp hz with y | y
    ·exact al z y
    ·have:z=b:=by simpa using y
     rw [this];exact c2
   ·refine fin (.inr ⟨b,by rw [jh8];exact hb,?_⟩);rw [<- jgu];exact Bool.eq_false_iff.mpr c2
  ·refine fin (.inl ?_);have:¬ (((q + j:Nat):Int) < ((vb t).length:Int)):=λz=>c1 (decide_eq_true z)
   rw [xp] at this;omega
 case fin =>
  intro e;have tw:=tw_end al e
  have jl:((t.drop q).takeWhile wordByte).length=j:=by rw [tw,List.length_take,lenu];omega
  have lx:lexAt (t.drop q)=if ((t.drop q).takeWhile wordByte).length<=16 then some (.word ((t.drop q).takeWhile wordByte),((t.drop q).takeWhile wordByte).length) else none:=by
   rw [hd];show (if letter c then _ else if digit c then _ else _)=_
   rw [hc];rfl
  have j1:1<=j:=by
   have wc:wordByte c=true:=by unfold wordByte;rw [hc];rfl
   rw [hd,List.takeWhile_cons,wc,if_pos rfl,List.length_cons] at jl;omega
  rw [lx,jl,tw] at k;refine ⟨_,rfl,_,rfl,_,_,rfl,rfl,_,_,rfl,rfl,_,rfl,qb (λk1=>?_) (λk1=>?_)⟩
  ·have:¬ j<=16:=by
    have:=of_decide_eq_true k1;omega
   rw [if_neg this] at k;exact ⟨_,rfl,yx k⟩
  have j16:j<=16:=by
   have:¬ ((16:Int) < ((q + j:Nat):Int) - (q:Int)):=λz=>k1 (decide_eq_true z);omega
  rw [if_pos j16] at k;have ne:(t.drop q).take j≠[]:=λz=>by
   have:=congrArg List.length z;rw [List.length_take,lenu,List.length_nil] at this;omega
  refine ⟨_,rfl,_,rfl,_,rfl,_,rfl,_,rfl,a,_,rfl,hS,λp np=>?_⟩;rw [j05 hj];have sm:jh H' (upd H' p (.lst (vb ((t.drop q).take j)))):=jo np _
  refine ⟨_,rfl,p,_,rfl,SqL.of jd,by rw [List.length_take,lenu];omega,?_⟩;refine ⟨_,rfl,ra,_,rfl,.inr (sR _),rfl,jvh,_,rfl,?_⟩;rw [if_neg Bool.false_ne_true,jz6 _ ne];refine qb (λk2=>?_) (λk2=>?_)
  ·have ks:jx (.word ((t.drop q).take j))=spell ((t.drop q).take j):=by
    rw [jtj k2];show (if reserved.contains _ then _ else _)=_
    rw [if_pos k2]
   refine ⟨_,rfl,_,rfl,_,rfl,λx dx nx ndx ne=>⟨x,dx,_,_,_,_,rfl,jd,λH2 b e=>⟨rfl,k x H2 (sm.trans (But.same nx ndx b)) ⟨dx,.non,?_,?_⟩⟩⟩⟩
   ·show Cut noH H' H2 x=some (.ins CT dx (jdi (jx (.word ((t.drop q).take j))) _ _ _));rw [ks];exact j9 rfl (jk sm nx) e
   ·show if reserved.contains _ then _ else _
    rw [if_pos k2]
  ·have ks:jx (.word ((t.drop q).take j)) = "NAME":=by
    show (if reserved.contains _ then _ else _)=_;rw [if_neg k2]
   refine ⟨_,rfl,_,rfl,_,rfl,λx dx nx ndx ne=>⟨x,dx,_,_,_,_,rfl,jd,λH2 b e=>⟨rfl,k x H2 (sm.trans (But.same nx ndx b)) ⟨dx,.ref p,?_,?_⟩⟩⟩⟩
   ·show Cut noH H' H2 x=some (.ins CT dx (jdi (jx (.word ((t.drop q).take j))) _ _ _));rw [ks];exact j9 rfl (jk sm nx) e
   ·show if reserved.contains _ then _ else _
    rw [if_neg k2];exact ⟨p,rfl,j9 rfl np (But.same nx ndx b _ _ jd)⟩
end
open Vanbka (quotedFrom)
theorem j0b(r:Bytes):quotedFrom (34::r)=some ([],1):=by rw [quotedFrom]
theorem jx9(r:Bytes):quotedFrom (10::r)=none:=by rw [quotedFrom]
theorem jvl{c:UInt8}(r:Bytes)(h1:c≠34)(h2:c≠10)(h3:c≠92):quotedFrom (c::r)=(quotedFrom r).map λx=>(c::x.1,x.2 + 1):=by
 rw [quotedFrom];all_goals first | exact h1 | exact h2 | exact h3 | exact λ_ z _=>absurd z h3
def jk7(c:UInt8):Option UInt8:=if c=92 then some 92 else if c=34 then some 34 else if c=110 then some 10 else none
theorem j0a{c d:UInt8}(r:Bytes)(h:jk7 c=some d):quotedFrom (92::c::r)=(quotedFrom r).map λx=>(d::x.1,x.2 + 2):=by
 unfold jk7 at h;by_cases h1:c=92
 ·rw [if_pos h1] at h;cases h;subst h1;rw [quotedFrom]
 rw [if_neg h1] at h;by_cases h2:c=34
 ·rw [if_pos h2] at h;cases h;subst h2;rw [quotedFrom]
 rw [if_neg h2] at h;by_cases h3:c=110
 ·rw [if_pos h3] at h;cases h;subst h3;rw [quotedFrom]
 rw [if_neg h3] at h;cases h
theorem j0c{c:UInt8}(r:Bytes)(h:jk7 c=none):quotedFrom (92::c::r)=none:=by
 have h1:c≠92:=λz=>by subst z;cases h
 have h2:c≠34:=λz=>by subst z;cases h
 have h3:c≠110:=λz=>by subst z;cases h
 rw [quotedFrom]
 ·intro r' z;injection z with z1 z2;exact h1 z1
 ·intro r' z;injection z with z1 z2;exact h2 z1
 ·intro r' z;injection z with z1 z2;exact h3 z1
theorem jz_:quotedFrom [92]=none:=by rw [quotedFrom] <;> intro r z <;> cases z
def jk6:List (Key×V):=[(.inl 92,.int 92),(.inl 34,.int 34),(.inl 110,.int 10)]
theorem jp7(c:UInt8):ze jk6 (.inl (c.toNat:Int))=(jk7 c).map λd=>V.int (d.toNat:Int):=by
 unfold jk7;by_cases h1:c=92
 ·subst h1;rfl
 by_cases h2:c=34
 ·subst h2;rfl
 by_cases h3:c=110
 ·subst h3;rfl
 rw [if_neg h1,if_neg h2,if_neg h3];have ne:∀ (n:Nat),n < 256->c≠UInt8.ofNat n->¬ (Sum.inl (n:Int):Key)=Sum.inl (c.toNat:Int):=λn hn z e=>by
  injection e with e;exact z ((yp hn).mp e.symm)
 unfold jk6;rw [zr (ne 92 (by decide) h1),zr (ne 34 (by decide) h2),zr (ne 110 (by decide) h3)];rfl
theorem vw{H H':Hp}{l:Addr}{o:HO}(s:jh H H')(n:H l=none):jh H (upd H' l o):=λb u q=>by rw [jm (qt q n)];exact s b u q
theorem jpi(u:Bytes)(c:UInt8):vb (u ++ [c])=vb u ++ [.int (c.toNat:Int)]:=by unfold vb;simp
section
variable{P:Program}{w:World}{K:PySem.W.Frag}{mg:Str->Option Value}{base:Heap}{f g g2 CF fI CT tI:Addr}{fd gd gd2 fdI tdI:FuncData}
def KD(w:World)(K:PySem.W.Frag)(mg:Str->Option Value)(x:Str)(kvs:List (Key×V)):Prop:=∃ a,mg x=some (.ref a)/\jck w K a kvs
theorem jnd:jv ["text", "place", "said", "at", "byte"] ["text", "place"] (ji jf7):=⟨rfl,rfl,rfl,by decide +kernel,rfl,by decide +kernel,by decide +kernel⟩
theorem jt0(F:Fun K "cut_quoted" "cut_quoted" jf7 f fd)(T:vt K mg CF fI fdI)(U:z5 K mg CT tI tdI)(ml:mg "len"=none)(R:KD w K mg "ESCAPED" jk6)(c1:CI mg "QUOTE" 34)(c2:CI mg "LINE_FEED" 10)(c3:CI mg "BACKSLASH" 92)(c4:CI mg "WRONG_TOKEN" 2) :
  xh P w K mg base (CXF P w) 3 f fd ["text", "place"] (jad K CF CT λc=>c=34):=by
 refine F.okF (k:=2) jnd (λvs H Q E h=>?_) (λcdv A outer s H vs Q E hr h=>?_)
 ·obtain ⟨a,t,r,q,c,rfl,_⟩:=h;rfl
 obtain ⟨a,t,r,q,c,rfl,hS,hlen,hd,rfl,k⟩:=h;obtain ⟨ra,mR,dR⟩:=R;have nd:=jnd.nd
 refine ⟨_,jc (ju (i:=2) nd rfl (Or.inl rfl) (j3 jb))
  (jc (ju (i:=3) nd rfl (Or.inl rfl) (qa jam (pv 1) qd))
  (jc (vh jag (PW.pt (jcc (js jdx (pv 3) (yt x9 rfl ml PySem.boot_len (ja (pv 0) jb)) (j6 _))
    (jcc (js jdw (xo qv (pv 0) (pv 3) (λ_ _=>rfl)) (qx c1 rfl) (j6 _)) (jb4 (js jdw (xo qv (pv 0) (pv 3) (λ_ _=>rfl)) (qx c2 rfl) (j6 _))))))
   (jc (ju (i:=4) nd rfl (Or.inl rfl) (xo qv (pv 0) (pv 3) (λ_ _=>rfl)))
   (jc (qh (js xi (pv 4) (qx c3 rfl) (j6 _))
    (jc (jc_ (i:=3) nd rfl (Or.inl rfl) qd jfo)
    (jc (qh (PW.pt (jh0 (js xi (pv 3) (yt x9 rfl ml PySem.boot_len (ja (pv 0) jb)) (j6 _)) (jhd (js jtt (xo qv (pv 0) (pv 3) (λ_ _=>rfl)) (ve mR rfl) rfl))))
     (je (vz T hr rfl (ja (qx c4 rfl) (ja (pv 1) jb)))) jy)
    (je (ju (i:=4) nd rfl (Or.inl rfl) (jcr (ve mR rfl) (xo qv (pv 0) (pv 3) (λ_ _=>rfl)) (λ_ _=>rfl)))))) jy)
   (jc (j_ (vk PySem.F.plainAttrs_list PySem.F.slot_list_append PySem.F.type_list_append zg (pv 2) (ja (pv 4) jb)))
   (je (jc_ (i:=3) nd rfl (Or.inl rfl) qd jfo))))))
  (jc (qh (PW.pt (jh0 (js xi (pv 3) (yt x9 rfl ml PySem.boot_len (ja (pv 0) jb)) (j6 _)) (jhd (js xi (xo qv (pv 0) (pv 3) (λ_ _=>rfl)) (qx c2 rfl) (j6 _)))))
    (je (vz T hr rfl (ja (qx c4 rfl) (ja (pv 1) jb)))) jy)
  (je (jp (jbl U.make (jge U) hr rfl U.c.m U.b .nil wu (ja jf (ja (pv 1) (ja (qa jam (pv 3) qd) (ja (pv 2) jb)))))))))),?_⟩
 have hq:q < t.length:=(Cell.drop_one hd).2;have hr0:t.drop (q + 1)=r:=(Cell.drop_one hd).1
 have lx:lexAt (t.drop q)=(quotedFrom (t.drop (q + 1))).map λx=>(Lex.quoted x.1,x.2 + 1):=by
  rw [hd,hr0];rfl
 rw [lx] at k;refine ⟨by decide,λl nl=>⟨_,rfl,_,_,rfl,rfl,?_⟩⟩;refine ⟨λm σ H'=>jh H H'/\∃ (j:Nat) (sd:Bytes) (v4:Option V),σ=[some (.ref a),some (.int (q:Int)),some (.ref l),some (.int (j:Int)),v4]/\H' l=some (.lst (vb sd))/\m=t.length - j/\q + 1<=j/\j<=t.length/\sd.length<=j/\
   quotedFrom (t.drop (q + 1))=(quotedFrom (t.drop j)).map (λx=>(sd ++ x.1,(j - (q + 1)) + x.2)),
  ⟨_,jo nl _,q + 1,[],none,rfl,jd,rfl,Nat.le_refl _,hq,Nat.zero_le _,?_⟩,?_⟩
 ·rw [Nat.sub_self];cases quotedFrom (t.drop (q + 1)) with
  | none=>rfl
  | some x=>simp
 rintro m σ H' ⟨sm,j,sd,v4,rfl,hl,rfl,hj1,hj,hsd,inv⟩;have hS':=sm.seq hS
 refine (λ(fin:(j=t.length\/t[j]? = some 34\/t[j]? = some 10)->?A)=>?main) ?fin
 case main =>
  refine ⟨_,rfl,_,rfl,a,_,rfl,.inl hS',_,_,rfl,rfl,_,rfl,qb (λk1=>?_) (λk1=>?_)⟩
  ·have hlt:j < t.length:=by
    have:=of_decide_eq_true k1;rw [xp] at this;omega
   obtain ⟨b,r2,hd2,hb,hr2⟩:=ja_ hlt;refine ⟨_,rfl,_,rfl,a,_,_,_,rfl,rfl,hS',wq hb,rfl,_,rfl,qb (λk2=>?_) (λk2=>?_)⟩
   ·have n34:b≠34:=λe=>by
     rw [decide_eq_true (show V.int (b.toNat:Int)=V.int 34 by rw [(yp (n:=34) (by decide)).mpr e];rfl)] at k2;cases k2
    refine ⟨_,rfl,_,rfl,a,_,_,_,rfl,rfl,hS',wq hb,rfl,_,rfl,qb (λk3=>?_) (λk3=>?_)⟩
    ·have n10:b≠10:=λe=>by
      rw [decide_eq_true (show V.int (b.toNat:Int)=V.int 10 by rw [(yp (n:=10) (by decide)).mpr e];rfl)] at k3;cases k3
     refine ⟨λσ' H2=>∃ m',m' < t.length - j/\(jh H H2/\∃ (j:Nat) (sd:Bytes) (v4:Option V),σ'=[some (.ref a),some (.int (q:Int)),some (.ref l),some (.int (j:Int)),v4]/\H2 l=some (.lst (vb sd))/\m'=t.length - j/\q + 1<=j/\j<=t.length/\sd.length<=j/\
       quotedFrom (t.drop (q + 1))=(quotedFrom (t.drop j)).map (λx=>(sd ++ x.1,(j - (q + 1)) + x.2))),λ_ _ z=>z,?_⟩
     refine ⟨_,rfl,_,rfl,a,_,_,_,rfl,rfl,hS',wq hb,?_⟩;have push:∀ (d:UInt8) (e:Nat),1<=e->j + e<=t.length->quotedFrom (t.drop j)=(quotedFrom (t.drop (j + e))).map (λx=>(d::x.1,x.2 + e))->
       ∃ m',m' < t.length - j/\(jh H (upd H' l (.lst (vb sd ++ [.int (d.toNat:Int)])))/\∃ (j2:Nat) (sd2:Bytes) (v4:Option V),([some (.ref a),some (.int (q:Int)),some (.ref l),some (.int ((j + e:Nat):Int)),some (.int (d.toNat:Int))]:St)=[some (.ref a),some (.int (q:Int)),some (.ref l),some (.int (j2:Int)),v4]/\
        upd H' l (.lst (vb sd ++ [.int (d.toNat:Int)])) l=some (.lst (vb sd2))/\m'=t.length - j2/\q + 1<=j2/\j2<=t.length/\sd2.length<=j2/\quotedFrom (t.drop (q + 1))=(quotedFrom (t.drop j2)).map (λx=>(sd2 ++ x.1,(j2 - (q + 1)) + x.2))):=by
      intro d e e1 hje hqf;refine ⟨t.length - (j + e),by omega,vw sm nl,j + e,sd ++ [d],_,rfl,?_,rfl,by omega,hje,?_,?_⟩
      ·rw [jd,jpi]
      ·rw [List.length_append,List.length_singleton];omega
      ·rw [inv,hqf,Option.map_map]
       congr 1
       funext x
       simp only [Function.comp,List.append_assoc,List.singleton_append]
       congr 1
       omega
     have small:(vb sd).length < sizeLine:=by
      rw [xp];show sd.length < 2 ^ 24
      omega
     refine ⟨_,rfl,rfl,_,rfl,qb (λk4=>?_) (λk4=>?_)⟩
     ·have e92:b=92:=(yp (n:=92) (by decide)).mp (by have:=of_decide_eq_true k4;injection this);subst e92;refine ⟨_,rfl,_,_,rfl,rfl,?_⟩;refine ⟨_,rfl,_,rfl,a,_,rfl,.inl hS',rfl,_,rfl,qb (λk5=>?_) (λk5=>?_)⟩
      ·have ej:j + 1=t.length:=by
        have:=of_decide_eq_true k5;injection this with this;rw [xp] at this;have:(j:Int) + 1=(t.length:Int):=this
        omega
       have z:quotedFrom (t.drop j)=none:=by
        rw [hd2,<- hr2,ej,List.drop_length,jz_]
       rw [z] at inv;rw [inv] at k;exact ⟨_,rfl,yx k⟩
      ·have hlt1:j + 1 < t.length:=by
        have:¬ (j + 1=t.length):=λz=>k5 (decide_eq_true (by rw [xp,<- z];rfl));omega
       obtain ⟨d,r3,hd3,hb3,hr3⟩:=ja_ hlt1;have dj:t.drop j=92::d::r3:=by rw [hd2,<- hr2,hd3]
       refine ⟨_,rfl,_,rfl,a,_,_,_,rfl,rfl,hS',wq hb3,ra,jk6,.inl (d.toNat:Int),rfl,dR,rfl,_,rfl,?_⟩;rw [if_pos rfl,jp7,Option.isSome_map];cases hE:jk7 d with
       | none =>
        refine qb (λ_=>?_) (λz=>absurd rfl z);rw [dj,j0c r3 hE] at inv;rw [inv] at k;exact ⟨_,rfl,yx k⟩
       | some d2 =>
        refine qb (λz=>absurd z Bool.false_ne_true) (λ_=>?_);refine ⟨_,rfl,_,rfl,a,_,_,_,rfl,rfl,hS',wq hb3,ra,jk6,.inl (d.toNat:Int),_,rfl,dR,rfl,(by rw [jp7,hE];rfl),?_⟩;refine ⟨_,rfl,.inl ⟨rfl,_,SqL.of hl⟩,_,rfl,l,_,_,rfl,rfl,hl,small,?_⟩;refine ⟨_,rfl,_,_,rfl,rfl,push d2 2 (by decide) (by omega) ?_⟩;rw [dj,j0a r3 hE,<- hr3]
     ·have n92:b≠92:=λe=>k4 (decide_eq_true (by rw [(yp (n:=92) (by decide)).mpr e];rfl));refine ⟨_,rfl,.inl ⟨rfl,_,SqL.of hl⟩,_,rfl,l,_,_,rfl,rfl,hl,small,?_⟩;refine ⟨_,rfl,_,_,rfl,rfl,push b 1 (by decide) (by omega) ?_⟩;rw [hd2,jvl r2 n34 n10 n92,hr2]
    ·have e10:b=10:=(yp (n:=10) (by decide)).mp (by
      have:decide (V.int (b.toNat:Int)=V.int 10)=true:=by simpa using k3
      have:=of_decide_eq_true this;injection this)
     exact fin (.inr (.inr (e10▸hb)))
   ·have e34:b=34:=(yp (n:=34) (by decide)).mp (by
     have:decide (V.int (b.toNat:Int)=V.int 34)=true:=by simpa using k2
     have:=of_decide_eq_true this;injection this)
    refine qb (λz=>absurd z (by decide)) (λ_=>?_);exact fin (.inr (.inl (e34▸hb)))
  ·refine qb (λz=>absurd z (by decide)) (λ_=>?_);refine fin (.inl ?_);have:¬ ((j:Int) < ((vb t).length:Int)):=λz=>k1 (decide_eq_true z)
   rw [xp] at this;omega
 case fin =>
  intro e;refine ⟨_,rfl,_,rfl,a,_,rfl,.inl hS',rfl,_,rfl,qb (λk1=>?_) (λk1=>?_)⟩
  ·have ej:j=t.length:=by
    have:=of_decide_eq_true k1;injection this with this;rw [xp] at this;omega
   rw [ej,List.drop_length] at inv;rw [inv] at k;exact ⟨_,rfl,yx k⟩
  ·have hlt:j < t.length:=by
    have:¬ (j=t.length):=λz=>k1 (decide_eq_true (by rw [xp,<- z]));omega
   obtain ⟨b,r2,hd2,hb,hr2⟩:=ja_ hlt;refine ⟨_,rfl,_,rfl,a,_,_,_,rfl,rfl,hS',wq hb,rfl,_,rfl,qb (λk2=>?_) (λk2=>?_)⟩
   ·have e10:b=10:=(yp (n:=10) (by decide)).mp (by have:=of_decide_eq_true k2;injection this);rw [hd2,e10,jx9] at inv;rw [inv] at k;exact ⟨_,rfl,yx k⟩
   ·have n10:b≠10:=λe=>k2 (decide_eq_true (by rw [(yp (n:=10) (by decide)).mpr e];rfl));have e34:b=34:=by
     rw [hb] at e;rcases e with e | e | e
     ·omega
     ·exact Option.some.inj e
     ·exact absurd (Option.some.inj e) n10
    rw [hd2,e34,j0b] at inv;rw [inv] at k;refine ⟨_,rfl,_,rfl,_,_,rfl,rfl,_,rfl,λx dx nx ndx ne=>⟨x,dx,_,_,_,_,rfl,jd,λH2 b e=>⟨rfl,k x H2 (sm.trans (But.same nx ndx b)) ⟨dx,.ref l,?_,?_⟩⟩⟩⟩
    ·have ee:((j:Int) + 1)=((q + (j - (q + 1) + 1 + 1):Nat):Int):=by omega
     rw [ee] at e;exact j9 rfl (jk sm nx) e
    ·exact ⟨l,rfl,j9 rfl nl (But.same nx ndx b _ _ (by show H' l=some (.lst (vb (sd ++ [])));rw [List.append_nil];exact hl))⟩
end
open Vanbka (doubleSigns singleSigns)
def jgk(u:Bytes):List Key:=u.map λc=>Sum.inl (c.toNat:Int)
theorem jy4(u:Bytes):(jgk u).map kV=vb u:=by
 unfold jgk vb;rw [List.map_map];rfl
theorem jwo{u v:Bytes}(h:jgk u=jgk v):u=v:=by
 refine (List.map_inj_right (λa b q=>?_)).mp h;injection q with q;exact UInt8.toNat_inj.mp (by omega)
def twoV:List (List Key×V):=doubleSigns.map λx=>(jgk x,V.str (xm x))
theorem two_val(u:Bytes):ze twoV (jgk u)=if doubleSigns.contains u then some (.str (xm u)) else none:=by
 have key:∀ l:List Bytes,ze (l.map λx=>(jgk x,V.str (xm x))) (jgk u)=if l.contains u then some (.str (xm u)) else none:=by
  intro l;induction l with
  | nil=>rfl
  | cons x l ih =>
   rw [List.map_cons,List.contains_cons];by_cases e:u=x
   ·subst e;rw [jaz rfl];simp
   ·rw [zr (λz=>e (jwo z).symm),ih,beq_eq_false_iff_ne.mpr e,Bool.false_or]
 exact key doubleSigns
def jkx:List (Key×V):=[(.inl 37,.str "percent"),(.inl 40,.str "("),(.inl 41,.str ")"),(.inl 42,.str "*"),(.inl 43,.str "+"),(.inl 44,.str ","),(.inl 45,.str "-"),(.inl 46,.str "."),(.inl 47,.str "/"),(.inl 58,.str ":"),(.inl 59,.str ";"),
 (.inl 60,.str "<"),(.inl 61,.str "="),(.inl 62,.str ">"),(.inl 63,.str "?"),(.inl 91,.str "["),(.inl 93,.str "]"),(.inl 123,.str "{"),(.inl 125,.str "}")]
theorem jyg:∀ n:Fin 256,ze jkx (.inl ((n.val:Nat):Int))=if singleSigns.contains (UInt8.ofNat n.val) then some (.str (jx (.sign [UInt8.ofNat n.val]))) else none:=by decide +kernel
theorem jp1(c:UInt8):ze jkx (.inl (c.toNat:Int))=if singleSigns.contains c then some (.str (jx (.sign [c]))) else none:=by
 have h:=jyg ⟨c.toNat,c.toNat_lt⟩;have e:UInt8.ofNat c.toNat=c:=by simp
 simp only [e] at h;exact h
theorem two_kind{u:Bytes}(h:doubleSigns.contains u=true):jx (.sign u)=xm u:=by
 have m:u∈doubleSigns:=by simpa using h
 have key:∀ x∈doubleSigns,jx (.sign x)=xm x:=by decide +kernel
 exact key u m
theorem jy_{t:Bytes}{q:Nat}(h:q<=t.length):jcj (vb t) (some (q:Int)) (some ((q:Int) + 2))=vb ((t.drop q).take 2):=by
 have e:((q:Int) + 2)=((q + 2:Nat):Int):=by omega
 unfold jcj;rw [e,HT.jd6,HT.jd6,xp,Nat.min_eq_left h];unfold vb;rw [<- List.map_drop,<- List.map_take]
 congr 1
 by_cases c:q + 2<=t.length
 ·rw [Nat.min_eq_left c]
  congr 1
  omega
 ·rw [Nat.min_eq_right (by omega),List.take_of_length_le (by rw [List.length_drop];omega),List.take_of_length_le (by rw [List.length_drop];omega)]
section
variable{P:Program}{w:World}{K:PySem.W.Frag}{mg:Str->Option Value}{base:Heap}{f g g2 CF fI CT tI:Addr}{fd gd gd2 fdI tdI:FuncData}
def KDT(P:Program)(w:World)(K:PySem.W.Frag)(mg:Str->Option Value)(x:Str)(kvs:List (List Key×V)):Prop:=∃ a,mg x=some (.ref a)/\jkh P w K a kvs
theorem js_:jv ["text", "place", "pair"] ["text", "place"] (ji jis):=⟨rfl,rfl,rfl,by decide +kernel,rfl,by decide +kernel,by decide +kernel⟩
theorem jyl(F:Fun K "cut_sign" "cut_sign" jis f fd)(T:vt K mg CF fI fdI)(U:z5 K mg CT tI tdI)(mt:mg "tuple"=none)(R2:KDT P w K mg "TWO_BYTE_SIGNS" twoV)(R1:KD w K mg "ONE_BYTE_SIGNS" jkx)(c4:CI mg "WRONG_TOKEN" 2) :
  xh P w K mg base (CXF P w) 3 f fd ["text", "place"] (jad K CF CT λc=>letter c=false/\digit c=false/\c≠34):=by
 refine F.okF (k:=2) js_ (λvs H Q E h=>?_) (λcdv A outer s H vs Q E hr h=>?_)
 ·obtain ⟨a,t,r,q,c,rfl,_⟩:=h;rfl
 obtain ⟨a,t,r,q,c,rfl,hS,hlen,hd,⟨n1,n2,n3⟩,k⟩:=h;obtain ⟨a2,m2,d2⟩:=R2;obtain ⟨a1,m1,d1⟩:=R1;have nd:=js_.nd
 have hu:=j1y hr;refine ⟨_,jc (ju (i:=2) nd rfl (Or.inl rfl) (jhf jmf rfl mt rfl (ja (ja6 jb3 (pv 0) (jar (pv 1)) (jar (qa jam (pv 1) qd))) jb)))
  (jc (qh (js (jyd hu) (pv 2) (ve m2 rfl) rfl)
   (je (jp (jbl U.make (jge U) hr rfl U.c.m U.b .nil wu (ja (jts hu (ve m2 rfl) (pv 2) (λ_ _=>rfl)) (ja (pv 1) (ja (qa jam (pv 1) qd) (ja jfl jb))))))) jy)
  (jc (qh (js jhh (xo qv (pv 0) (pv 1) (λ_ _=>rfl)) (ve m1 rfl) rfl)
   (je (jp (jbl U.make (jge U) hr rfl U.c.m U.b .nil wu (ja (jcr (ve m1 rfl) (xo qv (pv 0) (pv 1) (λ_ _=>rfl)) (λ_ _=>rfl)) (ja (pv 1) (ja (qa jam (pv 1) qd) (ja jfl jb))))))) jy)
  (je (vz T hr rfl (ja (qx c4 rfl) (ja (pv 1) jb)))))),?_⟩
 have hq:q < t.length:=(Cell.drop_one hd).2;have hc:t[q]? = some c:=ji3 hd
 have lx:lexAt (t.drop q)=if doubleSigns.contains ((t.drop q).take 2) then some (.sign ((t.drop q).take 2),2) else if singleSigns.contains c then some (.sign [c],1) else none:=by
  rw [hd];show (if letter c then _ else if digit c then _ else if c == 34 then _ else _)=_
  rw [n1,n2,beq_eq_false_iff_ne.mpr n3];rfl
 rw [lx] at k;refine ⟨_,rfl,_,rfl,_,rfl,_,rfl,_,_,rfl,rfl,_,rfl,a,_,rfl,hS,λp np=>?_⟩;rw [jy_ (by omega)];refine ⟨p,_,rfl,.inl ⟨SqL.of jd,λl nl=>?_⟩⟩;have sm:jh H (upd (upd H p (.lst (vb ((t.drop q).take 2)))) l (.tup (vb ((t.drop q).take 2)))):=(jo np _).trans (jo nl _)
 have hS':=sm.seq hS;have hl:(upd (upd H p (.lst (vb ((t.drop q).take 2)))) l (.tup (vb ((t.drop q).take 2)))) l=some (.tup ((jgk ((t.drop q).take 2)).map kV)):=by rw [jd,jy4]
 refine ⟨_,rfl,a2,twoV,l,_,rfl,d2,rfl,hl,_,rfl,?_⟩;rw [two_val];by_cases cD:doubleSigns.contains ((t.drop q).take 2)=true
 ·rw [if_pos cD] at k ⊢;refine qb (λ_=>?_) (λz=>absurd rfl z);refine ⟨_,rfl,a2,twoV,l,_,_,rfl,d2,rfl,hl,(by rw [two_val,if_pos cD]),_,rfl,_,rfl,_,_,rfl,rfl,λx dx nx ndx ne=>⟨x,dx,_,_,_,_,rfl,jd,λH2 b e=>⟨rfl,k x H2 (sm.trans (But.same nx ndx b)) ⟨dx,.non,?_,rfl⟩⟩⟩⟩;show Cut noH H H2 x=some (.ins CT dx (jdi (jx (.sign _)) _ _ _))
  rw [two_kind cD];exact j9 rfl (jk sm nx) e
 ·rw [if_neg cD] at k ⊢;refine qb (λz=>absurd z Bool.false_ne_true) (λ_=>?_);refine ⟨_,rfl,_,rfl,a,_,_,_,rfl,rfl,hS',wq hc,a1,jkx,.inl (c.toNat:Int),rfl,d1,rfl,_,rfl,?_⟩;rw [if_neg Bool.false_ne_true,jp1];by_cases cS:singleSigns.contains c=true
  ·rw [if_pos cS] at k ⊢;refine qb (λ_=>?_) (λz=>absurd rfl z);refine ⟨_,rfl,_,rfl,a,_,_,_,rfl,rfl,hS',wq hc,a1,jkx,.inl (c.toNat:Int),_,rfl,d1,rfl,(by rw [jp1,if_pos cS]),_,rfl,_,rfl,_,_,rfl,rfl,λx dx nx ndx ne=>⟨x,dx,_,_,_,_,rfl,jd,λH2 b e=>⟨rfl,k x H2 (sm.trans (But.same nx ndx b)) ⟨dx,.non,j9 rfl (jk sm nx) e,rfl⟩⟩⟩⟩
  ·rw [if_neg cS] at k ⊢;refine qb (λz=>absurd z Bool.false_ne_true) (λ_=>?_);exact ⟨_,rfl,yx k⟩
def Has(P:Program)(w:World)(K:PySem.W.Frag)(mg:Str->Option Value)(base:Heap)(k:Nat)(x:Str)(ps:List Str)(sp:Sp):Prop :=
 ∃ f fd,xh P w K mg base (CXF P w) k f fd ps sp/\zk K fd ps []/\PySem.W.keepIn K (.ref f)=true/\mg x=some (.ref f)
theorem jg{P:Program}{w:World}{K:PySem.W.Frag}{mg:Str->Option Value}{base:Heap}{k j:Nat}{x:Str}{ps:List Str}{sp:Sp}{N:List Str}{qual:Str}{scope:Scope}{f:Addr}{cd:Value}{A:Around}{outer:List Env}{s:Shared}{H:Hp}{E:XK}{e:PySem.Expr}{es:List PySem.Expr}{t:TA}{p pos:Pos}
  (G:Has P w K mg base k x ps sp) (hr:xu j (xt (CXF P w) P w K mg base N qual scope f cd A outer s H E).A) (hg:Gl (xt (CXF P w) P w K mg base N qual scope f cd A outer s H E) x) (ha:PA (xt (CXF P w) P w K mg base N qual scope f cd A outer s H E) (e::es) t)
  (hj:k<=j:=by decide) (hdb:(x == ("__debug__":Str))=false:=by decide)
  (he:starEach (e::es) (xt (CXF P w) P w K mg base N qual scope f cd A outer s H E).env=(false,eval e (xt (CXF P w) P w K mg base N qual scope f cd A outer s H E).env)::starEach es (xt (CXF P w) P w K mg base N qual scope f cd A outer s H E).env:=by rfl)
  (hpl:(backTo pos (starEach es (xt (CXF P w) P w K mg base N qual scope f cd A outer s H E).env)).any (·.1)=false:=by rfl) :
  PE (xt (CXF P w) P w K mg base N qual scope f cd A outer s H E) (.Call (.Name x p) (e::es) [] pos) (yh sp [] E t):=by
 obtain ⟨f',fd,F,b,kp,m⟩:=G;exact vf F (hr.mono hj) hg m kp b .nil wu ha hdb he hpl
def jr(K:PySem.W.Frag)(mg:Str->Option Value)(x:Str)(ps:List Str)(st:PySem.Stmt):Prop:=∃ f fd,Fun K x x st f fd/\zk K fd ps []/\PySem.W.keepIn K (.ref f)=true/\mg x=some (.ref f)
def jmk(CT:Addr)(H:Hp)(x:Addr)(n:Nat):Prop:=∃ dx,H x=some (.ins CT dx (jdi "END" (n:Int) (n:Int) .non))
def j0_(CT:Addr)(H:Hp)(n:Nat)(x:Addr):Option Vanbka.Tok->Prop
 | some t=>vm CT H x t
 | none=>jmk CT H x n
def ju1(CT:Addr)(H:Hp)(l:Addr)(ts:List Vanbka.Tok)(n:Nat):Prop:=∃ xs:List Addr,H l=some (.lst (xs.map V.ref))/\Paired (j0_ CT H n) xs (ts.map some ++ [none])
def jgs(CT:Addr)(H:Hp)(l:Addr)(ts:List Vanbka.Tok):Prop:=∃ xs:List Addr,H l=some (.lst (xs.map V.ref))/\Paired (vm CT H) xs ts
theorem jgs.same{CT:Addr}{H H':Hp}(s:jh H H'){l:Addr}{ts:List Vanbka.Tok}(h:jgs CT H l ts):jgs CT H' l ts:=by
 obtain ⟨xs,e,p⟩:=h;exact ⟨xs,s _ _ e,Paired.mapP p λ_ _ z=>z.same s⟩
theorem Paired.snoc{α β:Type}{F:α->β->Prop}:∀ {l₁:List α} {l₂:List β} {a:α} {b:β},Paired F l₁ l₂->F a b->Paired F (l₁ ++ [a]) (l₂ ++ [b])
 | _,_,_,_,.nil,h=>.cons h .nil
 | _,_,_,_,.cons r t,h=>.cons r (Paired.snoc t h)
theorem Paired.len{α β:Type}{F:α->β->Prop}:∀ {l₁:List α} {l₂:List β},Paired F l₁ l₂->l₁.length=l₂.length
 | _,_,.nil=>rfl
 | _,_,.cons _ t=>by rw [List.length_cons,List.length_cons,Paired.len t]
theorem Paired.get{α β:Type}{F:α->β->Prop}:∀ {l₁:List α} {l₂:List β} {i:Nat} {b:β},Paired F l₁ l₂->l₂[i]? = some b->∃ a,l₁[i]? = some a/\F a b
 | _,_,_,_,.nil,h=>by simp at h
 | _,_,0,_,.cons r t,h=>by cases h;exact ⟨_,rfl,r⟩
 | _,_,i + 1,_,.cons r t,h=>by
  obtain ⟨a,e,q⟩:=Paired.get (i:=i) t (by simpa using h);exact ⟨a,by simpa using e,q⟩
theorem Paired.mapR{α β γ:Type}{F:α->β->Prop}{G:α->γ->Prop}{g:β->γ}(h:∀ a b,F a b->G a (g b)):∀ {l₁:List α} {l₂:List β},Paired F l₁ l₂->Paired G l₁ (l₂.map g)
 | _,_,.nil=>.nil
 | _,_,.cons r t=>.cons (h _ _ r) (Paired.mapR h t)
theorem jbc{T H0 H1 H2 H3:Hp}(h1:∀ b,H1 b=none->H0 b=none)(h2:∀ b o,H1 b=none->H2 b=some o->H3 b=some o):jh (Cut T H1 H2) (Cut T H0 H3):=λb o e=>by
 rcases jbd e with z | ⟨z1,z2,z3⟩
 ·exact jh9 z
 ·exact j9 z1 (h1 b z2) (h2 b o z2 z3)
theorem jxc:jv ["text", "place", "byte"] ["text", "place"] (ji jg_):=⟨rfl,rfl,rfl,by decide +kernel,rfl,by decide +kernel,by decide +kernel⟩
theorem j0n(F:Fun K "cut_token" "cut_token" jg_ f fd)(D:Has P w K mg base 1 "is_digit" ["byte"] jfh)(W:Has P w K mg base 2 "is_word_byte" ["byte"] jhu)
  (G1:Has P w K mg base 3 "cut_number" ["text", "place"] (jad K CF CT λc=>digit c=true)) (G2:Has P w K mg base 3 "cut_word" ["text", "place"] (jad K CF CT λc=>letter c=true))
  (G3:Has P w K mg base 3 "cut_quoted" ["text", "place"] (jad K CF CT λc=>c=34)) (G4:Has P w K mg base 3 "cut_sign" ["text", "place"] (jad K CF CT λc=>letter c=false/\digit c=false/\c≠34)) (c1:CI mg "QUOTE" 34) :
  xh P w K mg base (CXF P w) 4 f fd ["text", "place"] (jad K CF CT λ_=>True):=by
 refine F.okF (k:=3) jxc (λvs H Q E h=>?_) (λcdv A outer s H vs Q E hr h=>?_)
 ·obtain ⟨a,t,r,q,c,rfl,_⟩:=h;rfl
 obtain ⟨a,t,r,q,c,rfl,hS,hlen,hd,_,k⟩:=h;have nd:=jxc.nd
 refine ⟨_,jc (ju (i:=2) nd rfl (Or.inl rfl) (xo qv (pv 0) (pv 1) (λ_ _=>rfl)))
  (jc (qh (jcd (jg D hr rfl (ja (pv 2) jb))) (je (jp (jg G1 hr rfl (ja (pv 0) (ja (pv 1) jb))))) jy)
  (jc (qh (jcd (jg W hr rfl (ja (pv 2) jb))) (je (jp (jg G2 hr rfl (ja (pv 0) (ja (pv 1) jb))))) jy)
  (jc (qh (js xi (pv 2) (qx c1 rfl) (j6 _)) (je (jp (jg G3 hr rfl (ja (pv 0) (ja (pv 1) jb))))) jy)
  (je (jp (jg G4 hr rfl (ja (pv 0) (ja (pv 1) jb)))))))),?_⟩
 have hc:t[q]? = some c:=ji3 hd;refine ⟨_,rfl,_,rfl,a,_,_,_,rfl,rfl,hS,wq hc,?_⟩;refine ⟨_,rfl,_,rfl,_,rfl,?_⟩;rw [jci];refine qb (λk1=>?_) (λk1=>?_)
 ·exact ⟨_,rfl,_,rfl,a,t,r,q,c,rfl,hS,hlen,hd,k1,k⟩
 refine ⟨_,rfl,_,rfl,_,rfl,?_⟩;rw [jgu];have n1:=Bool.eq_false_iff.mpr k1
 refine qb (λk2=>?_) (λk2=>?_)
 ·have lc:letter c=true:=by
   unfold wordByte at k2;rw [n1,Bool.or_false] at k2;exact k2
  exact ⟨_,rfl,_,rfl,a,t,r,q,c,rfl,hS,hlen,hd,lc,k⟩
 have lc:letter c=false:=by
  have z:=Bool.eq_false_iff.mpr k2;unfold wordByte at z;exact (Bool.or_eq_false_iff.mp z).1
 refine ⟨_,rfl,rfl,_,rfl,qb (λk3=>?_) (λk3=>?_)⟩
 ·have e:c=34:=(yp (n:=34) (by decide)).mp (by have:=of_decide_eq_true k3;injection this);exact ⟨_,rfl,_,rfl,a,t,r,q,c,rfl,hS,hlen,hd,e,k⟩
 ·have n3:c≠34:=λe=>k3 (decide_eq_true (by rw [(yp (n:=34) (by decide)).mpr e];rfl));exact ⟨_,rfl,_,rfl,a,t,r,q,c,rfl,hS,hlen,hd,⟨lc,n1,n3⟩,k⟩
def jil(K:PySem.W.Frag)(CF CT:Addr):Sp:=λvs H Q E=>∃ (a:Addr) (t:Bytes),vs=[.ref a]/\SqL K H a (vb t)/\t.length<=900000/\match Vanbka.tokens t with
 | .error p=>Err CF E 2 (p:Int)
 | .ok ts=>∀ l H',jh H H'->jgs CT (Cut noH H H') l ts->Q (.ref l) H'
theorem js7:jv ["text", "tokens", "place", "token"] ["text"] (ji jf6):=⟨rfl,rfl,rfl,by decide +kernel,rfl,by decide +kernel,by decide +kernel⟩
theorem jyi(F:Fun K "cut_tokens" "cut_tokens" jf6 f fd)(U:z5 K mg CT tI tdI)(G1:Has P w K mg base 1 "pass_over" ["text", "place"] (jmw K))(G2:Has P w K mg base 4 "cut_token" ["text", "place"] (jad K CF CT λ_=>True))(ml:mg "len"=none) :
  xh P w K mg base (CXF P w) 5 f fd ["text"] (jil K CF CT):=by
 refine F.okF (k:=4) js7 (λvs H Q E h=>?_) (λcdv A outer s H vs Q E hr h=>?_)
 ·obtain ⟨a,t,rfl,_⟩:=h;rfl
 obtain ⟨a,t,rfl,hS,hlen,k⟩:=h;have nd:=js7.nd
 refine ⟨_,jc (ju (i:=1) nd rfl (Or.inl rfl) (j3 jb))
  (jc (ju (i:=2) nd rfl (Or.inl rfl) (jg G1 hr rfl (ja (pv 0) (ja qd jb))))
  (jc (vh jag (js jdx (pv 2) (yt x9 rfl ml PySem.boot_len (ja (pv 0) jb)) (j6 _))
   (jc (ju (i:=3) nd rfl (Or.inl rfl) (jg G2 hr rfl (ja (pv 0) (ja (pv 2) jb))))
   (jc (j_ (vk PySem.F.plainAttrs_list PySem.F.slot_list_append PySem.F.type_list_append zg (pv 1) (ja (pv 3) jb)))
   (je (ju (i:=2) nd rfl (Or.inl rfl) (jg G1 hr rfl (ja (pv 0) (ja (qi (pv 3) rfl) jb))))))))
  (je (jp (pv 1))))),?_⟩
 refine ⟨by decide,λl nl=>⟨_,rfl,a,t,0,rfl,(jo nl _).seq hS,Nat.zero_le _,?_⟩⟩;refine ⟨λm σ H'=>jh H H'/\∃ (j:Nat) (done:List Vanbka.Tok) (xs:List Addr) (v3:Option V),σ=[some (.ref a),some (.ref l),some (.int (j:Int)),v3]/\H' l=some (.lst (xs.map V.ref))/\Paired (vm CT (Cut noH (upd H l (.lst [])) H')) xs done/\m=t.length - j/\j<=t.length/\xs.length<=j/\
   (t.drop j=[]\/∃ c r,t.drop j=c::r/\c≠10/\c≠32/\c≠35)/\Vanbka.tokens t=match Cell.zx t j with
    | .error p=>.error p
    | .ok ts=>.ok (done ++ ts),⟨_,jo nl _,0 + Cell.skip false (t.drop 0),[],[],none,rfl,jd,.nil,rfl,?_,Nat.zero_le _,?_,?_⟩,?_⟩
 ·rw [Nat.zero_add];exact Cell.jfi false t
 ·rw [Nat.zero_add,List.drop_zero];exact Cell.jed t false
 ·rw [Cell.jsp,Cell.jjc t 0];cases Cell.zx t (0 + Cell.skip false (t.drop 0)) <;> rfl
 rintro m σ H' ⟨sm,j,done,xs,v3,rfl,hl,pr,rfl,hj,hxs,hcl,inv⟩;have hS':=sm.seq hS
 have lb:∀ {X:Hp} {b:Addr},X b=none->X l≠none->b≠l:=λh1 h2 z=>h2 (z▸h1);have hlo:∀ b,H' b=none->upd H l (.lst []) b=none:=λb z=>by
  have:b≠l:=λy=>by rw [y,hl] at z;cases z
  rw [jm this];exact jk sm z
 have small:(xs.map V.ref).length < sizeLine:=by
  rw [List.length_map];show xs.length < 2 ^ 24
  omega
 refine ⟨_,rfl,_,rfl,a,_,rfl,.inl hS',_,_,rfl,rfl,_,rfl,qb (λk1=>?_) (λk1=>?_)⟩
 ·have hlt:j < t.length:=by
   have:=of_decide_eq_true k1;rw [xp] at this;omega
  obtain ⟨c,r,hd,n1,n2,n3⟩:∃ c r,t.drop j=c::r/\c≠10/\c≠32/\c≠35:=by
   rcases hcl with z | z
   ·have:=congrArg List.length z;rw [List.length_drop,List.length_nil] at this;omega
   ·exact z
  have step:=Cell.jqi hd n1 n2 n3;refine ⟨λσ' H2=>∃ m',m' < t.length - j/\(jh H H2/\∃ (j:Nat) (done:List Vanbka.Tok) (xs:List Addr) (v3:Option V),σ'=[some (.ref a),some (.ref l),some (.int (j:Int)),v3]/\H2 l=some (.lst (xs.map V.ref))/\Paired (vm CT (Cut noH (upd H l (.lst [])) H2)) xs done/\m'=t.length - j/\j<=t.length/\xs.length<=j/\
   (t.drop j=[]\/∃ c r,t.drop j=c::r/\c≠10/\c≠32/\c≠35)/\Vanbka.tokens t=match Cell.zx t j with
    | .error p=>.error p
    | .ok ts=>.ok (done ++ ts)),λ_ _ z=>z,?_⟩
  refine ⟨_,rfl,_,rfl,a,t,r,j,c,rfl,hS',hlen,hd,trivial,?_⟩;cases hx:lexAt (t.drop j) with
  | none =>
   rw [hx] at step;rw [step] at inv;rw [inv] at k;exact k
  | some y =>
   obtain ⟨lx,kk⟩:=y;rw [hx] at step;have kl:=Cell.jdc hx
   rw [List.length_drop] at kl;intro x H2 sm2 tk;have hl2:H2 l=some (.lst (xs.map V.ref)):=sm2 _ _ hl
   obtain ⟨dx,v,ex,vx⟩:=tk;rcases jbd ex with z | ⟨_,nx,ex2⟩
   ·cases z
   have xl:x≠l:=λy=>by rw [y,hl] at nx;cases nx
   refine ⟨_,rfl,.inl ⟨rfl,_,SqL.of hl2⟩,_,rfl,l,_,_,rfl,rfl,hl2,small,?_⟩;have sm3:jh H (upd H2 l (.lst (xs.map V.ref ++ [V.ref x]))):=vw (sm.trans sm2) nl
   refine ⟨_,rfl,_,rfl,x,CT,dx,_,_,rfl,by rw [jm xl];exact ex2,U.c.cl,U.c.no _ (.tail _ (.tail _ (.head _))),rfl,a,t,j + kk,rfl,sm3.seq hS,by omega,?_⟩;have q1:j + kk + Cell.skip false (t.drop (j + kk))<=t.length:=by
    have:=Cell.jfi false (t.drop (j + kk));rw [List.length_drop] at this;omega
   have g1:jh (Cut noH (upd H l (.lst [])) H') (Cut noH (upd H l (.lst [])) (upd H2 l (.lst (xs.map V.ref ++ [V.ref x])))):=jbc (λ_ z=>z) λb o z1 z2=>by
    have bl:b≠l:=λy=>by rw [y,jd] at z1;cases z1
    rw [jm bl];exact sm2 _ _ z2
   have g2:jh (Cut noH H' H2) (Cut noH (upd H l (.lst [])) (upd H2 l (.lst (xs.map V.ref ++ [V.ref x])))):=jbc hlo λb o z1 z2=>by
    have bl:b≠l:=λy=>by rw [y,hl] at z1;cases z1
    rw [jm bl];exact z2
   refine ⟨t.length - (j + kk + Cell.skip false (t.drop (j + kk))),by omega,sm3,j + kk + Cell.skip false (t.drop (j + kk)),done ++ [{ lex:=lx,place:=j,len:=kk }],xs ++ [x],_,rfl,by rw [jd,List.map_append];rfl,
    Paired.snoc (Paired.mapP pr λ_ _ z=>z.same g1) (vm.same g2 ⟨dx,v,ex,vx⟩),rfl,q1,by rw [List.length_append,List.length_singleton];omega,?_,?_⟩
   ·rw [<- List.drop_drop];exact Cell.jed _ false
   ·rw [inv,step,<- Cell.jjc];dsimp only;cases Cell.zx t (j + kk) with
    | error z=>rfl
    | ok ts =>
     show Except.ok (done ++ _::ts)=Except.ok ((done ++ [_]) ++ ts);rw [List.append_assoc];rfl
 ·have ej:t.length<=j:=by
   have:¬ ((j:Int) < ((vb t).length:Int)):=λz=>k1 (decide_eq_true z);rw [xp] at this;omega
  rw [Cell.jsq ej] at inv;rw [inv] at k;refine ⟨_,rfl,k l _ sm ⟨xs,j9 rfl nl hl,?_⟩⟩;rw [List.append_nil];have g1:jh (Cut noH (upd H l (.lst [])) H') (Cut noH H H'):=jbc (λb z=>by
    have bl:b≠l:=λy=>by rw [y,jd] at z;cases z
    rw [jm bl] at z;exact z) λ_ _ _ z2=>z2
  exact Paired.mapP pr λ_ _ z=>vm.same g1 z
end
open Vanbka (isSign isWord next nameNext wordNext eat b halt_ tokensFrom placeAt tooDeepAt)
def jac:List Lex:=(doubleSigns.map Lex.sign ++ singleSigns.map λc=>Lex.sign [c]) ++ reserved.map Lex.word
def Wf:Lex->Prop
 | .sign x=>Lex.sign x∈jac
 | _=>True
theorem jul:∀ l∈jac,∀ m∈jac,jx l=jx m->l=m:=by decide +kernel
theorem z8:∀ l∈jac,jx l≠"NAME"/\jx l≠"NUMBER"/\jx l≠"QUOTED"/\jx l≠"END":=by decide +kernel
theorem wz{l:Lex}(h:Wf l):l∈jac\/(∃ x,l = .word x/\reserved.contains x=false)\/(∃ n,l = .num n)\/∃ x,l = .quoted x:=by
 cases l with
 | sign x=>exact .inl h
 | num n=>exact .inr (.inr (.inl ⟨n,rfl⟩))
 | quoted x=>exact .inr (.inr (.inr ⟨x,rfl⟩))
 | word x =>
  cases e:reserved.contains x with
  | true =>
   refine .inl (List.mem_append_right _ (List.mem_map.mpr ⟨x,by simpa using e,rfl⟩))
  | false=>exact .inr (.inl ⟨x,rfl,e⟩)
theorem zn{x:Bytes}(h:reserved.contains x=false):jx (.word x) = "NAME":=by
 show (if reserved.contains x then _ else _)=_;rw [h];rfl
theorem jj0{l m:Lex}(h:Wf l)(hm:m∈jac):jx l=jx m↔l=m:=by
 constructor
 ·intro e;rcases wz h with z | ⟨x,rfl,z⟩ | ⟨n,rfl⟩ | ⟨x,rfl⟩
  ·exact jul l z m hm e
  ·rw [zn z] at e;exact absurd e.symm (z8 m hm).1
  ·exact absurd e.symm (z8 m hm).2.1
  ·exact absurd e.symm (z8 m hm).2.2.1
 ·intro e;rw [e]
theorem jie{l:Lex}(h:Wf l):jx l = "NAME"↔∃ x,l = .word x/\reserved.contains x=false:=by
 constructor
 ·intro e;rcases wz h with z | z | ⟨n,rfl⟩ | ⟨x,rfl⟩
  ·exact absurd e (z8 l z).1
  ·exact z
  ·exact absurd e (show ("NUMBER":Str)≠"NAME" by decide)
  ·exact absurd e (show ("QUOTED":Str)≠"NAME" by decide)
 ·rintro ⟨x,rfl,z⟩;exact zn z
theorem jru{l:Lex}(h:Wf l):jx l = "NUMBER"↔∃ n,l = .num n:=by
 constructor
 ·intro e;rcases wz h with z | ⟨x,rfl,z⟩ | z | ⟨x,rfl⟩
  ·exact absurd e (z8 l z).2.1
  ·rw [zn z] at e;exact absurd e (by decide)
  ·exact z
  ·exact absurd e (show ("QUOTED":Str)≠"NUMBER" by decide)
 ·rintro ⟨n,rfl⟩;rfl
theorem jrt{l:Lex}(h:Wf l):jx l = "QUOTED"↔∃ x,l = .quoted x:=by
 constructor
 ·intro e;rcases wz h with z | ⟨x,rfl,z⟩ | ⟨n,rfl⟩ | z
  ·exact absurd e (z8 l z).2.2.1
  ·rw [zn z] at e;exact absurd e (by decide)
  ·exact absurd e (show ("NUMBER":Str)≠"QUOTED" by decide)
  ·exact z
 ·rintro ⟨n,rfl⟩;rfl
theorem jjz{l:Lex}(h:Wf l):jx l≠"END":=by
 rcases wz h with z | ⟨x,rfl,z⟩ | ⟨n,rfl⟩ | ⟨x,rfl⟩
 ·exact (z8 l z).2.2.2
 ·rw [zn z];decide
 ·exact (show ("NUMBER":Str)≠"END" by decide)
 ·exact (show ("QUOTED":Str)≠"END" by decide)
def jq(rs:List Vanbka.Tok):Str:=match rs with
 | [] => "END"
 | t::_=>jx t.lex
abbrev WfL(rs:List Vanbka.Tok):Prop:=∀ t∈rs,Wf t.lex
theorem zm{s:String}{z:Str}{rs:List Vanbka.Tok}(h:WfL rs)(m:Lex.sign (b s)∈jac)(k:jx (.sign (b s))=z):next (isSign s) rs=decide (jq rs=z):=by
 cases rs with
 | nil=>exact (decide_eq_false (λe=>(z8 _ m).2.2.2 (k.trans e.symm))).symm
 | cons t r =>
  show (t.lex == .sign (b s))=decide (jx t.lex=z);rw [<- k];have:=jj0 (h t (.head _)) m
  rw [decide_eq_decide.mpr this];rfl
theorem zf{s:String}{z:Str}{rs:List Vanbka.Tok}(h:WfL rs)(m:Lex.word (b s)∈jac)(k:jx (.word (b s))=z):next (isWord s) rs=decide (jq rs=z):=by
 cases rs with
 | nil=>exact (decide_eq_false (λe=>(z8 _ m).2.2.2 (k.trans e.symm))).symm
 | cons t r =>
  show (t.lex == .word (b s))=decide (jx t.lex=z);rw [<- k];have:=jj0 (h t (.head _)) m
  rw [decide_eq_decide.mpr this];rfl
theorem jwl{t:Bytes}{l:Lex}{k:Nat}(h:lexAt t=some (l,k)):Wf l:=by
 cases t with
 | nil=>cases h
 | cons c r =>
  unfold lexAt at h;dsimp only at h;split at h
  ·split at h
   ·cases h;trivial
   ·cases h
  split at h
  ·split at h
   ·cases h;trivial
   ·cases h
  split at h
  ·cases e:quotedFrom r with
   | none=>rw [e] at h;cases h
   | some x=>rw [e] at h;cases h;trivial
  split at h
  ·rename_i q;cases h;exact List.mem_append_left _ (List.mem_append_left _ (List.mem_map.mpr ⟨_,by simpa using q,rfl⟩))
  split at h
  ·rename_i q;cases h;exact List.mem_append_left _ (List.mem_append_right _ (List.mem_map.mpr ⟨_,by simpa using q,rfl⟩))
  ·cases h
theorem jso:∀ (n p:Nat) (t:Bytes) (ts:List Vanbka.Tok),tokensFrom n p t = .ok ts->WfL ts:=by
 intro n;induction n with
 | zero=>intro p t ts h;cases h;intro x hx;cases hx
 | succ n ih =>
  intro p t ts h;cases t with
  | nil=>cases h;intro x hx;cases hx
  | cons c r =>
   rw [tokensFrom] at h;split at h
   ·exact ih _ _ _ h
   split at h
   ·exact ih _ _ _ h
   ·split at h
    ·cases h
    ·rename_i l k hl;split at h
     ·cases h
     ·rename_i ts' hts;cases h;intro x hx;rcases List.mem_cons.mp hx with z | z
      ·subst z;exact jwl hl
      ·exact ih _ _ _ hts x z
theorem jqh:∀ (n p:Nat) (t:Bytes) (ts:List Vanbka.Tok),Vanbka.tokensFrom n p t = .ok ts->ts.length<=t.length:=by
 intro n;induction n with
 | zero=>intro p t ts h;cases h;exact Nat.zero_le _
 | succ n ih =>
  intro p t ts h;cases t with
  | nil=>cases h;exact Nat.zero_le _
  | cons c r =>
   rw [Vanbka.tokensFrom] at h;split at h
   ·have:=ih _ _ _ h;rw [List.length_cons];omega
   split at h
   ·have:=ih _ _ _ h;rw [List.length_drop] at this;omega
   ·split at h
    ·cases h
    ·rename_i l k hl;split at h
     ·cases h
     ·rename_i ts' hts;cases h;have:=ih _ _ _ hts
      have kl:=Cell.jdc hl;rw [List.length_drop] at this;rw [List.length_cons];omega
structure Tx where
 T:Hp
 lt:Addr
 all:List Vanbka.Tok
 len:Nat
 tr:∀ a C dx fs,T a=some (.ins C dx fs)->fs.lookup ("depth":Str)=none
structure RD(CT CR:Addr)(X:Tx)(rd:Addr)(H:Hp)(rs:List Vanbka.Tok):Prop where
 st:jh X.T H
 toks:ju1 CT X.T X.lt X.all X.len
 wf:WfL X.all
 no:X.T rd=none
 ob:∃ dx pre,H rd=some (.ins CR dx [("tokens",.ref X.lt),("at",.int ((List.length pre:Nat):Int))])/\X.all=pre ++ rs
def jw4(T:Hp)(rs:List Vanbka.Tok)(v:V):Prop:=match rs with
 | []=>v = .non
 | t::_=>jd4 T t.lex v
def jxn(n:Nat)(rs:List Vanbka.Tok):Nat:=match rs with
 | []=>n
 | t::_=>t.place
theorem jvq{all pre rs:List Vanbka.Tok}{n:Nat}(h:all=pre ++ rs):placeAt all n rs.length=jxn n rs:=by
 subst h;unfold placeAt;rw [List.length_append,Nat.add_sub_cancel,List.drop_left];cases rs <;> rfl
section
variable{CT CR:Addr}{X:Tx}{rd:Addr}{H H':Hp}{rs:List Vanbka.Tok}
theorem RD.wfr(R:RD CT CR X rd H rs):WfL rs:=by
 obtain ⟨dx,pre,_,e⟩:=R.ob;intro t ht;exact R.wf t (by rw [e];exact List.mem_append_right _ ht)
theorem RD.item(R:RD CT CR X rd H rs):∃ (dx:Addr) (xs:List Addr) (i:Nat) (x:Addr) (e:Int) (v:V) (dt:Addr),H rd=some (.ins CR dx [("tokens",.ref X.lt),("at",.int (i:Int))])/\H X.lt=some (.lst (List.map V.ref xs))/\atI (List.map V.ref xs) (i:Int)=some (.ref x)/\
  H x=some (.ins CT dt (jdi (jq rs) (placeAt X.all X.len rs.length:Nat) e v))/\jw4 X.T rs v/\X.all.length=i + rs.length:=by
 obtain ⟨dx,pre,h1,h2⟩:=R.ob;obtain ⟨xs,h3,h4⟩:=R.toks;have hp:placeAt X.all X.len rs.length=jxn X.len rs:=jvq h2
 have hg:(X.all.map some ++ [none])[pre.length]? = some rs.head? := by
  rw [h2];cases rs with
  | nil=>simp
  | cons t r=>simp
 obtain ⟨x,hx,ht⟩:=Paired.get h4 hg;have hxx:(List.map V.ref xs)[pre.length]? = some (.ref x):=by rw [List.getElem?_map,hx];rfl
 cases rs with
 | nil =>
  obtain ⟨dt,e⟩:=(show jmk CT X.T x X.len from ht)
  refine ⟨dx,xs,pre.length,x,(X.len:Int),.non,dt,h1,R.st _ _ h3,jaw hxx,?_,rfl,by rw [h2,List.length_append]⟩;rw [hp];exact R.st _ _ e
 | cons t r =>
  obtain ⟨dt,v,e,q⟩:=(show vm CT X.T x t from ht)
  refine ⟨dx,xs,pre.length,x,((t.place + t.len:Nat):Int),v,dt,h1,R.st _ _ h3,jaw hxx,?_,q,by rw [h2,List.length_append]⟩;rw [hp];exact R.st _ _ e
theorem RD.item2{t:Vanbka.Tok}{r:List Vanbka.Tok}(R:RD CT CR X rd H (t::r)):∃ (dx:Addr) (xs:List Addr) (i:Nat) (x:Addr) (p e:Int) (v:V) (dt:Addr),H rd=some (.ins CR dx [("tokens",.ref X.lt),("at",.int (i:Int))])/\H X.lt=some (.lst (List.map V.ref xs))/\atI (List.map V.ref xs) ((i:Int) + 1)=some (.ref x)/\
  H x=some (.ins CT dt (jdi (jq r) p e v)):=by
 obtain ⟨dx,pre,h1,h2⟩:=R.ob;obtain ⟨xs,h3,h4⟩:=R.toks;have hg:(X.all.map some ++ [none])[pre.length + 1]? = some r.head? := by
  rw [h2];cases r with
  | nil=>simp
  | cons t r=>simp
 obtain ⟨x,hx,ht⟩:=Paired.get h4 hg;have hxx:(List.map V.ref xs)[pre.length + 1]? = some (.ref x):=by rw [List.getElem?_map,hx];rfl
 cases r with
 | nil =>
  obtain ⟨dt,e⟩:=(show jmk CT X.T x X.len from ht)
  exact ⟨dx,xs,pre.length,x,_,_,_,dt,h1,R.st _ _ h3,jaw hxx,R.st _ _ e⟩
 | cons t r =>
  obtain ⟨dt,v,e,q⟩:=(show vm CT X.T x t from ht)
  exact ⟨dx,xs,pre.length,x,_,_,_,dt,h1,R.st _ _ h3,jaw hxx,R.st _ _ e⟩
theorem RD.item3{t:Vanbka.Tok}{pre:List Vanbka.Tok}(R:RD CT CR X rd H rs)(h:X.all=pre ++ t::rs):∃ (dx:Addr) (xs:List Addr) (i:Nat) (x:Addr) (k:Str) (p:Int) (v:V) (dt:Addr),H rd=some (.ins CR dx [("tokens",.ref X.lt),("at",.int (i:Int))])/\H X.lt=some (.lst (List.map V.ref xs))/\atI (List.map V.ref xs) ((i:Int) - 1)=some (.ref x)/\
  H x=some (.ins CT dt (jdi k p ((t.place + t.len:Nat):Int) v)):=by
 obtain ⟨dx,pre',h1,h2⟩:=R.ob;obtain ⟨xs,h3,h4⟩:=R.toks;have hl:pre'.length=pre.length + 1:=by
  have:=congrArg List.length (h2.symm.trans h);rw [List.length_append,List.length_append,List.length_cons] at this;omega
 have hg:(X.all.map some ++ [none])[pre.length]? = some (some t):=by
  rw [h];simp
 obtain ⟨x,hx,ht⟩:=Paired.get h4 hg;have hxx:(List.map V.ref xs)[pre.length]? = some (.ref x):=by rw [List.getElem?_map,hx];rfl
 obtain ⟨dt,v,e,q⟩:=(show vm CT X.T x t from ht)
 refine ⟨dx,xs,pre'.length,x,_,_,v,dt,h1,R.st _ _ h3,?_,R.st _ _ e⟩;have ei:((pre'.length:Nat):Int) - 1=((pre.length:Nat):Int):=by omega
 rw [ei];exact jaw hxx
theorem RD.front{H1:Hp}{r:List Vanbka.Tok}(R:RD CT CR X rd H rs)(R1:RD CT CR X rd H1 r)(h:r.length < rs.length):∃ pre t,X.all=pre ++ t::r:=by
 obtain ⟨_,p,_,e⟩:=R.ob;obtain ⟨_,p1,_,e1⟩:=R1.ob;have hl:p1≠[]:=λz=>by
  have:=congrArg List.length (e.symm.trans e1);rw [z,List.length_append,List.length_append,List.length_nil] at this;omega
 refine ⟨p1.dropLast,p1.getLast hl,?_⟩;have:=List.dropLast_concat_getLast hl
 rw [e1]
 conv=>lhs;rw [<- this]
 rw [List.append_assoc];rfl
theorem RD.same(R:RD CT CR X rd H rs)(s:jh H H'):RD CT CR X rd H' rs :=
 ⟨R.st.trans s,R.toks,R.wf,R.no,by obtain ⟨dx,pre,h1,h2⟩:=R.ob;exact ⟨dx,pre,s _ _ h1,h2⟩⟩
theorem RD.on{t:Vanbka.Tok}{r:List Vanbka.Tok}{dx:Addr}{i:Nat}(R:RD CT CR X rd H (t::r))(e:H rd=some (.ins CR dx [("tokens",.ref X.lt),("at",.int (i:Int))])) :
  But rd H (upd H rd (.ins CR dx [("tokens",.ref X.lt),("at",.int ((i:Int) + 1))]))/\RD CT CR X rd (upd H rd (.ins CR dx [("tokens",.ref X.lt),("at",.int ((i:Int) + 1))])) r:=by
 obtain ⟨dx',pre,h1,h2⟩:=R.ob;rw [e] at h1;injection h1 with h1;injection h1 with h1 h3 h4;have:i=pre.length:=by
  simp only [List.cons.injEq,Prod.mk.injEq,V.int.injEq,true_and,and_true] at h4;omega
 subst this;refine ⟨λb o hb ne=>by rw [jm ne];exact hb,⟨λb o hb=>?_,R.toks,R.wf,R.no,dx,pre ++ [t],?_,by rw [h2];simp⟩⟩
 ·have:b≠rd:=λz=>by rw [z,R.no] at hb;cases hb
  rw [jm this];exact R.st _ _ hb
 ·rw [jd,List.length_append,List.length_singleton];rfl
end
section
variable{P:Program}{w:World}{K:PySem.W.Frag}{mg:Str->Option Value}{base:Heap}{f g g2 CF fI CT tI CR rI:Addr}{fd gd gd2 fdI tdI rdI:FuncData}
def jax(P:Program)(w:World)(K:PySem.W.Frag)(mg:Str->Option Value)(base:Heap)(C:Addr)(k:Nat)(m:Str)(ps:List Str)(sp:Sp):Prop :=
 ∃ f fd,xh P w K mg base (CXF P w) k f fd ps sp/\zk K fd ps []/\jla K C m f
structure jak(K:PySem.W.Frag)(mg:Str->Option Value)(CR:Addr):Prop where
 c:zu K mg "Reader" CR ["tokens", "at"]
def jfe(CT CR:Addr):Sp:=λvs H Q _=>∃ X rd rs,vs=[.ref rd]/\RD CT CR X rd H rs/\Q (.str (jq rs)) H
def jf0(CT CR:Addr):Sp:=λvs H Q _=>∃ X rd t r,vs=[.ref rd]/\RD CT CR X rd H (t::r)/\Q (.str (jq r)) H
def jg1(CT CR:Addr):Sp:=λvs H Q _=>∃ X rd rs,vs=[.ref rd]/\RD CT CR X rd H rs/\Q (.int (placeAt X.all X.len rs.length:Nat)) H
def jjf(CT CR:Addr):Sp:=λvs H Q _=>∃ X rd rs t pre,vs=[.ref rd]/\RD CT CR X rd H rs/\X.all=pre ++ t::rs/\Q (.int ((t.place + t.len:Nat):Int)) H
def jg0(CT CR:Addr):Sp:=λvs H Q _=>∃ X rd t r,vs=[.ref rd]/\RD CT CR X rd H (t::r)/\∀ H',But rd H H'->RD CT CR X rd H' r->Q (.str (jx t.lex)) H'
def jal(CF CT CR:Addr):Sp:=λvs H Q E=>∃ X rd rs k,vs=[.ref rd,.str k]/\k≠"END"/\RD CT CR X rd H rs/\
 if jq rs=k then ∀ v H',But rd H H'->RD CT CR X rd H' (rs.drop 1)->jw4 X.T rs v->Q v H' else Err CF E 4 (placeAt X.all X.len rs.length:Nat)
theorem jzx:jv ["self"] ["self"] (ji jqu):=⟨rfl,rfl,rfl,by decide +kernel,rfl,by decide +kernel,by decide +kernel⟩
theorem jyq(F:Fun K "look" "Reader.look" jqu f fd)(U:z5 K mg CT tI tdI)(Rd:jak K mg CR):xh P w K mg base (CXF P w) 1 f fd ["self"] (jfe CT CR):=by
 refine F.okF (k:=0) jzx (λvs H Q E h=>?_) (λcdv A outer s H vs Q E hr h=>?_)
 ·obtain ⟨X,rd,rs,rfl,_⟩:=h;rfl
 obtain ⟨X,rd,rs,rfl,R,q⟩:=h;refine ⟨_,je (jp (qi (xo qv (qi (pv 0) rfl) (qi (pv 0) rfl) (λ_ _=>rfl)) rfl)),?_⟩;obtain ⟨dx,xs,i,x,e,v,dt,h1,h2,h3,h4,h5,h6⟩:=R.item;exact ⟨_,rfl,rd,CR,dx,_,_,rfl,h1,Rd.c.cl,Rd.c.no _ (.head _),rfl,_,rfl,rd,CR,dx,_,_,rfl,h1,Rd.c.cl,Rd.c.no _ (.tail _ (.head _)),rfl,_,_,_,_,rfl,rfl,SqL.of h2,h3,x,CT,dt,_,_,rfl,h4,U.c.cl,U.c.no _ (.head _),rfl,q⟩
theorem jve:jv ["self"] ["self"] (ji je1):=⟨rfl,rfl,rfl,by decide +kernel,rfl,by decide +kernel,by decide +kernel⟩
theorem jt2(F:Fun K "look_behind" "Reader.look_behind" je1 f fd)(U:z5 K mg CT tI tdI)(Rd:jak K mg CR):xh P w K mg base (CXF P w) 1 f fd ["self"] (jf0 CT CR):=by
 refine F.okF (k:=0) jve (λvs H Q E h=>?_) (λcdv A outer s H vs Q E hr h=>?_)
 ·obtain ⟨X,rd,t,r,rfl,_⟩:=h;rfl
 obtain ⟨X,rd,t,r,rfl,R,q⟩:=h;refine ⟨_,je (jp (qi (xo qv (qi (pv 0) rfl) (qa jam (qi (pv 0) rfl) qd) (λ_ _=>rfl)) rfl)),?_⟩;obtain ⟨dx,xs,i,x,p,e,v,dt,h1,h2,h3,h4⟩:=R.item2;exact ⟨_,rfl,rd,CR,dx,_,_,rfl,h1,Rd.c.cl,Rd.c.no _ (.head _),rfl,_,rfl,rd,CR,dx,_,_,rfl,h1,Rd.c.cl,Rd.c.no _ (.tail _ (.head _)),rfl,_,_,rfl,rfl,_,_,_,_,rfl,rfl,SqL.of h2,h3,x,CT,dt,_,_,rfl,h4,U.c.cl,U.c.no _ (.head _),rfl,q⟩
theorem jz1:jv ["self"] ["self"] (ji jqw):=⟨rfl,rfl,rfl,by decide +kernel,rfl,by decide +kernel,by decide +kernel⟩
theorem jyu(F:Fun K "here" "Reader.here" jqw f fd)(U:z5 K mg CT tI tdI)(Rd:jak K mg CR):xh P w K mg base (CXF P w) 1 f fd ["self"] (jg1 CT CR):=by
 refine F.okF (k:=0) jz1 (λvs H Q E h=>?_) (λcdv A outer s H vs Q E hr h=>?_)
 ·obtain ⟨X,rd,rs,rfl,_⟩:=h;rfl
 obtain ⟨X,rd,rs,rfl,R,q⟩:=h;refine ⟨_,je (jp (qi (xo qv (qi (pv 0) rfl) (qi (pv 0) rfl) (λ_ _=>rfl)) rfl)),?_⟩;obtain ⟨dx,xs,i,x,e,v,dt,h1,h2,h3,h4,h5,h6⟩:=R.item;exact ⟨_,rfl,rd,CR,dx,_,_,rfl,h1,Rd.c.cl,Rd.c.no _ (.head _),rfl,_,rfl,rd,CR,dx,_,_,rfl,h1,Rd.c.cl,Rd.c.no _ (.tail _ (.head _)),rfl,_,_,_,_,rfl,rfl,SqL.of h2,h3,x,CT,dt,_,_,rfl,h4,U.c.cl,U.c.no _ (.tail _ (.head _)),rfl,q⟩
theorem jzz:jv ["self"] ["self"] (ji je5):=⟨rfl,rfl,rfl,by decide +kernel,rfl,by decide +kernel,by decide +kernel⟩
theorem jys(F:Fun K "behind_last" "Reader.behind_last" je5 f fd)(U:z5 K mg CT tI tdI)(Rd:jak K mg CR):xh P w K mg base (CXF P w) 1 f fd ["self"] (jjf CT CR):=by
 refine F.okF (k:=0) jzz (λvs H Q E h=>?_) (λcdv A outer s H vs Q E hr h=>?_)
 ·obtain ⟨X,rd,rs,t,pre,rfl,_⟩:=h;rfl
 obtain ⟨X,rd,rs,t,pre,rfl,R,ea,q⟩:=h;refine ⟨_,je (jp (qi (xo qv (qi (pv 0) rfl) (qa jhg (qi (pv 0) rfl) qd) (λ_ _=>rfl)) rfl)),?_⟩;obtain ⟨dx,xs,i,x,k,p,v,dt,h1,h2,h3,h4⟩:=R.item3 ea;exact ⟨_,rfl,rd,CR,dx,_,_,rfl,h1,Rd.c.cl,Rd.c.no _ (.head _),rfl,_,rfl,rd,CR,dx,_,_,rfl,h1,Rd.c.cl,Rd.c.no _ (.tail _ (.head _)),rfl,_,_,rfl,rfl,_,_,_,_,rfl,rfl,SqL.of h2,h3,x,CT,dt,_,_,rfl,h4,U.c.cl,U.c.no _ (.tail _ (.tail _ (.head _))),rfl,q⟩
theorem qe{k j:Nat}{m:Str}{ps:List Str}{sp:Sp}{N:List Str}{qual:Str}{scope:Scope}{f C:Addr}{cd:Value}{A:Around}{outer:List Env}{s:Shared}{H:Hp}{E:XK}{o e:PySem.Expr}{es:List PySem.Expr}{ta:TE}{t:TA}{apos pos:Pos}{pl:Sem Bool}
  (G:jax P w K mg base C k m ps sp) (c:Cls K C) (hr:xu j (xt (CXF P w) P w K mg base N qual scope f cd A outer s H E).A) (ho:PE (xt (CXF P w) P w K mg base N qual scope f cd A outer s H E) o ta) (ha:PA (xt (CXF P w) P w K mg base N qual scope f cd A outer s H E) (e::es) t)
  (hj:k<=j:=by decide)
  (he:starEach (e::es) (xt (CXF P w) P w K mg base N qual scope f cd A outer s H E).env=(false,eval e (xt (CXF P w) P w K mg base N qual scope f cd A outer s H E).env)::starEach es (xt (CXF P w) P w K mg base N qual scope f cd A outer s H E).env:=by rfl)
  (hpl:(backTo pos (starEach es (xt (CXF P w) P w K mg base N qual scope f cd A outer s H E).env)).any (·.1)=false:=by rfl)
  (ht:eval (.Call (.Attribute o m apos) (e::es) [] pos) (xt (CXF P w) P w K mg base N qual scope f cd A outer s H E).env=(do
   let ov <- eval o (xt (CXF P w) P w K mg base N qual scope f cd A outer s H E).env
   standAt apos.atName
   let (fn,first) <- holding [ov] (getMethod ov m pl)
   callWith pos fn first (backTo pos (starEach (e::es) (xt (CXF P w) P w K mg base N qual scope f cd A outer s H E).env)) (backToKw pos (keywordEach [] (xt (CXF P w) P w K mg base N qual scope f cd A outer s H E).env))):=by rfl) :
  PE (xt (CXF P w) P w K mg base N qual scope f cd A outer s H E) (.Call (.Attribute o m apos) (e::es) [] pos) (vd C m sp [] E ta t):=by
 obtain ⟨f',fd,F,b,M⟩:=G;exact jya ho c M F (hr.mono hj) b .nil wu ha he hpl ht
theorem xf{k j:Nat}{m:Str}{ps:List Str}{sp:Sp}{N:List Str}{qual:Str}{scope:Scope}{f C:Addr}{cd:Value}{A:Around}{outer:List Env}{s:Shared}{H:Hp}{E:XK}{o:PySem.Expr}{ta:TE}{apos pos:Pos}{pl:Sem Bool}
  (G:jax P w K mg base C k m ps sp) (c:Cls K C) (hr:xu j (xt (CXF P w) P w K mg base N qual scope f cd A outer s H E).A) (ho:PE (xt (CXF P w) P w K mg base N qual scope f cd A outer s H E) o ta)
  (hj:k<=j:=by decide)
  (ht:eval (.Call (.Attribute o m apos) [] [] pos) (xt (CXF P w) P w K mg base N qual scope f cd A outer s H E).env=(do
   let ov <- eval o (xt (CXF P w) P w K mg base N qual scope f cd A outer s H E).env
   standAt apos.atName
   let (fn,first) <- holding [ov] (getMethod ov m pl)
   callWith pos fn first (backTo pos (starEach [] (xt (CXF P w) P w K mg base N qual scope f cd A outer s H E).env)) (backToKw pos (keywordEach [] (xt (CXF P w) P w K mg base N qual scope f cd A outer s H E).env))):=by rfl) :
  PE (xt (CXF P w) P w K mg base N qual scope f cd A outer s H E) (.Call (.Attribute o m apos) [] [] pos) (vd C m sp [] E ta xc):=by
 obtain ⟨f',fd,F,b,M⟩:=G;exact jvr ho c M F (hr.mono hj) b .nil wu ht
theorem jap{m:Str}{sp:Sp}{E:XK}{i:Nat}{σ:St}{H:Hp}{Q:VK}{X:Tx}{rd:Addr}{rs:List Vanbka.Tok}{t:TA}(hi:σ[i]? = some (some (.ref rd)))(R:RD CT CR X rd H rs)(h:t σ H λvs H2=>sp (.ref rd::(vs ++ [])) H2 Q E)
  (hm:(m == "tokens")=false:=by decide) (hm2:(m == "at")=false:=by decide):vd CR m sp [] E (qy i) t σ H Q:=by
 obtain ⟨dx,pre,h1,_⟩:=R.ob;refine ⟨_,hi,rd,dx,_,rfl,h1,?_,h⟩;rw [List.lookup_cons,hm,List.lookup_cons,hm2];rfl
theorem zi{E:XK}{i:Nat}{σ:St}{H:Hp}{Q:VK}{X:Tx}{rd:Addr}{rs:List Vanbka.Tok}(R:RD CT CR X rd H rs)(h:Q (.str (jq rs)) H)(hi:σ[i]? = some (some (.ref rd)):=by rfl):vd CR "look" (jfe CT CR) [] E (qy i) xc σ H Q :=
 jap hi R ⟨X,rd,rs,rfl,R,h⟩
theorem jjx{E:XK}{i:Nat}{σ:St}{H:Hp}{Q:VK}{X:Tx}{rd:Addr}{rs:List Vanbka.Tok}(R:RD CT CR X rd H rs)(h:Q (.int (placeAt X.all X.len rs.length:Nat)) H)(hi:σ[i]? = some (some (.ref rd)):=by rfl):vd CR "here" (jg1 CT CR) [] E (qy i) xc σ H Q :=
 jap hi R ⟨X,rd,rs,rfl,R,h⟩
theorem j0u{E:XK}{i:Nat}{σ:St}{H:Hp}{Q:VK}{X:Tx}{rd:Addr}{rs pre:List Vanbka.Tok}{t:Vanbka.Tok}(R:RD CT CR X rd H rs)(ea:X.all=pre ++ t::rs)(h:Q (.int ((t.place + t.len:Nat):Int)) H)(hi:σ[i]? = some (some (.ref rd)):=by rfl):vd CR "behind_last" (jjf CT CR) [] E (qy i) xc σ H Q :=
 jap hi R ⟨X,rd,rs,t,pre,rfl,R,ea,h⟩
theorem jtd:jv ["self", "kind"] ["self"] (ji jks):=⟨rfl,rfl,rfl,by decide +kernel,rfl,by decide +kernel,by decide +kernel⟩
theorem jyp(F:Fun K "move_on" "Reader.move_on" jks f fd)(Rd:jak K mg CR)(L:jax P w K mg base CR 1 "look" ["self"] (jfe CT CR)):xh P w K mg base (CXF P w) 2 f fd ["self"] (jg0 CT CR):=by
 refine F.okF (k:=1) jtd (λvs H Q E h=>?_) (λcdv A outer s H vs Q E hr h=>?_)
 ·obtain ⟨X,rd,t,r,rfl,_⟩:=h;rfl
 obtain ⟨X,rd,t,r,rfl,R,q⟩:=h;have nd:=jtd.nd
 refine ⟨_,jc (ju (i:=1) nd rfl (Or.inl rfl) (xf L Rd.c.cl hr (pv 0))) (jc (jlq (pv 0) qd jug) (je (jp (pv 1)))),?_⟩;refine zi R ?_;obtain ⟨dx,xs,i,x,e,v,dt,h1,h2,h3,h4,h5,h6⟩:=R.item;obtain ⟨b1,b2⟩:=R.on h1;exact ⟨_,rfl,rd,CR,dx,_,_,rfl,h1,Rd.c.cl,Rd.c.no _ (.tail _ (.head _)),rfl,_,_,rfl,rfl,dx,_,h1,(by show 2 < 1000;decide),_,rfl,q _ b1 b2⟩
theorem js8:jv ["self", "kind", "value"] ["self", "kind"] (ji jqt):=⟨rfl,rfl,rfl,by decide +kernel,rfl,by decide +kernel,by decide +kernel⟩
theorem jyj(F:Fun K "take" "Reader.take" jqt f fd)(T:vt K mg CF fI fdI)(U:z5 K mg CT tI tdI)(Rd:jak K mg CR)(L:jax P w K mg base CR 1 "look" ["self"] (jfe CT CR))(Hr:jax P w K mg base CR 1 "here" ["self"] (jg1 CT CR))(c4:CI mg "NO_PROGRAM" 4) :
  xh P w K mg base (CXF P w) 3 f fd ["self", "kind"] (jal CF CT CR):=by
 refine F.okF (k:=2) js8 (λvs H Q E h=>?_) (λcdv A outer s H vs Q E hr h=>?_)
 ·obtain ⟨X,rd,rs,k,rfl,_⟩:=h;rfl
 obtain ⟨X,rd,rs,k,rfl,ke,R,q⟩:=h;have nd:=js8.nd
 refine ⟨_,jc (qh (js jdw (xf L Rd.c.cl hr (pv 0)) (pv 1) (j6 _)) (je (vz T hr rfl (ja (qx c4 rfl) (ja (xf Hr Rd.c.cl hr (pv 0)) jb)))) jy)
  (jc (ju (i:=2) nd rfl (Or.inl rfl) (qi (xo qv (qi (pv 0) rfl) (qi (pv 0) rfl) (λ_ _=>rfl)) rfl))
  (jc (jlq (pv 0) qd jug) (je (jp (pv 2))))),?_⟩
 refine zi R ⟨_,rfl,rfl,_,rfl,qb (λk1=>?_) (λk1=>?_)⟩
 ·have ne:¬ jq rs=k:=λz=>by
   rw [decide_eq_true (show V.str (jq rs)=V.str k by rw [z])] at k1;cases k1
  rw [if_neg ne] at q;exact jjx R (yx q)
 ·have eq:jq rs=k:=by
   have:decide (V.str (jq rs)=V.str k)=true:=by simpa using k1
   have:=of_decide_eq_true this;injection this
  rw [if_pos eq] at q;cases rs with
  | nil=>exact absurd eq.symm ke
  | cons t r =>
   obtain ⟨dx,xs,i,x,e,v,dt,h1,h2,h3,h4,h5,h6⟩:=R.item;obtain ⟨b1,b2⟩:=R.on h1;exact ⟨_,rfl,rd,CR,dx,_,_,rfl,h1,Rd.c.cl,Rd.c.no _ (.head _),rfl,_,rfl,rd,CR,dx,_,_,rfl,h1,Rd.c.cl,Rd.c.no _ (.tail _ (.head _)),rfl,_,_,_,_,rfl,rfl,SqL.of h2,h3,x,CT,dt,_,_,rfl,h4,U.c.cl,U.c.no _ (.tail _ (.tail _ (.tail _ (.head _)))),rfl,
    _,rfl,rd,CR,dx,_,_,rfl,h1,Rd.c.cl,Rd.c.no _ (.tail _ (.head _)),rfl,_,_,rfl,rfl,dx,_,h1,(by show 2 < 1000;decide),_,rfl,q _ _ b1 b2 h5⟩
end
end Prg
end
section
set_option maxRecDepth 100000
set_option maxHeartbeats 1000000
namespace L2
open PySem PySem.Spec PyProof.Rows
section
variable{P:Program}{w:World}{A:Around}{E:Value->Shared->Prop}{R:Result->Shared->Prop}{I S:Addr}{fp wr:List Addr}{n:Nat}{F:Nat->Value->Prop}{St:Nat->Heap->Prop}
def j1c(F:Nat->Value->Prop)(val:Nat->Int)(j:Nat)(arr:Array Value):Prop:=(arr = #[]/\j=0)\/∃ i v,arr = #[v,v]/\i < j/\F i v/\∀ k,k < j->val k<=val i
theorem jua(a d:Value):argsOk "max" ⟨[a],[(Str.ofString "default",d)]⟩:=by unfold argsOk;kernel_rfl
theorem jt9(W:Walks P w A.in1 I fp wr n F St)(val:Nat->Int)(hv:∀ i v,F i v->∃ t,v = .int (val i) t)(hS:S∉fp)(d:Value) :
  ∀ (r j:Nat) (s:Shared) (arr:Array Value) (c:Nat),j + r=n->St j s.heap->s.heap.get? S=some { cls:=.type "list",dict:=none,data:=.seq arr c,slots := #[] }->j1c F val j arr->
   (∀ v h' tk,((n=0/\v=d)\/∃ i,i < n/\F i v/\∀ k,k < n->val k<=val i)->(∀ b o,b∉wr->b≠S->s.heap.get? b=some o->h'.get? b=some o)->R (.ok (.ret v)) { s with heap:=h',toks:=tk })->
   codeAny (model P w) A (.builtin "max.loop" ⟨[.ref I,.none,.ref S],[(Str.ofString "default",d)]⟩) R s:=by
 have Sw:S∉wr:=λz=>hS (W.sub _ z);have nm:(toString "max" ++ toString ".loop":String) = "max.loop":=by decide
 intro r;induction r with
 | zero =>
  intro j s arr c e st hs best fin;have ej:j=n:=e
  subst ej;refine codeAny_builtin PySem.F.entry_max_loop ?_;rw [Around.under_plainId PySem.F.plain_max_loop _];show wpAny _ _ (seqItems? (.ref S) >>= _) _ _ s
  refine wpAny_bind (wpAny_seqItems hs rfl ?_);rcases best with ⟨rfl,z⟩ | ⟨i,v,rfl,hi,hF,hm⟩
  ·show wpAny _ _ (tryCatch (pyNext (.ref I)) _ >>= _) _ _ s;refine wpAny_bind (wpAny_tryCatch (W.done s _ _ st λh' tk keep=>?_));show wpAny _ _ (rule _ >>= _) _ _ _
   refine wpAny_bind (wpAny_rule (wpAny_pure ?_));exact fin d h' tk (.inl ⟨z,rfl⟩) λb o nb _ q=>keep b o nb q
  ·show wpAny _ _ (tryCatch (pyNext (.ref I)) _ >>= _) _ _ s;refine wpAny_bind (wpAny_tryCatch (W.done s _ _ st λh' tk keep=>?_));have hs':=keep S _ Sw hs
   show wpAny _ _ (updateSeq S (λ_ => #[]) >>= _) _ _ _;refine wpAny_bind ?_;refine wpAny_updateSeq hs' rfl ?_;refine wpAny_bind (wpAny_letGo (wpAny_pure ?_));exact fin v _ tk (.inr ⟨i,hi,hF,hm⟩) λb o nb nS q=>(Heap.get?_update_other _ _ (Ne.symm nS)).trans (keep b o nb q)
 | succ r ih =>
  intro j s arr c e st hs best fin;have hj:j < n:=by omega
  refine codeAny_builtin PySem.F.entry_max_loop ?_;rw [Around.under_plainId PySem.F.plain_max_loop _];show wpAny _ _ (seqItems? (.ref S) >>= _) _ _ s
  refine wpAny_bind (wpAny_seqItems hs rfl ?_);rcases best with ⟨rfl,z⟩ | ⟨i,u,rfl,hi,hF,hm⟩
  ·show wpAny _ _ (tryCatch (pyNext (.ref I)) _ >>= _) _ _ s;refine wpAny_bind (wpAny_tryCatch (W.item j s _ _ hj st λv h' tk hP st' keep=>?_));have hs':=keep S _ Sw hs
   show wpAny _ _ (updateSeq S (λ_ => #[v,v]) >>= _) _ _ _;refine wpAny_bind ?_;refine wpAny_updateSeq hs' rfl ?_;rw [nm];refine wpAny_pure ⟨plainId_quiet PySem.F.plain_max_loop _,ih (j + 1) _ #[v,v] _ (by omega) (W.frame _ _ _ st' λb hb o q=>?_) (Heap.get?_update_self _ hs' rfl) (.inr ⟨j,v,rfl,Nat.lt_succ_self _,hP,λk hk=>?_⟩) λv' h2 tk2 hb keep2=>?_⟩
   ·exact (Heap.get?_update_other _ _ (λy:S=b=>hS (y▸hb))).trans q
   ·have:k=j:=by omega
    rw [this];exact Int.le_refl _
   ·exact fin v' h2 tk2 hb λb o nb nS q=>keep2 b o nb nS ((Heap.get?_update_other _ _ (Ne.symm nS)).trans (keep b o nb q))
  ·show wpAny _ _ (tryCatch (pyNext (.ref I)) _ >>= _) _ _ s;refine wpAny_bind (wpAny_tryCatch (W.item j s _ _ hj st λv h' tk hP st' keep=>?_));have hs':=keep S _ Sw hs
   show wpAny _ _ (tryCatch (holding [v,v] (richCompare .Gt v u >>= _)) _ >>= _) _ _ _;refine wpAny_bind (wpAny_tryCatch (wpAny_holding (wpAny_bind (CmpOf.ints_gt (prog:=P) (w:=w) (A:=A.in1) val hv j i v u _ _ _ hP hF ?_))));refine wpAny_bind (wpAny_holding (wpAny_truthy_bool ?_));refine wpAny_bind (wpAny_letGo (wpAny_pure ?_));by_cases gt:val j > val i
   ·rw [if_pos (decide_eq_true gt)];refine wpAny_bind ?_;refine wpAny_updateSeq hs' rfl ?_;refine wpAny_bind (wpAny_letGo ?_);rw [nm];refine wpAny_pure ⟨plainId_quiet PySem.F.plain_max_loop _,ih (j + 1) _ #[v,v] _ (by omega) (W.frame _ _ _ st' λb hb o q=>?_) (Heap.get?_update_self _ hs' rfl) (.inr ⟨j,v,rfl,Nat.lt_succ_self _,hP,λk hk=>?_⟩) λv' h2 tk2 hb keep2=>?_⟩
    ·exact (Heap.get?_update_other _ _ (λy:S=b=>hS (y▸hb))).trans q
    ·rcases Nat.lt_or_ge k j with y | y
     ·have:=hm k y;omega
     ·have:k=j:=by omega
      rw [this];exact Int.le_refl _
    ·exact fin v' h2 tk2 hb λb o nb nS q=>keep2 b o nb nS ((Heap.get?_update_other _ _ (Ne.symm nS)).trans (keep b o nb q))
   ·rw [if_neg (λz=>gt (of_decide_eq_true z))];refine wpAny_bind (wpAny_letGo ?_);rw [nm];refine wpAny_pure ⟨plainId_quiet PySem.F.plain_max_loop _,ih (j + 1) _ #[u,u] c (by omega) st' hs' (.inr ⟨i,u,rfl,by omega,hF,λk hk=>?_⟩) λv' h2 tk2 hb keep2=>?_⟩
    ·rcases Nat.lt_or_ge k j with y | y
     ·exact hm k y
     ·have:k=j:=by omega
      rw [this];omega
    ·exact fin v' h2 tk2 hb λb o nb nS q=>keep2 b o nb nS (keep b o nb q)
end
section
variable{P:Program}{w:World}{A:Around}{E:Value->Shared->Prop}{s:Shared}{l:Addr}{xs:Array (Int×PySem.Tok)}
theorem jt_{Q:Value->Shared->Prop}(d:Value)(hh:A.handled=none)(hl:s.heap.IsList l (intItems xs))
  (h:∀ v h' tk,((xs.size=0/\v=d)\/∃ i,i < xs.size/\(intItems xs)[i]? = some v/\∀ k,k < xs.size->numAt xs k<=numAt xs i)->(∀ b o,s.heap.get? b=some o->h'.get? b=some o)->Q v { s with heap:=h',toks:=tk }) :
  wpAny (model P w) A (call (.builtin "max") [.ref l] [(Str.ofString "default",d)]) Q E s:=by
 have nm:(toString "max" ++ toString ".loop":String) = "max.loop":=by decide
 refine kmk_tree PySem.F.kind_max PySem.F.plain_max PySem.F.entry_max (jua _ _) ?_;show wpAny _ _ (Builtin.Builtins.bindParams "max" ["key", "default"] 0 ⟨[],[(Str.ofString "default",d)]⟩ >>= _) _ _ s
 refine wpAny_bind (wpAny_of_eq (show Builtin.Builtins.bindParams "max" ["key", "default"] 0 ⟨[],[(Str.ofString "default",d)]⟩=pure [none,some d] from rfl) ?_);refine wpAny_bind (wpAny_pure ?_);refine wpAny_bind (iter_intList hl λs2 e st hfp hlI=>?_);refine wpAny_bind (wpAny_newObj_type ?_);have hS:s2.heap.objs.size∉[s.heap.objs.size,l]:=λhm=>Nat.lt_irrefl _ (hfp _ hm)
 rw [nm];have sz:(intItems xs).size=xs.size:=by simp [intItems]
 refine wpAny_pure ⟨plainId_quiet PySem.F.plain_max_loop _,jt9 (Walks.list (A:=A.in1) hh _ l hlI (intItems xs)) (numAt xs) (λ_ _=>intItems_at) hS d (intItems xs).size 0 _ #[] 0 (Nat.zero_add _)
  ((Walks.list (prog:=P) (w:=w) (A:=A.in1) hh _ l hlI (intItems xs)).frame 0 _ _ st λb _ o q=>Heap.get?_push_of_some _ q) (Heap.get?_push_size _ rfl) (.inl ⟨rfl,rfl⟩) λv h' tk hb keep=>?_⟩
 rw [sz] at hb;subst e;refine h v h' tk hb λb o q=>?_;have lt:b < s.heap.objs.size:=Heap.lt_size q
 refine keep b o (λz=>?_) (λz=>?_) (Heap.get?_push_of_some _ (Heap.get?_push_of_some _ q))
 ·have:b=s.heap.objs.size:=by simpa using z
  exact absurd lt (by rw [this];exact Nat.lt_irrefl _)
 ·rw [z] at lt;rw [Heap.size_push] at lt;exact absurd lt (Nat.not_lt.mpr (Nat.le_succ _))
end
section
variable{X:Cx}
def jxg(K:PySem.W.Frag)(d:Int):V->Hp->VK->Prop:=λx H Q=>∃ (a:Addr) (ns:List Int),x=V.ref a/\SqL K H a (ns.map V.int)/\(ns=[]->Q (.int d) H)/\∀ m,m∈ns->(∀ y,y∈ns->y<=m)->Q (.int m) H
def j1h(K:PySem.W.Frag)(d:Int)(te:TE):TE:=λσ H Q=>te σ H λx H1=>∃ y,[x]=[y]/\jxg K d y H1 Q
theorem jyb{e:Expr}{te:TE}{d:Int}{j:Nat}{p pos kp kpos:Pos}(hc:X.calm=true)(hg:Gl X "max")(hm:X.mg "max"=none)(he:PE X e te)
  (h1:starEach [e] X.env=(false,eval e X.env)::starEach [] X.env:=by rfl) (h2:backTo pos (starEach [e] X.env)=(false,eval e X.env)::backTo pos (starEach [] X.env):=by rfl) (h3:(backTo pos (starEach [e] X.env)).any (·.1)=false:=by rfl):PE X (.Call (.Name "max" p) [e] [⟨some "default",.Constant (.int d) j kp,kpos⟩] pos) (j1h X.K d te):=by
 intro pins s σ H Q I h;refine wpAny_Call_Name_kw (jhj I hg hm (by decide +kernel:bootBuiltins "max"=some (.builtin "max")) ?_ (by decide) (by decide));have ha:PA X [e] (qj te xc):=ja he jb h1
 refine callWith_kw (thn (ha pos pins s σ H (λvs H1=>∃ x,vs=[x]/\jxg X.K d x H1 Q) I h) λus s1 ⟨vs,H1,I1,r1,q1⟩=>kws_cons (wpAny_Constant_int (kws_nil ?_))) h2 h3;obtain ⟨x,rfl,a,ns,rfl,hs,q0,qm⟩:=q1;rw [q_.ref1 r1];obtain ⟨its,rv,hl,_⟩:=I1.list hs;obtain ⟨zs,ez⟩:=rv.ints.allInts.items;have hn:numsOf (intItems zs).toList=ns:=by rw [<- ez];exact rv.ints.numsOf
 rw [nums_intItems] at hn;have hl2:=hl.isList
 rw [ez] at hl2;refine jt_ (.int d s1.toks) (I1.ok.hd hc) hl2 λv h' tk hb keep=>?_;have I2:=I1.kept (t':=tk) keep
 rcases hb with ⟨z,rfl⟩ | ⟨i,hi,hv,hm⟩
 ·refine ⟨.int d,H1,I2,⟨_,rfl⟩,q0 ?_⟩;rw [<- hn,List.map_eq_nil_iff,<- List.length_eq_zero_iff,Array.length_toList];exact z
 ·obtain ⟨t,rfl⟩:=intItems_at hv;refine ⟨.int _,H1,I2,⟨_,rfl⟩,qm _ ?_ λy hy=>?_⟩
  ·rw [<- hn,numAt_eq];exact PySem.getD_mem (by rw [List.length_map,Array.length_toList];exact hi)
  ·rw [<- hn] at hy;obtain ⟨k,hk,rfl⟩:=mem_getD hy;rw [List.length_map,Array.length_toList] at hk;rw [<- numAt_eq];exact hm k hk
end
end L2
end
section
set_option maxRecDepth 100000
set_option maxHeartbeats 4000000
namespace Prg
open PySem L2
open Vanbka (Bytes)
inductive x6 where
 | bytes (x:Bytes)
 | int (i:Int)
inductive j5 where
 | mk (kind:Str) (leaves:List x6) (parts:List j5) (blocks:List (List j5))
mutual
def j5.depth:j5->Nat
 | .mk _ _ ps bs=>1 + max (qk ps) (xa bs)
def qk:List j5->Nat
 | []=>0
 | x::l=>max x.depth (qk l)
def xa:List (List j5)->Nat
 | []=>0
 | x::l=>max (qk x) (xa l)
end
def qo(H:Hp):x6->V->Prop
 | .bytes x,v=>∃ a,v = .ref a/\H a=some (.lst (vb x))
 | .int i,v=>v = .int i
theorem qo.same{H H':Hp}(s:jh H H'){l:x6}{v:V}(h:qo H l v):qo H' l v:=by
 cases l with
 | bytes x=>obtain ⟨a,e,q⟩:=h;exact ⟨a,e,s _ _ q⟩
 | int i=>exact h
structure TX where
 d:Addr
 pl:V
 en:V
instance:Coe TX Addr:=⟨TX.d⟩
abbrev jeo(k:Str)(a1 a2 a3:Addr)(dx:TX)(d:Nat):List (Str×V):=[("kind",.str k),("leaves",.ref a1),("parts",.ref a2),("blocks",.ref a3),("place",dx.pl),("end",dx.en),("depth",.int (d:Int))]
mutual
def jz(CN:Addr)(H:Hp):j5->V->Prop
 | .mk k ls ps bs,v=>∃ (x:Addr) (dx:TX) (a1 a2 a3:Addr) (vls vps vbs:List V),v = .ref x/\H x=some (.ins CN dx.d (jeo k a1 a2 a3 dx (1 + max (qk ps) (xa bs))))/\H a1=some (.lst vls)/\H a2=some (.lst vps)/\H a3=some (.lst vbs)/\
   (vls.length<=1000/\vps.length<=1000/\vbs.length<=1000)/\Paired (qo H) ls vls/\jj CN H ps vps/\qu CN H bs vbs
def jj(CN:Addr)(H:Hp):List j5->List V->Prop
 | [],vs=>vs=[]
 | x::l,vs=>∃ v r,vs=v::r/\jz CN H x v/\jj CN H l r
def qu(CN:Addr)(H:Hp):List (List j5)->List V->Prop
 | [],vs=>vs=[]
 | x::l,vs=>∃ a ws r,vs = .ref a::r/\H a=some (.lst ws)/\ws.length<=1000/\jj CN H x ws/\qu CN H l r
end
mutual
theorem jz.same{CN:Addr}{H H':Hp}(s:jh H H'):∀ (x:j5) (v:V),jz CN H x v->jz CN H' x v
 | .mk k ls ps bs,v,h=>by
  obtain ⟨x,dx,a1,a2,a3,vls,vps,vbs,e,h1,h2,h3,h4,h0,h5,h6,h7⟩:=h;exact ⟨x,dx,a1,a2,a3,vls,vps,vbs,e,s _ _ h1,s _ _ h2,s _ _ h3,s _ _ h4,h0,Paired.mapP h5 λ_ _ z=>z.same s,jj.same s ps vps h6,qu.same s bs vbs h7⟩
theorem jj.same{CN:Addr}{H H':Hp}(s:jh H H'):∀ (l:List j5) (vs:List V),jj CN H l vs->jj CN H' l vs
 | [],vs,h=>h
 | x::l,vs,h=>by
  obtain ⟨v,r,e,h1,h2⟩:=h;exact ⟨v,r,e,jz.same s x v h1,jj.same s l r h2⟩
theorem qu.same{CN:Addr}{H H':Hp}(s:jh H H'):∀ (l:List (List j5)) (vs:List V),qu CN H l vs->qu CN H' l vs
 | [],vs,h=>h
 | x::l,vs,h=>by
  obtain ⟨a,ws,r,e,h1,h0,h2,h3⟩:=h;exact ⟨a,ws,r,e,s _ _ h1,h0,jj.same s x ws h2,qu.same s l r h3⟩
end
theorem jj.len{CN:Addr}{H:Hp}:∀ (l:List j5) (vs:List V),jj CN H l vs->vs.length=l.length
 | [],vs,h=>by cases h;rfl
 | x::l,vs,h=>by
  obtain ⟨v,r,e,_,h2⟩:=h;subst e;rw [List.length_cons,List.length_cons,jj.len l r h2]
theorem jj.snoc{CN:Addr}{H:Hp}{x:j5}{v:V}(hx:jz CN H x v):∀ (l:List j5) (vs:List V),jj CN H l vs->jj CN H (l ++ [x]) (vs ++ [v])
 | [],vs,h=>by cases h;exact ⟨v,[],rfl,hx,rfl⟩
 | y::l,vs,h=>by
  obtain ⟨u,r,e,h1,h2⟩:=h;subst e;exact ⟨u,r ++ [v],rfl,h1,jj.snoc hx l r h2⟩
theorem jj.get{CN:Addr}{H:Hp}:∀ (l:List j5) (vs:List V),jj CN H l vs->∀ (i:Nat) (x:j5),l[i]? = some x->∃ v,vs[i]? = some v/\jz CN H x v
 | [],vs,h,i,x,e=>by simp at e
 | y::l,vs,h,i,x,e=>by
  obtain ⟨u,r,e1,h1,h2⟩:=h;subst e1;cases i with
  | zero=>cases e;exact ⟨u,rfl,h1⟩
  | succ i=>exact jj.get l r h2 i x (by simpa using e)
theorem qu.len{CN:Addr}{H:Hp}:∀ (l:List (List j5)) (vs:List V),qu CN H l vs->vs.length=l.length
 | [],vs,h=>by cases h;rfl
 | x::l,vs,h=>by
  obtain ⟨a,ws,r,e,_,_,_,h2⟩:=h;subst e;rw [List.length_cons,List.length_cons,qu.len l r h2]
theorem qu.get{CN:Addr}{H:Hp}:∀ (l:List (List j5)) (vs:List V),qu CN H l vs->∀ (i:Nat) (x:List j5),l[i]? = some x->∃ a ws,vs[i]? = some (.ref a)/\H a=some (.lst ws)/\ws.length<=1000/\jj CN H x ws
 | [],vs,h,i,x,e=>by simp at e
 | y::l,vs,h,i,x,e=>by
  obtain ⟨a,ws,r,e1,h1,h0,h2,h3⟩:=h;subst e1;cases i with
  | zero=>cases e;exact ⟨a,ws,rfl,h1,h0,h2⟩
  | succ i=>exact qu.get l r h3 i x (by simpa using e)
theorem jz.fld{CN:Addr}{H:Hp}{x:j5}{v:V}(h:jz CN H x v):∃ y dx fs,v = .ref y/\H y=some (.ins CN dx fs)/\fs.lookup ("depth":Str)=some (V.int (x.depth:Int)):=by
 cases x with
 | mk k ls ps bs =>
  obtain ⟨x,dx,a1,a2,a3,vls,vps,vbs,e,h1,_⟩:=h;exact ⟨x,dx,_,e,h1,rfl⟩
mutual
theorem jz.turn{CN x dx:Addr}{H:Hp}{fs:List (Str×V)}{d:Int}{o:HO}(hx:H x=some (.ins CN dx fs))(hd:fs.lookup ("depth":Str)=some (.int d)):∀ (n:j5) (v:V),(n.depth:Int) < d->jz CN H n v->jz CN (upd H x o) n v
 | .mk k ls ps bs,v,hl,h=>by
  obtain ⟨y,dy,a1,a2,a3,vls,vps,vbs,e,h1,h2,h3,h4,h0,h5,h6,h7⟩:=h;have nl:∀ {a:Addr} {us:List V},H a=some (.lst us)->a≠x:=λq z=>by rw [z,hx] at q;cases q
  have ny:y≠x:=λz=>by
   rw [z,hx] at h1;injection h1 with h1;injection h1 with _ _ h1;rw [h1] at hd;have:V.int _=V.int d:=Option.some.inj hd
   injection this with this;have dn:(j5.mk k ls ps bs).depth=1 + max (qk ps) (xa bs):=by rw [j5.depth]
   rw [dn] at hl;omega
  have dn:(j5.mk k ls ps bs).depth=1 + max (qk ps) (xa bs):=by rw [j5.depth]
  rw [dn] at hl;refine ⟨y,dy,a1,a2,a3,vls,vps,vbs,e,by rw [jm ny];exact h1,by rw [jm (nl h2)];exact h2,by rw [jm (nl h3)];exact h3,by rw [jm (nl h4)];exact h4,h0,Paired.mapP h5 λl v z=>?_,jj.turn hx hd ps vps (by omega) h6,qu.turn hx hd bs vbs (by omega) h7⟩;cases l with
  | bytes u=>obtain ⟨a,e,q⟩:=z;exact ⟨a,e,by rw [jm (nl q)];exact q⟩
  | int i=>exact z
theorem jj.turn{CN x dx:Addr}{H:Hp}{fs:List (Str×V)}{d:Int}{o:HO}(hx:H x=some (.ins CN dx fs))(hd:fs.lookup ("depth":Str)=some (.int d)):∀ (l:List j5) (vs:List V),(qk l:Int) < d->jj CN H l vs->jj CN (upd H x o) l vs
 | [],vs,_,h=>h
 | n::l,vs,hl,h=>by
  obtain ⟨v,r,e,h1,h2⟩:=h;rw [qk] at hl;exact ⟨v,r,e,jz.turn hx hd n v (by omega) h1,jj.turn hx hd l r (by omega) h2⟩
theorem qu.turn{CN x dx:Addr}{H:Hp}{fs:List (Str×V)}{d:Int}{o:HO}(hx:H x=some (.ins CN dx fs))(hd:fs.lookup ("depth":Str)=some (.int d)):∀ (l:List (List j5)) (vs:List V),(xa l:Int) < d->qu CN H l vs->qu CN (upd H x o) l vs
 | [],vs,_,h=>h
 | n::l,vs,hl,h=>by
  obtain ⟨a,ws,r,e,h1,h0,h2,h3⟩:=h;rw [xa] at hl;have na:a≠x:=λz=>by rw [z,hx] at h1;cases h1
  exact ⟨a,ws,r,e,by rw [jm na];exact h1,h0,jj.turn hx hd n ws (by omega) h2,qu.turn hx hd l r (by omega) h3⟩
end
theorem jza{T H H2:Hp}{x:Addr}{o:HO}(t:T x=none)(h:H x=none):Cut T H (L2.upd H2 x o)=L2.upd (Cut T H H2) x o:=by
 funext b
 by_cases e:b=x
 ·subst e;rw [jd];exact j9 t h jd
 ·rw [jm e];unfold Cut;rw [jm e]
theorem j0d{CN:Addr}{X:Tx}{H H2:Hp}{n:j5}{v:V}(h:jz CN (Cut X.T H H2) n v):∃ (x:Addr) (dx:TX) (k:Str) (a1 a2 a3:Addr) (d:Nat),v = .ref x/\X.T x=none/\H x=none/\H2 x=some (.ins CN dx.d (jeo k a1 a2 a3 dx d))/\
  ∀ p e:V,jz CN (Cut X.T H (L2.upd H2 x (.ins CN dx.d (jeo k a1 a2 a3 ⟨dx.d,p,e⟩ d)))) n (.ref x):=by
 cases n with
 | mk k ls ps bs =>
  obtain ⟨x,dx,a1,a2,a3,vls,vps,vbs,rfl,h1,h2,h3,h4,h0,h5,h6,h7⟩:=h;have hT:X.T x=none:=by
   cases e:X.T x with
   | none=>rfl
   | some o =>
    rw [jh9 e] at h1;injection h1 with h1;subst h1;have:=X.tr _ _ _ _ e
    cases this
  rcases jbd h1 with z | ⟨_,hH,z⟩
  ·rw [hT] at z;cases z
  refine ⟨x,dx,k,a1,a2,a3,_,rfl,hT,hH,z,λp e=>?_⟩;rw [jza hT hH];have nl:∀ {a:Addr} {us:List V},Cut X.T H H2 a=some (.lst us)->a≠x:=λq z=>by rw [z,h1] at q;cases q
  have hd:(jeo k a1 a2 a3 dx (1 + max (qk ps) (xa bs))).lookup ("depth":Str)=some (V.int ((1 + max (qk ps) (xa bs):Nat):Int)):=rfl;refine ⟨x,⟨dx.d,p,e⟩,a1,a2,a3,vls,vps,vbs,rfl,jd,by rw [jm (nl h2)];exact h2,by rw [jm (nl h3)];exact h3,by rw [jm (nl h4)];exact h4,h0,Paired.mapP h5 λl v z=>?_,jj.turn h1 hd ps vps (by omega) h6,qu.turn h1 hd bs vbs (by omega) h7⟩;cases l with
  | bytes u=>obtain ⟨a,e,q⟩:=z;exact ⟨a,e,by rw [jm (nl q)];exact q⟩
  | int i=>exact z
theorem jr8{l:List j5}{m:Int}(h1:m∈l.map λx=>(x.depth:Int))(h2:∀ y∈l.map (λx=>(x.depth:Int)),y<=m):m=(qk l:Int):=by
 have up:∀ (l:List j5),∀ x∈l,x.depth<=qk l:=by
  intro l;induction l with
  | nil=>intro x hx;cases hx
  | cons y l ih =>
   intro x hx;rw [qk];rcases List.mem_cons.mp hx with z | z
   ·rw [z];omega
   ·have:=ih x z;omega
 have at_:∀ (l:List j5),l≠[]->∃ x∈l,x.depth=qk l:=by
  intro l;induction l with
  | nil=>intro z;exact absurd rfl z
  | cons y l ih =>
   intro _;rw [qk];by_cases e:l=[]
   ·subst e;exact ⟨y,.head _,by rw [qk];omega⟩
   ·obtain ⟨x,hx,ex⟩:=ih e;by_cases c:y.depth<=qk l
    ·exact ⟨x,List.mem_cons_of_mem _ hx,by omega⟩
    ·exact ⟨y,.head _,by omega⟩
 obtain ⟨x,hx,rfl⟩:=List.mem_map.mp h1;obtain ⟨y,hy,ey⟩:=at_ l (λz=>by subst z;cases hx);have a1:=up l x hx
 have a2:=h2 _ (List.mem_map.mpr ⟨y,hy,rfl⟩);omega
section
variable{P:Program}{w:World}{K:PySem.W.Frag}{mg:Str->Option Value}{base:Heap}{f g g2 CF fI CT tI CR CN nI:Addr}{fd gd gd2 fdI tdI ndI:FuncData}
def jfg(K:PySem.W.Frag)(CN:Addr):Sp:=λvs H Q _=>∃ (a:Addr) (us:List V) (l:List j5),vs=[.ref a]/\SqL K H a us/\jj CN H l us/\us.length<=1000/\∀ H',jh H H'->Q (.int (qk l:Int)) H'
theorem jpt:jv ["trees", "tree"] ["trees"] (ji jes):=⟨rfl,rfl,rfl,by decide +kernel,rfl,by decide +kernel,by decide +kernel⟩
theorem jwz:jbo ["trees", "tree"] (ji jes) { kind:=.function,names:=[(".0",.local),("tree",.local)],isGenerator:=false,isCoroutine:=false } [("tree",1)]:=⟨rfl,by decide +kernel,by decide +kernel,by decide +kernel,by decide +kernel⟩
theorem jv7(F:Fun K "greatest_depth" "greatest_depth" jes f fd)(N:zu K mg "Tree" CN ["kind", "leaves", "parts", "blocks", "depth", "place", "end"])(mm:mg "max"=none):xh P w K mg base (CXF P w) 1 f fd ["trees"] (jfg K CN):=by
 refine F.okF (k:=0) jpt (λvs H Q E h=>?_) (λcdv A outer s H vs Q E hr h=>?_)
 ·obtain ⟨a,us,l,rfl,_⟩:=h;rfl
 obtain ⟨a,us,l,rfl,hS,hN,hlen,q⟩:=h;have nd:=jpt.nd
 refine ⟨_,je (jp (jyb rfl rfl mm (jeu (own:=[("tree",1)]) (te:=ja1 K (qy 1) "depth") rfl nd (jab (pv 0)) jwz (λ_ _ _ _ _=>y_ (i:=1) nd rfl (Or.inl rfl)) (λ_ _ _ _ _=>jbk) (λ_ _ _ _ _=>qi (pv 1) rfl)))),?_⟩;have ll:=jj.len l us hN
 refine ⟨_,rfl,a,rfl,⟨_,hS⟩,λD nD=>⟨λi m H'=>m=us.length - i/\i<=us.length/\jh H H'/\H' D=some (.lst (((l.take i).map λx=>(x.depth:Int)).map V.int)),⟨_,rfl,Nat.zero_le _,jo nD _,jd⟩,?_⟩⟩;rintro i m H' ⟨rfl,hi,sm,hD⟩;have hS':=sm.seq hS
 by_cases hlt:i < us.length
 ·have hx:us[i]? = some us[i]:=List.getElem?_eq_getElem hlt;have hl:l[i]? = some l[i]:=List.getElem?_eq_getElem (by omega)
  obtain ⟨v,ev,nv⟩:=jj.get l us (hN.same sm) i _ hl;refine .inr ⟨⟨_,_,hS',hx⟩,λH2=>∃ m',m' < us.length - i/\(m'=us.length - (i + 1)/\i + 1<=us.length/\jh H H2/\H2 D=some (.lst (((l.take (i + 1)).map λx=>(x.depth:Int)).map V.int))),λ_ z=>z,?_⟩;rintro x H2 ⟨rfl,hy⟩;have ey:=hy _ hS'
  rw [ev] at ey;cases ey;obtain ⟨y,dx,fs,rfl,hy1,hy2⟩:=nv.fld;refine ⟨rfl,_,rfl,y,CN,dx,fs,_,rfl,hy1,N.cl,N.no _ (.tail _ (.tail _ (.tail _ (.tail _ (.head _))))),hy2,_,hD,?_,_,Nat.lt_of_lt_of_le (Nat.lt_succ_self _) (by omega),rfl,hlt,vw sm nD,?_⟩
  ·rw [List.length_map,List.length_map,List.length_take];show min i l.length < 2 ^ 24
   omega
  ·rw [jd,List.take_add_one,hl,List.map_append,List.map_append];rfl
 ·have e:i=us.length:=by omega
  subst e;refine .inl ⟨⟨_,hS',Nat.le_refl _⟩,_,rfl,D,l.map λx=>(x.depth:Int),rfl,SqL.of ?_,λz=>?_,λm h1 h2=>?_⟩
  ·rw [hD,ll,List.take_length]
  ·have:l=[]:=by simpa using z
   subst this;exact q H' sm
  ·rw [jr8 h1 h2];exact q H' sm
theorem jb0{P:Program}{w:World}{X:Cx}:jao (CXF P w) X (λ_ _ _=>False):=by
 rintro pins σ H s e s' I ⟨x,T,C,dx,H',_,_,_,_,_,_,_,_,_,_,z⟩;exact z.elim
theorem jr9{l:List (List j5)}{p:Nat}{m:Int}(h1:m∈(l.map λx=>(qk x:Int)) ++ [(p:Int)])(h2:∀ y∈(l.map λx=>(qk x:Int)) ++ [(p:Int)],y<=m):m=((max p (xa l):Nat):Int):=by
 have up:∀ (l:List (List j5)),∀ x∈l,qk x<=xa l:=by
  intro l;induction l with
  | nil=>intro x hx;cases hx
  | cons y l ih =>
   intro x hx;rw [xa];rcases List.mem_cons.mp hx with z | z
   ·rw [z];omega
   ·have:=ih x z;omega
 have at_:∀ (l:List (List j5)),xa l=0\/∃ x∈l,qk x=xa l:=by
  intro l;induction l with
  | nil=>exact .inl (by rw [xa])
  | cons y l ih =>
   right
   rw [xa];by_cases c:qk y<=xa l
   ·rcases ih with z | ⟨x,hx,ex⟩
    ·exact ⟨y,.head _,by omega⟩
    ·exact ⟨x,List.mem_cons_of_mem _ hx,by omega⟩
   ·exact ⟨y,.head _,by omega⟩
 have a1:=h2 (p:Int) (by simp);have le:m<=((max p (xa l):Nat):Int):=by
  rcases List.mem_append.mp h1 with z | z
  ·obtain ⟨x,hx,rfl⟩:=List.mem_map.mp z;have:=up l x hx
   omega
  ·have:m=(p:Int):=by simpa using z
   omega
 have ge:(xa l:Int)<=m:=by
  rcases at_ l with z | ⟨x,hx,ex⟩
  ·omega
  ·have:=h2 _ (List.mem_append_left _ (List.mem_map.mpr ⟨x,hx,rfl⟩));omega
 omega
def Mn(x:Addr)(H:Hp):Hp:=λb=>if b=x then none else H b
theorem jp4{x:Addr}{H H':Hp}(b:But x H H'):jh (Mn x H) H':=λa o e=>by
 unfold Mn at e;by_cases z:a=x
 ·rw [if_pos z] at e;cases e
 ·rw [if_neg z] at e;exact b a o e z
theorem But.refl(x:Addr)(H:Hp):But x H H:=λ_ _ e _=>e
theorem But.trans{x:Addr}{H H1 H2:Hp}(h:But x H H1)(k:But x H1 H2):But x H H2:=λb o e n=>k b o (h b o e n) n
theorem But.then{x:Addr}{H H1 H2:Hp}(h:But x H H1)(k:jh H1 H2):But x H H2:=λb o e n=>k b o (h b o e n)
theorem But.updx{x:Addr}{H H1:Hp}{o:HO}(h:But x H H1):But x H (upd H1 x o):=λb u e n=>by rw [jm n];exact h b u e n
theorem But.updn{x D:Addr}{H H1:Hp}{o:HO}(h:But x H H1)(nD:H D=none):But x H (upd H1 D o):=λb u e n=>by
 rw [jm (qt e nD)];exact h b u e n
structure jkg(K:PySem.W.Frag)(mg:Str->Option Value)(CN nI:Addr)(ndI:FuncData):Prop where
 c:zu K mg "Tree" CN ["kind", "leaves", "parts", "blocks", "depth", "place", "end"]
 make:Mk K CN nI
 F:Fun K "__init__" "Tree.__init__" ja5 nI ndI
 b:zk K ndI ["self", "kind", "leaves", "parts", "blocks"] []
def jfy(CN:Addr):Sp:=λvs H Q _=>∃ (x dx:Addr) (k:Str) (a1 a2 a3:Addr) (vps vbs:List V) (ps:List j5) (bs:List (List j5)),vs=[.ref x,.str k,.ref a1,.ref a2,.ref a3]/\H x=some (.ins CN dx [])/\H a2=some (.lst vps)/\H a3=some (.lst vbs)/\
 vps.length<=1000/\vbs.length<=1000/\jj CN (Mn x H) ps vps/\qu CN (Mn x H) bs vbs/\∀ H',But x H H'->H' x=some (.ins CN dx (jeo k a1 a2 a3 ⟨dx,.non,.non⟩ (1 + max (qk ps) (xa bs))))->Q .non H'
theorem jzw:jv ["self", "kind", "leaves", "parts", "blocks", "below", "block"] ["self", "kind", "leaves", "parts", "blocks"] (ji ja5):=⟨rfl,rfl,rfl,by decide +kernel,rfl,by decide +kernel,by decide +kernel⟩
theorem j15:jbo ["self", "kind", "leaves", "parts", "blocks", "below", "block"] (ji ja5) { kind:=.function,names:=[(".0",.local),("block",.local),("greatest_depth",.globalImplicit)],isGenerator:=false,isCoroutine:=false } [("block",6)]:=⟨rfl,by decide +kernel,by decide +kernel,by decide +kernel,by decide +kernel⟩
theorem j1s(T:jkg K mg CN nI ndI)(G:Has P w K mg base 1 "greatest_depth" ["trees"] (jfg K CN))(mm:mg "max"=none):xh P w K mg base (CXF P w) 2 nI ndI ["self", "kind", "leaves", "parts", "blocks"] (jfy CN):=by
 refine T.F.okF (k:=1) jzw (λvs H Q E h=>?_) (λcdv A outer s H vs Q E hr h=>?_)
 ·obtain ⟨x,dx,k,a1,a2,a3,vps,vbs,ps,bs,rfl,_⟩:=h;rfl
 obtain ⟨x,dx,k,a1,a2,a3,vps,vbs,ps,bs,rfl,hx,h2,h3,l2,l3,hN,hB,q⟩:=h;have nd:=jzw.nd
 have G0:=G;obtain ⟨gf,gfd,gF,gb,gk,gm⟩:=G;refine ⟨_,jc (vy (pv 0) (pv 1) rfl) (jc (vy (pv 0) (pv 2) rfl) (jc (vy (pv 0) (pv 3) rfl) (jc (vy (pv 0) (pv 4) rfl) (jc (vy (pv 0) jfl rfl) (jc (vy (pv 0) jfl rfl)
  (jc (jvm (i:=5) (own:=[("block",6)]) (te:=yh (jfg K CN) [] (λ_ _ _=>False) (qj (qy 6) xc)) rfl nd rfl rfl rfl (jab (pv 4)) j15 (λ_ _ _ _ _=>y_ (i:=6) nd rfl (Or.inl rfl)) (λ_ _ _ _ _=>jbk)
   (λ_ _ _ _ _=>vf gF hr rfl gm gk gb .nil jb0 (ja (pv 6) jb)))
  (jc (j_ (vk PySem.F.plainAttrs_list PySem.F.slot_list_append PySem.F.type_list_append zg (pv 5) (ja (jg G0 hr rfl (ja (pv 3) jb)) jb)))
  (je (vy (pv 0) (qa jam qd (yt (j07 rfl) rfl mm (by decide +kernel) (ja (pv 5) jb))) rfl))))))))),?_⟩
 refine ⟨_,rfl,_,rfl,x,CN,dx,_,rfl,hx,T.c.cl,T.c.no _ (.head _),(by show 0 < 1000;decide),?_⟩;refine ⟨_,rfl,_,rfl,x,CN,dx,_,rfl,jd,T.c.cl,T.c.no _ (.tail _ (.head _)),(by show 1 < 1000;decide),?_⟩;refine ⟨_,rfl,_,rfl,x,CN,dx,_,rfl,jd,T.c.cl,T.c.no _ (.tail _ (.tail _ (.head _))),(by show 2 < 1000;decide),?_⟩;refine ⟨_,rfl,_,rfl,x,CN,dx,_,rfl,jd,T.c.cl,T.c.no _ (.tail _ (.tail _ (.tail _ (.head _)))),(by show 3 < 1000;decide),?_⟩;refine ⟨_,rfl,x,CN,dx,_,rfl,jd,T.c.cl,T.c.no _ (by decide),(by show 4 < 1000;decide),?_⟩;refine ⟨_,rfl,x,CN,dx,_,rfl,jd,T.c.cl,T.c.no _ (by decide),(by show 5 < 1000;decide),?_⟩;rw [jb2,jb2,jb2,jb2,jb2];have b4:But x H (upd H x (.ins CN dx [("kind",.str k),("leaves",.ref a1),("parts",.ref a2),("blocks",.ref a3),("place",.non),("end",.non)])):=(But.refl x H).updx
 have n2:a2≠x:=λz=>by rw [z,hx] at h2;cases h2
 have n3:a3≠x:=λz=>by rw [z,hx] at h3;cases h3
 have lb:=qu.len bs vbs hB;refine ⟨_,rfl,a3,rfl,⟨_,SqL.of (b4 _ _ h3 n3)⟩,λD nD=>⟨λi m H'=>m=vbs.length - i/\i<=vbs.length/\But x H H'/\H' x=some (.ins CN dx [("kind",.str k),("leaves",.ref a1),("parts",.ref a2),("blocks",.ref a3),("place",.non),("end",.non)])/\H' D=some (.lst (((bs.take i).map λx=>(qk x:Int)).map V.int)),?_,?_⟩⟩
 ·have Dx:D≠x:=λz=>by
   have nD:upd H x _ D=none:=nD;rw [z,jd] at nD;cases nD
  have nD':H D=none:=by
   have nD:upd H x _ D=none:=nD
   rwa [jm Dx] at nD
  exact ⟨_,rfl,Nat.zero_le _,b4.updn nD',by rw [jm (Ne.symm Dx),jd];rfl,jd⟩
 have Dx:D≠x:=λz=>by
  have nD:upd H x _ D=none:=nD;rw [z,jd] at nD;cases nD
 have nD':H D=none:=by
  have nD:upd H x _ D=none:=nD
  rwa [jm Dx] at nD
 rintro i m H' ⟨rfl,hi,bt,hx',hD⟩;have hS':SqL K H' a3 vbs:=SqL.of (bt _ _ h3 n3)
 have small:∀ j,j<=vbs.length->(((bs.take j).map λx=>(qk x:Int)).map V.int).length < sizeLine:=λj hj=>by
  rw [List.length_map,List.length_map,List.length_take];show min j bs.length < 2 ^ 24
  omega
 by_cases hlt:i < vbs.length
 ·have hxi:vbs[i]? = some vbs[i]:=List.getElem?_eq_getElem hlt;have hl:bs[i]? = some bs[i]:=List.getElem?_eq_getElem (by omega)
  obtain ⟨a,ws,ev,ha,lw,nv⟩:=qu.get bs vbs (hB.same (jp4 bt)) i _ hl;refine .inr ⟨⟨_,_,hS',hxi⟩,λH2=>∃ m',m' < vbs.length - i/\(m'=vbs.length - (i + 1)/\i + 1<=vbs.length/\But x H H2/\H2 x=some (.ins CN dx [("kind",.str k),("leaves",.ref a1),("parts",.ref a2),("blocks",.ref a3),("place",.non),("end",.non)])/\H2 D=some (.lst (((bs.take (i + 1)).map λx=>(qk x:Int)).map V.int))),λ_ z=>z,?_⟩;rintro y H2 ⟨rfl,hy⟩;have ey:=hy _ hS'
  rw [ev] at ey;cases ey;refine ⟨rfl,_,rfl,a,ws,_,rfl,SqL.of ha,nv,lw,λH3 sm=>⟨_,sm _ _ hD,small i hi,_,Nat.lt_of_lt_of_le (Nat.lt_succ_self _) (by omega),rfl,hlt,(bt.then sm).updn nD',by rw [jm (Ne.symm Dx)];exact sm _ _ hx',?_⟩⟩;rw [jd,List.take_add_one,hl,List.map_append,List.map_append];rfl
 ·have e:i=vbs.length:=by omega
  subst e;rw [lb,List.take_length] at hD;refine .inl ⟨⟨_,hS',Nat.le_refl _⟩,_,rfl,.inl ⟨rfl,_,SqL.of hD⟩,_,rfl,a2,vps,ps,rfl,SqL.of (bt _ _ h2 n2),hN.same (jp4 bt),l2,λH3 sm=>?_⟩;have hD3:=sm _ _ hD
  have sl:=small _ (Nat.le_refl _);rw [lb,List.take_length] at sl;refine ⟨D,_,_,rfl,rfl,hD3,sl,?_⟩;refine ⟨_,rfl,D,(bs.map λx=>(qk x:Int)) ++ [(qk ps:Int)],rfl,SqL.of (by rw [jd,List.map_append];rfl),by simp,λm h1 h2=>?_⟩;rw [jr9 h1 h2];refine ⟨_,_,rfl,rfl,_,rfl,x,CN,dx,_,rfl,by rw [jm (Ne.symm Dx)];exact sm _ _ hx',T.c.cl,T.c.no _ (.tail _ (.tail _ (.tail _ (.tail _ (.head _))))),(by show 6 < 1000;decide),q _ ((bt.then sm).updn nD').updx ?_⟩;rw [jd];rfl
end
open Vanbka (Lex reserved isSign isWord next nameNext wordNext eat b halt_ placeAt tooDeepAt Op Prim Way Exprs Fields Stmts)
def opK:Op->Str
 | .or => "or" | .and => "and" | .eq => "==" | .ne => "!=" | .lt => "<" | .le => "<=" | .gt => ">" | .ge => ">=" | .join => "++" | .add => "+" | .sub => "-" | .mul => "*" | .div => "/" | .rem => "percent"
def jc6:Prim->Str
 | .len => "len" | .keys => "keys" | .text => "text" | .num => "num" | .roll => "roll" | .cut => "cut" | .with => "with"
def jkj:Way->Str
 | .show => "show" | .table => "table" | .plot => "plot" | .check => "check" | .do => "do" | .give => "give"
def jem:Fields->List x6
 | .nil=>[]
 | .cons x _ l=>.bytes x::jem l
mutual
def jw:Vanbka.Expr->j5
 | .num n=>.mk "NUMBER" [.int n] [] []
 | .quoted s=>.mk "QUOTED" [.bytes s] [] []
 | .truth v=>.mk (if v then "yes" else "no") [] [] []
 | .nothing=>.mk "none" [] [] []
 | .name x=>.mk "NAME" [.bytes x] [] []
 | .list l=>.mk "list" [] (y9 l) []
 | .record l=>.mk "record" (jem l) (v8 l) []
 | .minus e=>.mk "minus" [] [jw e] []
 | .not e=>.mk "not" [] [jw e] []
 | .bin o x y=>.mk (opK o) [] [jw x,jw y] []
 | .pick c x y=>.mk "?" [] [jw c,jw x,jw y] []
 | .call f l=>.mk "call" [] (jw f::y9 l) []
 | .index l i=>.mk "element" [] [jw l,jw i] []
 | .field r x=>.mk "field" [.bytes x] [jw r] []
 | .prim p l=>.mk (jc6 p) [] (y9 l) []
 | .fn own ps s=>.mk "fn" (.bytes (own.getD [])::ps.map .bytes) [] [xk s]
def y9:Exprs->List j5
 | .nil=>[]
 | .cons e l=>jw e::y9 l
def v8:Fields->List j5
 | .nil=>[]
 | .cons _ e l=>jw e::v8 l
def x_:Vanbka.Stmt->j5
 | .leta x e=>.mk "let" [.bytes x] [jw e] []
 | .seta x e=>.mk "set" [.bytes x] [jw e] []
 | .way w e=>.mk (jkj w) [] [jw e] []
 | .iff c x=>.mk "if" [] [jw c] [xk x]
 | .iffElse c x y=>.mk "if" [] [jw c] [xk x,xk y]
 | .while_ c x=>.mk "while" [] [jw c] [xk x]
 | .for x e l=>.mk "for" [.bytes x] [jw e] [xk l]
 | .slider x v lo hi=>.mk "slider" [.bytes x,.int v,.int lo,.int hi] [] []
 | .choice x v l=>.mk "choice" (.bytes x :: .int v::l.map .bytes) [] []
def xk:Stmts->List j5
 | .nil=>[]
 | .cons s l=>x_ s::xk l
end
mutual
theorem yy:∀ e:Vanbka.Expr,(jw e).depth=e.depth
 | .num n=>by simp [jw,j5.depth,qk,xa,Vanbka.Expr.depth]
 | .quoted s=>by simp [jw,j5.depth,qk,xa,Vanbka.Expr.depth]
 | .truth v=>by simp [jw,j5.depth,qk,xa,Vanbka.Expr.depth]
 | .nothing=>by simp [jw,j5.depth,qk,xa,Vanbka.Expr.depth]
 | .name x=>by simp [jw,j5.depth,qk,xa,Vanbka.Expr.depth]
 | .list l=>by simp [jw,j5.depth,xa,Vanbka.Expr.depth,jgp l]
 | .record l=>by simp [jw,j5.depth,xa,Vanbka.Expr.depth,joc l]
 | .minus e=>by simp [jw,j5.depth,qk,xa,Vanbka.Expr.depth,yy e]
 | .not e=>by simp [jw,j5.depth,qk,xa,Vanbka.Expr.depth,yy e]
 | .bin o x y=>by simp [jw,j5.depth,qk,xa,Vanbka.Expr.depth,yy x,yy y]
 | .pick c x y=>by simp [jw,j5.depth,qk,xa,Vanbka.Expr.depth,yy c,yy x,yy y]
 | .call f l=>by simp [jw,j5.depth,qk,xa,Vanbka.Expr.depth,yy f,jgp l]
 | .index l i=>by simp [jw,j5.depth,qk,xa,Vanbka.Expr.depth,yy l,yy i]
 | .field r x=>by simp [jw,j5.depth,qk,xa,Vanbka.Expr.depth,yy r]
 | .prim p l=>by simp [jw,j5.depth,xa,Vanbka.Expr.depth,jgp l]
 | .fn own ps s=>by simp [jw,j5.depth,qk,xa,Vanbka.Expr.depth,jba s]
theorem jgp:∀ l:Exprs,qk (y9 l)=l.depth
 | .nil=>by simp [y9,qk,Exprs.depth]
 | .cons e l=>by simp [y9,qk,Exprs.depth,yy e,jgp l]
theorem joc:∀ l:Fields,qk (v8 l)=l.depth
 | .nil=>by simp [v8,qk,Fields.depth]
 | .cons x e l=>by simp [v8,qk,Fields.depth,yy e,joc l]
theorem jy9:∀ s:Vanbka.Stmt,(x_ s).depth=s.depth
 | .leta x e=>by simp [x_,j5.depth,qk,xa,Vanbka.Stmt.depth,yy e]
 | .seta x e=>by simp [x_,j5.depth,qk,xa,Vanbka.Stmt.depth,yy e]
 | .way w e=>by simp [x_,j5.depth,qk,xa,Vanbka.Stmt.depth,yy e]
 | .iff c x=>by simp [x_,j5.depth,qk,xa,Vanbka.Stmt.depth,yy c,jba x]
 | .iffElse c x y=>by simp [x_,j5.depth,qk,xa,Vanbka.Stmt.depth,yy c,jba x,jba y]
 | .while_ c x=>by simp [x_,j5.depth,qk,xa,Vanbka.Stmt.depth,yy c,jba x]
 | .for x e l=>by simp [x_,j5.depth,qk,xa,Vanbka.Stmt.depth,yy e,jba l]
 | .slider x v lo hi=>by simp [x_,j5.depth,qk,xa,Vanbka.Stmt.depth]
 | .choice x v l=>by simp [x_,j5.depth,qk,xa,Vanbka.Stmt.depth]
theorem jba:∀ l:Stmts,qk (xk l)=l.depth
 | .nil=>by simp [xk,qk,Stmts.depth]
 | .cons s l=>by simp [xk,qk,Stmts.depth,jy9 s,jba l]
end
structure Ad where
 CF:Addr
 CT:Addr
 CR:Addr
 CN:Addr
abbrev RDa(D:Ad):=RD D.CT D.CR
def Out{α:Type}(D:Ad)(X:Tx)(rd:Addr)(H:Hp)(Q:VK)(E:XK)(rep:Hp->α->V->Prop)(res:Except Nat (α×List Vanbka.Tok)):Prop:=match res with
 | .ok (a,r)=>∀ v H',But rd H H'->RDa D X rd H' r->rep (Cut X.T H H') a v->Q v H'
 | .error l=>Err D.CF E 4 (placeAt X.all X.len l:Nat)
def xw(h r:Nat):Nat:=if h<=24 then 20 * (24 - h) + r else 0
structure Pre(D:Ad)(X:Tx)(rd:Addr)(H:Hp)(rs:List Vanbka.Tok)(h n r:Nat):Prop where
 R:RDa D X rd H rs
 dp:tooDeepAt (h:Int) rs=none
 le:h<=24
 fu:16 * rs.length + r<=n
 sm:X.all.length<=700
abbrev ql(D:Ad):Hp->Vanbka.Expr->V->Prop:=λH e v=>jz D.CN H (jw e) v
abbrev yi(D:Ad):Hp->Vanbka.Stmt->V->Prop:=λH e v=>jz D.CN H (x_ e) v
abbrev jbw(D:Ad):Hp->Exprs->V->Prop:=λH l v=>∃ a vs,v = .ref a/\H a=some (.lst vs)/\vs.length<=700/\jj D.CN H (y9 l) vs
abbrev yw(D:Ad):Hp->Stmts->V->Prop:=λH l v=>∃ a vs,v = .ref a/\H a=some (.lst vs)/\vs.length<=700/\jj D.CN H (xk l) vs
section
variable{D:Ad}{X:Tx}{rd:Addr}{H H' H1 H2:Hp}{rs:List Vanbka.Tok}
theorem xb(bt:But rd H H1)(R:RDa D X rd H1 rs):∀ b,H1 b=none->H b=none:=λb z=>by
 cases e:H b with
 | none=>rfl
 | some o =>
  by_cases y:b=rd
  ·obtain ⟨dx,pre,h,_⟩:=R.ob;rw [y,h] at z;cases z
  ·rw [bt b o e y] at z;cases z
theorem jfr(st:jh X.T H1):jh (Cut X.T H H1) H1:=λb o e=>by
 rcases jbd e with z | ⟨_,_,z⟩
 ·exact st _ _ z
 ·exact z
theorem jkf{T:Hp}(h:∀ b o,H b=none->H1 b=some o->H2 b=some o):jh (Cut T H H1) (Cut T H H2):=jbc (λ_ z=>z) h
theorem xg{T:Hp}(s:jh H1 H2):jh (Cut T H H1) (Cut T H H2):=jkf λb o _ e=>s b o e
theorem xx{T:Hp}(R:RDa D X rd H rs)(s:But rd H1 H2):jh (Cut T H H1) (Cut T H H2):=jkf λb o n e=>s b o e λz=>by
 obtain ⟨dx,pre,h,_⟩:=R.ob;rw [z,h] at n;cases n
theorem yd{T:Hp}(bt:But rd H H1)(R:RDa D X rd H1 rs):jh (Cut T H1 H2) (Cut T H H2):=jbc (xb bt R) λ_ _ _ e=>e
theorem jbn{T:Hp}:jh T (Cut T H H1):=λb o e=>jh9 e
theorem zd(st:jh X.T H1){x:Addr}(n:H1 x=none):X.T x=none:=jk st n
end
theorem yq{D:Ad}{T:Hp}{H H1:Hp}{Q:Addr->Hp->Prop}{E:XK}{k:Str}{a1 a2 a3:Addr}{vls vps vbs:List V}{ls:List x6}{ps:List j5}{bs:List (List j5)}(gr:∀ b,H1 b=none->H b=none)(st:jh T H1)
  (h1:Cut T H H1 a1=some (.lst vls)) (h2:Cut T H H1 a2=some (.lst vps)) (h3:Cut T H H1 a3=some (.lst vbs)) (sz:vls.length<=1000/\vps.length<=1000/\vbs.length<=1000)
  (hl:Paired (qo (Cut T H H1)) ls vls) (hp:jj D.CN (Cut T H H1) ps vps) (hb:qu D.CN (Cut T H H1) bs vbs) (q:∀ x H2,jh H1 H2->jz D.CN (Cut T H H2) (.mk k ls ps bs) (.ref x)->Q x H2) :
  ∀ x dx,H1 x=none->H1 dx=none->dx≠x->jfy D.CN [.ref x,.str k,.ref a1,.ref a2,.ref a3] (upd (upd H1 dx (.own x)) x (.ins D.CN dx [])) (λv H2=>v = .non/\Q x H2) E:=by
 intro x dx nx nd ne;have sub:jh (Cut T H H1) H1:=λb o e=>by
  rcases jbd e with z | ⟨_,_,z⟩
  ·exact st _ _ z
  ·exact z
 have up:jh H1 (Mn x (upd (upd H1 dx (.own x)) x (.ins D.CN dx []))):=λb o e=>by
  have n1:b≠x:=qt e nx;have n2:b≠dx:=qt e nd
  unfold Mn;rw [if_neg n1,jm n1,jm n2];exact e
 have up2:∀ b o,H1 b=some o->upd (upd H1 dx (.own x)) x (.ins D.CN dx []) b=some o:=λb o e=>by
  rw [jm (qt e nx),jm (qt e nd)];exact e
 refine ⟨x,dx,k,a1,a2,a3,vps,vbs,ps,bs,rfl,jd,up2 _ _ (sub _ _ h2),up2 _ _ (sub _ _ h3),sz.2.1,sz.2.2,hp.same (sub.trans up),hb.same (sub.trans up),λH2 bt e=>⟨rfl,?_⟩⟩;have sm:jh H1 H2:=But.same nx nd bt
 have g:jh (Cut T H H1) (Cut T H H2):=xg sm;exact q x H2 sm ⟨x,⟨dx,.non,.non⟩,a1,a2,a3,vls,vps,vbs,rfl,j9 (jk st nx) (gr x nx) e,g _ _ h1,g _ _ h2,g _ _ h3,sz,Paired.mapP hl λ_ _ z=>z.same g,hp.same g,hb.same g⟩
section
variable{rs:List Vanbka.Tok}
theorem jwf(h:WfL rs):next (isSign "=") rs=decide (jq rs=("=":Str)):=zm h (by decide +kernel) (by decide +kernel)
theorem jjt(h:WfL rs):next (isSign ";") rs=decide (jq rs=(";":Str)):=zm h (by decide +kernel) (by decide +kernel)
theorem jd9(h:WfL rs):next (isSign ":") rs=decide (jq rs=(":":Str)):=zm h (by decide +kernel) (by decide +kernel)
theorem jas(h:WfL rs):next (isSign ",") rs=decide (jq rs=(",":Str)):=zm h (by decide +kernel) (by decide +kernel)
theorem jgf(h:WfL rs):next (isSign "(") rs=decide (jq rs=("(":Str)):=zm h (by decide +kernel) (by decide +kernel)
theorem jcs(h:WfL rs):next (isSign ")") rs=decide (jq rs=(")":Str)):=zm h (by decide +kernel) (by decide +kernel)
theorem jkz(h:WfL rs):next (isSign "[") rs=decide (jq rs=("[":Str)):=zm h (by decide +kernel) (by decide +kernel)
theorem j0r(h:WfL rs):next (isSign "]") rs=decide (jq rs=("]":Str)):=zm h (by decide +kernel) (by decide +kernel)
theorem j2n(h:WfL rs):next (isSign "{") rs=decide (jq rs=("{":Str)):=zm h (by decide +kernel) (by decide +kernel)
theorem jrf(h:WfL rs):next (isSign "}") rs=decide (jq rs=("}":Str)):=zm h (by decide +kernel) (by decide +kernel)
theorem jky(h:WfL rs):next (isSign "-") rs=decide (jq rs=("-":Str)):=zm h (by decide +kernel) (by decide +kernel)
theorem nxQ(h:WfL rs):next (isSign "?") rs=decide (jq rs=("?":Str)):=zm h (by decide +kernel) (by decide +kernel)
theorem jxj(h:WfL rs):next (isSign ".") rs=decide (jq rs=(".":Str)):=zm h (by decide +kernel) (by decide +kernel)
theorem jbs(h:WfL rs):next (isWord "let") rs=decide (jq rs=("let":Str)):=zf h (by decide +kernel) (by decide +kernel)
theorem jbr(h:WfL rs):next (isWord "set") rs=decide (jq rs=("set":Str)):=zf h (by decide +kernel) (by decide +kernel)
theorem jd0(h:WfL rs):next (isWord "if") rs=decide (jq rs=("if":Str)):=zf h (by decide +kernel) (by decide +kernel)
theorem jp2(h:WfL rs):next (isWord "else") rs=decide (jq rs=("else":Str)):=zf h (by decide +kernel) (by decide +kernel)
theorem jah(h:WfL rs):next (isWord "while") rs=decide (jq rs=("while":Str)):=zf h (by decide +kernel) (by decide +kernel)
theorem jce(h:WfL rs):next (isWord "for") rs=decide (jq rs=("for":Str)):=zf h (by decide +kernel) (by decide +kernel)
theorem jrg(h:WfL rs):next (isWord "in") rs=decide (jq rs=("in":Str)):=zf h (by decide +kernel) (by decide +kernel)
theorem wv(h:WfL rs):next (isWord "slider") rs=decide (jq rs=("slider":Str)):=zf h (by decide +kernel) (by decide +kernel)
theorem ww(h:WfL rs):next (isWord "choice") rs=decide (jq rs=("choice":Str)):=zf h (by decide +kernel) (by decide +kernel)
theorem jt6(h:WfL rs):next (isWord "not") rs=decide (jq rs=("not":Str)):=zf h (by decide +kernel) (by decide +kernel)
theorem jxk(h:WfL rs):next (isWord "fn") rs=decide (jq rs=("fn":Str)):=zf h (by decide +kernel) (by decide +kernel)
theorem j0s(h:WfL rs):next (isWord "yes") rs=decide (jq rs=("yes":Str)):=zf h (by decide +kernel) (by decide +kernel)
theorem j1v(h:WfL rs):next (isWord "no") rs=decide (jq rs=("no":Str)):=zf h (by decide +kernel) (by decide +kernel)
theorem jy0(h:WfL rs):next (isWord "none") rs=decide (jq rs=("none":Str)):=zf h (by decide +kernel) (by decide +kernel)
end
def jw6(D:Ad)(X:Tx)(rd:Addr)(H:Hp)(Q:VK)(E:XK)(res:Except Nat (List Vanbka.Tok)):Prop:=match res with
 | .ok r=>∀ v H',But rd H H'->RDa D X rd H' r->Q v H'
 | .error l=>Err D.CF E 4 (placeAt X.all X.len l:Nat)
def ji6{α:Type}(D:Ad)(X:Tx)(rd:Addr)(H:Hp)(Q:VK)(E:XK)(rep:Hp->α->V->Prop)(res:Except Nat (α×List Vanbka.Tok)):Prop:=match res with
 | .ok (a,r)=>∀ v H',But rd H H'->RDa D X rd H' r->rep X.T a v->Q v H'
 | .error l=>Err D.CF E 4 (placeAt X.all X.len l:Nat)
section
variable{D:Ad}{X:Tx}{rd:Addr}{H H1:Hp}{Q Q1:VK}{E:XK}{rs:List Vanbka.Tok}{α β:Type}{rep:Hp->β->V->Prop}{rep1:Hp->α->V->Prop}
theorem qz{x:Except Nat (α×List Vanbka.Tok)}{f:α×List Vanbka.Tok->Except Nat (β×List Vanbka.Tok)}(out:Out D X rd H Q E rep (x >>= f))
  (k:∀ a r,x = .ok (a,r)->Out D X rd H Q E rep (f (a,r))->∀ v H2,But rd H1 H2->RDa D X rd H2 r->rep1 (Cut X.T H1 H2) a v->Q1 v H2):Out D X rd H1 Q1 E rep1 x:=by
 cases x with
 | error l=>exact out
 | ok p=>exact λv H2 b R n=>k p.1 p.2 rfl out v H2 b R n
theorem jbm{x:Except Nat (α×List Vanbka.Tok)}{f:α×List Vanbka.Tok->Except Nat (β×List Vanbka.Tok)}(out:Out D X rd H Q E rep (x >>= f))
  (k:∀ a r,x = .ok (a,r)->Out D X rd H Q E rep (f (a,r))->∀ v H2,But rd H1 H2->RDa D X rd H2 r->rep1 X.T a v->Q1 v H2):ji6 D X rd H1 Q1 E rep1 x:=by
 cases x with
 | error l=>exact out
 | ok p=>exact λv H2 b R n=>k p.1 p.2 rfl out v H2 b R n
theorem x8{x:Except Nat (List Vanbka.Tok)}{f:List Vanbka.Tok->Except Nat (β×List Vanbka.Tok)}(out:Out D X rd H Q E rep (x >>= f))
  (k:∀ r,x = .ok r->Out D X rd H Q E rep (f r)->∀ v H2,But rd H1 H2->RDa D X rd H2 r->Q1 v H2):jw6 D X rd H1 Q1 E x:=by
 cases x with
 | error l=>exact out
 | ok r=>exact λv H2 b R=>k r rfl out v H2 b R
theorem yz{i:Nat}{σ:St}{ta:TE}{p:Vanbka.Tok->Bool}{z:Str}(R:RDa D X rd H rs)(hp:next p rs=decide (jq rs=z))(h:jw6 D X rd H Q E (eat p rs))(hz:z≠"END":=by decide)(hta:∀ Q':VK,Q' (.str z) H->ta σ H Q':=by exact λ_ q=>q)(hi:σ[i]? = some (some (.ref rd)):=by rfl) :
  vd D.CR "take" (jal D.CF D.CT D.CR) [] E (qy i) (qj ta xc) σ H Q:=by
 refine jap hi R (hta _ ⟨X,rd,rs,z,rfl,hz,R,?_⟩);unfold eat at h;rw [hp] at h;by_cases c:jq rs=z
 ·rw [decide_eq_true c,if_pos rfl] at h;rw [if_pos c];exact λv H' b R' _=>h v H' b R'
 ·rw [decide_eq_false c,if_neg Bool.false_ne_true] at h;rw [if_neg c];exact h
theorem jcg{i:Nat}{σ:St}{ta:TE}(R:RDa D X rd H rs)(h:ji6 D X rd H Q E (λT x v=>qo T (.bytes x) v) (Vanbka.name rs))(hta:∀ Q':VK,Q' (.str "NAME") H->ta σ H Q':=by exact λ_ q=>q)(hi:σ[i]? = some (some (.ref rd)):=by rfl) :
  vd D.CR "take" (jal D.CF D.CT D.CR) [] E (qy i) (qj ta xc) σ H Q:=by
 refine jap hi R (hta _ ⟨X,rd,rs,_,rfl,by decide,R,?_⟩);have wf:=R.wfr
 cases rs with
 | nil=>rw [if_neg (show ¬ jq [] = "NAME" by decide)];exact h
 | cons t r =>
  obtain ⟨l,p,n⟩:=t;by_cases c:jx l = "NAME"
  ·obtain ⟨x,rfl,hx⟩:=(jie (wf _ (.head _))).mp c;rw [if_pos (show jq ({ lex:=.word x,place:=p,len:=n }::r) = "NAME" from c)];have e:Vanbka.name ({ lex:=.word x,place:=p,len:=n }::r) = .ok (x,r):=by
    unfold Vanbka.name nameNext;dsimp only;rw [hx];rfl
   rw [e] at h;intro v H' b R' tv;have tv:(if reserved.contains x then v = .non else ∃ a,v = .ref a/\X.T a=some (.lst (vb x))):=tv
   rw [hx,if_neg Bool.false_ne_true] at tv;exact h v H' b R' tv
  ·rw [if_neg (show ¬ jq ({ lex:=l,place:=p,len:=n }::r) = "NAME" from c)];have e:Vanbka.name ({ lex:=l,place:=p,len:=n }::r)=halt_ ({ lex:=l,place:=p,len:=n }::r):=by
    unfold Vanbka.name nameNext;cases l with
    | word x =>
     dsimp only;cases hx:reserved.contains x with
     | true=>rfl
     | false=>exact absurd (zn hx) c
    | _=>rfl
   rw [e] at h;exact h
theorem jiy{i:Nat}{σ:St}{ta:TE}(R:RDa D X rd H rs)(h:ji6 D X rd H Q E (λ_ n v=>v = .int (n:Nat)) (Vanbka.number rs))(hta:∀ Q':VK,Q' (.str "NUMBER") H->ta σ H Q':=by exact λ_ q=>q)(hi:σ[i]? = some (some (.ref rd)):=by rfl) :
  vd D.CR "take" (jal D.CF D.CT D.CR) [] E (qy i) (qj ta xc) σ H Q:=by
 refine jap hi R (hta _ ⟨X,rd,rs,_,rfl,by decide,R,?_⟩);have wf:=R.wfr
 cases rs with
 | nil=>rw [if_neg (show ¬ jq [] = "NUMBER" by decide)];exact h
 | cons t r =>
  obtain ⟨l,p,n⟩:=t;by_cases c:jx l = "NUMBER"
  ·obtain ⟨x,rfl⟩:=(jru (wf _ (.head _))).mp c;rw [if_pos (show jq ({ lex:=.num x,place:=p,len:=n }::r) = "NUMBER" from c)];exact λv H' b R' tv=>h v H' b R' tv
  ·rw [if_neg (show ¬ jq ({ lex:=l,place:=p,len:=n }::r) = "NUMBER" from c)];cases l with
   | num x=>exact absurd rfl c
   | _=>exact h
theorem jwj{i:Nat}{σ:St}{ta:TE}(R:RDa D X rd H rs)(h:ji6 D X rd H Q E (λT x v=>qo T (.bytes x) v) (Vanbka.quoted rs))(hta:∀ Q':VK,Q' (.str "QUOTED") H->ta σ H Q':=by exact λ_ q=>q)(hi:σ[i]? = some (some (.ref rd)):=by rfl) :
  vd D.CR "take" (jal D.CF D.CT D.CR) [] E (qy i) (qj ta xc) σ H Q:=by
 refine jap hi R (hta _ ⟨X,rd,rs,_,rfl,by decide,R,?_⟩);have wf:=R.wfr
 cases rs with
 | nil=>rw [if_neg (show ¬ jq [] = "QUOTED" by decide)];exact h
 | cons t r =>
  obtain ⟨l,p,n⟩:=t;by_cases c:jx l = "QUOTED"
  ·obtain ⟨x,rfl⟩:=(jrt (wf _ (.head _))).mp c;rw [if_pos (show jq ({ lex:=.quoted x,place:=p,len:=n }::r) = "QUOTED" from c)];exact λv H' b R' tv=>h v H' b R' tv
  ·rw [if_neg (show ¬ jq ({ lex:=l,place:=p,len:=n }::r) = "QUOTED" from c)];cases l with
   | quoted x=>exact absurd rfl c
   | _=>exact h
theorem zh{i:Nat}{σ:St}{ta:TE}{z:Str}(R:RDa D X rd H rs)(c:jq rs=z)(h:∀ v H',But rd H H'->RDa D X rd H' (rs.drop 1)->jw4 X.T rs v->Q v H')(hz:z≠"END":=by decide)(hta:∀ Q':VK,Q' (.str z) H->ta σ H Q':=by exact λ_ q=>q)(hi:σ[i]? = some (some (.ref rd)):=by rfl) :
  vd D.CR "take" (jal D.CF D.CT D.CR) [] E (qy i) (qj ta xc) σ H Q:=by
 refine jap hi R (hta _ ⟨X,rd,rs,z,rfl,hz,R,?_⟩);rw [if_pos c];exact h
theorem jfm{i:Nat}{σ:St}{t:Vanbka.Tok}{r:List Vanbka.Tok}(R:RDa D X rd H (t::r))(h:∀ H',But rd H H'->RDa D X rd H' r->Q (.str (jx t.lex)) H')(hi:σ[i]? = some (some (.ref rd)):=by rfl) :
  vd D.CR "move_on" (jg0 D.CT D.CR) [] E (qy i) xc σ H Q :=
 jap hi R ⟨X,rd,t,r,rfl,R,h⟩
end
open Vanbka (whole number namesMore quotedMore)
abbrev jf4:PySem.Stmt:=top 32
abbrev je0:PySem.Stmt:=top 34
abbrev jip:PySem.Stmt:=top 36
section
variable{P:Program}{w:World}{K:PySem.W.Frag}{mg:Str->Option Value}{base:Heap}{f:Addr}{fd:FuncData}{D:Ad}
structure z6(P:Program)(w:World)(K:PySem.W.Frag)(mg:Str->Option Value)(base:Heap)(D:Ad):Prop where
 fault:∃ fI fdI,vt K mg D.CF fI fdI
 rd:jak K mg D.CR
 tree:∃ nI ndI,jkg K mg D.CN nI ndI/\xh P w K mg base (CXF P w) 2 nI ndI ["self", "kind", "leaves", "parts", "blocks"] (jfy D.CN)
 look:jax P w K mg base D.CR 1 "look" ["self"] (jfe D.CT D.CR)
 behind:jax P w K mg base D.CR 1 "look_behind" ["self"] (jf0 D.CT D.CR)
 here:jax P w K mg base D.CR 1 "here" ["self"] (jg1 D.CT D.CR)
 move:jax P w K mg base D.CR 2 "move_on" ["self"] (jg0 D.CT D.CR)
 take:jax P w K mg base D.CR 3 "take" ["self", "kind"] (jal D.CF D.CT D.CR)
 cNo:CI mg "NO_PROGRAM" 4
 ml:mg "len"=none
 cOr:CI mg "OR_LINE" 1
 cNot:CI mg "NOT_LINE" 3
 cCmp:CI mg "COMPARED_LINE" 4
 cSig:CI mg "SIGNED_LINE" 8
 last:jax P w K mg base D.CR 1 "behind_last" ["self"] (jjf D.CT D.CR)
theorem ym{N:List Str}{qual:Str}{scope:Scope}{f:Addr}{cd:Value}{A:Around}{outer:List Env}{s:Shared}{H:Hp}{E:XK}{j:Nat}{e1 e2 e3 e4:PySem.Expr}{t1 t2 t3 t4:TE}{np cpos:Pos}(B:z6 P w K mg base D)
  (hr:xu j (xt (CXF P w) P w K mg base N qual scope f cd A outer s H E).A) (hg:Gl (xt (CXF P w) P w K mg base N qual scope f cd A outer s H E) "Tree") (ha:PA (xt (CXF P w) P w K mg base N qual scope f cd A outer s H E) [e1,e2,e3,e4] (qj t1 (qj t2 (qj t3 (qj t4 xc))))) (hj:3<=j:=by decide)
  (he:starEach [e1,e2,e3,e4] (xt (CXF P w) P w K mg base N qual scope f cd A outer s H E).env=(false,eval e1 (xt (CXF P w) P w K mg base N qual scope f cd A outer s H E).env)::starEach [e2,e3,e4] (xt (CXF P w) P w K mg base N qual scope f cd A outer s H E).env:=by rfl)
  (hpl:(backTo cpos (starEach [e2,e3,e4] (xt (CXF P w) P w K mg base N qual scope f cd A outer s H E).env)).any (·.1)=false:=by rfl) :
  PE (xt (CXF P w) P w K mg base N qual scope f cd A outer s H E) (.Call (.Name "Tree" np) [e1,e2,e3,e4] [] cpos) (jmg D.CN (jfy D.CN) [] E (qj t1 (qj t2 (qj t3 (qj t4 xc))))):=by
 obtain ⟨nI,ndI,T,F⟩:=B.tree;exact jbl T.make F (hr.mono hj) hg T.c.m T.b .nil wu ha (by decide) he hpl
def jhv(D:Ad):Sp:=λvs H Q E=>∃ X rd rs,vs=[.ref rd]/\RDa D X rd H rs/\ji6 D X rd H Q E (λ_ z v=>v = .int z) (whole rs)
theorem jx1:jv ["reader"] ["reader"] (ji jf4):=⟨rfl,rfl,rfl,by decide +kernel,rfl,by decide +kernel,by decide +kernel⟩
theorem jvz(F:Fun K "read_whole" "read_whole" jf4 f fd)(B:z6 P w K mg base D):xh P w K mg base (CXF P w) 4 f fd ["reader"] (jhv D):=by
 refine F.okF (k:=3) jx1 (λvs H Q E h=>?_) (λcdv A outer s H vs Q E hr h=>?_)
 ·obtain ⟨X,rd,rs,rfl,_⟩:=h;rfl
 obtain ⟨X,rd,rs,rfl,R,out⟩:=h;have cl:=B.rd.c.cl
 refine ⟨_,jc (qh (js xi (xf B.look cl hr (pv 0)) jf (j6 _))
   (jc (j_ (qe B.take cl hr (pv 0) (ja jf jb))) (je (jp (j1o jzi (qe B.take cl hr (pv 0) (ja jf jb)))))) jy)
  (je (jp (qe B.take cl hr (pv 0) (ja jf jb)))),?_⟩
 unfold whole at out;rw [jky R.wfr] at out;refine zi R ⟨rfl,_,rfl,qb (λc=>?_) (λc=>?_)⟩
 ·have c:jq rs = "-":=by have:=of_decide_eq_true c;injection this
  rw [decide_eq_true c,if_pos rfl] at out;refine zh R c λv H1 b1 R1 _=>?_;refine jiy R1 ?_;cases he:number (rs.drop 1) with
  | error l=>rw [he] at out;exact out
  | ok p =>
   rw [he] at out;exact λv H2 b2 R2 e=>⟨_,e,out _ _ (b1.trans b2) R2 rfl⟩
 ·have c:¬ jq rs = "-":=λz=>c (decide_eq_true (by rw [z]));rw [decide_eq_false c,if_neg Bool.false_ne_true] at out;refine jiy R ?_;cases he:number rs with
  | error l=>rw [he] at out;exact out
  | ok p =>
   rw [he] at out;exact λv H2 b2 R2 e=>out _ _ b2 R2 e
abbrev j2i:Hp->Bytes->V->Prop:=λT x v=>qo T (.bytes x) v
structure jsg(kd:Str)(one:List Vanbka.Tok->Except Nat (Bytes×List Vanbka.Tok))(more:Nat->List Vanbka.Tok->Except Nat (List Bytes×List Vanbka.Tok)):Prop where
 rd:∀ {D:Ad} {X:Tx} {rd:Addr} {H:Hp} {Q:VK} {E:XK} {rs:List Vanbka.Tok} {i:Nat} {σ:St} {ta:TE},RDa D X rd H rs->ji6 D X rd H Q E j2i (one rs)->(∀ Q':VK,Q' (.str kd) H->ta σ H Q')->σ[i]? = some (some (.ref rd))->
  vd D.CR "take" (jal D.CF D.CT D.CR) [] E (qy i) (qj ta xc) σ H Q
 zero:∀ ts,more 0 ts = .ok ([],ts)
 succ:∀ n ts,more (n + 1) ts=if next (isSign ",") ts then (do
   let (x,r) <- one (ts.drop 1)
   let (l,r) <- more n r
   return (x::l,r)) else .ok ([],ts)
 len:∀ ts x r,one ts = .ok (x,r)->r.length + 1<=ts.length
theorem jrs:jsg "NAME" Vanbka.name namesMore where
 rd:=λR h hta hi=>jcg R h hta hi
 zero:=λts=>rfl
 succ:=λn ts=>rfl
 len:=λts x r h=>by
  have:=Cell.y8 (ts:=ts);rw [h] at this;exact this.len
theorem jn3:jsg "QUOTED" Vanbka.quoted quotedMore where
 rd:=λR h hta hi=>jwj R h hta hi
 zero:=λts=>rfl
 succ:=λn ts=>rfl
 len:=λts x r h=>by
  have:=Cell.jf9 (ts:=ts);rw [h] at this;exact this.len
theorem RD.updn{CT CR:Addr}{X:Tx}{rd l:Addr}{H:Hp}{rs:List Vanbka.Tok}{o:HO}(R:RD CT CR X rd H rs)(n:X.T l=none)(ne:l≠rd):RD CT CR X rd (upd H l o) rs:=by
 obtain ⟨dx,pre,h1,h2⟩:=R.ob;exact ⟨vw R.st n,R.toks,R.wf,R.no,dx,pre,by rw [jm (Ne.symm ne)];exact h1,h2⟩
theorem RD.len{CT CR:Addr}{X:Tx}{rd:Addr}{H:Hp}{rs:List Vanbka.Tok}(R:RD CT CR X rd H rs):rs.length<=X.all.length:=by
 obtain ⟨dx,pre,h1,h2⟩:=R.ob;rw [h2,List.length_append];omega
theorem RD.ne{CT CR:Addr}{X:Tx}{rd l:Addr}{H:Hp}{rs:List Vanbka.Tok}(R:RD CT CR X rd H rs)(n:H l=none):l≠rd:=λz=>by
 obtain ⟨dx,pre,h1,h2⟩:=R.ob;rw [z,h1] at n;cases n
theorem yr{rs:List Vanbka.Tok}{z:Str}(h:jq rs=z)(hz:z≠"END"):∃ t r,rs=t::r/\rs.drop 1=r/\jx t.lex=z:=by
 cases rs with
 | nil=>exact absurd h.symm hz
 | cons t r=>exact ⟨t,r,rfl,rfl,h⟩
abbrev jit:Hp->List Bytes->V->Prop:=λH l v=>∃ a vs,v = .ref a/\H a=some (.lst vs)/\vs.length<=700/\Paired (qo H) (l.map x6.bytes) vs
def wk(one:List Vanbka.Tok->Except Nat (Bytes×List Vanbka.Tok))(more:Nat->List Vanbka.Tok->Except Nat (List Bytes×List Vanbka.Tok))(rs:List Vanbka.Tok):Except Nat (List Bytes×List Vanbka.Tok):=do
 let (x,r) <- one rs
 let (l,r) <- more r.length r
 return (x::l,r)
def jbz(D:Ad)(kd:Str)(one:List Vanbka.Tok->Except Nat (Bytes×List Vanbka.Tok))(more:Nat->List Vanbka.Tok->Except Nat (List Bytes×List Vanbka.Tok)):Sp:=λvs H Q E=>∃ X rd rs,vs=[.ref rd,.str kd]/\RDa D X rd H rs/\X.all.length<=700/\Out D X rd H Q E jit (wk one more rs)
theorem jnf:jv ["reader", "kind", "leaves"] ["reader", "kind"] (ji je0):=⟨rfl,rfl,rfl,by decide +kernel,rfl,by decide +kernel,by decide +kernel⟩
theorem jlw{kd:Str}{one:List Vanbka.Tok->Except Nat (Bytes×List Vanbka.Tok)}{more:Nat->List Vanbka.Tok->Except Nat (List Bytes×List Vanbka.Tok)}(L:jsg kd one more)(F:Fun K "read_leaves" "read_leaves" je0 f fd)(B:z6 P w K mg base D) :
  xh P w K mg base (CXF P w) 4 f fd ["reader", "kind"] (jbz D kd one more):=by
 refine F.okF (k:=3) jnf (λvs H Q E h=>?_) (λcdv A outer s H vs Q E hr h=>?_)
 ·obtain ⟨X,rd,rs,rfl,_⟩:=h;rfl
 obtain ⟨X,rd,rs,rfl,R,sz,out⟩:=h;have cl:=B.rd.c.cl
 have nd:=jnf.nd;refine ⟨_,jc (ju (i:=2) nd rfl (Or.inl rfl) (j3 (ja (qe B.take cl hr (pv 0) (ja (pv 1) jb)) jb)))
  (jc (vh jag (js xi (xf B.look cl hr (pv 0)) jf (j6 _))
   (jc (j_ (qe B.take cl hr (pv 0) (ja jf jb)))
   (je (j_ (vk PySem.F.plainAttrs_list PySem.F.slot_list_append PySem.F.type_list_append zg (pv 2) (ja (qe B.take cl hr (pv 0) (ja (pv 1) jb)) jb))))))
  (je (jp (pv 2)))),?_⟩
 refine L.rd R (jbm out λx r he out v H1 b1 R1 lf=>?_) (λ_ q=>⟨_,rfl,q⟩) rfl;refine ⟨(by show 1<=2 ^ 24;decide),λl nl=>?_⟩;have gr:=xb b1 R1
 have nlH:H l=none:=gr l nl;have nlT:X.T l=none:=zd R1.st nl
 have nlr:l≠rd:=R1.ne nl;have hl1:=L.len _ _ _ he
 have hal:=R.len;refine ⟨λm σ H'=>∃ (fu:Nat) (rs':List Vanbka.Tok) (done:List Bytes) (vs:List V),σ=[some (.ref rd),some (.str kd),some (.ref l)]/\But rd H H'/\RDa D X rd H' rs'/\rs'.length<=fu/\m=rs'.length/\H' l=some (.lst vs)/\Paired (qo X.T) (done.map x6.bytes) vs/\vs.length + rs'.length<=X.all.length/\
   Out D X rd H Q E jit (more fu rs' >>= λp=>pure (done ++ p.1,p.2)),
  ⟨_,r.length,r,[x],[v],rfl,b1.updn nlH,R1.updn nlT nlr,Nat.le_refl _,rfl,jd,.cons lf .nil,by rw [List.length_singleton];omega,out⟩,?_⟩
 rintro m σ H' ⟨fu,rs',done,vs,rfl,bt,R',hfu,rfl,hl,pr,hsz,out⟩;have pl:=Paired.len pr
 refine zi R' ⟨rfl,_,rfl,qb (λc=>?_) (λc=>?_)⟩
 ·have c:jq rs' = ",":=by have:=of_decide_eq_true c;injection this
  obtain ⟨t,r',e1,e2,_⟩:=yr c (by decide);cases fu with
  | zero=>rw [e1] at hfu;simp at hfu
  | succ fu =>
   rw [L.succ,jas R'.wfr,decide_eq_true c,if_pos rfl] at out;refine ⟨λσ' H2=>∃ m',m' < rs'.length/\∃ (fu:Nat) (rs':List Vanbka.Tok) (done:List Bytes) (vs:List V),σ'=[some (.ref rd),some (.str kd),some (.ref l)]/\But rd H H2/\RDa D X rd H2 rs'/\rs'.length<=fu/\m'=rs'.length/\H2 l=some (.lst vs)/\Paired (qo X.T) (done.map x6.bytes) vs/\vs.length + rs'.length<=X.all.length/\
    Out D X rd H Q E jit (more fu rs' >>= λp=>pure (done ++ p.1,p.2)),λ_ _ z=>z,?_⟩
   refine zh R' c λ_ H2 b2 R2 _=>?_;have hl2:H2 l=some (.lst vs):=b2 _ _ hl nlr
   refine ⟨_,rfl,.inl ⟨rfl,_,SqL.of hl2⟩,?_⟩;rw [e2] at out R2;have len1:rs'.length=r'.length + 1:=by rw [e1];rfl
   refine L.rd R2 ?_ (λ_ q=>⟨_,rfl,q⟩) rfl;cases he2:one r' with
   | error z=>rw [he2] at out;exact out
   | ok p =>
    obtain ⟨y,r2⟩:=p;rw [he2] at out;have hl3:=L.len _ _ _ he2
    intro v3 H3 b3 R3 lf3;have hl4:H3 l=some (.lst vs):=b3 _ _ hl2 nlr
    refine ⟨l,_,_,rfl,rfl,hl4,?_,r2.length,by omega,fu,r2,done ++ [y],vs ++ [v3],rfl,((bt.trans b2).trans b3).updn nlH,R3.updn nlT nlr,by omega,rfl,jd,?_,?_,?_⟩
    ·show vs.length < 2 ^ 24;omega
    ·rw [List.map_append];exact Paired.snoc pr lf3
    ·rw [List.length_append,List.length_singleton];omega
    ·have out:Out D X rd H Q E jit ((more fu r2 >>= λp=>pure (y::p.1,p.2)) >>= λp=>pure (done ++ p.1,p.2)):=out;cases hm:more fu r2 with
     | error z=>rw [hm] at out;exact out
     | ok p =>
      rw [hm] at out;have out:Out D X rd H Q E jit (Except.ok (done ++ y::p.1,p.2)):=out
      show Out D X rd H Q E jit (Except.ok ((done ++ [y]) ++ p.1,p.2));rw [List.append_assoc];exact out
 ·have c:¬ jq rs' = ",":=λz=>c (decide_eq_true (by rw [z]));have e:more fu rs' = .ok ([],rs'):=by
   cases fu with
   | zero=>exact L.zero rs'
   | succ fu=>rw [L.succ,jas R'.wfr,decide_eq_false c,if_neg Bool.false_ne_true]
  rw [e] at out;have out:Out D X rd H Q E jit (Except.ok (done ++ [],rs')):=out
  rw [List.append_nil] at out;exact ⟨_,rfl,out _ _ bt R' ⟨l,vs,rfl,j9 nlT nlH hl,by omega,Paired.mapP pr λ_ _ z=>qo.same jbn z⟩⟩
end
open Vanbka (opOf opNext)
def vc:List (Str×Int):=[("or",1),("and",2),("==",4),("!=",4),("<",4),("<=",4),(">",4),(">=",4),("++",5),("+",6),("-",6),("*",7),("/",7),("percent",7)]
def jel(k:Nat)(z:Str):Option Op->Bool
 | some o=>decide (vc.lookup z=some (k:Int)) && decide (z=opK o)
 | none=>decide (¬ vc.lookup z=some (k:Int))
theorem jov:∀ l∈jac,∀ k:Fin 8,jel k.val (jx l) (opOf k.val l)=true:=by decide +kernel
theorem jm4{k:Nat}(hk:k < 8){rs:List Vanbka.Tok}(h:WfL rs):jel k (jq rs) (opNext k rs)=true:=by
 cases rs with
 | nil =>
  have:∀ k:Fin 8,jel k.val "END" none=true:=by decide +kernel
  exact this ⟨k,hk⟩
 | cons t r =>
  show jel k (jx t.lex) (opOf k t.lex)=true;rcases wz (h t (.head _)) with z | ⟨x,e,z⟩ | ⟨n,e⟩ | ⟨x,e⟩
  ·exact jov _ z ⟨k,hk⟩
  ·rw [e,zn z];have n1:(x == b "or")=false:=by
    refine beq_eq_false_iff_ne.mpr λy=>?_;rw [y] at z;exact absurd z (by decide +kernel)
   have n2:(x == b "and")=false:=by
    refine beq_eq_false_iff_ne.mpr λy=>?_;rw [y] at z;exact absurd z (by decide +kernel)
   have:opOf k (.word x)=none:=by
    unfold opOf;split
    ·rename_i e2;cases e2;rw [n1];rfl
    ·rename_i e2;cases e2;rw [n2];rfl
    all_goals first | rfl | (rename_i e2;cases e2)
   rw [this];have:∀ k:Fin 8,jel k.val "NAME" none=true:=by decide +kernel
   exact this ⟨k,hk⟩
  ·rw [e];have:opOf k (.num n)=none:=by
    unfold opOf;split <;> first | rfl | (rename_i e2;cases e2)
   rw [this];have:∀ k:Fin 8,jel k.val "NUMBER" none=true:=by decide +kernel
   exact this ⟨k,hk⟩
  ·rw [e];have:opOf k (.quoted x)=none:=by
    unfold opOf;split <;> first | rfl | (rename_i e2;cases e2)
   rw [this];have:∀ k:Fin 8,jel k.val "QUOTED" none=true:=by decide +kernel
   exact this ⟨k,hk⟩
section
variable{P:Program}{w:World}{K:PySem.W.Frag}{mg:Str->Option Value}{base:Heap}{f:Addr}{fd:FuncData}{D:Ad}
def jfs(w:World)(K:PySem.W.Frag)(mg:Str->Option Value):Prop:=∃ a kvs,mg "SIDES"=some (.ref a)/\jck w K a kvs/\∀ z:Str,match vc.lookup z with
 | none=>ze kvs (.inr z)=none
 | some i=>∃ t u v,ze kvs (.inr z)=some (.ref t)/\∀ H,SqT K H t [.int i,u,v]
def jff:Sp:=λvs H Q _=>∃ z i,vs=[.str z,.int i]/\Q (.bl (decide (vc.lookup z=some i))) H
theorem jx4:jv ["kind", "strength"] ["kind", "strength"] (ji jip):=⟨rfl,rfl,rfl,by decide +kernel,rfl,by decide +kernel,by decide +kernel⟩
theorem jv6(F:Fun K "joins_at" "joins_at" jip f fd)(S:jfs w K mg):xh P w K mg base (CXF P w) 1 f fd ["kind", "strength"] jff:=by
 refine F.okF (k:=0) jx4 (λvs H Q E h=>?_) (λcdv A outer s H vs Q E hr h=>?_)
 ·obtain ⟨z,i,rfl,_⟩:=h;rfl
 obtain ⟨z,i,rfl,q⟩:=h;obtain ⟨a,kvs,mS,dS,tS⟩:=S;refine ⟨_,je (jp (j0i (jh1 jhh (pv 0) (ve mS rfl) rfl) (jtr (jh1 xi (xo jj3 (jcr (ve mS rfl) (pv 0) (λ_ _=>rfl)) qd (λ_ _=>rfl)) (pv 1) (j6 _))))),?_⟩;have t:=tS z
 refine ⟨_,rfl,a,kvs,.inr z,rfl,dS,rfl,?_⟩;cases e:vc.lookup z with
 | none =>
  rw [e] at t q;rw [t];refine ⟨_,rfl,qb (λc=>absurd c (by decide)) (λ_=>q)⟩
 | some j =>
  rw [e] at t q;obtain ⟨tt,u,v,ev,sq⟩:=t;rw [ev];refine ⟨_,rfl,qb (λ_=>?_) (λc=>absurd rfl c)⟩;refine ⟨_,rfl,a,kvs,.inr z,_,rfl,dS,rfl,ev,tt,_,_,_,rfl,rfl,sq _,rfl,_,rfl,rfl,?_⟩;have:decide (V.int j=V.int i)=decide (some j=some i):=by
   apply decide_eq_decide.mpr;constructor
   ·intro h;injection h with h;rw [h]
   ·intro h;injection h with h;rw [h]
  rw [this];exact q
end
abbrev qc:=List Vanbka.Tok
abbrev jer:PySem.Stmt:=top 35
abbrev jc4:PySem.Stmt:=top 37
abbrev jc1:PySem.Stmt:=top 38
abbrev jb_:PySem.Stmt:=top 39
def spR{α:Type}(D:Ad)(r N h:Nat)(xs:List V)(G:qc->Prop)(F:Nat->qc->Except Nat (α×qc))(rep:Hp->α->V->Prop):Sp:=λvs H Q E =>
 ∃ X rd rs n,n<=N/\vs = .ref rd::xs/\Pre D X rd H rs h n r/\G rs/\Out D X rd H Q E rep (F n rs)
abbrev Any:qc->Prop:=λ_=>True
def vv(z:Str)(n:Nat)(rs:qc):Except Nat (Stmts×qc):=do
 let (s,r) <- Vanbka.statements n rs
 if jq r=z then return (s,r) else halt_ r
structure z9(P:Program)(w:World)(K:PySem.W.Frag)(mg:Str->Option Value)(base:Heap)(D:Ad)(N:Nat):Prop where
 expr:∀ h,Has P w K mg base (xw h 21) "read_expression" ["reader"] (spR D 11 N h [] Any Vanbka.expr (ql D))
 line:∀ h k,1<=k->k<=8->Has P w K mg base (xw h (21 - k)) "read_joined" ["reader", "strength"] (spR D (11 - k) N h [.int (k:Nat)] Any (λn=>Vanbka.line n k) (ql D))
 reached:∀ h,Has P w K mg base (xw h 11) "read_reached" ["reader"] (spR D 2 N h [] Any (λn=>Vanbka.line n 9) (ql D))
 simple:∀ h,Has P w K mg base (xw h 10) "read_simple" ["reader"] (spR D 1 N h [] Any Vanbka.simple (ql D))
 block:∀ h,Has P w K mg base (xw h 8) "read_block" ["reader"] (spR D 1 N h [] Any Vanbka.block (yw D))
 stmts:∀ (h:Nat) (z:Str),z = "END"\/z = "}"->Has P w K mg base (xw h 24) "read_statements" ["reader", "closing"] (spR D 2 N h [.str z] Any (vv z) (yw D))
 stmt:∀ h,Has P w K mg base (xw h 23) "read_statement" ["reader"] (spR D 1 N h [] Any Vanbka.statement (yi D))
theorem xq{h a c:Nat}(hh:h<=24)(l:a<=c):xw h a<=20 * (24 - h) + c:=by unfold xw;rw [if_pos hh];omega
theorem jet{h a c:Nat}(hh:h<=24)(l:a<=c + 20):xw (h + 1) a<=20 * (24 - h) + c:=by
 unfold xw;by_cases z:h + 1<=24
 ·rw [if_pos z];omega
 ·rw [if_neg z];omega
theorem wg{a z:Str}(h:decide (V.str a=V.str z)=true):a=z:=by have:=of_decide_eq_true h;injection this
theorem w6{a z:Str}(h:¬ decide (V.str a=V.str z)=true):¬ a=z:=λe=>h (decide_eq_true (by rw [e]))
theorem jmz{a z:Str}(h:(!decide (V.str a=V.str z))=true):¬ a=z:=λe=>by
 rw [decide_eq_true (show V.str a=V.str z by rw [e])] at h;cases h
theorem jm0{a z:Str}(h:¬ (!decide (V.str a=V.str z))=true):a=z:=by
 have:decide (V.str a=V.str z)=true:=by simpa using h
 exact wg this
theorem zj{P:Program}{w:World}{K:PySem.W.Frag}{mg:Str->Option Value}{base:Heap}{x:Str}{ps N:List Str}{st:PySem.Stmt}{sp:Sp}{h r:Nat}(Kn:jr K mg x ps st)(S:jv N ps (ji st))(len:∀ vs H Q E,sp vs H Q E->vs.length=ps.length)
  (hle:∀ vs H Q E,sp vs H Q E->h<=24)
  (body:h<=24->∀ (f:Addr) (cdv:Value) (A:Around) (outer:List Env) (s:Shared) (H:Hp) (vs:List V) (Q:VK) (E:XK),xu (20 * (24 - h) + r) (A.deeper (PyProof.Rows.envOfC x (ji st) s.heap.objs.size f cdv))->sp vs H Q E->
   ∃ t,PSs (xt (CXF P w) P w K mg base N x (ji st) f cdv A outer s H E) (z0 st) t/\t { nx:=λ_ H'=>Q .non H',rt:=Q } (jcx N vs) H):Has P w K mg base (xw h (r + 1)) x ps sp:=by
 obtain ⟨f,fd,F,bi,kp,m⟩:=Kn;refine ⟨f,fd,?_,bi,kp,m⟩;by_cases z:h<=24
 ·have e:xw h (r + 1)=(20 * (24 - h) + r) + 1:=by unfold xw;rw [if_pos z];omega
  rw [e];exact F.okF S len (λcdv A outer s H vs Q E hr hs=>body z f cdv A outer s H vs Q E hr hs)
 ·exact ⟨len,λA outer s H args us vs Q E hr he hb hv hs=>absurd (hle _ _ _ _ hs) z⟩
section
variable{P:Program}{w:World}{K:PySem.W.Frag}{mg:Str->Option Value}{base:Heap}{D:Ad}{N:Nat}
theorem spR.len{α:Type}{r h:Nat}{xs:List V}{G:qc->Prop}{F:Nat->qc->Except Nat (α×qc)}{rep:Hp->α->V->Prop}{vs:List V}{H:Hp}{Q:VK}{E:XK}(q:spR D r N h xs G F rep vs H Q E):vs.length=xs.length + 1:=by
 obtain ⟨X,rd,rs,n,_,rfl,_⟩:=q;rfl
theorem spR.le{α:Type}{r h:Nat}{xs:List V}{G:qc->Prop}{F:Nat->qc->Except Nat (α×qc)}{rep:Hp->α->V->Prop}{vs:List V}{H:Hp}{Q:VK}{E:XK}(q:spR D r N h xs G F rep vs H Q E):h<=24:=by
 obtain ⟨X,rd,rs,n,_,rfl,p,_⟩:=q;exact p.le
theorem yk{α:Type}{x:Except Nat (α×qc)}{ts r:qc}{z:Int}{m:Nat}{a:α}(h:Cell.Res x ts z m)(e:x = .ok (a,r)):Cell.Con ts r z m:=by rw [e] at h;exact h
theorem vg{x:Except Nat qc}{ts r:qc}{z:Int}{m:Nat}(h:Cell.zb x ts z m)(e:x = .ok r):Cell.Con ts r z m:=by rw [e] at h;exact h
theorem dp0{h:Nat}{ts r:qc}{m:Nat}(c:Cell.Con ts r 0 m)(q:tooDeepAt (h:Int) ts=none):tooDeepAt (h:Int) r=none:=by
 have:=c.deep q
 rwa [Int.add_zero] at this
theorem dp1{h:Nat}{ts r:qc}{m:Nat}(c:Cell.Con ts r 1 m)(q:tooDeepAt (h:Int) ts=none):tooDeepAt ((h + 1:Nat):Int) r=none:=by
 have:=c.deep q
 rwa [show (h:Int) + 1=((h + 1:Nat):Int) by omega] at this
theorem jdn{T H H1:Hp}{Q:Addr->Hp->Prop}{E:XK}{k:Str}{l1 l2 l3:Addr}{vls vps vbs:List V}{ls:List x6}{ps:List j5}{bs:List (List j5)}(gr:∀ b,H1 b=none->H b=none)(st:jh T H1)
  (n1:H1 l1=none) (n2:upd H1 l1 (.lst vls) l2=none) (n3:upd (upd H1 l1 (.lst vls)) l2 (.lst vps) l3=none) (sz:vls.length<=1000/\vps.length<=1000/\vbs.length<=1000)
  (hl:Paired (qo (Cut T H H1)) ls vls) (hp:jj D.CN (Cut T H H1) ps vps) (hb:qu D.CN (Cut T H H1) bs vbs) (q:∀ x H2,jh H1 H2->jz D.CN (Cut T H H2) (.mk k ls ps bs) (.ref x)->Q x H2) :
  ∀ x dx,upd (upd (upd H1 l1 (.lst vls)) l2 (.lst vps)) l3 (.lst vbs) x=none->upd (upd (upd H1 l1 (.lst vls)) l2 (.lst vps)) l3 (.lst vbs) dx=none->dx≠x->
   jfy D.CN [.ref x,.str k,.ref l1,.ref l2,.ref l3] (upd (upd (upd (upd (upd H1 l1 (.lst vls)) l2 (.lst vps)) l3 (.lst vbs)) dx (.own x)) x (.ins D.CN dx [])) (λv H2=>v = .non/\Q x H2) E:=by
 have s1:jh H1 (upd H1 l1 (.lst vls)):=jo n1 _;have s2:jh (upd H1 l1 (.lst vls)) (upd (upd H1 l1 (.lst vls)) l2 (.lst vps)):=jo n2 _
 have s3:jh (upd (upd H1 l1 (.lst vls)) l2 (.lst vps)) (upd (upd (upd H1 l1 (.lst vls)) l2 (.lst vps)) l3 (.lst vbs)):=jo n3 _;have s:=(s1.trans s2).trans s3
 have g:jh (Cut T H H1) (Cut T H (upd (upd (upd H1 l1 (.lst vls)) l2 (.lst vps)) l3 (.lst vbs))):=xg s;refine yq (ls:=ls) (ps:=ps) (bs:=bs) (λb z=>gr b (jk s z)) (st.trans s) (j9 (jk st n1) (gr _ n1) ((s2.trans s3) _ _ jd)) (j9 (jk (st.trans s1) n2) (gr _ (jk s1 n2)) (s3 _ _ jd)) (j9 (jk (st.trans (s1.trans s2)) n3) (gr _ (jk (s1.trans s2) n3)) jd) sz
  (Paired.mapP hl λ_ _ z=>z.same g) (hp.same g) (hb.same g) λx H2 sm nd=>q x H2 (s.trans sm) nd
theorem zo{CN:Addr}{H:Hp}:qu CN H [] []:=rfl
theorem ja7{CN:Addr}{H:Hp}:jj CN H [] []:=rfl
theorem v9{CN:Addr}{H:Hp}{x:j5}{v:V}(h:jz CN H x v):jj CN H [x] [v]:=⟨v,[],rfl,h,rfl⟩
theorem jcf{CN:Addr}{H:Hp}{x:j5}{v:V}{l:List j5}{vs:List V}(h:jz CN H x v)(t:jj CN H l vs):jj CN H (x::l) (v::vs):=⟨v,vs,rfl,h,t⟩
theorem jtg:jv ["reader", "condition", "first", "second"] ["reader"] (ji jer):=⟨rfl,rfl,rfl,by decide +kernel,rfl,by decide +kernel,by decide +kernel⟩
theorem jyw(Kn:jr K mg "read_expression" ["reader"] jer)(B:z6 P w K mg base D)(I:z9 P w K mg base D N)(h:Nat):Has P w K mg base (xw h 21) "read_expression" ["reader"] (spR D 11 (N + 1) h [] Any Vanbka.expr (ql D)):=by
 refine zj Kn jtg (λ_ _ _ _ q=>q.len) (λ_ _ _ _ q=>q.le) λhh f cdv A outer s H vs Q E hr q=>?_;obtain ⟨X,rd,rs,n,hn,rfl,pre,_,out⟩:=q;obtain ⟨R,dp,_,fu,sz⟩:=pre;have cl:=B.rd.c.cl
 have nd:=jtg.nd;have J:=I.line h 1 (Nat.le_refl _) (by decide)
 have r3:xu 3 _:=hr.mono (by omega);refine ⟨_,(jc (ju (i:=1) nd rfl (Or.inl rfl) (jg J hr rfl (ja (pv 0) (ja (qx B.cOr rfl) jb)) (xq hh (by decide))))
   (jc (qh (js jdw (xf B.look cl r3 (pv 0)) jf (j6 _)) (je (jp (pv 1))) jy)
   (jc (j_ (qe B.take cl r3 (pv 0) (ja jf jb)))
   (jc (ju (i:=2) nd rfl (Or.inl rfl) (jg J hr rfl (ja (pv 0) (ja (qx B.cOr rfl) jb)) (xq hh (by decide))))
   (jc (j_ (qe B.take cl r3 (pv 0) (ja jf jb)))
   (jc (ju (i:=3) nd rfl (Or.inl rfl) (jg J hr rfl (ja (pv 0) (ja (qx B.cOr rfl) jb)) (xq hh (by decide))))
   (je (jp (ym B r3 rfl (ja jf (ja (j3 jb) (ja (j3 (ja (pv 1) (ja (pv 2) (ja (pv 3) jb)))) (ja (j3 jb) jb))))))))))))),?_⟩
 cases n with
 | zero=>omega
 | succ n =>
  rw [Vanbka.expr] at out;refine ⟨_,rfl,X,rd,rs,n,by omega,rfl,⟨R,dp,hh,by omega,sz⟩,trivial,qz out λc r he out v H1 b1 R1 n1=>?_⟩;dsimp only at out;have C1:=yk ((Cell.w8 n).line 1 rs) he
  refine zi R1 ⟨rfl,_,rfl,qb (λk1=>?_) (λk1=>?_)⟩
  ·rw [nxQ R1.wfr,decide_eq_false (jmz k1),if_neg Bool.false_ne_true] at out;exact ⟨_,rfl,out _ _ b1 R1 n1⟩
  ·have k1:=jm0 k1;rw [nxQ R1.wfr,decide_eq_true k1,if_pos rfl] at out;obtain ⟨t,r',e1,e2,_⟩:=yr k1 (by decide);have len1:r.length=r'.length + 1:=by rw [e1];rfl
   have C2:Cell.Con r (r.drop 1) 0 1:=Cell.xy (s := "?") (by rw [nxQ R1.wfr];exact decide_eq_true k1);rw [e2] at out C2;refine zh R1 k1 λ_ H2 b2 R2 _=>?_;rw [e2] at R2;have lC1:=C1.len
   have b02:=b1.trans b2;refine ⟨_,rfl,X,rd,r',n,by omega,rfl,⟨R2,dp0 C2 (dp0 C1 dp),hh,by omega,sz⟩,trivial,qz out λx r3 he3 out v3 H3 b3 R3 n3=>?_⟩;dsimp only at out;have C3:=yk ((Cell.w8 n).line 1 r') he3
   have lC3:=C3.len;refine yz R3 (jd9 R3.wfr) (x8 out λr4 he4 out _ H4 b4 R4=>?_);have C4:=vg Cell.qr he4
   have lC4:=C4.len;have b04:=(b02.trans b3).trans b4
   refine ⟨_,rfl,X,rd,r4,n,by omega,rfl,⟨R4,dp0 C4 (dp0 C3 (dp0 C2 (dp0 C1 dp))),hh,by omega,sz⟩,trivial,qz out λy r5 he5 out v5 H5 b5 R5 n5=>?_⟩;dsimp only at out;have b05:=b04.trans b5
   have g1:jh (Cut X.T H H1) (Cut X.T H H5):=xx R (b2.trans (b3.trans (b4.trans b5)));have g3:jh (Cut X.T H2 H3) (Cut X.T H H5):=(yd b02 R2).trans (xx R (b4.trans b5))
   have g5:jh (Cut X.T H4 H5) (Cut X.T H H5):=yd b04 R4;refine ⟨by decide,λl1 m1=>⟨_,rfl,_,rfl,_,rfl,(by show 3<=2 ^ 24;decide),λl2 m2=>⟨by decide,λl3 m3=>?_⟩⟩⟩;exact jdn (xb b05 R5) R5.st m1 m2 m3 ⟨by decide,(by show 3<=1000;decide),by decide⟩ .nil (jcf (jz.same g1 _ _ n1) (jcf (jz.same g3 _ _ n3) (v9 (jz.same g5 _ _ n5)))) zo λz H9 sm nd=>out _ _ (b05.then sm) (R5.same sm) nd
end
open Vanbka (chain line)
def jbt(k n:Nat)(x:Vanbka.Expr)(r:qc):Except Nat (Vanbka.Expr×qc) :=
 if k=3 then .ok (x,r) else if k=4 then (match opNext 4 r with
  | some o=>line n 5 (r.drop 1) >>= λp=>pure (.bin o x p.1,p.2)
  | none=>.ok (x,r)) else chain n k x r
theorem juc{n k:Nat}{ts:qc}(h1:k<=7)(h2:¬ (k=3/\next (isWord "not") ts=true)):line (n + 1) k ts=line n (k + 1) ts >>= λp=>jbt k n p.1 p.2:=by
 rw [line];by_cases e3:k=3
 ·subst e3;have n2:¬ next (isWord "not") ts=true:=λz=>h2 ⟨rfl,z⟩
  rw [if_pos (show (3 == 3)=true from rfl),if_neg n2];cases line n 4 ts <;> rfl
 rw [if_neg (by simpa using e3)];by_cases e4:k=4
 ·subst e4;rw [if_pos (show (4 == 4)=true from rfl)];cases line n 5 ts with
  | error l=>rfl
  | ok p =>
   obtain ⟨x,r⟩:=p;show _=jbt 4 n x r
   unfold jbt;rw [if_neg (by decide),if_pos rfl];rfl
 rw [if_neg (by simpa using e4),if_neg (by simpa using (show k≠8 by omega)),if_neg (by simpa using (show k≠9 by omega))];have:∀ x r,jbt k n x r=chain n k x r:=λx r=>by unfold jbt;rw [if_neg e3,if_neg e4]
 simp only [this]
theorem jss{k n:Nat}{x:Vanbka.Expr}{r:qc}(hn:0 < n)(h:opNext k r=none):jbt k n x r = .ok (x,r):=by
 unfold jbt;by_cases e3:k=3
 ·rw [if_pos e3]
 rw [if_neg e3];by_cases e4:k=4
 ·subst e4;rw [if_pos rfl,h]
 rw [if_neg e4];cases n with
 | zero=>omega
 | succ n=>rw [chain,h]
theorem jxv{k n:Nat}{x:Vanbka.Expr}{t:Vanbka.Tok}{r:qc}{o:Op}(hn:0 < n)(n3:k≠3)(h:opNext k (t::r)=some o) :
  jbt k n x (t::r)=line (if k=4 then n else n - 1) (k + 1) r >>= λp=>if k=4 then .ok (.bin o x p.1,p.2) else jbt k (n - 1) (.bin o x p.1) p.2:=by
 unfold jbt;rw [if_neg n3];by_cases e4:k=4
 ·subst e4;rw [if_pos rfl,h,if_pos rfl];rfl
 rw [if_neg e4,if_neg e4];cases n with
 | zero=>omega
 | succ n =>
  rw [chain,h];simp only [Nat.add_sub_cancel,List.drop_one,List.tail_cons];cases line n (k + 1) r with
  | error l=>rfl
  | ok p =>
   show chain n k (.bin o x p.1) p.2=if k=4 then _ else _
   rw [if_neg e4,if_neg n3,if_neg e4]
theorem op3(r:qc):opNext 3 r=none:=by
 cases r with
 | nil=>rfl
 | cons t r=>rfl
theorem jen{P:Program}{w:World}{K:PySem.W.Frag}{mg:Str->Option Value}{base:Heap}{x:Str}{ps:List Str}{st:PySem.Stmt}(Kn:jr K mg x ps st):Has P w K mg base 0 x ps (λ_ _ _ _=>False):=by
 obtain ⟨f,fd,F,bi,kp,m⟩:=Kn;exact ⟨f,fd,⟨λ_ _ _ _ z=>z.elim,λ_ _ _ _ _ _ _ _ _ _ _ _ _ z=>z.elim⟩,bi,kp,m⟩
section
variable{P:Program}{w:World}{K:PySem.W.Frag}{mg:Str->Option Value}{base:Heap}{D:Ad}{N:Nat}
theorem jng:jv ["reader", "strength", "tree", "sign", "right"] ["reader", "strength"] (ji jc4):=⟨rfl,rfl,rfl,by decide +kernel,rfl,by decide +kernel,by decide +kernel⟩
theorem jgd{h k j4 jn:Nat}{sp4 spn:Sp}(Kn:jr K mg "read_joined" ["reader", "strength"] jc4)(B:z6 P w K mg base D)(Jo:Has P w K mg base 1 "joins_at" ["kind", "strength"] jff)(k1:1<=k)(k8:k<=8)
  {j8:Nat} {sp8:Sp} (G8:Has P w K mg base j8 "read_signed" ["reader"] sp8) (e8:k=8->sp8=spR D 3 (N + 1) h [] Any (λn=>line n 8) (ql D)) (h8:j8<=20 * (24 - h) + (20 - k))
  (J4:Has P w K mg base j4 "read_joined" ["reader", "strength"] sp4) (e4:k<=3->sp4=spR D 7 N h [.int (4:Nat)] Any (λn=>line n 4) (ql D)) (h4:j4<=20 * (24 - h) + (20 - k))
  (Jn:Has P w K mg base jn "read_joined" ["reader", "strength"] spn) (en:k<=7->spn=spR D (11 - (k + 1)) N h [.int ((k + 1:Nat):Int)] Any (λn=>line n (k + 1)) (ql D)) (hn4:jn<=20 * (24 - h) + (20 - k)) :
  Has P w K mg base (xw h (20 - k + 1)) "read_joined" ["reader", "strength"] (spR D (11 - k) (N + 1) h [.int (k:Nat)] Any (λn=>line n k) (ql D)):=by
 refine zj Kn jng (λ_ _ _ _ q=>q.len) (λ_ _ _ _ q=>q.le) λhh f cdv A outer s H vs Q E hr q=>?_;obtain ⟨X,rd,rs,n,hn,rfl,pre,_,out⟩:=q;obtain ⟨R,dp,_,fu,sz⟩:=pre;have cl:=B.rd.c.cl
 have nd:=jng.nd;have r3:xu 3 _:=hr.mono (by omega)
 refine ⟨_,(jc (qh (js xi (pv 1) (qx B.cSig rfl) (j6 _)) (je (jp (jg G8 hr rfl (ja (pv 0) jb) (h8)))) jy)
   (jc (qh (PW.pt (jcc (js xi (pv 1) (qx B.cNot rfl) (j6 _)) (jb4 (js xi (xf B.look cl r3 (pv 0)) jf (j6 _))))) (jc (j_ (qe B.take cl r3 (pv 0) (ja jf jb)))
   (je (jp (ym B r3 rfl (ja jf (ja (j3 jb) (ja (j3 (ja (jg J4 hr rfl (ja (pv 0) (ja (qx B.cCmp rfl) jb)) (h4)) jb)) (ja (j3 jb) jb)))))))) jy)
   (jc (ju (i:=2) nd rfl (Or.inl rfl) (jg Jn hr rfl (ja (pv 0) (ja (qa jam (pv 1) qd) jb)) (hn4)))
   (jc (vh jag (jcd (jg Jo r3 rfl (ja (xf B.look cl r3 (pv 0)) (ja (pv 1) jb)))) (jc (ju (i:=3) nd rfl (Or.inl rfl) (xf B.move cl r3 (pv 0)))
   (jc (ju (i:=4) nd rfl (Or.inl rfl) (jg Jn hr rfl (ja (pv 0) (ja (qa jam (pv 1) qd) jb)) (hn4)))
   (jc (ju (i:=2) nd rfl (Or.inl rfl) (ym B r3 rfl (ja (pv 3) (ja (j3 jb) (ja (j3 (ja (pv 2) (ja (pv 4) jb))) (ja (j3 jb) jb))))))
   (je (qh (js xi (pv 1) (qx B.cCmp rfl) (j6 _)) (je (jp (pv 2))) jy))))))
   (je (jp (pv 2))))))),?_⟩
 have out:Out D X rd H Q E (ql D) (line n k rs):=out;cases n with
 | zero=>omega
 | succ n =>
  refine ⟨_,rfl,rfl,_,rfl,qb (λc8=>?_) (λc8=>?_)⟩
  ·have c8:k=8:=by
    have:=of_decide_eq_true c8;injection this with this;omega
   subst c8;rw [e8 rfl];exact ⟨_,rfl,X,rd,rs,n + 1,hn,rfl,⟨R,dp,hh,by omega,sz⟩,trivial,out⟩
  have k7:k<=7:=by
   have:¬ k=8:=λz=>c8 (decide_eq_true (by rw [z];rfl));omega
  rw [en k7];refine (λ(fin:¬ (k=3/\next (isWord "not") rs=true)->?A)=>?main) ?fin
  case main =>
   refine ⟨_,rfl,rfl,_,rfl,qb (λc3=>?_) (λc3=>?_)⟩
   ·have c3:k=3:=by
     have:=of_decide_eq_true c3;injection this with this;omega
    refine zi R ⟨rfl,_,rfl,qb (λc=>?_) (λc=>?_)⟩
    ·have c:=wg c;rw [e4 (by omega)];subst c3;obtain ⟨t,r',e1,e2,_⟩:=yr c (by decide);have len1:rs.length=r'.length + 1:=by rw [e1];rfl
     have nx:next (isWord "not") rs=true:=by rw [jt6 R.wfr];exact decide_eq_true c
     have C1:=Cell.yg nx;rw [line,if_pos (show (3 == 3)=true from rfl),if_pos nx,e2] at out;rw [e2] at C1;refine zh R c λ_ H1 b1 R1 _=>?_;rw [e2] at R1;refine ⟨by decide,λl1 m1=>?_⟩;have m1T:=zd R1.st m1
     have m1r:=R1.ne m1;have m1H:=xb b1 R1 l1 m1
     have R2:RDa D X rd (upd H1 l1 (.lst [])) r':=R1.same (jo m1 _);have b2:But rd H (upd H1 l1 (.lst [])):=b1.then (jo m1 _)
     refine ⟨_,rfl,X,rd,r',n,by omega,rfl,⟨R2,dp0 C1 dp,hh,by omega,sz⟩,trivial,qz out λe r he out v H3 b3 R3 n3=>?_⟩;refine ⟨(by show 1<=2 ^ 24;decide),λl2 m2=>⟨by decide,λl3 m3=>?_⟩⟩;have b03:=b2.trans b3
     have s1:jh H3 (upd H3 l2 (.lst [v])):=jo m2 _;have s2:jh (upd H3 l2 (.lst [v])) (upd (upd H3 l2 (.lst [v])) l3 (.lst [])):=jo m3 _
     have gr:=xb b03 R3;have g:jh (Cut X.T (upd H1 l1 (.lst [])) H3) (Cut X.T H (upd (upd H3 l2 (.lst [v])) l3 (.lst []))):=(yd b2 R2).trans (xg (s1.trans s2))
     refine yq (ls:=[]) (ps:=[jw e]) (bs:=[]) (λb z=>gr b (jk (s1.trans s2) z)) (R3.st.trans (s1.trans s2)) (j9 m1T m1H ((s1.trans s2) _ _ (b3 _ _ jd m1r))) (j9 (jk R3.st m2) (gr _ m2) (s2 _ _ jd))
      (j9 (jk (R3.st.trans s1) m3) (gr _ (jk s1 m3)) jd) ⟨by decide,(by show 1<=1000;decide),by decide⟩ .nil (v9 (jz.same g _ _ n3)) zo λx H9 sm nd=>?_
     exact out _ _ (b03.then ((s1.trans s2).trans sm)) (R3.same ((s1.trans s2).trans sm)) nd
    ·refine fin λz=>?_;rw [jt6 R.wfr] at z;exact w6 c (of_decide_eq_true z.2)
   ·refine qb (λz=>absurd z (by decide)) (λ_=>?_);exact fin λz=>c3 (decide_eq_true (by rw [z.1];rfl))
  case fin =>
   intro nn;rw [juc k7 nn] at out;refine ⟨_,rfl,_,rfl,_,_,rfl,rfl,X,rd,rs,n,by omega,rfl,⟨R,dp,hh,by omega,sz⟩,trivial,qz out λx r he out v H1 b1 R1 n1=>?_⟩;have he:line n (k + 1) rs = .ok (x,r):=he
   have C1:=yk ((Cell.w8 n).line (k + 1) rs) he;have lC1:=C1.len
   refine ⟨λm σ H'=>∃ (g:Nat) (x:Vanbka.Expr) (r:qc) (v:V) (v3 v4:Option V),σ=[some (.ref rd),some (.int (k:Nat)),some v,v3,v4]/\But rd H H'/\RDa D X rd H' r/\tooDeepAt (h:Int) r=none/\16 * r.length + 10<=g/\g<=N/\m=r.length/\ql D (Cut X.T H H') x v/\Out D X rd H Q E (ql D) (jbt k g x r),
    ⟨_,n,x,r,v,none,none,rfl,b1,R1,dp0 C1 dp,by omega,by omega,rfl,n1,out⟩,?_⟩
   clear out n1 b1 R1 C1 lC1 he;rintro m σ H' ⟨g,x,r,v,v3,v4,rfl,bt,R',dp',fg,gN,rfl,nx,out⟩;refine zi R' ⟨_,rfl,_,_,rfl,_,rfl,qb (λc=>?_) (λc=>?_)⟩
   ·have c:=of_decide_eq_true c;have fits:=jm4 (show k < 8 by omega) R'.wfr
    cases ho:opNext k r with
    | none =>
     rw [ho] at fits;exact absurd c (of_decide_eq_true fits)
    | some o =>
     rw [ho] at fits;have hK:jq r=opK o:=of_decide_eq_true (Bool.and_eq_true_iff.mp fits).2
     cases r with
     | nil=>cases ho
     | cons t r =>
      have C2:Cell.Con (t::r) r 0 1:=Cell.joe ho;refine ⟨λσ' H2=>∃ m',m' < (t::r).length/\∃ (g:Nat) (x:Vanbka.Expr) (r:qc) (v:V) (v3 v4:Option V),σ'=[some (.ref rd),some (.int (k:Nat)),some v,v3,v4]/\But rd H H2/\RDa D X rd H2 r/\tooDeepAt (h:Int) r=none/\16 * r.length + 10<=g/\g<=N/\m'=r.length/\ql D (Cut X.T H H2) x v/\Out D X rd H Q E (ql D) (jbt k g x r),λ_ _ z=>z,?_⟩;refine jfm R' λH2 b2 R2=>?_;have hK:jx t.lex=opK o:=hK
      have b02:=bt.trans b2;have lr:(t::r).length=r.length + 1:=rfl
      have n3:k≠3:=λz=>by rw [z,op3] at ho;cases ho
      rw [jxv (by omega) n3 ho] at out;have gg1:16 * r.length + (11 - (k + 1))<=(if k=4 then g else g - 1):=by split <;> omega
      have gg2:(if k=4 then g else g - 1)<=N:=by split <;> omega
      refine ⟨_,rfl,_,rfl,_,_,rfl,rfl,X,rd,r,_,gg2,rfl,⟨R2,dp0 C2 dp',hh,gg1,sz⟩,trivial,qz out λy r5 he5 out v5 H5 b5 R5 n5=>?_⟩;have C5:=yk ((Cell.w8 _).line (k + 1) r) he5
      have lC5:=C5.len;have b05:=b02.trans b5
      have g1:jh (Cut X.T H H') (Cut X.T H H5):=xx R (b2.trans b5);have g5:jh (Cut X.T H2 H5) (Cut X.T H H5):=yd b02 R2
      refine ⟨_,rfl,by decide,λl1 m1=>⟨_,rfl,_,rfl,(by show 2<=2 ^ 24;decide),λl2 m2=>⟨by decide,λl3 m3=>?_⟩⟩⟩;refine jdn (xb b05 R5) R5.st m1 m2 m3 ⟨by decide,(by show 2<=1000;decide),by decide⟩ .nil (jcf (jz.same g1 _ _ nx) (v9 (jz.same g5 _ _ n5))) zo λz H9 sm nd=>?_;rw [hK] at nd;refine ⟨_,rfl,rfl,_,rfl,qb (λc4=>?_) (λc4=>?_)⟩
      ·have c4:k=4:=by
        have:=of_decide_eq_true c4;injection this with this;omega
       dsimp only at out;rw [if_pos c4] at out;exact ⟨_,rfl,out _ _ (b05.then sm) (R5.same sm) nd⟩
      ·have c4:¬ k=4:=λz=>c4 (decide_eq_true (by rw [z];rfl));dsimp only at out;rw [if_neg c4] at out;exact ⟨r5.length,by omega,g - 1,.bin o x y,r5,.ref z,_,_,rfl,b05.then sm,R5.same sm,dp0 C5 (dp0 C2 dp'),by omega,by omega,rfl,nd,out⟩
   ·have c:¬ vc.lookup (jq r)=some (k:Int):=λz=>c (decide_eq_true z);have fits:=jm4 (show k < 8 by omega) R'.wfr
    have ho:opNext k r=none:=by
     cases ho:opNext k r with
     | none=>rfl
     | some o =>
      rw [ho] at fits;exact absurd (of_decide_eq_true (Bool.and_eq_true_iff.mp fits).1) c
    rw [jss (by omega) ho] at out;exact ⟨_,rfl,out _ _ bt R' nx⟩
end
open Vanbka (simple reach listed more fields parts inBrackets function block statements statement)
abbrev jdu:PySem.Stmt:=top 40
abbrev jc3:PySem.Stmt:=top 41
theorem jjn{h a c:Nat}(l:a<=c):xw h a<=20 * (24 - h) + c:=by
 unfold xw;by_cases z:h<=24
 ·rw [if_pos z];omega
 ·rw [if_neg z];omega
def w9:List Vanbka.Expr->Exprs->Exprs
 | [],m=>m
 | e::l,m=>.cons e (w9 l m)
theorem jl_(l:List Vanbka.Expr)(e:Vanbka.Expr)(m:Exprs):w9 (l ++ [e]) m=w9 l (.cons e m):=by
 induction l with
 | nil=>rfl
 | cons x l ih=>exact congrArg (Exprs.cons x) ih
theorem jju(l:List Vanbka.Expr)(m:Exprs):y9 (w9 l m)=l.map jw ++ y9 m:=by
 induction l with
 | nil=>rfl
 | cons x l ih=>show jw x::_=jw x::_;rw [ih];rfl
section
variable{P:Program}{w:World}{K:PySem.W.Frag}{mg:Str->Option Value}{base:Heap}{D:Ad}{N:Nat}
theorem jeb{T:Hp}{X:Tx}{rd l:Addr}{H1 H' H3:Hp}{r:qc}{o u:HO}(R1:RDa D X rd H1 r)(hl:H1 l=some u)(bt:But rd H' H3):jh (Cut T H1 H') (Cut T H1 (upd H3 l o)):=jkf λb v z1 z2=>by
 have n1:b≠l:=λy=>by rw [y,hl] at z1;cases z1
 rw [jm n1];refine bt b v z2 λy=>?_;obtain ⟨dx,pre,h,_⟩:=R1.ob;rw [y,h] at z1;cases z1
theorem j2r{X:Tx}{rd l:Addr}{H H2:Hp}{r:qc}{o u:HO}(bt:But rd H H2)(R2:RDa D X rd H2 r)(hl:H2 l=some u):∀ b,H2 b=none->upd H l o b=none:=λb z=>by
 have n1:b≠l:=λy=>by rw [y,hl] at z;cases z
 rw [jm n1];exact xb bt R2 b z
theorem jb7{T:Hp}{X:Tx}{rd l:Addr}{H H2 H3:Hp}{r:qc}{o u i:HO}(bt:But rd H H2)(R2:RDa D X rd H2 r)(hl:H2 l=some u):jh (Cut T H2 H3) (Cut T (upd H l i) (upd H3 l o)):=jbc (j2r bt R2 hl) λb v z1 z2=>by
 have n1:b≠l:=λy=>by rw [y,hl] at z1;cases z1
 rw [jm n1];exact z2
theorem wo{T H H':Hp}{l:Addr}{o:HO}:jh (Cut T (upd H l o) H') (Cut T H H'):=jbc (λb z=>by
 by_cases y:b=l
 ·rw [y,jd] at z;cases z
 ·rwa [jm y] at z) λ_ _ _ e=>e
theorem ju7{X:Tx}{rd l1 l2 l3:Addr}{H H1 H3:Hp}{r' r:qc}{Q:Addr->Hp->Prop}{E:XK}{k:Str}{v:V}{x:j5}(b1:But rd H H1)(R1:RDa D X rd H1 r')(m1:H1 l1=none)(b3:But rd (upd H1 l1 (.lst [])) H3)(R3:RDa D X rd H3 r)(n3:jz D.CN (Cut X.T (upd H1 l1 (.lst [])) H3) x v)
  (m2:H3 l2=none) (m3:upd H3 l2 (.lst [v]) l3=none) (q:∀ z H9,But rd H H9->RDa D X rd H9 r->jz D.CN (Cut X.T H H9) (.mk k [] [x] []) (.ref z)->Q z H9) :
  ∀ z dx,upd (upd H3 l2 (.lst [v])) l3 (.lst []) z=none->upd (upd H3 l2 (.lst [v])) l3 (.lst []) dx=none->dx≠z->
   jfy D.CN [.ref z,.str k,.ref l1,.ref l2,.ref l3] (upd (upd (upd (upd H3 l2 (.lst [v])) l3 (.lst [])) dx (.own z)) z (.ins D.CN dx [])) (λv H2=>v = .non/\Q z H2) E:=by
 have m1T:=zd R1.st m1;have m1r:=R1.ne m1
 have m1H:=xb b1 R1 l1 m1;have R2:RDa D X rd (upd H1 l1 (.lst [])) r':=R1.same (jo m1 _)
 have b2:But rd H (upd H1 l1 (.lst [])):=b1.then (jo m1 _)
 have b03:=b2.trans b3;have s1:jh H3 (upd H3 l2 (.lst [v])):=jo m2 _
 have s2:jh (upd H3 l2 (.lst [v])) (upd (upd H3 l2 (.lst [v])) l3 (.lst [])):=jo m3 _;have gr:=xb b03 R3
 have g:jh (Cut X.T (upd H1 l1 (.lst [])) H3) (Cut X.T H (upd (upd H3 l2 (.lst [v])) l3 (.lst []))):=(yd b2 R2).trans (xg (s1.trans s2));exact yq (ls:=[]) (ps:=[x]) (bs:=[]) (λb z=>gr b (jk (s1.trans s2) z)) (R3.st.trans (s1.trans s2)) (j9 m1T m1H ((s1.trans s2) _ _ (b3 _ _ jd m1r))) (j9 (jk R3.st m2) (gr _ m2) (s2 _ _ jd))
  (j9 (jk (R3.st.trans s1) m3) (gr _ (jk s1 m3)) jd) ⟨by decide,(by show 1<=1000;decide),by decide⟩ .nil (v9 (jz.same g _ _ n3)) zo λx H9 sm nd=>q x H9 (b03.then ((s1.trans s2).trans sm)) (R3.same ((s1.trans s2).trans sm)) nd
theorem jnb:jv ["reader"] ["reader"] (ji jc1):=⟨rfl,rfl,rfl,by decide +kernel,rfl,by decide +kernel,by decide +kernel⟩
theorem jty(Kn:jr K mg "read_signed" ["reader"] jc1)(B:z6 P w K mg base D)(I:z9 P w K mg base D N)(h:Nat):Has P w K mg base (xw h 12) "read_signed" ["reader"] (spR D 3 (N + 1) h [] Any (λn=>line n 8) (ql D)):=by
 refine zj (r:=11) Kn jnb (λ_ _ _ _ q=>q.len) (λ_ _ _ _ q=>q.le) λhh f cdv A outer s H vs Q E hr q=>?_;obtain ⟨X,rd,rs,n,hn,rfl,pre,_,out⟩:=q;obtain ⟨R,dp,_,fu,sz⟩:=pre;have cl:=B.rd.c.cl
 have nd:=jnb.nd;have r3:xu 3 _:=hr.mono (by omega)
 have G:=I.reached h;refine ⟨_,(jc (qh (js xi (xf B.look cl r3 (pv 0)) jf (j6 _)) (jc (j_ (qe B.take cl r3 (pv 0) (ja jf jb)))
   (je (jp (ym B r3 rfl (ja jf (ja (j3 jb) (ja (j3 (ja (jg G hr rfl (ja (pv 0) jb) (xq hh (by decide))) jb)) (ja (j3 jb) jb)))))))) jy)
   (je (jp (jg G hr rfl (ja (pv 0) jb) (xq hh (by decide)))))),?_⟩
 have out:Out D X rd H Q E (ql D) (line n 8 rs):=out;cases n with
 | zero=>omega
 | succ n =>
  rw [line,if_neg (by decide),if_neg (by decide),if_pos (show (8 == 8)=true from rfl),jky R.wfr] at out;refine zi R ⟨rfl,_,rfl,qb (λc=>?_) (λc=>?_)⟩
  ·have c:=wg c;obtain ⟨t,r',e1,e2,_⟩:=yr c (by decide);have len1:rs.length=r'.length + 1:=by rw [e1];rfl
   have C1:Cell.Con rs (rs.drop 1) 0 1:=Cell.xy (s := "-") (by rw [jky R.wfr];exact decide_eq_true c);rw [decide_eq_true c,if_pos rfl,e2] at out;rw [e2] at C1;refine zh R c λ_ H1 b1 R1 _=>?_;rw [e2] at R1;refine ⟨by decide,λl1 m1=>⟨_,rfl,X,rd,r',n,by omega,rfl,⟨R1.same (jo m1 _),dp0 C1 dp,hh,by omega,sz⟩,trivial,qz out λe r he out v H3 b3 R3 n3=>?_⟩⟩;exact ⟨(by show 1<=2 ^ 24;decide),λl2 m2=>⟨by decide,λl3 m3=>ju7 b1 R1 m1 b3 R3 n3 m2 m3 λz H9 b9 R9 nd=>out _ _ b9 R9 nd⟩⟩
  ·have c:=w6 c;rw [decide_eq_false c,if_neg Bool.false_ne_true] at out;exact ⟨_,rfl,X,rd,rs,n,by omega,rfl,⟨R,dp,hh,by omega,sz⟩,trivial,out⟩
structure jlb(s:String)(z:Str):Prop where
 ne:z≠"END"
 nx:∀ rs:qc,WfL rs->next (isSign s) rs=decide (jq rs=z)
theorem jzb:jlb ")" ")":=⟨by decide,λ_ h=>jcs h⟩
theorem jzc:jlb "]" "]":=⟨by decide,λ_ h=>j0r h⟩
theorem jne:jv ["reader", "closing", "parts"] ["reader", "closing"] (ji jc3):=⟨rfl,rfl,rfl,by decide +kernel,rfl,by decide +kernel,by decide +kernel⟩
theorem jlv{cs:String}{z:Str}(cz:jlb cs z)(Kn:jr K mg "read_listed" ["reader", "closing"] jc3)(B:z6 P w K mg base D)(I:z9 P w K mg base D N)(h:Nat) :
  Has P w K mg base (xw h 22) "read_listed" ["reader", "closing"] (spR D 12 (N + 1) h [.str z] Any (λn=>listed n cs) (jbw D)):=by
 refine zj (r:=21) Kn jne (λ_ _ _ _ q=>q.len) (λ_ _ _ _ q=>q.le) λhh f cdv A outer s H vs Q E hr q=>?_;obtain ⟨X,rd,rs,n,hn,rfl,pre,_,out⟩:=q;obtain ⟨R,dp,_,fu,sz⟩:=pre;have cl:=B.rd.c.cl
 have nd:=jne.nd;have r3:xu 3 _:=hr.mono (by omega)
 have G:=I.expr h;refine ⟨_,(jc (ju (i:=2) nd rfl (Or.inl rfl) (j3 jb))
   (jc (qh (js jdw (xf B.look cl r3 (pv 0)) (pv 1) (j6 _)) (jc (j_ (vk PySem.F.plainAttrs_list PySem.F.slot_list_append PySem.F.type_list_append zg (pv 2) (ja (jg G hr rfl (ja (pv 0) jb) (xq hh (by decide))) jb)))
   (je (vh jag (js xi (xf B.look cl r3 (pv 0)) jf (j6 _)) (jc (j_ (qe B.take cl r3 (pv 0) (ja jf jb)))
   (je (j_ (vk PySem.F.plainAttrs_list PySem.F.slot_list_append PySem.F.type_list_append zg (pv 2) (ja (jg G hr rfl (ja (pv 0) jb) (xq hh (by decide))) jb)))))))) jy)
   (jc (j_ (qe B.take cl r3 (pv 0) (ja (pv 1) jb)))
   (je (jp (pv 2)))))),?_⟩
 have out:Out D X rd H Q E (jbw D) (listed n cs rs):=out;cases n with
 | zero=>omega
 | succ n =>
  rw [listed,cz.nx _ R.wfr] at out;refine ⟨by decide,λl ml=>?_⟩;have mlT:=zd R.st ml
  have mlr:=R.ne ml;have R1:RDa D X rd (upd H l (.lst [])) rs:=R.same (jo ml _)
  have b1:But rd H (upd H l (.lst [])):=(But.refl rd H).then (jo ml _)
  have hal:=R.len;have fin:∀ (H':Hp) (r:qc) (done:List Vanbka.Expr) (vs:List V),But rd H H'->RDa D X rd H' r->H' l=some (.lst vs)->vs.length<=700->jj D.CN (Cut X.T (upd H l (.lst [])) H') (done.map jw) vs->
    Out D X rd H Q E (jbw D) (eat (isSign cs) r >>= λr=>pure (w9 done .nil,r))->
    jby (jql (vd D.CR "take" (jal D.CF D.CT D.CR) [] E (qy 0) (qj (qy 1) xc))) (jfw (qy 2)) { nx:=λ_ H'=>Q .non H',rt:=Q } [some (V.ref rd),some (V.str z),some (V.ref l)] H':=by
   intro H' r done vs bt R' hl hv hN out;refine yz R' (cz.nx _ R'.wfr) (x8 out λr2 he out _ H2 b2 R2=>?_) cz.ne (λ_ q=>⟨_,rfl,q⟩);refine ⟨_,rfl,out _ _ (bt.trans b2) R2 ⟨l,vs,rfl,j9 mlT ml (b2 _ _ hl mlr),by omega,?_⟩⟩;rw [jju];show jj _ _ (done.map jw ++ []) vs
   rw [List.append_nil];exact jj.same ((xx R1 b2).trans wo) _ _ hN
  refine zi R1 ⟨_,rfl,rfl,_,rfl,qb (λc=>?_) (λc=>?_)⟩
  ·have c:=jmz c;rw [decide_eq_false c,if_neg Bool.false_ne_true] at out;refine ⟨_,rfl,.inl ⟨rfl,_,SqL.of jd⟩,_,rfl,X,rd,rs,n,by omega,rfl,⟨R1,dp,hh,by omega,sz⟩,trivial,qz out λe r he out v H2 b2 R2 n2=>?_⟩;dsimp only at out;have C2:=yk ((Cell.w8 n).expr rs) he
   have lC2:=C2.len;have hl2:H2 l=some (.lst []):=b2 _ _ jd mlr
   refine ⟨l,_,_,rfl,rfl,hl2,by decide,?_⟩;refine ⟨λm σ H'=>∃ (g:Nat) (r:qc) (done:List Vanbka.Expr) (vs:List V),σ=[some (.ref rd),some (.str z),some (.ref l)]/\But rd H H'/\RDa D X rd H' r/\tooDeepAt (h:Int) r=none/\16 * r.length + 1<=g/\g<=N/\m=r.length/\H' l=some (.lst vs)/\jj D.CN (Cut X.T (upd H l (.lst [])) H') (done.map jw) vs/\vs.length + r.length<=X.all.length/\
    Out D X rd H Q E (jbw D) (more g r >>= λp=>eat (isSign cs) p.2 >>= λr=>pure (w9 done p.1,r)),
    ⟨_,n,r,[e],[v],rfl,(b1.trans b2).updn ml,R2.updn mlT mlr,dp0 C2 dp,by omega,by omega,rfl,jd,v9 (jz.same (jb7 b1 R1 jd) _ _ n2),by rw [List.length_singleton];omega,out⟩,?_⟩
   clear out n2 b2 R2 C2 lC2 he hl2;rintro m σ H' ⟨g,r,done,vs,rfl,bt,R',dp',fg,gN,rfl,hl,hN,hsz,out⟩;refine zi R' ⟨rfl,_,rfl,qb (λc=>?_) (λc=>?_)⟩
   ·have c:=wg c;obtain ⟨t,r',e1,e2,_⟩:=yr c (by decide);have len1:r.length=r'.length + 1:=by rw [e1];rfl
    have C1:Cell.Con r (r.drop 1) 0 1:=Cell.xy (s := ",") (by rw [jas R'.wfr];exact decide_eq_true c);cases g with
    | zero=>omega
    | succ g =>
     rw [more,jas R'.wfr,decide_eq_true c,if_pos rfl,e2] at out;rw [e2] at C1;refine ⟨λσ' H2=>∃ m',m' < r.length/\∃ (g:Nat) (r:qc) (done:List Vanbka.Expr) (vs:List V),σ'=[some (.ref rd),some (.str z),some (.ref l)]/\But rd H H2/\RDa D X rd H2 r/\tooDeepAt (h:Int) r=none/\16 * r.length + 1<=g/\g<=N/\m'=r.length/\H2 l=some (.lst vs)/\jj D.CN (Cut X.T (upd H l (.lst [])) H2) (done.map jw) vs/\vs.length + r.length<=X.all.length/\
      Out D X rd H Q E (jbw D) (more g r >>= λp=>eat (isSign cs) p.2 >>= λr=>pure (w9 done p.1,r)),λ_ _ z=>z,?_⟩
     refine zh R' c λ_ H2 b2 R2 _=>?_;rw [e2] at R2;have hl2:H2 l=some (.lst vs):=b2 _ _ hl mlr
     have out:Out D X rd H Q E (jbw D) (Vanbka.expr g r' >>= λp=>more g p.2 >>= λq=>eat (isSign cs) q.2 >>= λr=>pure (w9 (done ++ [p.1]) q.1,r)):=by
      cases he:Vanbka.expr g r' with
      | error y=>rw [he] at out;exact out
      | ok p =>
       rw [he] at out;obtain ⟨e,r2⟩:=p;show Out D X rd H Q E (jbw D) (more g r2 >>= λq=>eat (isSign cs) q.2 >>= λr=>pure (w9 (done ++ [e]) q.1,r))
       have out:Out D X rd H Q E (jbw D) ((more g r2 >>= λq=>pure (Exprs.cons e q.1,q.2)) >>= λp=>eat (isSign cs) p.2 >>= λr=>pure (w9 done p.1,r)):=out;cases hm:more g r2 with
       | error y=>rw [hm] at out;exact out
       | ok q =>
        rw [hm] at out;have out:Out D X rd H Q E (jbw D) (eat (isSign cs) q.2 >>= λr=>pure (w9 done (.cons e q.1),r)):=out
        show Out D X rd H Q E (jbw D) (eat (isSign cs) q.2 >>= λr=>pure (w9 (done ++ [e]) q.1,r));rw [jl_];exact out
     refine ⟨_,rfl,.inl ⟨rfl,_,SqL.of hl2⟩,_,rfl,X,rd,r',g,by omega,rfl,⟨R2,dp0 C1 dp',hh,by omega,sz⟩,trivial,qz out λe r3 he out v3 H3 b3 R3 n3=>?_⟩;have C3:=yk ((Cell.w8 g).expr r') he
     have lC3:=C3.len;have hl3:H3 l=some (.lst vs):=b3 _ _ hl2 mlr
     have b02:=bt.trans b2;refine ⟨l,_,_,rfl,rfl,hl3,?_,r3.length,by omega,g,r3,done ++ [e],vs ++ [v3],rfl,(b02.trans b3).updn ml,R3.updn mlT mlr,dp0 C3 (dp0 C1 dp'),by omega,by omega,rfl,jd,?_,?_,out⟩
     ·show vs.length < 2 ^ 24;omega
     ·rw [List.map_append];exact jj.snoc (jz.same (jb7 b02 R2 hl2) _ _ n3) _ _ (jj.same (jeb R1 jd (b2.trans b3)) _ _ hN)
     ·rw [List.length_append,List.length_singleton];omega
   ·have c:=w6 c;have e:more g r = .ok (.nil,r):=by
     cases g with
     | zero=>omega
     | succ g=>rw [more,jas R'.wfr,decide_eq_false c,if_neg Bool.false_ne_true]
    rw [e] at out;exact fin H' r done vs bt R' hl (by omega) hN out
  ·have c:=jm0 c;rw [decide_eq_true c,if_pos rfl] at out;refine fin _ rs [] [] b1 R1 jd (by decide) ja7 ?_;have e:eat (isSign cs) rs = .ok (rs.drop 1):=by unfold eat;rw [cz.nx _ R.wfr,decide_eq_true c,if_pos rfl]
   rw [e];exact out
end
theorem jd8{s:String}{t:Vanbka.Tok}{r:qc}(h:next (isSign s) (t::r)=true)(o:Vanbka.opening (.sign (b s))=true):Vanbka.opening t.lex=true:=by
 have e:t.lex = .sign (b s):=by simpa [next,isSign] using h
 rw [e];exact o
theorem ja9(z:Str)(zs:List Str):inV (.str z) (zs.map V.str)=decide (z∈zs):=by
 induction zs with
 | nil=>rfl
 | cons x l ih =>
  show ((x == z) || inV (.str z) (l.map V.str))=_;rw [ih];by_cases e:z=x
  ·subst e;simp
  ·have e':¬ x=z:=λy=>e y.symm;rw [beq_eq_false_iff_ne.mpr e',Bool.false_or];simp [e]
def jej(n:Nat)(x:Vanbka.Expr)(ts:qc):Except Nat (Vanbka.Expr×qc) :=
 if next (isSign "(") ts then listed n ")" (ts.drop 1) >>= λp=>pure (.call x p.1,p.2)
 else if next (isSign "[") ts then Vanbka.expr n (ts.drop 1) >>= λp=>eat (isSign "]") p.2 >>= λr=>pure (.index x p.1,r)
 else Vanbka.name (ts.drop 1) >>= λp=>pure (.field x p.1,p.2)
theorem jqy{n:Nat}{x:Vanbka.Expr}{ts:qc}(w:WfL ts):reach (n + 1) x ts=if jq ts∈(["(", "[", "."]:List Str) then jej n x ts >>= λp=>reach n p.1 p.2 else .ok (x,ts):=by
 rw [reach];unfold jej;rw [jgf w,jkz w,jxj w];by_cases c1:jq ts = "("
 ·rw [decide_eq_true c1,if_pos rfl,if_pos rfl,if_pos (by rw [c1];decide)];cases listed n ")" (ts.drop 1) <;> rfl
 rw [decide_eq_false c1,if_neg Bool.false_ne_true,if_neg Bool.false_ne_true];by_cases c2:jq ts = "["
 ·rw [decide_eq_true c2,if_pos rfl,if_pos rfl,if_pos (by rw [c2];decide)];cases Vanbka.expr n (ts.drop 1) with
  | error l=>rfl
  | ok p =>
   show (eat (isSign "]") p.2 >>= _)=_;cases h:eat (isSign "]") p.2 with
   | error l =>
    show _=(eat (isSign "]") p.2 >>= _) >>= _;rw [h];rfl
   | ok r =>
    show _=(eat (isSign "]") p.2 >>= _) >>= _;rw [h];rfl
 rw [decide_eq_false c2,if_neg Bool.false_ne_true,if_neg Bool.false_ne_true];by_cases c3:jq ts = "."
 ·rw [decide_eq_true c3,if_pos rfl,if_pos (by rw [c3];decide)];cases Vanbka.name (ts.drop 1) <;> rfl
 rw [decide_eq_false c3,if_neg Bool.false_ne_true,if_neg (λz=>by simp [c1,c2,c3] at z)]
theorem jpa{n:Nat}{x:Vanbka.Expr}{ts:qc}(w:WfL ts)(c:jq ts∈(["(", "[", "."]:List Str)):Cell.Res (jej n x ts) ts 0 1:=by
 unfold jej;by_cases h1:next (isSign "(") ts=true
 ·rw [if_pos h1];exact Cell.Res.to (Cell.Res.after (Cell.xy h1) (Cell.Res.bind ((Cell.w8 n).listed ")" _) λa r _=>Cell.Res.ret)) (by rw [Cell.jdq,Cell.jbu];rfl) (by omega)
 rw [if_neg h1];by_cases h2:next (isSign "[") ts=true
 ·rw [if_pos h2];exact Cell.Res.to (Cell.Res.after (Cell.xy h2) (Cell.Res.bind ((Cell.w8 n).expr _) λa r _=>Cell.zb.bind Cell.qr λr _=>Cell.Res.ret)) (by rw [Cell.jqn,Cell.jqo];rfl) (by omega)
 rw [if_neg h2];have h3:next (isSign ".") ts=true:=by
  rw [jgf w] at h1;rw [jkz w] at h2;rw [jxj w];simp at c h1 h2 ⊢;rcases c with z | z | z
  ·exact absurd z h1
  ·exact absurd z h2
  ·exact z
 exact Cell.Res.to (Cell.Res.after (Cell.xy h3) (Cell.Res.bind Cell.y8 λa r _=>Cell.Res.ret)) (by rw [Cell.jsv];rfl) (by omega)
def ji7{α:Type}(D:Ad)(X:Tx)(rd:Addr)(H0 H:Hp)(Q:VK)(E:XK)(rep:Hp->α->V->Prop)(res:Except Nat (α×qc)):Prop:=match res with
 | .ok (a,r)=>∀ v H',But rd H H'->RDa D X rd H' r->rep (Cut X.T H0 H') a v->Q v H'
 | .error l=>Err D.CF E 4 (placeAt X.all X.len l:Nat)
section
variable{D:Ad}{X:Tx}{rd:Addr}{H0 H H1:Hp}{Q Q1:VK}{E:XK}{rs:qc}{α β:Type}{rep:Hp->β->V->Prop}{rep1:Hp->α->V->Prop}
theorem jlu{x:Except Nat (α×qc)}{f:α×qc->Except Nat (β×qc)}(out:ji7 D X rd H0 H Q E rep (x >>= f))
  (k:∀ a r,x = .ok (a,r)->ji7 D X rd H0 H Q E rep (f (a,r))->∀ v H2,But rd H1 H2->RDa D X rd H2 r->rep1 (Cut X.T H1 H2) a v->Q1 v H2):Out D X rd H1 Q1 E rep1 x:=by
 cases x with
 | error l=>exact out
 | ok p=>exact λv H2 b R n=>k p.1 p.2 rfl out v H2 b R n
theorem jvt{x:Except Nat (α×qc)}{f:α×qc->Except Nat (β×qc)}(out:ji7 D X rd H0 H Q E rep (x >>= f))
  (k:∀ a r,x = .ok (a,r)->ji7 D X rd H0 H Q E rep (f (a,r))->∀ v H2,But rd H1 H2->RDa D X rd H2 r->rep1 X.T a v->Q1 v H2):ji6 D X rd H1 Q1 E rep1 x:=by
 cases x with
 | error l=>exact out
 | ok p=>exact λv H2 b R n=>k p.1 p.2 rfl out v H2 b R n
theorem jvu{x:Except Nat qc}{f:qc->Except Nat (β×qc)}(out:ji7 D X rd H0 H Q E rep (x >>= f))
  (k:∀ r,x = .ok r->ji7 D X rd H0 H Q E rep (f r)->∀ v H2,But rd H1 H2->RDa D X rd H2 r->Q1 v H2):jw6 D X rd H1 Q1 E x:=by
 cases x with
 | error l=>exact out
 | ok r=>exact λv H2 b R=>k r rfl out v H2 b R
end
section
variable{P:Program}{w:World}{K:PySem.W.Frag}{mg:Str->Option Value}{base:Heap}{D:Ad}{N:Nat}
def jpm(D:Ad)(N h:Nat):Sp:=λvs H Q E=>∃ X rd rs n x v H0 rs0,n<=N/\vs=[.ref rd,v]/\Pre D X rd H rs h n 0/\jq rs∈(["(", "[", "."]:List Str)/\RDa D X rd H0 rs0/\But rd H0 H/\jz D.CN (Cut X.T H0 H) (jw x) v/\ji7 D X rd H0 H Q E (ql D) (jej n x rs)
theorem jps:jv ["reader", "left", "sign", "at"] ["reader", "left"] (ji jdu):=⟨rfl,rfl,rfl,by decide +kernel,rfl,by decide +kernel,by decide +kernel⟩
theorem jv5(Kn:jr K mg "read_reach" ["reader", "left"] jdu)(B:z6 P w K mg base D)(I:z9 P w K mg base D N)(GL:∀ h,Has P w K mg base (xw h 22) "read_listed" ["reader", "closing"] (spR D 12 (N + 1) h [.str ")"] Any (λn=>listed n ")") (jbw D)))(h:Nat) :
  Has P w K mg base (xw h 9) "read_reach" ["reader", "left"] (jpm D N h):=by
 refine zj (r:=8) Kn jps (λ_ _ _ _ q=>?_) (λ_ _ _ _ q=>?_) λhh f cdv A outer s H vs Q E hr q=>?_
 ·obtain ⟨X,rd,rs,n,x,v,H0,rs0,_,rfl,_⟩:=q;rfl
 ·obtain ⟨X,rd,rs,n,x,v,H0,rs0,_,rfl,p,_⟩:=q;exact p.le
 obtain ⟨X,rd,rs,n,x,v,H0,rs0,hn,rfl,pre,c,R0,b0,nx,out⟩:=q;obtain ⟨R,dp,_,fu,sz⟩:=pre;have cl:=B.rd.c.cl
 have nd:=jps.nd;have r3:xu 3 _:=hr.mono (by omega)
 have GL:=GL (h + 1);have GE:=I.expr (h + 1)
 refine ⟨_,(jc (ju (i:=2) nd rfl (Or.inl rfl) (xf B.move cl r3 (pv 0)))
   (jc (qh (js xi (pv 2) jf (j6 _)) (je (jp (ym B r3 rfl (ja jf (ja (j3 jb) (ja (qa qg (j3 (ja (pv 1) jb)) (jg GL hr rfl (ja (pv 0) (ja jf jb)) (jet hh (by decide)))) (ja (j3 jb) jb))))))) jy)
   (jc (qh (js xi (pv 2) jf (j6 _)) (jc (ju (i:=3) nd rfl (Or.inl rfl) (jg GE hr rfl (ja (pv 0) jb) (jet hh (by decide))))
   (jc (j_ (qe B.take cl r3 (pv 0) (ja jf jb)))
   (je (jp (ym B r3 rfl (ja jf (ja (j3 jb) (ja (j3 (ja (pv 1) (ja (pv 3) jb))) (ja (j3 jb) jb))))))))) jy)
   (je (jp (ym B r3 rfl (ja jf (ja (j3 (ja (qe B.take cl r3 (pv 0) (ja jf jb)) jb)) (ja (j3 (ja (pv 1) jb)) (ja (j3 jb) jb)))))))))),?_⟩
 have w:=R.wfr;cases rs with
 | nil=>exact absurd c (by decide)
 | cons t r =>
  have lr:(t::r).length=r.length + 1:=rfl;have dr:(t::r).drop 1=r:=rfl
  unfold jej at out;rw [jgf w,jkz w,dr] at out;refine jfm R λH1 b1 R1=>?_;have b01:=b0.trans b1
  have hk:jq (t::r)=jx t.lex:=rfl;rw [hk] at out c;refine ⟨_,rfl,rfl,_,rfl,qb (λk1=>?_) (λk1=>?_)⟩
  ·have k1:=wg k1;rw [decide_eq_true k1,if_pos rfl] at out;have op:next (isSign "(") (t::r)=true:=by rw [jgf w];exact decide_eq_true k1
   have C1:Cell.Con (t::r) r 1 1:=Cell.xy op;have h24:h < 24:=by
    have:=Cell.jb6 (t:=t) (r:=r) (jd8 op (by decide +kernel)) dp;omega
   refine ⟨by decide,λl1 m1=>⟨_,rfl,(by show 1<=2 ^ 24;decide),λl2 m2=>?_⟩⟩;have s12:jh H1 (upd (upd H1 l1 (.lst [])) l2 (.lst [v])):=(jo m1 _).trans (jo m2 _)
   have R2:=R1.same s12;have b02:=b01.then s12
   refine ⟨_,rfl,X,rd,r,n,by omega,rfl,⟨R2,dp1 C1 dp,by omega,by omega,sz⟩,trivial,jlu out λl r3 he out u H3 b3 R3 n3=>?_⟩;obtain ⟨a,vs,rfl,ha,lv,hN⟩:=n3;have m1r:=R1.ne m1
   have m2r:l2≠rd:=(R1.same (jo m1 _)).ne m2;have hl1:H3 l1=some (.lst []):=b3 _ _ (jo m2 _ _ _ jd) m1r
   have hl2:H3 l2=some (.lst [v]):=b3 _ _ jd m2r;have ha3:H3 a=some (.lst vs):=jfr R3.st _ _ ha
   refine ⟨l2,a,_,_,rfl,rfl,hl2,ha3,(by show 1 + vs.length<=2 ^ 24;omega),λl4 m4=>⟨by decide,λl5 m5=>?_⟩⟩;have b03:=b02.trans b3
   have gr:=xb b03 R3;have s1:jh H3 (upd H3 l4 (.lst ([v] ++ vs))):=jo m4 _
   have s2:jh (upd H3 l4 (.lst ([v] ++ vs))) (upd (upd H3 l4 (.lst ([v] ++ vs))) l5 (.lst [])):=jo m5 _;have g1:jh (Cut X.T H0 H) (Cut X.T H0 (upd (upd H3 l4 (.lst ([v] ++ vs))) l5 (.lst []))):=(xx R0 ((b1.then s12).trans b3)).trans (xg (s1.trans s2))
   have g3:jh (Cut X.T (upd (upd H1 l1 (.lst [])) l2 (.lst [v])) H3) (Cut X.T H0 (upd (upd H3 l4 (.lst ([v] ++ vs))) l5 (.lst []))):=(yd b02 R2).trans (xg (s1.trans s2));exact yq (ls:=[]) (ps:=jw x::y9 l) (bs:=[]) (λb z=>gr b (jk (s1.trans s2) z)) (R3.st.trans (s1.trans s2)) (j9 (zd R1.st m1) (xb b01 R1 l1 m1) ((s1.trans s2) _ _ hl1)) (j9 (jk R3.st m4) (gr _ m4) (s2 _ _ jd))
    (j9 (jk (R3.st.trans s1) m5) (gr _ (jk s1 m5)) jd) ⟨by decide,(by show vs.length + 1<=1000;omega),by decide⟩ .nil (jcf (jz.same g1 _ _ nx) (jj.same g3 _ _ hN)) zo λz H9 sm nd=>out _ _ (((b1.then s12).trans b3).then ((s1.trans s2).trans sm)) (R3.same ((s1.trans s2).trans sm)) nd
  have k1:=w6 k1;rw [decide_eq_false k1,if_neg Bool.false_ne_true] at out;refine ⟨_,rfl,rfl,_,rfl,qb (λk2=>?_) (λk2=>?_)⟩
  ·have k2:=wg k2;rw [decide_eq_true k2,if_pos rfl] at out;have op:next (isSign "[") (t::r)=true:=by rw [jkz w];exact decide_eq_true k2
   have C1:Cell.Con (t::r) r 1 1:=Cell.xy op;have h24:h < 24:=by
    have:=Cell.jb6 (t:=t) (r:=r) (jd8 op (by decide +kernel)) dp;omega
   refine ⟨_,rfl,X,rd,r,n,by omega,rfl,⟨R1,dp1 C1 dp,by omega,by omega,sz⟩,trivial,jlu out λe r3 he out u H3 b3 R3 n3=>?_⟩;refine yz R3 (j0r R3.wfr) (jvu out λr4 he4 out _ H4 b4 R4=>?_);have b04:=(b01.trans b3).trans b4
   have g1:jh (Cut X.T H0 H) (Cut X.T H0 H4):=xx R0 (b1.trans (b3.trans b4));have g3:jh (Cut X.T H1 H3) (Cut X.T H0 H4):=(yd b01 R1).trans (xx R0 b4)
   refine ⟨by decide,λl1 m1=>⟨_,rfl,_,rfl,(by show 2<=2 ^ 24;decide),λl2 m2=>⟨by decide,λl3 m3=>?_⟩⟩⟩;exact jdn (xb b04 R4) R4.st m1 m2 m3 ⟨by decide,(by show 2<=1000;decide),by decide⟩ .nil (jcf (jz.same g1 _ _ nx) (v9 (jz.same g3 _ _ n3))) zo λz H9 sm nd=>out _ _ (((b1.trans b3).trans b4).then sm) (R4.same sm) nd
  ·have k2:=w6 k2;rw [decide_eq_false k2,if_neg Bool.false_ne_true] at out;refine jcg R1 (jvt out λy r2 he out u H2 b2 R2 lf=>?_);have b02:=b01.trans b2
   refine ⟨(by show 1<=2 ^ 24;decide),λl1 m1=>⟨_,rfl,(by show 1<=2 ^ 24;decide),λl2 m2=>⟨by decide,λl3 m3=>?_⟩⟩⟩;have g1:jh (Cut X.T H0 H) (Cut X.T H0 H2):=xx R0 (b1.trans b2)
   exact jdn (xb b02 R2) R2.st m1 m2 m3 ⟨(by show 1<=1000;decide),(by show 1<=1000;decide),by decide⟩ (.cons (qo.same jbn lf) .nil) (v9 (jz.same g1 _ _ nx)) zo λz H9 sm nd=>out _ _ ((b1.trans b2).then sm) (R2.same sm) nd
theorem jln:jv ["reader", "tree"] ["reader"] (ji jb_):=⟨rfl,rfl,rfl,by decide +kernel,rfl,by decide +kernel,by decide +kernel⟩
theorem jq8(Kn:jr K mg "read_reached" ["reader"] jb_)(B:z6 P w K mg base D)(I:z9 P w K mg base D N)(GR:∀ h,Has P w K mg base (xw h 9) "read_reach" ["reader", "left"] (jpm D N h))(h:Nat) :
  Has P w K mg base (xw h 11) "read_reached" ["reader"] (spR D 2 (N + 1) h [] Any (λn=>line n 9) (ql D)):=by
 refine zj (r:=10) Kn jln (λ_ _ _ _ q=>q.len) (λ_ _ _ _ q=>q.le) λhh f cdv A outer s H vs Q E hr q=>?_;obtain ⟨X,rd,rs,n,hn,rfl,pre,_,out⟩:=q;obtain ⟨R,dp,_,fu,sz⟩:=pre;have cl:=B.rd.c.cl
 have nd:=jln.nd;have r3:xu 3 _:=hr.mono (by omega)
 have GS:=I.simple h;have GR:=GR h
 refine ⟨_,(jc (ju (i:=1) nd rfl (Or.inl rfl) (jg GS hr rfl (ja (pv 0) jb) (xq hh (by decide))))
   (jc (vh jag (js zw (xf B.look cl r3 (pv 0)) (jbq (ja jf (ja jf (ja jf jb)))) rfl) (je (ju (i:=1) nd rfl (Or.inl rfl) (jg GR hr rfl (ja (pv 0) (ja (pv 1) jb)) (xq hh (by decide))))))
   (je (jp (pv 1))))),?_⟩
 have out:Out D X rd H Q E (ql D) (line n 9 rs):=out;cases n with
 | zero=>omega
 | succ n =>
  rw [line,if_neg (by decide),if_neg (by decide),if_neg (by decide),if_pos (show (9 == 9)=true from rfl)] at out;refine ⟨_,rfl,X,rd,rs,n,by omega,rfl,⟨R,dp,hh,by omega,sz⟩,trivial,qz out λx r he out v H1 b1 R1 n1=>?_⟩;dsimp only at out;have C1:=yk ((Cell.w8 n).simple rs) he
  have lC1:=C1.len;refine ⟨λm σ H'=>∃ (g:Nat) (x:Vanbka.Expr) (r:qc) (v:V),σ=[some (.ref rd),some v]/\But rd H H'/\RDa D X rd H' r/\tooDeepAt (h:Int) r=none/\16 * r.length + 1<=g/\g<=N/\m=r.length/\ql D (Cut X.T H H') x v/\Out D X rd H Q E (ql D) (reach g x r),
   ⟨_,n,x,r,v,rfl,b1,R1,dp0 C1 dp,by omega,by omega,rfl,n1,out⟩,?_⟩
  clear out n1 b1 R1 C1 lC1 he;rintro m σ H' ⟨g,x,r,v,rfl,bt,R',dp',fg,gN,rfl,nx,out⟩;refine zi R' ⟨by decide,λp np=>⟨p,_,rfl,.inr (SqT.of jd),rfl,rfl,_,rfl,?_⟩⟩;have sp:jh H' (upd H' p (.tup [.str "(",.str "[",.str "."])):=jo np _
  have ein:inV (.str (jq r)) [.str "(",.str "[",.str "."]=decide (jq r∈(["(", "[", "."]:List Str)):=ja9 _ ["(", "[", "."];rw [if_neg Bool.false_ne_true,ein];have R2:=R'.same sp
  have b2:=bt.then sp;have g2:jh (Cut X.T H H') (Cut X.T H (upd H' p (.tup [.str "(",.str "[",.str "."]))):=xg sp
  cases g with
  | zero=>omega
  | succ g =>
   rw [jqy R'.wfr] at out;refine qb (λc=>?_) (λc=>?_)
   ·have c:=of_decide_eq_true c;rw [if_pos c] at out;refine ⟨λσ' H2=>∃ m',m' < r.length/\∃ (g:Nat) (x:Vanbka.Expr) (r:qc) (v:V),σ'=[some (.ref rd),some v]/\But rd H H2/\RDa D X rd H2 r/\tooDeepAt (h:Int) r=none/\16 * r.length + 1<=g/\g<=N/\m'=r.length/\ql D (Cut X.T H H2) x v/\Out D X rd H Q E (ql D) (reach g x r),λ_ _ z=>z,?_⟩;refine ⟨_,rfl,_,rfl,X,rd,r,g,x,v,H,rs,by omega,rfl,⟨R2,dp',hh,by omega,sz⟩,c,R,b2,jz.same g2 _ _ nx,?_⟩;have fr:=jpa (n:=g) (x:=x) R'.wfr c
    cases he:jej g x r with
    | error l=>rw [he] at out;exact out
    | ok q =>
     obtain ⟨y,r3⟩:=q;rw [he] at out;have C3:=yk fr he
     have lC3:=C3.len;intro v3 H3 b3 R3 n3;exact ⟨r3.length,by omega,g,y,r3,v3,rfl,b2.trans b3,R3,dp0 C3 dp',by omega,by omega,rfl,n3,out⟩
   ·have c:¬ jq r∈(["(", "[", "."]:List Str):=λz=>c (decide_eq_true z);rw [if_neg c] at out;exact ⟨_,rfl,out _ _ b2 R2 (jz.same g2 _ _ nx)⟩
abbrev jbj:PySem.Stmt:=top 43
abbrev jc2:PySem.Stmt:=top 44
theorem jbb{T H0 H1 H2 H3:Hp}(h:∀ b o,H1 b=none->H2 b=some o->H0 b=none/\H3 b=some o):jh (Cut T H1 H2) (Cut T H0 H3):=λb o e=>by
 rcases jbd e with z | ⟨z1,z2,z3⟩
 ·exact jh9 z
 ·exact j9 z1 (h b o z2 z3).1 (h b o z2 z3).2
def jbp:List (Bytes×Vanbka.Expr)->Fields->Fields
 | [],m=>m
 | p::l,m=>.cons p.1 p.2 (jbp l m)
theorem juz(l:List (Bytes×Vanbka.Expr))(x:Bytes)(e:Vanbka.Expr)(m:Fields):jbp (l ++ [(x,e)]) m=jbp l (.cons x e m):=by
 induction l with
 | nil=>rfl
 | cons p l ih=>exact congrArg (Fields.cons p.1 p.2) ih
theorem jri(l:List (Bytes×Vanbka.Expr)):v8 (jbp l .nil)=l.map λp=>jw p.2:=by
 induction l with
 | nil=>rfl
 | cons p l ih=>show jw p.2::_=jw p.2::_;rw [ih]
theorem jrk(l:List (Bytes×Vanbka.Expr)):jem (jbp l .nil)=l.map λp=>x6.bytes p.1:=by
 induction l with
 | nil=>rfl
 | cons p l ih=>show x6.bytes p.1::_=x6.bytes p.1::_;rw [ih]
def we(g:Nat)(r:qc):Except Nat (Fields×qc):=if next (isSign ",") r then fields g (r.drop 1) else .ok (.nil,r)
theorem jif(g:Nat)(ts:qc):fields (g + 1) ts=Vanbka.name ts >>= λp=>eat (isSign ":") p.2 >>= λr=>Vanbka.expr g r >>= λq=>we g q.2 >>= λu=>pure (.cons p.1 q.1 u.1,u.2):=by
 rw [fields];cases Vanbka.name ts with
 | error l=>rfl
 | ok p =>
  show (eat (isSign ":") p.2 >>= _)=(eat (isSign ":") p.2 >>= _)
  cases eat (isSign ":") p.2 with
  | error l=>rfl
  | ok r =>
   show (Vanbka.expr g r >>= _)=(Vanbka.expr g r >>= _)
   cases Vanbka.expr g r with
   | error l=>rfl
   | ok q =>
    show (if next (isSign ",") q.2=true then _ else _)=(we g q.2 >>= _)
    unfold we;split
    ·rename_i hc;cases fields g (q.2.drop 1) <;> rfl
    ·rfl
def jz7(n:Nat)(rs:qc):Except Nat (Vanbka.Expr×qc):=fields n rs >>= λp=>eat (isSign ")") p.2 >>= λr=>pure (.record p.1,r)
theorem jnc:jv ["reader", "names", "parts"] ["reader"] (ji jc2):=⟨rfl,rfl,rfl,by decide +kernel,rfl,by decide +kernel,by decide +kernel⟩
theorem jtz(Kn:jr K mg "read_record" ["reader"] jc2)(B:z6 P w K mg base D)(I:z9 P w K mg base D N)(h:Nat) :
  Has P w K mg base (xw h 22) "read_record" ["reader"] (spR D 1 (N + 1) h [] Any jz7 (ql D)):=by
 refine zj (r:=21) Kn jnc (λ_ _ _ _ q=>q.len) (λ_ _ _ _ q=>q.le) λhh f cdv A outer s H vs Q E hr q=>?_;obtain ⟨X,rd,rs,n,hn,rfl,pre,_,out⟩:=q;obtain ⟨R,dp,_,fu,sz⟩:=pre;have cl:=B.rd.c.cl
 have nd:=jnc.nd;have r3:xu 3 _:=hr.mono (by omega)
 have GE:=I.expr h;refine ⟨_,(jc (ju (i:=1) nd rfl (Or.inl rfl) (j3 (ja (qe B.take cl r3 (pv 0) (ja jf jb)) jb)))
   (jc (j_ (qe B.take cl r3 (pv 0) (ja jf jb)))
   (jc (ju (i:=2) nd rfl (Or.inl rfl) (j3 (ja (jg GE hr rfl (ja (pv 0) jb) (xq hh (by decide))) jb)))
   (jc (vh jag (js xi (xf B.look cl r3 (pv 0)) jf (j6 _)) (jc (j_ (qe B.take cl r3 (pv 0) (ja jf jb)))
   (jc (j_ (vk PySem.F.plainAttrs_list PySem.F.slot_list_append PySem.F.type_list_append zg (pv 1) (ja (qe B.take cl r3 (pv 0) (ja jf jb)) jb)))
   (jc (j_ (qe B.take cl r3 (pv 0) (ja jf jb)))
   (je (j_ (vk PySem.F.plainAttrs_list PySem.F.slot_list_append PySem.F.type_list_append zg (pv 2) (ja (jg GE hr rfl (ja (pv 0) jb) (xq hh (by decide))) jb))))))))
   (jc (j_ (qe B.take cl r3 (pv 0) (ja jf jb)))
   (je (jp (ym B r3 rfl (ja jf (ja (pv 1) (ja (pv 2) (ja (j3 jb) jb)))))))))))),?_⟩
 cases n with
 | zero=>omega
 | succ n =>
  have out:Out D X rd H Q E (ql D) (Vanbka.name rs >>= λp=>eat (isSign ":") p.2 >>= λr=>Vanbka.expr n r >>= λq=>we n q.2 >>= λu=>eat (isSign ")") u.2 >>= λr=>pure (.record (.cons p.1 q.1 u.1),r)):=by
   have out:Out D X rd H Q E (ql D) (fields (n + 1) rs >>= λp=>eat (isSign ")") p.2 >>= λr=>pure (.record p.1,r)):=out;rw [jif] at out;cases h1:Vanbka.name rs with
   | error l=>rw [h1] at out;exact out
   | ok p =>
    rw [h1] at out;have out:Out D X rd H Q E (ql D) ((eat (isSign ":") p.2 >>= λr=>Vanbka.expr n r >>= λq=>we n q.2 >>= λu=>pure (.cons p.1 q.1 u.1,u.2)) >>= λp=>eat (isSign ")") p.2 >>= λr=>pure (.record p.1,r)):=out
    show Out D X rd H Q E (ql D) (eat (isSign ":") p.2 >>= _);cases h2:eat (isSign ":") p.2 with
    | error l=>rw [h2] at out;exact out
    | ok r =>
     rw [h2] at out;have out:Out D X rd H Q E (ql D) ((Vanbka.expr n r >>= λq=>we n q.2 >>= λu=>pure (.cons p.1 q.1 u.1,u.2)) >>= λp=>eat (isSign ")") p.2 >>= λr=>pure (.record p.1,r)):=out
     show Out D X rd H Q E (ql D) (Vanbka.expr n r >>= _);cases h3:Vanbka.expr n r with
     | error l=>rw [h3] at out;exact out
     | ok q =>
      rw [h3] at out;have out:Out D X rd H Q E (ql D) ((we n q.2 >>= λu=>pure (.cons p.1 q.1 u.1,u.2)) >>= λp=>eat (isSign ")") p.2 >>= λr=>pure (.record p.1,r)):=out
      show Out D X rd H Q E (ql D) (we n q.2 >>= _);cases h4:we n q.2 with
      | error l=>rw [h4] at out;exact out
      | ok u=>rw [h4] at out;exact out
  refine jcg R (jbm out λx r he out v H1 b1 R1 lf=>?_);have hal:=R.len
  have C1:=yk Cell.y8 he;have lC1:=C1.len
  refine ⟨(by show 1<=2 ^ 24;decide),λla ma=>?_⟩;have maT:=zd R1.st ma
  have mar:=R1.ne ma;have maH:=xb b1 R1 la ma
  have R2:RDa D X rd (upd H1 la (.lst [v])) r:=R1.same (jo ma _);have b2:But rd H (upd H1 la (.lst [v])):=b1.then (jo ma _)
  refine yz R2 (jd9 R2.wfr) (x8 out λr3 he3 out _ H3 b3 R3=>?_);have C3:=vg Cell.qr he3
  have lC3:=C3.len;have b03:=b2.trans b3
  refine ⟨_,rfl,X,rd,r3,n,by omega,rfl,⟨R3,dp0 C3 (dp0 C1 dp),hh,by omega,sz⟩,trivial,qz out λe r4 he4 out v4 H4 b4 R4 n4=>?_⟩;have C4:=yk ((Cell.w8 n).expr r3) he4
  have lC4:=C4.len;refine ⟨(by show 1<=2 ^ 24;decide),λlb mb=>?_⟩;have b04:=b03.trans b4
  have mbT:=zd R4.st mb;have mbr:=R4.ne mb
  have mbH:=xb b04 R4 lb mb;have hla3:H3 la=some (.lst [v]):=b3 _ _ jd mar
  have hla4:H4 la=some (.lst [v]):=b4 _ _ hla3 mar;have lab:la≠lb:=λz=>by rw [z,mb] at hla4;cases hla4
  have Rb:RDa D X rd (upd (upd H la (.lst [])) lb (.lst [])) rs:=(R.updn maT mar).updn mbT mbr;refine ⟨λm σ H'=>∃ (g:Nat) (r:qc) (done:List (Bytes×Vanbka.Expr)) (us vs:List V),σ=[some (.ref rd),some (.ref la),some (.ref lb)]/\But rd H H'/\RDa D X rd H' r/\tooDeepAt (h:Int) r=none/\16 * r.length + 1<=g/\g<=N/\m=r.length/\H' la=some (.lst us)/\H' lb=some (.lst vs)/\Paired (qo X.T) (done.map λp=>x6.bytes p.1) us/\jj D.CN (Cut X.T (upd (upd H la (.lst [])) lb (.lst [])) H') (done.map λp=>jw p.2) vs/\us.length + r.length<=X.all.length/\vs.length + r.length<=X.all.length/\
     Out D X rd H Q E (ql D) (we g r >>= λp=>eat (isSign ")") p.2 >>= λr=>pure (.record (jbp done p.1),r)),
   ⟨_,n,r4,[(x,e)],[v],[v4],rfl,b04.updn mbH,R4.updn mbT mbr,dp0 C4 (dp0 C3 (dp0 C1 dp)),by omega,by omega,rfl,by rw [jm lab];exact hla4,jd,.cons lf .nil,v9 (jz.same ?_ _ _ n4),by rw [List.length_singleton];omega,by rw [List.length_singleton];omega,out⟩,?_⟩
  ·refine jbb λb o z1 z2=>?_;have n1:b≠la:=λy=>by rw [y,hla3] at z1;cases z1
   have n2:b≠lb:=λy=>by rw [y,mb] at z2;cases z2
   exact ⟨by rw [jm n2,jm n1];exact xb b03 R3 b z1,by rw [jm n2];exact z2⟩
  clear out n4 R4 b4 C4 lC4 he4 lC3 C3 he3 lC1 C1 he b3 R3 hla4 hla3 b04 b03 mb;rintro m σ H' ⟨g,r,done,us,vs,rfl,bt,R',dp',fg,gN,rfl,hla,hlb,hU,hN,su,sv,out⟩;unfold we at out;refine zi R' ⟨rfl,_,rfl,qb (λc=>?_) (λc=>?_)⟩
  ·have c:=wg c;obtain ⟨t,r',e1,e2,_⟩:=yr c (by decide);have len1:r.length=r'.length + 1:=by rw [e1];rfl
   have C1:Cell.Con r (r.drop 1) 0 1:=Cell.xy (s := ",") (by rw [jas R'.wfr];exact decide_eq_true c);rw [jas R'.wfr,decide_eq_true c,if_pos rfl,e2] at out;rw [e2] at C1;cases g with
   | zero=>omega
   | succ g =>
    have out:Out D X rd H Q E (ql D) (Vanbka.name r' >>= λp=>eat (isSign ":") p.2 >>= λr=>Vanbka.expr g r >>= λq=>we g q.2 >>= λu=>eat (isSign ")") u.2 >>= λr=>pure (.record (jbp (done ++ [(p.1,q.1)]) u.1),r)):=by
     rw [jif] at out;cases h1:Vanbka.name r' with
     | error l=>rw [h1] at out;exact out
     | ok p =>
      rw [h1] at out;have out:Out D X rd H Q E (ql D) ((eat (isSign ":") p.2 >>= λr=>Vanbka.expr g r >>= λq=>we g q.2 >>= λu=>pure (.cons p.1 q.1 u.1,u.2)) >>= λp=>eat (isSign ")") p.2 >>= λr=>pure (.record (jbp done p.1),r)):=out
      show Out D X rd H Q E (ql D) (eat (isSign ":") p.2 >>= _);cases h2:eat (isSign ":") p.2 with
      | error l=>rw [h2] at out;exact out
      | ok r =>
       rw [h2] at out;have out:Out D X rd H Q E (ql D) ((Vanbka.expr g r >>= λq=>we g q.2 >>= λu=>pure (.cons p.1 q.1 u.1,u.2)) >>= λp=>eat (isSign ")") p.2 >>= λr=>pure (.record (jbp done p.1),r)):=out
       show Out D X rd H Q E (ql D) (Vanbka.expr g r >>= _);cases h3:Vanbka.expr g r with
       | error l=>rw [h3] at out;exact out
       | ok q =>
        rw [h3] at out;have out:Out D X rd H Q E (ql D) ((we g q.2 >>= λu=>pure (.cons p.1 q.1 u.1,u.2)) >>= λp=>eat (isSign ")") p.2 >>= λr=>pure (.record (jbp done p.1),r)):=out
        show Out D X rd H Q E (ql D) (we g q.2 >>= _);cases h4:we g q.2 with
        | error l=>rw [h4] at out;exact out
        | ok u =>
         rw [h4] at out;show Out D X rd H Q E (ql D) (eat (isSign ")") u.2 >>= λr=>pure (.record (jbp (done ++ [(p.1,q.1)]) u.1),r))
         rw [juz];exact out
    refine ⟨λσ H'=>∃ m,m < r.length/\∃ (g:Nat) (r:qc) (done:List (Bytes×Vanbka.Expr)) (us vs:List V),σ=[some (.ref rd),some (.ref la),some (.ref lb)]/\But rd H H'/\RDa D X rd H' r/\tooDeepAt (h:Int) r=none/\16 * r.length + 1<=g/\g<=N/\m=r.length/\H' la=some (.lst us)/\H' lb=some (.lst vs)/\Paired (qo X.T) (done.map λp=>x6.bytes p.1) us/\jj D.CN (Cut X.T (upd (upd H la (.lst [])) lb (.lst [])) H') (done.map λp=>jw p.2) vs/\us.length + r.length<=X.all.length/\vs.length + r.length<=X.all.length/\
     Out D X rd H Q E (ql D) (we g r >>= λp=>eat (isSign ")") p.2 >>= λr=>pure (.record (jbp done p.1),r)),λ_ _ z=>z,?_⟩
    refine zh R' c λ_ H2 b2 R2 _=>?_;rw [e2] at R2;have hla2:H2 la=some (.lst us):=b2 _ _ hla mar
    have hlb2:H2 lb=some (.lst vs):=b2 _ _ hlb mbr;refine ⟨_,rfl,.inl ⟨rfl,_,SqL.of hla2⟩,?_⟩;refine jcg R2 (jbm out λy r3 he3 out u H3 b3 R3 lf3=>?_);have C3:=yk Cell.y8 he3
    have lC3:=C3.len;have hla3:H3 la=some (.lst us):=b3 _ _ hla2 mar
    have hlb3:H3 lb=some (.lst vs):=b3 _ _ hlb2 mbr;refine ⟨la,_,_,rfl,rfl,hla3,(by show us.length < 2 ^ 24;omega),?_⟩;have R3':RDa D X rd (upd H3 la (.lst (us ++ [u]))) r3:=R3.updn maT mar
    have b03:But rd H (upd H3 la (.lst (us ++ [u]))):=((bt.trans b2).trans b3).updn maH;have hlb3':(upd H3 la (.lst (us ++ [u]))) lb=some (.lst vs):=by rw [jm (Ne.symm lab)];exact hlb3
    refine yz R3' (jd9 R3'.wfr) (x8 out λr4 he4 out _ H4 b4 R4=>?_);have C4:=vg Cell.qr he4
    have lC4:=C4.len;have hla4:H4 la=some (.lst (us ++ [u])):=b4 _ _ jd mar
    have hlb4:H4 lb=some (.lst vs):=b4 _ _ hlb3' mbr;have b04:=b03.trans b4
    refine ⟨_,rfl,.inl ⟨rfl,_,SqL.of hlb4⟩,_,rfl,X,rd,r4,g,by omega,rfl,⟨R4,dp0 C4 (dp0 C3 (dp0 C1 dp')),hh,by omega,sz⟩,trivial,qz out λe5 r5 he5 out v5 H5 b5 R5 n5=>?_⟩;have C5:=yk ((Cell.w8 g).expr r4) he5
    have lC5:=C5.len;have hla5:H5 la=some (.lst (us ++ [u])):=b5 _ _ hla4 mar
    have hlb5:H5 lb=some (.lst vs):=b5 _ _ hlb4 mbr;have dpx:tooDeepAt (h:Int) r5=none:=dp0 C5 (dp0 C4 (dp0 C3 (dp0 C1 dp')))
    refine ⟨lb,_,_,rfl,rfl,hlb5,(by show vs.length < 2 ^ 24;omega),r5.length,by omega,g,r5,done ++ [(y,e5)],us ++ [u],vs ++ [v5],rfl,(b04.trans b5).updn mbH,R5.updn mbT mbr,dpx,by omega,by omega,rfl,by rw [jm lab];exact hla5,jd,?_,?_,?_,?_,out⟩
    ·rw [List.map_append];exact Paired.snoc hU lf3
    ·rw [List.map_append];refine jj.snoc (jz.same (jbb λb o z1 z2=>?_) _ _ n5) _ _ (jj.same (jkf λb o z1 z2=>?_) _ _ hN)
     ·have n1:b≠la:=λy=>by rw [y,hla4] at z1;cases z1
      have n2:b≠lb:=λy=>by rw [y,hlb4] at z1;cases z1
      exact ⟨by rw [jm n2,jm n1];exact xb b04 R4 b z1,by rw [jm n2];exact z2⟩
     ·have n2:b≠lb:=λy=>by rw [y,jd] at z1;cases z1
      have n1:b≠la:=λy=>by rw [y,jm lab,jd] at z1;cases z1
      have n3:b≠rd:=λy=>by
       obtain ⟨dx,pre,hx,_⟩:=Rb.ob;rw [y,hx] at z1;cases z1
      rw [jm n2];exact b5 _ _ (b4 _ _ (by rw [jm n1];exact b3 _ _ (b2 _ _ z2 n3) n3) n3) n3
    ·rw [List.length_append,List.length_singleton];omega
    ·rw [List.length_append,List.length_singleton];omega
  ·have c:=w6 c;rw [jas R'.wfr,decide_eq_false c,if_neg Bool.false_ne_true] at out;have out:Out D X rd H Q E (ql D) (eat (isSign ")") r >>= λr=>pure (.record (jbp done .nil),r)):=out
   refine yz R' (jcs R'.wfr) (x8 out λr2 he out _ H2 b2 R2=>?_);have hla2:H2 la=some (.lst us):=b2 _ _ hla mar
   have hlb2:H2 lb=some (.lst vs):=b2 _ _ hlb mbr;refine ⟨_,rfl,_,rfl,by decide,λl3 m3=>?_⟩;have b02:=bt.trans b2
   have gr:=xb b02 R2;have s1:jh H2 (upd H2 l3 (.lst [])):=jo m3 _
   have out:Out D X rd H Q E (ql D) (.ok (.record (jbp done .nil),r2)):=out;refine yq (ls:=jem (jbp done .nil)) (ps:=v8 (jbp done .nil)) (bs:=[]) (λb z=>gr b (jk s1 z)) (R2.st.trans s1) (j9 maT maH (s1 _ _ hla2)) (j9 mbT mbH (s1 _ _ hlb2)) (j9 (jk R2.st m3) (gr _ m3) jd) ⟨by omega,by omega,by decide⟩ ?_ ?_ zo λz H9 sm nd=>out _ _ (b02.then (s1.trans sm)) (R2.same (s1.trans sm)) nd
   ·rw [jrk];exact Paired.mapP hU λ_ _ z=>qo.same jbn z
   ·rw [jri];refine jj.same (jbb λb o z1 z2=>?_) _ _ hN;have n2:b≠lb:=λy=>by rw [y,jd] at z1;cases z1
    have n1:b≠la:=λy=>by rw [y,jm lab,jd] at z1;cases z1
    have n3:b≠rd:=λy=>by
     obtain ⟨dx,pre,hx,_⟩:=Rb.ob;rw [y,hx] at z1;cases z1
    refine ⟨?_,s1 _ _ (b2 _ _ z2 n3)⟩;rw [jm n2,jm n1] at z1;exact z1
def vi:List (Str×Nat):=[("len",1),("keys",1),("text",1),("num",1),("roll",1),("cut",3),("with",3)]
theorem jg3{l:Lex}{p k n:Nat}{r:qc}(h1:∀ v,l≠.num v)(h2:∀ s,l≠.quoted s):simple (n + 1) (⟨l,p,k⟩::r) =
   if isSign "[" ⟨l,p,k⟩ then (listed n "]" r >>= λq=>pure (.list q.1,q.2))
   else if isSign "(" ⟨l,p,k⟩ then inBrackets n r
   else if isWord "fn" ⟨l,p,k⟩ then function n r
   else if isWord "yes" ⟨l,p,k⟩ then .ok (.truth true,r)
   else if isWord "no" ⟨l,p,k⟩ then .ok (.truth false,r)
   else if isWord "none" ⟨l,p,k⟩ then .ok (.nothing,r)
   else match nameNext (⟨l,p,k⟩::r) with
    | some x=>.ok (.name x,r)
    | none=>match (wordNext (⟨l,p,k⟩::r)).bind Vanbka.primOf with
     | some q=>eat (isSign "(") r >>= λr=>parts n q.2 r >>= λu=>pure (.prim q.1 u.1,u.2)
     | none=>halt_ (⟨l,p,k⟩::r):=by
 cases l with
 | num v=>exact absurd rfl (h1 v)
 | quoted s=>exact absurd rfl (h2 s)
 | word x =>
  rw [simple]
  ·cases (wordNext (⟨.word x,p,k⟩::r)).bind Vanbka.primOf <;> rfl
  ·intro _ _ _ z;cases z
  ·intro _ _ _ z;cases z
 | sign x =>
  rw [simple]
  ·cases (wordNext (⟨.sign x,p,k⟩::r)).bind Vanbka.primOf <;> rfl
  ·intro _ _ _ z;cases z
  ·intro _ _ _ z;cases z
def jq1:Lex->Option (Prim×Nat)
 | .word w=>if reserved.contains w then Vanbka.primOf w else none
 | _=>none
def jvp(z:Str):Option (Prim×Nat)->Bool
 | some (p,k)=>decide (vi.lookup z=some k) && decide (z=jc6 p) && decide (1<=k) && decide (k<=3)
 | none=>decide (vi.lookup z=none)
theorem jq0:∀ l∈jac,jvp (jx l) (jq1 l)=true:=by decide +kernel
inductive jan(n:Nat)(t:Vanbka.Tok)(r:qc):Except Nat (Vanbka.Expr×qc)->Prop
 | num (v:Nat) (e:t.lex = .num v) (k:jx t.lex = "NUMBER"):jan n t r (.ok (.num v,r))
 | quo (x:Bytes) (e:t.lex = .quoted x) (k:jx t.lex = "QUOTED"):jan n t r (.ok (.quoted x,r))
 | name (x:Bytes) (e:t.lex = .word x) (u:reserved.contains x=false) (k:jx t.lex = "NAME"):jan n t r (.ok (.name x,r))
 | yes (k:jx t.lex = "yes"):jan n t r (.ok (.truth true,r))
 | no (k:jx t.lex = "no"):jan n t r (.ok (.truth false,r))
 | none (k:jx t.lex = "none"):jan n t r (.ok (.nothing,r))
 | list (k:jx t.lex = "["):jan n t r (listed n "]" r >>= λq=>pure (.list q.1,q.2))
 | brack (k:jx t.lex = "("):jan n t r (inBrackets n r)
 | fn (k:jx t.lex = "fn"):jan n t r (function n r)
 | prim (p:Prim) (m:Nat) (k:jx t.lex=jc6 p) (b:vi.lookup (jx t.lex)=some m) (l1:1<=m) (l3:m<=3):jan n t r (eat (isSign "(") r >>= λr=>parts n m r >>= λu=>pure (.prim p u.1,u.2))
 | bad (k:¬ jx t.lex∈(["NUMBER", "QUOTED", "NAME", "yes", "no", "none", "[", "(", "fn"]:List Str)) (b:vi.lookup (jx t.lex)=none):jan n t r (halt_ (t::r))
theorem ja2{n:Nat}{t:Vanbka.Tok}{r:qc}(w:WfL (t::r)):jan n t r (simple (n + 1) (t::r)):=by
 obtain ⟨l,p,k⟩:=t;have wl:Wf l:=w _ (.head _)
 have i1:isSign "[" ⟨l,p,k⟩=decide (jx l = "["):=jkz w;have i2:isSign "(" ⟨l,p,k⟩=decide (jx l = "("):=jgf w
 have i3:isWord "fn" ⟨l,p,k⟩=decide (jx l = "fn"):=jxk w;have i4:isWord "yes" ⟨l,p,k⟩=decide (jx l = "yes"):=j0s w
 have i5:isWord "no" ⟨l,p,k⟩=decide (jx l = "no"):=j1v w;have i6:isWord "none" ⟨l,p,k⟩=decide (jx l = "none"):=jy0 w
 rcases wz wl with hf | ⟨x,rfl,u⟩ | ⟨v,rfl⟩ | ⟨x,rfl⟩
 ·have nn:=z8 l hf;have h1:∀ v,l≠.num v:=λv z=>nn.2.1 (by rw [z];rfl)
  have h2:∀ x,l≠.quoted x:=λx z=>nn.2.2.1 (by rw [z];rfl);rw [jg3 h1 h2,i1,i2,i3,i4,i5,i6];by_cases c1:jx l = "["
  ·rw [decide_eq_true c1,if_pos rfl];exact .list c1
  rw [decide_eq_false c1,if_neg Bool.false_ne_true];by_cases c2:jx l = "("
  ·rw [decide_eq_true c2,if_pos rfl];exact .brack c2
  rw [decide_eq_false c2,if_neg Bool.false_ne_true];by_cases c3:jx l = "fn"
  ·rw [decide_eq_true c3,if_pos rfl];exact .fn c3
  rw [decide_eq_false c3,if_neg Bool.false_ne_true];by_cases c4:jx l = "yes"
  ·rw [decide_eq_true c4,if_pos rfl];exact .yes c4
  rw [decide_eq_false c4,if_neg Bool.false_ne_true];by_cases c5:jx l = "no"
  ·rw [decide_eq_true c5,if_pos rfl];exact .no c5
  rw [decide_eq_false c5,if_neg Bool.false_ne_true];by_cases c6:jx l = "none"
  ·rw [decide_eq_true c6,if_pos rfl];exact .none c6
  rw [decide_eq_false c6,if_neg Bool.false_ne_true];have e1:nameNext (⟨l,p,k⟩::r)=none:=by
   cases l with
   | word x =>
    show (if reserved.contains x then none else some x)=none;cases hx:reserved.contains x with
    | true=>rfl
    | false=>exact absurd (zn hx) nn.1
   | _=>rfl
  have e2:(wordNext (⟨l,p,k⟩::r)).bind Vanbka.primOf=jq1 l:=by
   cases l with
   | word x =>
    show (if reserved.contains x then some x else none).bind Vanbka.primOf=if reserved.contains x then Vanbka.primOf x else none
    cases reserved.contains x <;> rfl
   | _=>rfl
  rw [e1,e2];have fits:=jq0 l hf
  cases hp:jq1 l with
  | none =>
   rw [hp] at fits;refine .bad (λz=>?_) (of_decide_eq_true fits);simp only [List.mem_cons,List.not_mem_nil,or_false] at z;rcases z with z | z | z | z | z | z | z | z | z
   ·exact nn.2.1 z
   ·exact nn.2.2.1 z
   ·exact nn.1 z
   ·exact c4 z
   ·exact c5 z
   ·exact c6 z
   ·exact c1 z
   ·exact c2 z
   ·exact c3 z
  | some q =>
   obtain ⟨pr,m⟩:=q;rw [hp] at fits;have fits:(((decide (vi.lookup (jx l)=some m) && decide (jx l=jc6 pr)) && decide (1<=m)) && decide (m<=3))=true:=fits
   simp only [Bool.and_eq_true,decide_eq_true_eq] at fits;exact .prim pr m fits.1.1.2 fits.1.1.1 fits.1.2 fits.2
 ·have kn:=zn u;rw [jg3 (λ_ z=>by cases z) (λ_ z=>by cases z),i1,i2,i3,i4,i5,i6,kn];have e1:nameNext (⟨.word x,p,k⟩::r)=some x:=by
   show (if reserved.contains x then none else some x)=some x;rw [u];rfl
  rw [e1];exact .name x rfl u kn
 ·exact .num v rfl rfl
 ·exact .quo x rfl rfl
theorem jm2{n:Nat}{t:Vanbka.Tok}{r:qc}(w:WfL (t::r))(hk:jx t.lex = "("):simple (n + 1) (t::r)=inBrackets n r:=by
 have si:=ja2 (n:=n) w;generalize simple (n + 1) (t::r)=res at si;cases si with
 | num v e k=>rw [hk] at k;exact absurd k (by decide)
 | quo x e k=>rw [hk] at k;exact absurd k (by decide)
 | name x e u k=>rw [hk] at k;exact absurd k (by decide)
 | yes k=>rw [hk] at k;exact absurd k (by decide)
 | no k=>rw [hk] at k;exact absurd k (by decide)
 | none k=>rw [hk] at k;exact absurd k (by decide)
 | list k=>rw [hk] at k;exact absurd k (by decide)
 | brack k=>rfl
 | fn k=>rw [hk] at k;exact absurd k (by decide)
 | prim p m k b l1 l3 =>
  rw [hk] at b;have b:(none:Option Nat)=some m:=b
  cases b
 | bad k b=>exact absurd (by rw [hk];decide) k
theorem jou{n:Nat}{t:Vanbka.Tok}{r:qc}(w:WfL (t::r))(hk:jx t.lex = "["):simple (n + 1) (t::r)=(listed n "]" r >>= λq=>pure (.list q.1,q.2)):=by
 have si:=ja2 (n:=n) w;generalize simple (n + 1) (t::r)=res at si;cases si with
 | num v e k=>rw [hk] at k;exact absurd k (by decide)
 | quo x e k=>rw [hk] at k;exact absurd k (by decide)
 | name x e u k=>rw [hk] at k;exact absurd k (by decide)
 | yes k=>rw [hk] at k;exact absurd k (by decide)
 | no k=>rw [hk] at k;exact absurd k (by decide)
 | none k=>rw [hk] at k;exact absurd k (by decide)
 | list k=>rfl
 | brack k=>rw [hk] at k;exact absurd k (by decide)
 | fn k=>rw [hk] at k;exact absurd k (by decide)
 | prim p m k b l1 l3 =>
  rw [hk] at b;have b:(none:Option Nat)=some m:=b
  cases b
 | bad k b=>exact absurd (by rw [hk];decide) k
theorem js1{n:Nat}{t:Vanbka.Tok}{r:qc}(w:WfL (t::r))(hk:jx t.lex = "fn"):simple (n + 1) (t::r)=function n r:=by
 have si:=ja2 (n:=n) w;generalize simple (n + 1) (t::r)=res at si;cases si with
 | num v e k=>rw [hk] at k;exact absurd k (by decide)
 | quo x e k=>rw [hk] at k;exact absurd k (by decide)
 | name x e u k=>rw [hk] at k;exact absurd k (by decide)
 | yes k=>rw [hk] at k;exact absurd k (by decide)
 | no k=>rw [hk] at k;exact absurd k (by decide)
 | none k=>rw [hk] at k;exact absurd k (by decide)
 | list k=>rw [hk] at k;exact absurd k (by decide)
 | brack k=>rw [hk] at k;exact absurd k (by decide)
 | fn k=>rfl
 | prim p m k b l1 l3 =>
  rw [hk] at b;have b:(none:Option Nat)=some m:=b
  cases b
 | bad k b=>exact absurd (by rw [hk];decide) k
theorem jot{n m:Nat}{t:Vanbka.Tok}{r:qc}(w:WfL (t::r))(hb:vi.lookup (jx t.lex)=some m):∃ p,jx t.lex=jc6 p/\1<=m/\m<=3/\simple (n + 1) (t::r)=(eat (isSign "(") r >>= λr=>parts n m r >>= λu=>pure (.prim p u.1,u.2)):=by
 have si:=ja2 (n:=n) w;generalize simple (n + 1) (t::r)=res at si;cases si with
 | num v e k =>
  rw [k] at hb;have hb:(none:Option Nat)=some m:=hb
  cases hb
 | quo x e k =>
  rw [k] at hb;have hb:(none:Option Nat)=some m:=hb
  cases hb
 | name x e u k =>
  rw [k] at hb;have hb:(none:Option Nat)=some m:=hb
  cases hb
 | yes k =>
  rw [k] at hb;have hb:(none:Option Nat)=some m:=hb
  cases hb
 | no k =>
  rw [k] at hb;have hb:(none:Option Nat)=some m:=hb
  cases hb
 | none k =>
  rw [k] at hb;have hb:(none:Option Nat)=some m:=hb
  cases hb
 | list k =>
  rw [k] at hb;have hb:(none:Option Nat)=some m:=hb
  cases hb
 | brack k =>
  rw [k] at hb;have hb:(none:Option Nat)=some m:=hb
  cases hb
 | fn k =>
  rw [k] at hb;have hb:(none:Option Nat)=some m:=hb
  cases hb
 | prim p m' k b l1 l3 =>
  rw [hb] at b;cases b;exact ⟨p,k,l1,l3,rfl⟩
 | bad k b=>rw [hb] at b;cases b
theorem jwk{CT CR:Addr}{E:XK}{i:Nat}{σ:St}{H:Hp}{Q:VK}{X:Tx}{rd:Addr}{t:Vanbka.Tok}{r:qc}(R:RD CT CR X rd H (t::r))(h:Q (.str (jq r)) H)(hi:σ[i]? = some (some (.ref rd)):=by rfl):vd CR "look_behind" (jf0 CT CR) [] E (qy i) xc σ H Q :=
 jap hi R ⟨X,rd,t,r,rfl,R,h⟩
theorem jl0{rs:qc}(w:WfL rs):(nameNext rs).isSome=decide (jq rs = "NAME"):=by
 cases rs with
 | nil=>rfl
 | cons t r =>
  obtain ⟨l,p,k⟩:=t;have wl:Wf l:=w _ (.head _)
  by_cases c:jx l = "NAME"
  ·obtain ⟨x,rfl,hx⟩:=(jie wl).mp c;rw [show decide (jq (⟨Lex.word x,p,k⟩::r) = "NAME")=true from decide_eq_true c];show (if reserved.contains x then none else some x).isSome=true
   rw [hx];rfl
  ·rw [show decide (jq (⟨l,p,k⟩::r) = "NAME")=false from decide_eq_false c];cases l with
   | word x =>
    show (if reserved.contains x then none else some x).isSome=false;cases hx:reserved.contains x with
    | true=>rfl
    | false=>exact absurd (zn hx) c
   | _=>rfl
theorem jgc{X:Tx}{rd:Addr}{H H1:Hp}{Q:VK}{E:XK}{rs:qc}{res:Except Nat (Vanbka.Expr×qc)}(b1:But rd H H1)(R1:RDa D X rd H1 rs)(out:Out D X rd H Q E (ql D) res):Out D X rd H1 Q E (ql D) res:=by
 cases res with
 | error l=>exact out
 | ok p=>exact λv H2 b2 R2 n=>out v H2 (b1.trans b2) R2 (jz.same (yd b1 R1) _ _ n)
theorem jpx:jv ["reader", "tree"] ["reader"] (ji jbj):=⟨rfl,rfl,rfl,by decide +kernel,rfl,by decide +kernel,by decide +kernel⟩
theorem jwb(Kn:jr K mg "read_bracketed" ["reader"] jbj)(B:z6 P w K mg base D)(I:z9 P w K mg base D N)(GR:∀ h,Has P w K mg base (xw h 22) "read_record" ["reader"] (spR D 1 (N + 1) h [] Any jz7 (ql D)))(h:Nat) :
  Has P w K mg base (xw h 9) "read_bracketed" ["reader"] (spR D 1 (N + 1) h [] (λrs=>jq rs = "(") simple (ql D)):=by
 refine zj (r:=8) Kn jpx (λ_ _ _ _ q=>q.len) (λ_ _ _ _ q=>q.le) λhh f cdv A outer s H vs Q E hr q=>?_;obtain ⟨X,rd,rs,n,hn,rfl,pre,c0,out⟩:=q;obtain ⟨R,dp,_,fu,sz⟩:=pre;have cl:=B.rd.c.cl
 have nd:=jpx.nd;have r3:xu 3 _:=hr.mono (by omega)
 have GR:=GR (h + 1);have GE:=I.expr (h + 1)
 refine ⟨_,(jc (j_ (qe B.take cl r3 (pv 0) (ja jf jb)))
   (jc (qh (js xi (xf B.look cl r3 (pv 0)) jf (j6 _)) (jc (j_ (qe B.take cl r3 (pv 0) (ja jf jb)))
   (jc (j_ (qe B.take cl r3 (pv 0) (ja jf jb)))
   (je (jp (ym B r3 rfl (ja jf (ja (j3 jb) (ja (j3 jb) (ja (j3 jb) jb))))))))) jy)
   (jc (qh (PW.pt (jcc (js xi (xf B.look cl r3 (pv 0)) jf (j6 _)) (jb4 (js xi (xf B.behind cl r3 (pv 0)) jf (j6 _))))) (je (jp (jg GR hr rfl (ja (pv 0) jb) (jet hh (by decide))))) jy)
   (jc (ju (i:=1) nd rfl (Or.inl rfl) (jg GE hr rfl (ja (pv 0) jb) (jet hh (by decide))))
   (jc (j_ (qe B.take cl r3 (pv 0) (ja jf jb)))
   (je (jp (pv 1)))))))),?_⟩
 have w:=R.wfr;obtain ⟨t,r,e1,e2,hk⟩:=yr c0 (by decide);subst e1;have lr:(t::r).length=r.length + 1:=rfl
 have op:next (isSign "(") (t::r)=true:=by rw [jgf w];exact decide_eq_true c0
 have C1:Cell.Con (t::r) r 1 1:=Cell.xy op;have h24:h < 24:=by
  have:=Cell.jb6 (t:=t) (r:=r) (jd8 op (by decide +kernel)) dp;omega
 have dp':=dp1 C1 dp;cases n with
 | zero=>omega
 | succ n =>
  have out:Out D X rd H Q E (ql D) (inBrackets n r):=by
   rw [<- jm2 w hk];exact out
  refine zh R c0 λ_ H1 b1 R1 _=>?_;have R1:RDa D X rd H1 r:=R1
  cases n with
  | zero=>omega
  | succ n =>
   rw [inBrackets,jd9 R1.wfr,jl0 R1.wfr] at out;refine zi R1 ⟨rfl,_,rfl,qb (λc=>?_) (λc=>?_)⟩
   ·have c:=wg c;rw [decide_eq_true c,if_pos rfl] at out;refine zh R1 c λ_ H2 b2 R2 _=>?_;refine yz R2 (jcs R2.wfr) (x8 out λr3 he3 out _ H3 b3 R3=>?_);have b03:=(b1.trans b2).trans b3
    refine ⟨by decide,λl1 m1=>⟨by decide,λl2 m2=>⟨by decide,λl3 m3=>?_⟩⟩⟩;exact jdn (xb b03 R3) R3.st m1 m2 m3 ⟨by decide,by decide,by decide⟩ .nil ja7 zo λz H9 sm nd=>out _ _ (b03.then sm) (R3.same sm) nd
   have c:=w6 c;rw [decide_eq_false c,if_neg Bool.false_ne_true] at out;have fin:(decide (jq r = "NAME") && next (isSign ":") (r.drop 1))=false->jby (jgx (yh (spR D 11 N (h + 1) [] Any Vanbka.expr (ql D)) [] E (qj (qy 0) xc)) (jai 1)) (jby (jql (vd D.CR "take" (jal D.CF D.CT D.CR) [] E (qy 0) (qj (tC (.str ")")) xc))) (jfw (qy 1))) { nx:=λ_ H'=>Q .non H',rt:=Q } [some (.ref rd),none] H1:=by
    intro z;rw [z,if_neg Bool.false_ne_true] at out;refine ⟨_,rfl,X,rd,r,n,by omega,rfl,⟨R1,dp',by omega,by omega,sz⟩,trivial,qz out λe r2 he out v H2 b2 R2 n2=>?_⟩;refine yz R2 (jcs R2.wfr) (x8 out λr3 he3 out _ H3 b3 R3=>?_);exact ⟨_,rfl,out _ _ ((b1.trans b2).trans b3) R3 (jz.same ((yd b1 R1).trans (xx R b3)) _ _ n2)⟩
   refine zi R1 ⟨rfl,_,rfl,qb (λk1=>?_) (λk1=>?_)⟩
   ·have k1:=wg k1;obtain ⟨t2,r2,e3,e4,_⟩:=yr k1 (by decide);have R1':=R1
    rw [e3] at R1';have wr2:WfL r2:=λy hy=>R1.wfr y (by rw [e3];exact List.mem_cons_of_mem _ hy)
    refine jwk R1' ⟨rfl,_,rfl,qb (λk2=>?_) (λk2=>?_)⟩
    ·have k2:=wg k2;have e5:(decide (jq r = "NAME") && next (isSign ":") (r.drop 1))=true:=by rw [e4,jd9 wr2,decide_eq_true k1,decide_eq_true k2];rfl
     rw [e5,if_pos rfl] at out;exact ⟨_,rfl,X,rd,r,n,by omega,rfl,⟨R1,dp',by omega,by omega,sz⟩,trivial,jgc b1 R1 out⟩
    ·have k2:=w6 k2;refine fin ?_;rw [e4,jd9 wr2,decide_eq_false k2,Bool.and_false]
   ·have k1:=w6 k1;refine qb (λz=>absurd z (by decide)) (λ_=>fin ?_);rw [decide_eq_false k1,Bool.false_and]
abbrev jbv:PySem.Stmt:=top 45
abbrev jca:PySem.Stmt:=top 46
def jaf(g j:Nat)(r:qc):Except Nat (Exprs×qc):=if j=0 then (eat (isSign ")") r >>= λr=>pure (.nil,r)) else (eat (isSign ",") r >>= λr=>parts g j r)
theorem jjr(g k:Nat)(h:1<=k)(ts:qc):parts (g + 1) k ts=Vanbka.expr g ts >>= λp=>jaf g (k - 1) p.2 >>= λu=>pure (.cons p.1 u.1,u.2):=by
 rw [parts];cases Vanbka.expr g ts with
 | error l=>rfl
 | ok p =>
  show (if k<=1 then _ else _)=(jaf g (k - 1) p.2 >>= _)
  unfold jaf;by_cases c:k<=1
  ·rw [if_pos c,if_pos (by omega)];cases eat (isSign ")") p.2 <;> rfl
  ·rw [if_neg c,if_neg (by omega)];cases eat (isSign ",") p.2 with
   | error l=>rfl
   | ok r =>
    show (parts g (k - 1) r >>= _)=(parts g (k - 1) r >>= _)
    rfl
def jft(w:World)(K:PySem.W.Frag)(mg:Str->Option Value):Prop:=∃ a kvs,mg "BUILT_IN"=some (.ref a)/\jck w K a kvs/\∀ z:Str,ze kvs (.inr z)=(vi.lookup z).map λ(m:Nat)=>V.int (m:Int)
theorem jpw:jv ["reader", "kind", "parts"] ["reader"] (ji jca):=⟨rfl,rfl,rfl,by decide +kernel,rfl,by decide +kernel,by decide +kernel⟩
theorem jwa(Kn:jr K mg "read_built_in" ["reader"] jca)(B:z6 P w K mg base D)(U:jft w K mg)(I:z9 P w K mg base D N)(h:Nat) :
  Has P w K mg base (xw h 9) "read_built_in" ["reader"] (spR D 1 (N + 1) h [] (λrs=>(vi.lookup (jq rs)).isSome=true) simple (ql D)):=by
 refine zj (r:=8) Kn jpw (λ_ _ _ _ q=>q.len) (λ_ _ _ _ q=>q.le) λhh f cdv A outer s H vs Q E hr q=>?_;obtain ⟨X,rd,rs,n,hn,rfl,pre,c0,out⟩:=q;obtain ⟨R,dp,_,fu,sz⟩:=pre;have cl:=B.rd.c.cl
 have nd:=jpw.nd;have r3:xu 3 _:=hr.mono (by omega)
 have GE:=I.expr (h + 1);obtain ⟨ua,kvs,mU,dU,vU⟩:=U;refine ⟨_,(jc (ju (i:=1) nd rfl (Or.inl rfl) (xf B.move cl r3 (pv 0)))
   (jc (j_ (qe B.take cl r3 (pv 0) (ja jf jb)))
   (jc (ju (i:=2) nd rfl (Or.inl rfl) (j3 (ja (jg GE hr rfl (ja (pv 0) jb) (jet hh (by decide))) jb)))
   (jc (vh jag (js jdx (yt x9 rfl B.ml PySem.boot_len (ja (pv 2) jb)) (jcr (ve mU rfl) (pv 1) (λ_ _=>rfl)) (j6 _)) (jc (j_ (qe B.take cl r3 (pv 0) (ja jf jb)))
   (je (j_ (vk PySem.F.plainAttrs_list PySem.F.slot_list_append PySem.F.type_list_append zg (pv 2) (ja (jg GE hr rfl (ja (pv 0) jb) (jet hh (by decide))) jb))))))
   (jc (j_ (qe B.take cl r3 (pv 0) (ja jf jb)))
   (je (jp (ym B r3 rfl (ja (pv 1) (ja (j3 jb) (ja (pv 2) (ja (j3 jb) jb)))))))))))),?_⟩
 have w:=R.wfr;obtain ⟨k,hb⟩:=Option.isSome_iff_exists.mp c0;cases rs with
 | nil=>cases hb
 | cons t r =>
 have hb:vi.lookup (jx t.lex)=some k:=hb;have lr:(t::r).length=r.length + 1:=rfl
 cases n with
 | zero=>omega
 | succ n =>
  obtain ⟨p,kp,l1,l3,es⟩:=jot (n:=n) w hb;have out:Out D X rd H Q E (ql D) (eat (isSign "(") r >>= λr=>parts n k r >>= λu=>pure (.prim p u.1,u.2)):=by rw [<- es];exact out
  have C0:Cell.Con (t::r) r 0 1:=by
   have:=Cell.Con.one t r;have z:Cell.bw t=0:=by
    have wf:Wf t.lex:=w t (.head _);have:∀ l∈jac,(vi.lookup (jx l)).isSome=true->Cell.bw { lex:=l,place:=0,len:=0 }=0:=by decide +kernel
    rcases wz wf with hf | ⟨x,e,u⟩ | ⟨v,e⟩ | ⟨x,e⟩
    ·exact this t.lex hf (by rw [hb];rfl)
    ·rw [e,zn u] at hb;have hb:(none:Option Nat)=some k:=hb
     cases hb
    ·rw [e] at hb;have hb:(none:Option Nat)=some k:=hb
     cases hb
    ·rw [e] at hb;have hb:(none:Option Nat)=some k:=hb
     cases hb
   rw [z] at this;exact this
  refine jfm R λH1 b1 R1=>?_;refine yz R1 (jgf R1.wfr) (x8 out λr2 he2 out _ H2 b2 R2=>?_);have op:next (isSign "(") r=true:=by
   unfold eat at he2;split at he2
   ·assumption
   ·cases he2
  have C2:Cell.Con r r2 1 1:=vg (by rw [<- Cell.jdq];exact Cell.qr) he2;have lC2:=C2.len
  have h24:h < 24:=by
   obtain ⟨t',r',e',_,_⟩:=Cell.jb5 op;rw [e'] at op;have d0:=dp0 C0 dp
   rw [e'] at d0;have:=Cell.jb6 (jd8 op (by decide +kernel)) d0
   omega
  have dp2:=dp1 C2 (dp0 C0 dp);have b02:=b1.trans b2
  cases n with
  | zero=>omega
  | succ n =>
   have out:Out D X rd H Q E (ql D) (Vanbka.expr n r2 >>= λp'=>jaf n (k - 1) p'.2 >>= λu=>pure (.prim p (.cons p'.1 u.1),u.2)):=by
    rw [jjr n k l1] at out;cases h1:Vanbka.expr n r2 with
    | error l=>rw [h1] at out;exact out
    | ok q =>
     rw [h1] at out;have out:Out D X rd H Q E (ql D) ((jaf n (k - 1) q.2 >>= λu=>pure (.cons q.1 u.1,u.2)) >>= λu=>pure (.prim p u.1,u.2)):=out
     show Out D X rd H Q E (ql D) (jaf n (k - 1) q.2 >>= λu=>pure (.prim p (.cons q.1 u.1),u.2));cases h2:jaf n (k - 1) q.2 with
     | error l=>rw [h2] at out;exact out
     | ok u=>rw [h2] at out;exact out
   refine ⟨_,rfl,X,rd,r2,n,by omega,rfl,⟨R2,dp2,by omega,by omega,sz⟩,trivial,qz out λe r3 he3 out v H3 b3 R3 n3=>?_⟩;have C3:=yk ((Cell.w8 n).expr r2) he3
   have lC3:=C3.len;refine ⟨(by show 1<=2 ^ 24;decide),λl ml=>?_⟩;have b03:=b02.trans b3
   have mlT:=zd R3.st ml;have mlr:=R3.ne ml
   have mlH:=xb b03 R3 l ml;have R0:RDa D X rd (upd H l (.lst [])) (t::r):=R.updn mlT mlr
   have hal:=R.len;have eV:ze kvs (.inr (jx t.lex))=some (.int (k:Int)):=by rw [vU,hb];rfl
   refine ⟨λm σ H'=>∃ (g j:Nat) (r:qc) (done:List Vanbka.Expr) (vs:List V),σ=[some (.ref rd),some (.str (jx t.lex)),some (.ref l)]/\But rd H H'/\RDa D X rd H' r/\tooDeepAt ((h + 1:Nat):Int) r=none/\16 * r.length + 1<=g/\g<=N/\m=r.length/\H' l=some (.lst vs)/\jj D.CN (Cut X.T (upd H l (.lst [])) H') (done.map jw) vs/\vs.length + j=k/\
     Out D X rd H Q E (ql D) (jaf g j r >>= λu=>pure (.prim p (w9 done u.1),u.2)),
    ⟨_,n,k - 1,r3,[e],[v],rfl,b03.updn mlH,R3.updn mlT mlr,dp0 C3 dp2,by omega,by omega,rfl,jd,v9 (jz.same ?_ _ _ n3),by rw [List.length_singleton];omega,out⟩,?_⟩
   ·refine jbb λb o z1 z2=>?_;have n2:b≠l:=λy=>by rw [y,ml] at z2;cases z2
    exact ⟨by rw [jm n2];exact xb b02 R2 b z1,by rw [jm n2];exact z2⟩
   clear out n3 R3 b3 C3 lC3 he3 b03 ml;rintro m σ H' ⟨g,j,r,done,vs,rfl,bt,R',dp',fg,gN,rfl,hl,hN,hj,out⟩;refine ⟨_,rfl,l,vs,rfl,.inl (SqL.of hl),_,rfl,ua,kvs,.inr (jx t.lex),_,rfl,dU,rfl,eV,_,_,rfl,rfl,_,rfl,qb (λc=>?_) (λc=>?_)⟩
   ·have c:=of_decide_eq_true c;have j0:j≠0:=by omega
    unfold jaf at out;rw [if_neg j0] at out;refine ⟨λσ H'=>∃ m,m < r.length/\∃ (g j:Nat) (r:qc) (done:List Vanbka.Expr) (vs:List V),σ=[some (.ref rd),some (.str (jx t.lex)),some (.ref l)]/\But rd H H'/\RDa D X rd H' r/\tooDeepAt ((h + 1:Nat):Int) r=none/\16 * r.length + 1<=g/\g<=N/\m=r.length/\H' l=some (.lst vs)/\jj D.CN (Cut X.T (upd H l (.lst [])) H') (done.map jw) vs/\vs.length + j=k/\
     Out D X rd H Q E (ql D) (jaf g j r >>= λu=>pure (.prim p (w9 done u.1),u.2)),λ_ _ z=>z,?_⟩
    have out:Out D X rd H Q E (ql D) (eat (isSign ",") r >>= λr=>parts g j r >>= λu=>pure (.prim p (w9 done u.1),u.2)):=by
     cases h1:eat (isSign ",") r with
     | error l=>rw [h1] at out;exact out
     | ok r'=>rw [h1] at out;exact out
    refine yz R' (jas R'.wfr) (x8 out λr4 he4 out _ H4 b4 R4=>?_);have C4:=vg Cell.qr he4
    have lC4:=C4.len;have b04:=bt.trans b4
    have hl4:H4 l=some (.lst vs):=b4 _ _ hl mlr;cases g with
    | zero=>omega
    | succ g =>
     have out:Out D X rd H Q E (ql D) (Vanbka.expr g r4 >>= λp'=>jaf g (j - 1) p'.2 >>= λu=>pure (.prim p (w9 (done ++ [p'.1]) u.1),u.2)):=by
      rw [jjr g j (by omega)] at out;cases h1:Vanbka.expr g r4 with
      | error l=>rw [h1] at out;exact out
      | ok q =>
       rw [h1] at out;have out:Out D X rd H Q E (ql D) ((jaf g (j - 1) q.2 >>= λu=>pure (.cons q.1 u.1,u.2)) >>= λu=>pure (.prim p (w9 done u.1),u.2)):=out
       show Out D X rd H Q E (ql D) (jaf g (j - 1) q.2 >>= λu=>pure (.prim p (w9 (done ++ [q.1]) u.1),u.2));cases h2:jaf g (j - 1) q.2 with
       | error l=>rw [h2] at out;exact out
       | ok u =>
        rw [h2] at out;show Out D X rd H Q E (ql D) (.ok (.prim p (w9 (done ++ [q.1]) u.1),u.2))
        rw [jl_];exact out
     refine ⟨_,rfl,.inl ⟨rfl,_,SqL.of hl4⟩,_,rfl,X,rd,r4,g,by omega,rfl,⟨R4,dp0 C4 dp',by omega,by omega,sz⟩,trivial,qz out λe5 r5 he5 out v5 H5 b5 R5 n5=>?_⟩;have C5:=yk ((Cell.w8 g).expr r4) he5
     have lC5:=C5.len;have hl5:H5 l=some (.lst vs):=b5 _ _ hl4 mlr
     refine ⟨l,_,_,rfl,rfl,hl5,(by show vs.length < 2 ^ 24;omega),r5.length,by omega,g,j - 1,r5,done ++ [e5],vs ++ [v5],rfl,(b04.trans b5).updn mlH,R5.updn mlT mlr,dp0 C5 (dp0 C4 dp'),by omega,by omega,rfl,jd,?_,by rw [List.length_append,List.length_singleton];omega,out⟩;rw [List.map_append];exact jj.snoc (jz.same (jb7 b04 R4 hl4) _ _ n5) _ _ (jj.same (jeb R0 jd (b4.trans b5)) _ _ hN)
   ·have c:¬ ((vs.length:Int) < (k:Int)):=λz=>c (decide_eq_true z);have j0:j=0:=by omega
    unfold jaf at out;rw [if_pos j0] at out;have out:Out D X rd H Q E (ql D) (eat (isSign ")") r >>= λr=>pure (.prim p (w9 done .nil),r)):=by
     cases h1:eat (isSign ")") r with
     | error l=>rw [h1] at out;exact out
     | ok r'=>rw [h1] at out;exact out
    refine yz R' (jcs R'.wfr) (x8 out λr4 he4 out _ H4 b4 R4=>?_);have b04:=bt.trans b4
    have hl4:H4 l=some (.lst vs):=b4 _ _ hl mlr;have gr:=xb b04 R4
    refine ⟨_,rfl,by decide,λla ma=>⟨_,rfl,by decide,λlb mb=>?_⟩⟩;have s1:jh H4 (upd H4 la (.lst [])):=jo ma _
    have s2:jh (upd H4 la (.lst [])) (upd (upd H4 la (.lst [])) lb (.lst [])):=jo mb _;refine yq (ls:=[]) (ps:=y9 (w9 done .nil)) (bs:=[]) (λb z=>gr b (jk (s1.trans s2) z)) (R4.st.trans (s1.trans s2)) (j9 (jk R4.st ma) (gr _ ma) (s2 _ _ jd)) (j9 mlT mlH ((s1.trans s2) _ _ hl4)) (j9 (jk (R4.st.trans s1) mb) (gr _ (jk s1 mb)) jd) ⟨by decide,by omega,by decide⟩ .nil ?_ zo λz H9 sm nd=>?_
    ·rw [jju];show jj _ _ (done.map jw ++ []) vs
     rw [List.append_nil];exact jj.same ((xx R0 b4).trans ((xg (s1.trans s2)).trans wo)) _ _ hN
    ·rw [kp] at nd;exact out _ _ (b04.then ((s1.trans s2).trans sm)) (R4.same ((s1.trans s2).trans sm)) nd
theorem jr5{h:Nat}{ts r:qc}{m:Nat}(c:Cell.Con ts r (-1) m)(q:tooDeepAt ((h + 1:Nat):Int) ts=none):tooDeepAt (h:Int) r=none:=by
 have:=c.deep q
 rwa [show ((h + 1:Nat):Int) + -1=(h:Int) by omega] at this
theorem jjp{ts:qc}:Cell.Res (wk Vanbka.name Vanbka.namesMore ts) ts 0 1:=by
 unfold wk;refine Cell.Res.to (Cell.Res.bind (y:=0) (k:=0) Cell.y8 λx r _=>?_) rfl (by omega);exact Cell.Res.to (Cell.Res.bind (y:=0) (k:=0) (Cell.jdj _ _) λl r _=>Cell.Res.ret) rfl (by omega)
theorem jlt(ts:qc):Vanbka.params ts=(if next (isSign ")") ts then .ok ([],ts) else wk Vanbka.name Vanbka.namesMore ts) >>= λp=>eat (isSign ")") p.2 >>= λr=>pure (p.1,r):=by
 unfold Vanbka.params;by_cases c:next (isSign ")") ts=true
 ·rw [if_pos c,if_pos c];show _=(eat (isSign ")") ts >>= λr=>pure (([]:List Bytes),r))
  unfold eat;rw [if_pos c];rfl
 ·rw [if_neg c,if_neg c];unfold wk;cases Vanbka.name ts with
  | error l=>rfl
  | ok p =>
   obtain ⟨x,r⟩:=p;show (Vanbka.namesMore r.length r >>= _)=((Vanbka.namesMore r.length r >>= _) >>= _)
   cases Vanbka.namesMore r.length r <;> rfl
theorem jz2:jv ["reader", "leaves"] ["reader"] (ji jbv):=⟨rfl,rfl,rfl,by decide +kernel,rfl,by decide +kernel,by decide +kernel⟩
theorem j1q(Kn:jr K mg "read_function" ["reader"] jbv)(B:z6 P w K mg base D)(GV:Has P w K mg base 4 "read_leaves" ["reader", "kind"] (jbz D "NAME" Vanbka.name Vanbka.namesMore))(I:z9 P w K mg base D N)(h:Nat) :
  Has P w K mg base (xw h 9) "read_function" ["reader"] (spR D 1 (N + 1) h [] (λrs=>jq rs = "fn") simple (ql D)):=by
 refine zj (r:=8) Kn jz2 (λ_ _ _ _ q=>q.len) (λ_ _ _ _ q=>q.le) λhh f cdv A outer s H vs Q E hr q=>?_;obtain ⟨X,rd,rs,n,hn,rfl,pre,c0,out⟩:=q;obtain ⟨R,dp,_,fu,sz⟩:=pre;have cl:=B.rd.c.cl
 have nd:=jz2.nd;have r3:xu 3 _:=hr.mono (by omega)
 have GB:=I.block h;refine ⟨_,(jc (j_ (qe B.take cl r3 (pv 0) (ja jf jb)))
   (jc (ju (i:=1) nd rfl (Or.inl rfl) (j3 (ja (j3 jb) jb)))
   (jc (qh (js xi (xf B.look cl r3 (pv 0)) jf (j6 _)) (je (ju (i:=1) nd rfl (Or.inl rfl) (j3 (ja (qe B.take cl r3 (pv 0) (ja jf jb)) jb)))) jy)
   (jc (j_ (qe B.take cl r3 (pv 0) (ja jf jb)))
   (jc (qh (js jdw (xf B.look cl r3 (pv 0)) jf (j6 _)) (je (j_ (vk PySem.F.plainAttrs_list PySem.F.slot_list_extend PySem.F.type_list_extend jev (pv 1) (ja (jg GV hr rfl (ja (pv 0) (ja jf jb)) (by omega)) jb)))) jy)
   (jc (j_ (qe B.take cl r3 (pv 0) (ja jf jb)))
   (je (jp (ym B r3 rfl (ja jf (ja (pv 1) (ja (j3 jb) (ja (j3 (ja (jg GB hr rfl (ja (pv 0) jb) (xq hh (by decide))) jb)) jb))))))))))))),?_⟩
 have w:=R.wfr;obtain ⟨t,r,e1,e2,hk⟩:=yr c0 (by decide);subst e1;have lr:(t::r).length=r.length + 1:=rfl
 have C1:Cell.Con (t::r) r 0 1:=Cell.yg (s := "fn") (by rw [jxk w];exact decide_eq_true c0);cases n with
 | zero=>omega
 | succ n =>
 cases n with
 | zero=>omega
 | succ n =>
  have out:Out D X rd H Q E (ql D) (function (n + 1) r):=by
   rw [<- js1 w hk];exact out
  rw [function] at out;dsimp only at out;refine zh R c0 λ_ H1 b1 R1 _=>?_;have R1:RDa D X rd H1 r:=R1
  refine ⟨by decide,λl0 m0=>⟨(by show 1<=2 ^ 24;decide),λla ma=>?_⟩⟩;have s0:jh H1 (upd H1 l0 (.lst [])):=jo m0 _
  have s1:jh (upd H1 l0 (.lst [])) (upd (upd H1 l0 (.lst [])) la (.lst [.ref l0])):=jo ma _;have R1':=R1.same (s0.trans s1)
  have b1':=b1.then (s0.trans s1)
  have nn:=jl0 R1.wfr;refine zi R1' ⟨rfl,_,rfl,qb (λc=>?_) (λc=>?_)⟩
  ·have c:=wg c;rw [decide_eq_true c] at nn;rw [nn,if_pos rfl] at out;obtain ⟨x,ex⟩:=Option.isSome_iff_exists.mp nn;have hnm:Vanbka.name r = .ok (x,r.drop 1):=by unfold Vanbka.name;rw [ex]
   have Cn:=yk Cell.y8 hnm;have lCn:=Cn.len
   rw [ex] at out;refine jcg R1' ?_;rw [hnm];intro u H2 b2 Rx lf0;refine ⟨(by show 1<=2 ^ 24;decide),λla ma=>?_⟩;have b02:=b1'.trans b2
   have maT:=zd Rx.st ma;have mar:=Rx.ne ma
   have maH:=xb b02 Rx la ma;have sx:jh H2 (upd H2 la (.lst [u])):=jo ma _
   have bx:=b02.then sx;have Rx:=Rx.same sx
   have hla:(upd H2 la (.lst [u])) la=some (.lst [u]):=jd;have dpx:=dp0 Cn (dp0 C1 dp)
   generalize ho:(some x:Option Bytes)=own at out;have lf:qo (Cut X.T (upd H la (.lst [])) (upd H2 la (.lst [u]))) (.bytes (own.getD [])) u:=by
    rw [<- ho];exact qo.same jbn lf0
   generalize hrx:r.drop 1=rx at out Rx lCn dpx;have Rb:RDa D X rd (upd H la (.lst [])) (t::r):=R.updn maT mar
   refine yz Rx (jgf Rx.wfr) (x8 out λr2 he2 out _ H2 b2 R2=>?_);have C2:Cell.Con rx r2 1 1:=vg (by rw [<- Cell.jdq];exact Cell.qr) he2
   have lC2:=C2.len;have dp2:=dp1 C2 dpx
   have b02:=bx.trans b2;have hla2:=b2 _ _ hla mar
   rw [jlt] at out;have lf2:=qo.same (xx (T:=X.T) Rb b2) lf
   refine zi R2 ⟨rfl,_,rfl,qb (λc=>?_) (λc=>?_)⟩
   ·have c:=jmz c;rw [jcs R2.wfr,decide_eq_false c,if_neg Bool.false_ne_true] at out;have out:Out D X rd H Q E (ql D) (wk Vanbka.name Vanbka.namesMore r2 >>= λp=>eat (isSign ")") p.2 >>= λr=>block n r >>= λq=>pure (.fn own p.1 q.1,q.2)):=by
     cases h1:wk Vanbka.name Vanbka.namesMore r2 with
     | error l=>rw [h1] at out;exact out
     | ok p =>
      rw [h1] at out;have out:Out D X rd H Q E (ql D) ((eat (isSign ")") p.2 >>= λr=>pure (p.1,r)) >>= λp=>block n p.2 >>= λq=>pure (.fn own p.1 q.1,q.2)):=out
      show Out D X rd H Q E (ql D) (eat (isSign ")") p.2 >>= λr=>block n r >>= λq=>pure (.fn own p.1 q.1,q.2));cases h2:eat (isSign ")") p.2 with
      | error l=>rw [h2] at out;exact out
      | ok r'=>rw [h2] at out;exact out
    refine ⟨_,rfl,.inl ⟨rfl,_,SqL.of hla2⟩,_,rfl,X,rd,r2,rfl,R2,sz,qz out λnl ry he3 out v3 H3 b3 R3 n3=>?_⟩;obtain ⟨a3,ws,rfl,ha3,lw,pw⟩:=n3;have C3:=yk jjp he3
    have lC3:=C3.len;have hla3:=b3 _ _ hla2 mar
    have ha3':H3 a3=some (.lst ws):=jfr R3.st _ _ ha3;have b03:=b02.trans b3
    refine ⟨la,a3,_,_,rfl,rfl,hla3,ha3',(by show 1 + ws.length<=2 ^ 24;omega),?_⟩;have by_:But rd H (upd H3 la (.lst ([u] ++ ws))):=b03.updn maH
    have Ry:RDa D X rd (upd H3 la (.lst ([u] ++ ws))) ry:=R3.updn maT mar;have hly:(upd H3 la (.lst ([u] ++ ws))) la=some (.lst ([u] ++ ws)):=jd
    have suy:([u] ++ ws).length<=1000:=by
     show (u::ws).length<=1000;rw [List.length_cons];omega
    have dpy:tooDeepAt ((h + 1:Nat):Int) ry=none:=dp0 C3 dp2;have ply:Paired (qo (Cut X.T (upd H la (.lst [])) (upd H3 la (.lst ([u] ++ ws))))) (.bytes (own.getD [])::nl.map x6.bytes) ([u] ++ ws) :=
     .cons (qo.same (jeb Rb jd b3) lf2) (Paired.mapP pw λ_ _ z=>qo.same (jb7 b02 R2 hla2) z)
    refine yz Ry (jcs Ry.wfr) (x8 out λr5 he5 out _ H5 b5 R5=>?_);have C5:Cell.Con ry r5 (-1) 1:=vg (by rw [<- Cell.jbu];exact Cell.qr) he5
    have lC5:=C5.len;have b05:=by_.trans b5
    have hl5:=b5 _ _ hly mar;refine ⟨_,rfl,by decide,λl2 m2=>?_⟩;have s5:jh H5 (upd H5 l2 (.lst [])):=jo m2 _
    have R5':=R5.same s5;have b05':=b05.then s5
    refine ⟨_,rfl,X,rd,r5,n,by omega,rfl,⟨R5',jr5 C5 dpy,hh,by omega,sz⟩,trivial,qz out λss r6 he6 out v6 H6 b6 R6 n6=>?_⟩;obtain ⟨a6,ws,rfl,ha6,lw,hN6⟩:=n6;have m2r:=R5.ne m2
    refine ⟨(by show 1<=2 ^ 24;decide),λl3 m3=>?_⟩;have b06:=b05'.trans b6
    have gr:=xb b06 R6;have hl6:=b6 _ _ (s5 _ _ hl5) mar
    have hl26:H6 l2=some (.lst []):=b6 _ _ jd m2r;have s6:jh H6 (upd H6 l3 (.lst [.ref a6])):=jo m3 _
    have g6:jh (Cut X.T (upd H5 l2 (.lst [])) H6) (Cut X.T H (upd H6 l3 (.lst [.ref a6]))):=(yd b05' R5').trans (xg s6);have gl:=((xx (T:=X.T) Rb ((b5.then s5).trans b6)).trans (xg s6)).trans (wo (T:=X.T) (H:=H) (l:=la) (o:=.lst []))
    exact yq (ls:=.bytes (own.getD [])::List.map x6.bytes _) (ps:=[]) (bs:=[xk ss]) (λb z=>gr b (jk s6 z)) (R6.st.trans s6) (j9 maT maH (s6 _ _ hl6)) (j9 (zd R5.st m2) (xb b05 R5 l2 m2) (s6 _ _ hl26)) (j9 (jk R6.st m3) (gr _ m3) jd) ⟨suy,by decide,(by show 1<=1000;decide)⟩
     (Paired.mapP ply λ_ _ z=>qo.same gl z) ja7 ⟨a6,ws,[],rfl,g6 _ _ ha6,by omega,jj.same g6 _ _ hN6,rfl⟩ λz H9 sm nd=>out _ _ (b06.then (s6.trans sm)) (R6.same (s6.trans sm)) nd
   ·have c:=jm0 c;rw [jcs R2.wfr,decide_eq_true c,if_pos rfl] at out;have out:Out D X rd H Q E (ql D) (eat (isSign ")") r2 >>= λr=>block n r >>= λq=>pure (.fn own [] q.1,q.2)):=by
     cases h2:eat (isSign ")") r2 with
     | error l =>
      have out:Out D X rd H Q E (ql D) ((eat (isSign ")") r2 >>= λr=>pure (([]:List Bytes),r)) >>= λp=>block n p.2 >>= λq=>pure (.fn own p.1 q.1,q.2)):=out;rw [h2] at out;exact out
     | ok r' =>
      have out:Out D X rd H Q E (ql D) ((eat (isSign ")") r2 >>= λr=>pure (([]:List Bytes),r)) >>= λp=>block n p.2 >>= λq=>pure (.fn own p.1 q.1,q.2)):=out;rw [h2] at out;exact out
    have by_:=b02;have Ry:=R2
    have hly:=hla2;have suy:[u].length<=1000:=by show 1<=1000;decide
    have dpy:=dp2;have ply:Paired (qo (Cut X.T (upd H la (.lst [])) H2)) (.bytes (own.getD [])::List.map x6.bytes []) [u]:=.cons lf2 .nil
    refine yz Ry (jcs Ry.wfr) (x8 out λr5 he5 out _ H5 b5 R5=>?_);have C5:Cell.Con r2 r5 (-1) 1:=vg (by rw [<- Cell.jbu];exact Cell.qr) he5
    have lC5:=C5.len;have b05:=by_.trans b5
    have hl5:=b5 _ _ hly mar;refine ⟨_,rfl,by decide,λl2 m2=>?_⟩;have s5:jh H5 (upd H5 l2 (.lst [])):=jo m2 _
    have R5':=R5.same s5;have b05':=b05.then s5
    refine ⟨_,rfl,X,rd,r5,n,by omega,rfl,⟨R5',jr5 C5 dpy,hh,by omega,sz⟩,trivial,qz out λss r6 he6 out v6 H6 b6 R6 n6=>?_⟩;obtain ⟨a6,ws,rfl,ha6,lw,hN6⟩:=n6;have m2r:=R5.ne m2
    refine ⟨(by show 1<=2 ^ 24;decide),λl3 m3=>?_⟩;have b06:=b05'.trans b6
    have gr:=xb b06 R6;have hl6:=b6 _ _ (s5 _ _ hl5) mar
    have hl26:H6 l2=some (.lst []):=b6 _ _ jd m2r;have s6:jh H6 (upd H6 l3 (.lst [.ref a6])):=jo m3 _
    have g6:jh (Cut X.T (upd H5 l2 (.lst [])) H6) (Cut X.T H (upd H6 l3 (.lst [.ref a6]))):=(yd b05' R5').trans (xg s6);have gl:=((xx (T:=X.T) Rb ((b5.then s5).trans b6)).trans (xg s6)).trans (wo (T:=X.T) (H:=H) (l:=la) (o:=.lst []))
    exact yq (ls:=.bytes (own.getD [])::List.map x6.bytes _) (ps:=[]) (bs:=[xk ss]) (λb z=>gr b (jk s6 z)) (R6.st.trans s6) (j9 maT maH (s6 _ _ hl6)) (j9 (zd R5.st m2) (xb b05 R5 l2 m2) (s6 _ _ hl26)) (j9 (jk R6.st m3) (gr _ m3) jd) ⟨suy,by decide,(by show 1<=1000;decide)⟩
     (Paired.mapP ply λ_ _ z=>qo.same gl z) ja7 ⟨a6,ws,[],rfl,g6 _ _ ha6,by omega,jj.same g6 _ _ hN6,rfl⟩ λz H9 sm nd=>out _ _ (b06.then (s6.trans sm)) (R6.same (s6.trans sm)) nd
  ·have c:=w6 c;rw [decide_eq_false c] at nn;rw [nn,if_neg Bool.false_ne_true] at out;have ex:nameNext r=none:=by
    cases hx:nameNext r with
    | none=>rfl
    | some x=>rw [hx] at nn;cases nn
   rw [ex] at out;have maT:=zd (R1.same s0).st ma
   have mar:=(R1.same s0).ne ma;have maH:=xb b1 R1 la (jk s0 ma)
   have bx:=b1';have Rx:=R1'
   have hla:(upd (upd H1 l0 (.lst [])) la (.lst [.ref l0])) la=some (.lst [.ref l0]):=jd;have dpx:=dp0 C1 dp
   have n0:l0≠la:=λy=>by rw [<- y,jd] at ma;cases ma
   generalize ho:(none:Option Bytes)=own at out;have lf:qo (Cut X.T (upd H la (.lst [])) (upd (upd H1 l0 (.lst [])) la (.lst [.ref l0]))) (.bytes (own.getD [])) (V.ref l0):=by
    rw [<- ho];refine ⟨l0,rfl,j9 (zd R1.st m0) (by rw [jm n0];exact xb b1 R1 l0 m0) (by rw [jm n0,jd];rfl)⟩
   have Rb:RDa D X rd (upd H la (.lst [])) (t::r):=R.updn maT mar;refine yz Rx (jgf Rx.wfr) (x8 out λr2 he2 out _ H2 b2 R2=>?_);have C2:Cell.Con r r2 1 1:=vg (by rw [<- Cell.jdq];exact Cell.qr) he2
   have lC2:=C2.len;have dp2:=dp1 C2 dpx
   have b02:=bx.trans b2;have hla2:=b2 _ _ hla mar
   rw [jlt] at out;have lf2:=qo.same (xx (T:=X.T) Rb b2) lf
   refine zi R2 ⟨rfl,_,rfl,qb (λc=>?_) (λc=>?_)⟩
   ·have c:=jmz c;rw [jcs R2.wfr,decide_eq_false c,if_neg Bool.false_ne_true] at out;have out:Out D X rd H Q E (ql D) (wk Vanbka.name Vanbka.namesMore r2 >>= λp=>eat (isSign ")") p.2 >>= λr=>block n r >>= λq=>pure (.fn own p.1 q.1,q.2)):=by
     cases h1:wk Vanbka.name Vanbka.namesMore r2 with
     | error l=>rw [h1] at out;exact out
     | ok p =>
      rw [h1] at out;have out:Out D X rd H Q E (ql D) ((eat (isSign ")") p.2 >>= λr=>pure (p.1,r)) >>= λp=>block n p.2 >>= λq=>pure (.fn own p.1 q.1,q.2)):=out
      show Out D X rd H Q E (ql D) (eat (isSign ")") p.2 >>= λr=>block n r >>= λq=>pure (.fn own p.1 q.1,q.2));cases h2:eat (isSign ")") p.2 with
      | error l=>rw [h2] at out;exact out
      | ok r'=>rw [h2] at out;exact out
    refine ⟨_,rfl,.inl ⟨rfl,_,SqL.of hla2⟩,_,rfl,X,rd,r2,rfl,R2,sz,qz out λnl ry he3 out v3 H3 b3 R3 n3=>?_⟩;obtain ⟨a3,ws,rfl,ha3,lw,pw⟩:=n3;have C3:=yk jjp he3
    have lC3:=C3.len;have hla3:=b3 _ _ hla2 mar
    have ha3':H3 a3=some (.lst ws):=jfr R3.st _ _ ha3;have b03:=b02.trans b3
    refine ⟨la,a3,_,_,rfl,rfl,hla3,ha3',(by show 1 + ws.length<=2 ^ 24;omega),?_⟩;have by_:But rd H (upd H3 la (.lst ([V.ref l0] ++ ws))):=b03.updn maH
    have Ry:RDa D X rd (upd H3 la (.lst ([V.ref l0] ++ ws))) ry:=R3.updn maT mar;have hly:(upd H3 la (.lst ([V.ref l0] ++ ws))) la=some (.lst ([V.ref l0] ++ ws)):=jd
    have suy:([V.ref l0] ++ ws).length<=1000:=by
     show (V.ref l0::ws).length<=1000;rw [List.length_cons];omega
    have dpy:tooDeepAt ((h + 1:Nat):Int) ry=none:=dp0 C3 dp2;have ply:Paired (qo (Cut X.T (upd H la (.lst [])) (upd H3 la (.lst ([V.ref l0] ++ ws))))) (.bytes (own.getD [])::nl.map x6.bytes) ([V.ref l0] ++ ws) :=
     .cons (qo.same (jeb Rb jd b3) lf2) (Paired.mapP pw λ_ _ z=>qo.same (jb7 b02 R2 hla2) z)
    refine yz Ry (jcs Ry.wfr) (x8 out λr5 he5 out _ H5 b5 R5=>?_);have C5:Cell.Con ry r5 (-1) 1:=vg (by rw [<- Cell.jbu];exact Cell.qr) he5
    have lC5:=C5.len;have b05:=by_.trans b5
    have hl5:=b5 _ _ hly mar;refine ⟨_,rfl,by decide,λl2 m2=>?_⟩;have s5:jh H5 (upd H5 l2 (.lst [])):=jo m2 _
    have R5':=R5.same s5;have b05':=b05.then s5
    refine ⟨_,rfl,X,rd,r5,n,by omega,rfl,⟨R5',jr5 C5 dpy,hh,by omega,sz⟩,trivial,qz out λss r6 he6 out v6 H6 b6 R6 n6=>?_⟩;obtain ⟨a6,ws,rfl,ha6,lw,hN6⟩:=n6;have m2r:=R5.ne m2
    refine ⟨(by show 1<=2 ^ 24;decide),λl3 m3=>?_⟩;have b06:=b05'.trans b6
    have gr:=xb b06 R6;have hl6:=b6 _ _ (s5 _ _ hl5) mar
    have hl26:H6 l2=some (.lst []):=b6 _ _ jd m2r;have s6:jh H6 (upd H6 l3 (.lst [.ref a6])):=jo m3 _
    have g6:jh (Cut X.T (upd H5 l2 (.lst [])) H6) (Cut X.T H (upd H6 l3 (.lst [.ref a6]))):=(yd b05' R5').trans (xg s6);have gl:=((xx (T:=X.T) Rb ((b5.then s5).trans b6)).trans (xg s6)).trans (wo (T:=X.T) (H:=H) (l:=la) (o:=.lst []))
    exact yq (ls:=.bytes (own.getD [])::List.map x6.bytes _) (ps:=[]) (bs:=[xk ss]) (λb z=>gr b (jk s6 z)) (R6.st.trans s6) (j9 maT maH (s6 _ _ hl6)) (j9 (zd R5.st m2) (xb b05 R5 l2 m2) (s6 _ _ hl26)) (j9 (jk R6.st m3) (gr _ m3) jd) ⟨suy,by decide,(by show 1<=1000;decide)⟩
     (Paired.mapP ply λ_ _ z=>qo.same gl z) ja7 ⟨a6,ws,[],rfl,g6 _ _ ha6,by omega,jj.same g6 _ _ hN6,rfl⟩ λz H9 sm nd=>out _ _ (b06.then (s6.trans sm)) (R6.same (s6.trans sm)) nd
   ·have c:=jm0 c;rw [jcs R2.wfr,decide_eq_true c,if_pos rfl] at out;have out:Out D X rd H Q E (ql D) (eat (isSign ")") r2 >>= λr=>block n r >>= λq=>pure (.fn own [] q.1,q.2)):=by
     cases h2:eat (isSign ")") r2 with
     | error l =>
      have out:Out D X rd H Q E (ql D) ((eat (isSign ")") r2 >>= λr=>pure (([]:List Bytes),r)) >>= λp=>block n p.2 >>= λq=>pure (.fn own p.1 q.1,q.2)):=out;rw [h2] at out;exact out
     | ok r' =>
      have out:Out D X rd H Q E (ql D) ((eat (isSign ")") r2 >>= λr=>pure (([]:List Bytes),r)) >>= λp=>block n p.2 >>= λq=>pure (.fn own p.1 q.1,q.2)):=out;rw [h2] at out;exact out
    have by_:=b02;have Ry:=R2
    have hly:=hla2;have suy:[V.ref l0].length<=1000:=by show 1<=1000;decide
    have dpy:=dp2;have ply:Paired (qo (Cut X.T (upd H la (.lst [])) H2)) (.bytes (own.getD [])::List.map x6.bytes []) [V.ref l0]:=.cons lf2 .nil
    refine yz Ry (jcs Ry.wfr) (x8 out λr5 he5 out _ H5 b5 R5=>?_);have C5:Cell.Con r2 r5 (-1) 1:=vg (by rw [<- Cell.jbu];exact Cell.qr) he5
    have lC5:=C5.len;have b05:=by_.trans b5
    have hl5:=b5 _ _ hly mar;refine ⟨_,rfl,by decide,λl2 m2=>?_⟩;have s5:jh H5 (upd H5 l2 (.lst [])):=jo m2 _
    have R5':=R5.same s5;have b05':=b05.then s5
    refine ⟨_,rfl,X,rd,r5,n,by omega,rfl,⟨R5',jr5 C5 dpy,hh,by omega,sz⟩,trivial,qz out λss r6 he6 out v6 H6 b6 R6 n6=>?_⟩;obtain ⟨a6,ws,rfl,ha6,lw,hN6⟩:=n6;have m2r:=R5.ne m2
    refine ⟨(by show 1<=2 ^ 24;decide),λl3 m3=>?_⟩;have b06:=b05'.trans b6
    have gr:=xb b06 R6;have hl6:=b6 _ _ (s5 _ _ hl5) mar
    have hl26:H6 l2=some (.lst []):=b6 _ _ jd m2r;have s6:jh H6 (upd H6 l3 (.lst [.ref a6])):=jo m3 _
    have g6:jh (Cut X.T (upd H5 l2 (.lst [])) H6) (Cut X.T H (upd H6 l3 (.lst [.ref a6]))):=(yd b05' R5').trans (xg s6);have gl:=((xx (T:=X.T) Rb ((b5.then s5).trans b6)).trans (xg s6)).trans (wo (T:=X.T) (H:=H) (l:=la) (o:=.lst []))
    exact yq (ls:=.bytes (own.getD [])::List.map x6.bytes _) (ps:=[]) (bs:=[xk ss]) (λb z=>gr b (jk s6 z)) (R6.st.trans s6) (j9 maT maH (s6 _ _ hl6)) (j9 (zd R5.st m2) (xb b05 R5 l2 m2) (s6 _ _ hl26)) (j9 (jk R6.st m3) (gr _ m3) jd) ⟨suy,by decide,(by show 1<=1000;decide)⟩
     (Paired.mapP ply λ_ _ z=>qo.same gl z) ja7 ⟨a6,ws,[],rfl,g6 _ _ ha6,by omega,jj.same g6 _ _ hN6,rfl⟩ λz H9 sm nd=>out _ _ (b06.then (s6.trans sm)) (R6.same (s6.trans sm)) nd
abbrev jc0:PySem.Stmt:=top 42
theorem jna:jv ["reader", "kind"] ["reader"] (ji jc0):=⟨rfl,rfl,rfl,by decide +kernel,rfl,by decide +kernel,by decide +kernel⟩
theorem jtx(Kn:jr K mg "read_simple" ["reader"] jc0)(B:z6 P w K mg base D)(U:jft w K mg)
  (GL:∀ h,Has P w K mg base (xw h 22) "read_listed" ["reader", "closing"] (spR D 12 (N + 1) h [.str "]"] Any (λn=>listed n "]") (jbw D)))
  (GBr:∀ h,Has P w K mg base (xw h 9) "read_bracketed" ["reader"] (spR D 1 (N + 1) h [] (λrs=>jq rs = "(") simple (ql D)))
  (GFn:∀ h,Has P w K mg base (xw h 9) "read_function" ["reader"] (spR D 1 (N + 1) h [] (λrs=>jq rs = "fn") simple (ql D)))
  (GBi:∀ h,Has P w K mg base (xw h 9) "read_built_in" ["reader"] (spR D 1 (N + 1) h [] (λrs=>(vi.lookup (jq rs)).isSome=true) simple (ql D))) (h:Nat) :
  Has P w K mg base (xw h 10) "read_simple" ["reader"] (spR D 1 (N + 1) h [] Any simple (ql D)):=by
 refine zj (r:=9) Kn jna (λ_ _ _ _ q=>q.len) (λ_ _ _ _ q=>q.le) λhh f cdv A outer s H vs Q E hr q=>?_;obtain ⟨X,rd,rs,n,hn,rfl,pre,c0,out⟩:=q;obtain ⟨R,dp,_,fu,sz⟩:=pre;have cl:=B.rd.c.cl
 have nd:=jna.nd;have r3:xu 3 _:=hr.mono (by omega)
 have GL:=GL (h + 1);have GBr:=GBr h
 have GFn:=GFn h;have GBi:=GBi h
 obtain ⟨ua,kvs,mU,dU,vU⟩:=U;obtain ⟨fI,fdI,T⟩:=B.fault;refine ⟨_,(jc (ju (i:=1) nd rfl (Or.inl rfl) (xf B.look cl r3 (pv 0)))
   (jc (qh (js zw (pv 1) (jbq (ja jf (ja jf (ja jf jb)))) rfl) (je (jp (ym B r3 rfl (ja (pv 1) (ja (j3 (ja (qe B.take cl r3 (pv 0) (ja (pv 1) jb)) jb)) (ja (j3 jb) (ja (j3 jb) jb))))))) jy)
   (jc (qh (js zw (pv 1) (jbq (ja jf (ja jf (ja jf jb)))) rfl) (je (jp (ym B r3 rfl (ja (xf B.move cl r3 (pv 0)) (ja (j3 jb) (ja (j3 jb) (ja (j3 jb) jb))))))) jy)
   (jc (qh (js xi (pv 1) jf (j6 _)) (jc (j_ (qe B.take cl r3 (pv 0) (ja jf jb)))
   (je (jp (ym B r3 rfl (ja jf (ja (j3 jb) (ja (jg GL hr rfl (ja (pv 0) (ja jf jb)) (jet hh (by decide))) (ja (j3 jb) jb)))))))) jy)
   (jc (qh (js xi (pv 1) jf (j6 _)) (je (jp (jg GBr hr rfl (ja (pv 0) jb) (xq hh (by decide))))) jy)
   (jc (qh (js xi (pv 1) jf (j6 _)) (je (jp (jg GFn hr rfl (ja (pv 0) jb) (xq hh (by decide))))) jy)
   (jc (qh (js jhh (pv 1) (ve mU rfl) rfl) (je (jp (jg GBi hr rfl (ja (pv 0) jb) (xq hh (by decide))))) jy)
   (je (vz T (r3.mono (by decide)) rfl (ja (qx B.cNo rfl) (ja (xf B.here cl r3 (pv 0)) jb))))))))))),?_⟩
 have w:=R.wfr;have out:Out D X rd H Q E (ql D) (simple n rs):=out
 cases n with
 | zero=>omega
 | succ n =>
  refine zi R ?_;refine ⟨_,rfl,by decide,λp1 np1=>⟨p1,_,rfl,.inr (SqT.of jd),rfl,rfl,_,rfl,?_⟩⟩;have sp1:jh H (upd H p1 (.tup [.str "NUMBER",.str "QUOTED",.str "NAME"])):=jo np1 _
  rw [if_neg Bool.false_ne_true,show inV (.str (jq rs)) [.str "NUMBER",.str "QUOTED",.str "NAME"]=decide (jq rs∈(["NUMBER", "QUOTED", "NAME"]:List Str)) from ja9 _ ["NUMBER", "QUOTED", "NAME"]];generalize upd H p1 (.tup [.str "NUMBER",.str "QUOTED",.str "NAME"])=Ha at sp1;have Ra:=R.same sp1
  have ba:But rd H Ha:=(But.refl rd H).then sp1;refine qb (λc=>?_) (λc1=>?_)
  ·have c:=of_decide_eq_true c;cases rs with
   | nil=>exact absurd c (by decide)
   | cons t r =>
    have c:jx t.lex∈(["NUMBER", "QUOTED", "NAME"]:List Str):=c;have ke:jx t.lex≠"END":=λz=>by rw [z] at c;exact absurd c (by decide)
    have fin:∀ (x:Vanbka.Expr) (lf:x6),jw x = .mk (jx t.lex) [lf] [] []->(∀ v,jd4 X.T t.lex v->qo X.T lf v)->Out D X rd H Q E (ql D) (.ok (x,r))->
      jfw (jmg D.CN (jfy D.CN) [] E (qj (qy 1) (qj (jgw (qj (vd D.CR "take" (jal D.CF D.CT D.CR) [] E (qy 0) (qj (qy 1) xc)) xc)) (qj (jgw xc) (qj (jgw xc) xc))))) { nx:=λ_ H'=>Q .non H',rt:=Q } [some (.ref rd),some (.str (jx t.lex))] Ha:=by
     intro x lf en hl out;refine ⟨_,rfl,zh Ra rfl (λv H1 b1 R1 tv=>?_) ke (λ_ q=>⟨_,rfl,q⟩)⟩;have R1:RDa D X rd H1 r:=R1
     have b01:=ba.trans b1;refine ⟨(by show 1<=2 ^ 24;decide),λl1 m1=>⟨by decide,λl2 m2=>⟨by decide,λl3 m3=>?_⟩⟩⟩;refine jdn (xb b01 R1) R1.st m1 m2 m3 ⟨(by show 1<=1000;decide),by decide,by decide⟩ (.cons (qo.same jbn (hl v tv)) .nil) ja7 zo λz H9 sm nd=>?_;rw [<- en] at nd;exact out _ _ (b01.then sm) (R1.same sm) nd
    have si:=ja2 (n:=n) w;generalize simple (n + 1) (t::r)=res at si out;cases si with
    | num v e k=>exact fin (.num v) (.int v) (by rw [k];rfl) (λu hu=>by rw [e] at hu;exact hu) out
    | quo x e k=>exact fin (.quoted x) (.bytes x) (by rw [k];rfl) (λu hu=>by rw [e] at hu;exact hu) out
    | name x e u k =>
     refine fin (.name x) (.bytes x) (by rw [k];rfl) (λv hu=>?_) out;rw [e] at hu;have hu:(if reserved.contains x then v = .non else ∃ a,v = .ref a/\X.T a=some (.lst (vb x))):=hu
     rw [u,if_neg Bool.false_ne_true] at hu;exact hu
    | yes k=>rw [k] at c;exact absurd c (by decide)
    | no k=>rw [k] at c;exact absurd c (by decide)
    | none k=>rw [k] at c;exact absurd c (by decide)
    | list k=>rw [k] at c;exact absurd c (by decide)
    | brack k=>rw [k] at c;exact absurd c (by decide)
    | fn k=>rw [k] at c;exact absurd c (by decide)
    | prim p m k b l1 l3 =>
     rw [k] at c;exact absurd c (by cases p <;> decide)
    | bad k b =>
     refine absurd ?_ k;simp only [List.mem_cons,List.not_mem_nil,or_false] at c ⊢;rcases c with c | c | c
     ·exact .inl c
     ·exact .inr (.inl c)
     ·exact .inr (.inr (.inl c))
  have c1:¬ jq rs∈(["NUMBER", "QUOTED", "NAME"]:List Str):=λz=>c1 (decide_eq_true z);refine ⟨_,rfl,by decide,λp2 np2=>⟨p2,_,rfl,.inr (SqT.of jd),rfl,rfl,_,rfl,?_⟩⟩;have sp2:jh Ha (upd Ha p2 (.tup [.str "yes",.str "no",.str "none"])):=jo np2 _
  rw [if_neg Bool.false_ne_true,show inV (.str (jq rs)) [.str "yes",.str "no",.str "none"]=decide (jq rs∈(["yes", "no", "none"]:List Str)) from ja9 _ ["yes", "no", "none"]];generalize upd Ha p2 (.tup [.str "yes",.str "no",.str "none"])=Hb at sp2;have Rb:=Ra.same sp2
  have bb:But rd H Hb:=ba.then sp2;refine qb (λc=>?_) (λc2=>?_)
  ·have c:=of_decide_eq_true c;cases rs with
   | nil=>exact absurd c (by decide)
   | cons t r =>
    have c:jx t.lex∈(["yes", "no", "none"]:List Str):=c;have fin:∀ (x:Vanbka.Expr),jw x = .mk (jx t.lex) [] [] []->Out D X rd H Q E (ql D) (.ok (x,r))->
      jfw (jmg D.CN (jfy D.CN) [] E (qj (vd D.CR "move_on" (jg0 D.CT D.CR) [] E (qy 0) xc) (qj (jgw xc) (qj (jgw xc) (qj (jgw xc) xc))))) { nx:=λ_ H'=>Q .non H',rt:=Q } [some (.ref rd),some (.str (jx t.lex))] Hb:=by
     intro x en out;refine jfm Rb λH1 b1 R1=>?_;have b01:=bb.trans b1
     refine ⟨by decide,λl1 m1=>⟨by decide,λl2 m2=>⟨by decide,λl3 m3=>?_⟩⟩⟩;refine jdn (xb b01 R1) R1.st m1 m2 m3 ⟨by decide,by decide,by decide⟩ .nil ja7 zo λz H9 sm nd=>?_;rw [<- en] at nd;exact out _ _ (b01.then sm) (R1.same sm) nd
    have si:=ja2 (n:=n) w;generalize simple (n + 1) (t::r)=res at si out;cases si with
    | num v e k=>rw [k] at c;exact absurd c (by decide)
    | quo x e k=>rw [k] at c;exact absurd c (by decide)
    | name x e u k=>rw [k] at c;exact absurd c (by decide)
    | yes k=>exact fin (.truth true) (by rw [k];rfl) out
    | no k=>exact fin (.truth false) (by rw [k];rfl) out
    | none k=>exact fin .nothing (by rw [k];rfl) out
    | list k=>rw [k] at c;exact absurd c (by decide)
    | brack k=>rw [k] at c;exact absurd c (by decide)
    | fn k=>rw [k] at c;exact absurd c (by decide)
    | prim p m k b l1 l3 =>
     rw [k] at c;exact absurd c (by cases p <;> decide)
    | bad k b =>
     refine absurd ?_ k;simp only [List.mem_cons,List.not_mem_nil,or_false] at c ⊢;rcases c with c | c | c
     ·exact .inr (.inr (.inr (.inl c)))
     ·exact .inr (.inr (.inr (.inr (.inl c))))
     ·exact .inr (.inr (.inr (.inr (.inr (.inl c)))))
  have c2:¬ jq rs∈(["yes", "no", "none"]:List Str):=λz=>c2 (decide_eq_true z);refine ⟨_,rfl,rfl,_,rfl,qb (λc=>?_) (λc3=>?_)⟩
  ·have c:=wg c;obtain ⟨t,r,e1,e2,hk⟩:=yr c (by decide);subst e1;have lr:(t::r).length=r.length + 1:=rfl
   have op:next (isSign "[") (t::r)=true:=by rw [jkz w];exact decide_eq_true c
   have C1:Cell.Con (t::r) r 1 1:=Cell.xy op;have h24:h < 24:=by
    have:=Cell.jb6 (t:=t) (r:=r) (jd8 op (by decide +kernel)) dp;omega
   have out:Out D X rd H Q E (ql D) (listed n "]" r >>= λq=>pure (.list q.1,q.2)):=by rw [<- jou w hk];exact out
   refine zh Rb c λ_ H1 b1 R1 _=>?_;have R1:RDa D X rd H1 r:=R1
   have b01:=bb.trans b1;refine ⟨by decide,λl1 m1=>?_⟩;have s1:jh H1 (upd H1 l1 (.lst [])):=jo m1 _
   have b02:=b01.then s1;refine ⟨_,rfl,X,rd,r,n,by omega,rfl,⟨R1.same s1,dp1 C1 dp,by omega,by omega,sz⟩,trivial,qz out λl r3 he out v H3 b3 R3 n3=>?_⟩;obtain ⟨a,vs,rfl,ha,lv,hN⟩:=n3;refine ⟨by decide,λl3 m3=>?_⟩;have b03:=b02.trans b3
   have gr:=xb b03 R3;have s3:jh H3 (upd H3 l3 (.lst [])):=jo m3 _
   have g3:jh (Cut X.T (upd H1 l1 (.lst [])) H3) (Cut X.T H (upd H3 l3 (.lst []))):=(yd b02 (R1.same s1)).trans (xg s3);exact yq (ls:=[]) (ps:=y9 l) (bs:=[]) (λb z=>gr b (jk s3 z)) (R3.st.trans s3) (j9 (zd R1.st m1) (xb b01 R1 l1 m1) (s3 _ _ (b3 _ _ jd (R1.ne m1)))) (g3 _ _ ha) (j9 (jk R3.st m3) (gr _ m3) jd) ⟨by decide,by omega,by decide⟩ .nil (jj.same g3 _ _ hN) zo λz H9 sm nd=>out _ _ (b03.then (s3.trans sm)) (R3.same (s3.trans sm)) nd
  have c3:=w6 c3;refine ⟨_,rfl,rfl,_,rfl,qb (λc=>?_) (λc4=>?_)⟩
  ·exact ⟨_,rfl,X,rd,rs,n + 1,hn,rfl,⟨Rb,dp,hh,fu,sz⟩,wg c,jgc bb Rb out⟩
  have c4:=w6 c4;refine ⟨_,rfl,rfl,_,rfl,qb (λc=>?_) (λc5=>?_)⟩
  ·exact ⟨_,rfl,X,rd,rs,n + 1,hn,rfl,⟨Rb,dp,hh,fu,sz⟩,wg c,jgc bb Rb out⟩
  have c5:=w6 c5;refine ⟨_,rfl,ua,kvs,.inr (jq rs),rfl,dU,rfl,_,rfl,?_⟩;rw [if_neg Bool.false_ne_true,vU,Option.isSome_map];refine qb (λc=>?_) (λc6=>?_)
  ·exact ⟨_,rfl,X,rd,rs,n + 1,hn,rfl,⟨Rb,dp,hh,fu,sz⟩,c,jgc bb Rb out⟩
  have c6:vi.lookup (jq rs)=none:=by
   cases hx:vi.lookup (jq rs) with
   | none=>rfl
   | some m=>rw [hx] at c6;exact absurd rfl c6
  have out:Out D X rd H Q E (ql D) (halt_ rs):=by
   cases rs with
   | nil =>
    have e:simple (n + 1) []=halt_ []:=by rw [simple]
    rw [e] at out;exact out
   | cons t r =>
    have si:=ja2 (n:=n) w;generalize simple (n + 1) (t::r)=res at si out;cases si with
    | num v e k=>exact absurd (show jq (t::r)∈_ by show jx t.lex∈_;rw [k];decide) c1
    | quo x e k=>exact absurd (show jq (t::r)∈_ by show jx t.lex∈_;rw [k];decide) c1
    | name x e u k=>exact absurd (show jq (t::r)∈_ by show jx t.lex∈_;rw [k];decide) c1
    | yes k=>exact absurd (show jq (t::r)∈_ by show jx t.lex∈_;rw [k];decide) c2
    | no k=>exact absurd (show jq (t::r)∈_ by show jx t.lex∈_;rw [k];decide) c2
    | none k=>exact absurd (show jq (t::r)∈_ by show jx t.lex∈_;rw [k];decide) c2
    | list k=>exact absurd k c3
    | brack k=>exact absurd k c4
    | fn k=>exact absurd k c5
    | prim p m k b l1 l3=>rw [show vi.lookup (jx t.lex)=none from c6] at b;cases b
    | bad k b=>exact out
  exact jjx Rb (yx out)
abbrev jay:PySem.Stmt:=top 23
abbrev jdv:PySem.Stmt:=top 24
abbrev jbi:PySem.Stmt:=top 25
abbrev jcb:PySem.Stmt:=top 26
abbrev jb9:PySem.Stmt:=top 27
theorem jus{ts r:qc}{z:Int}{m:Nat}(c:Cell.Con ts r z m)(w:WfL ts):WfL r:=by
 obtain ⟨p,rfl,_,_⟩:=c;exact λt ht=>w t (List.mem_append_right _ ht)
def jb1:List Vanbka.Stmt->Stmts->Stmts
 | [],m=>m
 | e::l,m=>.cons e (jb1 l m)
theorem juy(l:List Vanbka.Stmt)(e:Vanbka.Stmt)(m:Stmts):jb1 (l ++ [e]) m=jb1 l (.cons e m):=by
 induction l with
 | nil=>rfl
 | cons x l ih=>exact congrArg (Stmts.cons x) ih
theorem jrh(l:List Vanbka.Stmt):xk (jb1 l .nil)=l.map x_:=by
 induction l with
 | nil=>rfl
 | cons x l ih=>show x_ x::_=x_ x::_;rw [ih]
def jdr:List Str:=["show", "table", "plot", "check", "do", "give"]
def jqf:Lex->Option Way
 | .word w=>if reserved.contains w then Vanbka.wayOf w else none
 | _=>none
def jfb(z:Str):Option Way->Bool
 | some x=>decide (z∈jdr) && decide (z=jkj x)
 | none=>decide (¬ z∈jdr)
theorem jsk:∀ l∈jac,jfb (jx l) (jqf l)=true:=by decide +kernel
theorem jih{ts:qc}(w:WfL ts):jfb (jq ts) ((wordNext ts).bind Vanbka.wayOf)=true:=by
 cases ts with
 | nil=>decide
 | cons t r =>
  obtain ⟨l,p,k⟩:=t;have wl:Wf l:=w _ (.head _)
  have e2:(wordNext (⟨l,p,k⟩::r)).bind Vanbka.wayOf=jqf l:=by
   cases l with
   | word x =>
    show (if reserved.contains x then some x else none).bind Vanbka.wayOf=if reserved.contains x then Vanbka.wayOf x else none
    cases reserved.contains x <;> rfl
   | _=>rfl
  rw [e2];show jfb (jx l) (jqf l)=true
  rcases wz wl with hf | ⟨x,rfl,u⟩ | ⟨v,rfl⟩ | ⟨x,rfl⟩
  ·exact jsk l hf
  ·rw [zn u];have:jqf (.word x)=none:=by show (if reserved.contains x then _ else none)=none;rw [u];rfl
   rw [this];decide
  ·show jfb "NUMBER" none=true;decide
  ·show jfb "QUOTED" none=true;decide
theorem jpy:jv ["reader", "statements"] ["reader"] (ji jdv):=⟨rfl,rfl,rfl,by decide +kernel,rfl,by decide +kernel,by decide +kernel⟩
theorem jwc(Kn:jr K mg "read_block" ["reader"] jdv)(B:z6 P w K mg base D)(I:z9 P w K mg base D N)(h:Nat) :
  Has P w K mg base (xw h 8) "read_block" ["reader"] (spR D 1 (N + 1) h [] Any block (yw D)):=by
 refine zj (r:=7) Kn jpy (λ_ _ _ _ q=>q.len) (λ_ _ _ _ q=>q.le) λhh f cdv A outer s H vs Q E hr q=>?_;obtain ⟨X,rd,rs,n,hn,rfl,pre,c0,out⟩:=q;obtain ⟨R,dp,_,fu,sz⟩:=pre;have cl:=B.rd.c.cl
 have nd:=jpy.nd;have r3:xu 3 _:=hr.mono (by omega)
 have GS:=I.stmts (h + 1) "}" (.inr rfl);refine ⟨_,(jc (j_ (qe B.take cl r3 (pv 0) (ja jf jb)))
   (jc (ju (i:=1) nd rfl (Or.inl rfl) (jg GS hr rfl (ja (pv 0) (ja jf jb)) (jet hh (by decide))))
   (jc (j_ (qe B.take cl r3 (pv 0) (ja jf jb)))
   (je (jp (pv 1)))))),?_⟩
 cases n with
 | zero=>omega
 | succ n =>
  rw [block] at out;refine yz R (j2n R.wfr) (x8 out λr1 he1 out _ H1 b1 R1=>?_);have op:next (isSign "{") rs=true:=by
   unfold eat at he1;split at he1
   ·assumption
   ·cases he1
  have C1:Cell.Con rs r1 1 1:=vg (by rw [<- Cell.jxb];exact Cell.qr) he1;have lC1:=C1.len
  have h24:h < 24:=by
   obtain ⟨t',r',e',_,_⟩:=Cell.jb5 op;rw [e'] at op dp;have:=Cell.jb6 (jd8 op (by decide +kernel)) dp
   omega
  have out:Out D X rd H Q E (yw D) (vv "}" n r1 >>= λp=>eat (isSign "}") p.2 >>= λr=>pure (p.1,r)):=by
   unfold vv;cases hs:statements n r1 with
   | error l=>rw [hs] at out;exact out
   | ok p =>
    obtain ⟨ss,r2⟩:=p;rw [hs] at out;have w2:=jus (yk ((Cell.w8 n).statements r1) hs) R1.wfr
    have out:Out D X rd H Q E (yw D) (eat (isSign "}") r2 >>= λr=>pure (ss,r)):=out;show Out D X rd H Q E (yw D) ((if jq r2 = "}" then pure (ss,r2) else halt_ r2) >>= λp=>eat (isSign "}") p.2 >>= λr=>pure (p.1,r))
    by_cases c:jq r2 = "}"
    ·rw [if_pos c];exact out
    ·rw [if_neg c];unfold eat at out;rw [jrf w2,decide_eq_false c,if_neg Bool.false_ne_true] at out;exact out
  refine ⟨_,rfl,X,rd,r1,n,by omega,rfl,⟨R1,dp1 C1 dp,by omega,by omega,sz⟩,trivial,qz out λss r2 he2 out v H2 b2 R2 n2=>?_⟩;refine yz R2 (jrf R2.wfr) (x8 out λr3 he3 out _ H3 b3 R3=>?_);obtain ⟨a,vs,rfl,ha,lv,hN⟩:=n2;have g:jh (Cut X.T H1 H2) (Cut X.T H H3):=(yd b1 R1).trans (xx R b3)
  exact ⟨_,rfl,out _ _ ((b1.trans b2).trans b3) R3 ⟨a,vs,rfl,g _ _ ha,lv,jj.same g _ _ hN⟩⟩
theorem jsy{n:Nat}{r:qc}(w:WfL r)(c:jq r = "END"\/jq r = "}"):statement (n + 1) r=halt_ r:=by
 have hw:(wordNext r).bind Vanbka.wayOf=none:=by
  have:=jih w;cases hx:(wordNext r).bind Vanbka.wayOf with
  | none=>rfl
  | some x =>
   rw [hx] at this;have z:jq r∈jdr:=of_decide_eq_true (Bool.and_eq_true_iff.mp this).1
   rcases c with c | c <;> rw [c] at z <;> exact absurd z (by decide)
 rw [statement];dsimp only;rw [jbs w,jbr w,jd0 w,jah w,jce w,wv w,ww w,hw];rcases c with c | c <;> rw [c] <;> rfl
theorem jjd{n:Nat}{r:qc}(w:WfL r)(c:jq r = "END"\/jq r = "}"):statements (n + 1) r = .ok (.nil,r):=by
 rw [statements,jrf w];cases r with
 | nil=>rfl
 | cons t r =>
  rcases c with c | c
  ·exact absurd c (jjz (w t (.head _)))
  ·rw [decide_eq_true c];rfl
theorem ju_{n:Nat}{r:qc}(w:WfL r)(c1:jq r≠"END")(c2:jq r≠"}"):statements (n + 1) r=statement n r >>= λp=>statements n p.2 >>= λq=>pure (.cons p.1 q.1,q.2):=by
 rw [statements,jrf w,decide_eq_false c2];cases r with
 | nil=>exact absurd rfl c1
 | cons t r=>rfl
theorem jpq:jv ["reader", "closing", "statements", "place", "statement"] ["reader", "closing"] (ji jay):=⟨rfl,rfl,rfl,by decide +kernel,rfl,by decide +kernel,by decide +kernel⟩
theorem jv2{z:Str}(hz:z = "END"\/z = "}")(Kn:jr K mg "read_statements" ["reader", "closing"] jay)(B:z6 P w K mg base D)(I:z9 P w K mg base D N)(h:Nat) :
  Has P w K mg base (xw h 24) "read_statements" ["reader", "closing"] (spR D 2 (N + 1) h [.str z] Any (vv z) (yw D)):=by
 refine zj (r:=23) Kn jpq (λ_ _ _ _ q=>q.len) (λ_ _ _ _ q=>q.le) λhh f cdv A outer s H vs Q E hr q=>?_;obtain ⟨X,rd,rs,n,hn,rfl,pre,c0,out⟩:=q;obtain ⟨R,dp,_,fu,sz⟩:=pre;have cl:=B.rd.c.cl
 have nd:=jpq.nd;have r3:xu 3 _:=hr.mono (by omega)
 have G:=I.stmt h;obtain ⟨_,_,TN,_⟩:=B.tree;refine ⟨_,(jc (ju (i:=2) nd rfl (Or.inl rfl) (j3 jb))
   (jc (vh jag (js jdw (xf B.look cl r3 (pv 0)) (pv 1) (j6 _))
    (jc (ju (i:=3) nd rfl (Or.inl rfl) (xf B.here cl r3 (pv 0)))
    (jc (ju (i:=4) nd rfl (Or.inl rfl) (jg G hr rfl (ja (pv 0) jb) (xq hh (by decide))))
    (jc (vy (pv 4) (pv 3) rfl)
    (jc (vy (pv 4) (xf B.last cl r3 (pv 0)) rfl)
    (je (j_ (vk PySem.F.plainAttrs_list PySem.F.slot_list_append PySem.F.type_list_append zg (pv 2) (ja (pv 4) jb)))))))))
   (je (jp (pv 2))))),?_⟩
 refine ⟨by decide,λl ml=>?_⟩;have mlT:=zd R.st ml
 have mlr:=R.ne ml;have R1:RDa D X rd (upd H l (.lst [])) rs:=R.same (jo ml _)
 have hal:=R.len;refine ⟨λm σ H'=>∃ (g:Nat) (r:qc) (done:List Vanbka.Stmt) (vs:List V) (v3 v4:Option V),σ=[some (.ref rd),some (.str z),some (.ref l),v3,v4]/\But rd H H'/\RDa D X rd H' r/\tooDeepAt (h:Int) r=none/\16 * r.length + 2<=g/\g<=N + 1/\m=r.length/\H' l=some (.lst vs)/\jj D.CN (Cut X.T (upd H l (.lst [])) H') (done.map x_) vs/\vs.length + r.length<=X.all.length/\
   Out D X rd H Q E (yw D) (vv z g r >>= λp=>pure (jb1 done p.1,p.2)),
  ⟨_,n,rs,[],[],none,none,rfl,(But.refl rd H).then (jo ml _),R1,dp,fu,hn,rfl,jd,ja7,by simpa using hal,?_⟩,?_⟩
 ·have out:Out D X rd H Q E (yw D) (vv z n rs):=out;cases hs:vv z n rs with
  | error l=>rw [hs] at out;exact out
  | ok p=>rw [hs] at out;exact out
 rintro m σ H' ⟨g,r,done,vs,v3,v4,rfl,bt,R',dp',fg,gN,rfl,hl,hN,hsz,out⟩;have w':=R'.wfr
 cases g with
 | zero=>omega
 | succ g =>
  refine zi R' ⟨_,rfl,rfl,_,rfl,qb (λc=>?_) (λc=>?_)⟩
  ·have c:=jmz c;refine ⟨λσ H'=>∃ m,m < r.length/\∃ (g:Nat) (r:qc) (done:List Vanbka.Stmt) (vs:List V) (v3 v4:Option V),σ=[some (.ref rd),some (.str z),some (.ref l),v3,v4]/\But rd H H'/\RDa D X rd H' r/\tooDeepAt (h:Int) r=none/\16 * r.length + 2<=g/\g<=N + 1/\m=r.length/\H' l=some (.lst vs)/\jj D.CN (Cut X.T (upd H l (.lst [])) H') (done.map x_) vs/\vs.length + r.length<=X.all.length/\
    Out D X rd H Q E (yw D) (vv z g r >>= λp=>pure (jb1 done p.1,p.2)),λ_ _ z=>z,?_⟩
   have out:Out D X rd H Q E (yw D) (statement g r >>= λp=>vv z g p.2 >>= λq=>pure (jb1 (done ++ [p.1]) q.1,q.2)):=by
    by_cases ce:jq r = "END"\/jq r = "}"
    ·unfold vv at out;rw [jjd w' ce] at out;cases g with
     | zero=>omega
     | succ g =>
      rw [jsy w' ce];have out:Out D X rd H Q E (yw D) ((if jq r=z then pure (Stmts.nil,r) else halt_ r) >>= λp=>pure (jb1 done p.1,p.2)):=out
      rw [if_neg c] at out;exact out
    ·have ce:=not_or.mp ce;unfold vv at out;rw [ju_ w' ce.1 ce.2] at out;cases h1:statement g r with
     | error l=>rw [h1] at out;exact out
     | ok p =>
      obtain ⟨st,r2⟩:=p;rw [h1] at out;show Out D X rd H Q E (yw D) (vv z g r2 >>= λq=>pure (jb1 (done ++ [st]) q.1,q.2))
      unfold vv;have out:Out D X rd H Q E (yw D) (((statements g r2 >>= λq=>pure (.cons st q.1,q.2)) >>= λp=>if jq p.2=z then pure (p.1,p.2) else halt_ p.2) >>= λp=>pure (jb1 done p.1,p.2)):=out
      cases h2:statements g r2 with
      | error l=>rw [h2] at out;exact out
      | ok q =>
       obtain ⟨sl,r3⟩:=q;rw [h2] at out;have out:Out D X rd H Q E (yw D) ((if jq r3=z then pure (Stmts.cons st sl,r3) else halt_ r3) >>= λp=>pure (jb1 done p.1,p.2)):=out
       show Out D X rd H Q E (yw D) ((if jq r3=z then pure (sl,r3) else halt_ r3) >>= λq=>pure (jb1 (done ++ [st]) q.1,q.2));by_cases cz:jq r3=z
       ·rw [if_pos cz] at out ⊢;show Out D X rd H Q E (yw D) (.ok (jb1 (done ++ [st]) sl,r3))
        rw [juy];exact out
       ·rw [if_neg cz] at out ⊢;exact out
   refine jjx R' ⟨_,rfl,X,rd,r,g,by omega,rfl,⟨R',dp',hh,by omega,sz⟩,trivial,qz out λst r2 he out v H2 b2 R2 n2=>?_⟩;have C2:=yk ((Cell.w8 g).statement r) he
   have lC2:=C2.len;obtain ⟨x,dx,k,a1,a2,a3,d,rfl,xT,xH',x2,nn⟩:=j0d n2;have xH:=xb bt R' x xH'
   have xr:=R'.ne xH';have xl:x≠l:=λy=>by rw [y,hl] at xH';cases xH'
   obtain ⟨pp,pt,ea⟩:=R'.front R2 (by omega);refine ⟨_,rfl,_,rfl,x,D.CN,dx.d,_,rfl,x2,TN.c.cl,TN.c.no _ (by decide),(by show 7 < 1000;decide),?_⟩;refine j0u (R2.updn xT xr) ea ⟨_,rfl,x,D.CN,dx.d,_,rfl,jd,TN.c.cl,TN.c.no _ (by decide),(by show 7 < 1000;decide),?_⟩;rw [jb2];have n3:=nn (.int (placeAt X.all X.len r.length:Nat)) (.int ((pt.place + pt.len:Nat):Int))
   have b3:But rd H' (upd H2 x (.ins D.CN dx.d (jeo k a1 a2 a3 ⟨dx.d,.int (placeAt X.all X.len r.length:Nat),.int ((pt.place + pt.len:Nat):Int)⟩ d))):=b2.updn xH';have R3:RDa D X rd (upd H2 x (.ins D.CN dx.d (jeo k a1 a2 a3 ⟨dx.d,.int (placeAt X.all X.len r.length:Nat),.int ((pt.place + pt.len:Nat):Int)⟩ d))) r2:=R2.updn xT xr
   have hl3:=b3 _ _ hl mlr;refine ⟨_,rfl,.inl ⟨rfl,_,SqL.of hl3⟩,_,rfl,l,_,_,rfl,rfl,hl3,(by show vs.length < 2 ^ 24;omega),r2.length,by omega,g,r2,done ++ [st],vs ++ [.ref x],_,_,rfl,(bt.trans b3).updn ml,R3.updn mlT mlr,dp0 C2 dp',by omega,by omega,rfl,jd,?_,by rw [List.length_append,List.length_singleton];omega,out⟩;rw [List.map_append];exact jj.snoc (jz.same (jb7 bt R' hl) _ _ n3) _ _ (jj.same (jeb R1 jd b3) _ _ hN)
  ·have c:=jm0 c;have ce:jq r = "END"\/jq r = "}":=by rw [c];exact hz
   unfold vv at out;rw [jjd w' ce] at out;have out:Out D X rd H Q E (yw D) ((if jq r=z then pure (Stmts.nil,r) else halt_ r) >>= λp=>pure (jb1 done p.1,p.2)):=out
   rw [if_pos c] at out;have out:Out D X rd H Q E (yw D) (.ok (jb1 done .nil,r)):=out
   refine ⟨_,rfl,out _ _ bt R' ⟨l,vs,rfl,j9 mlT ml hl,by omega,?_⟩⟩;rw [jrh];exact jj.same wo _ _ hN
theorem jth:jv ["reader", "kind", "name", "value"] ["reader"] (ji jcb):=⟨rfl,rfl,rfl,by decide +kernel,rfl,by decide +kernel,by decide +kernel⟩
theorem jyx(Kn:jr K mg "read_binding" ["reader"] jcb)(B:z6 P w K mg base D)(I:z9 P w K mg base D N)(h:Nat) :
  Has P w K mg base (xw h 22) "read_binding" ["reader"] (spR D 1 (N + 1) h [] (λrs=>jq rs∈(["let", "set"]:List Str)) statement (yi D)):=by
 refine zj (r:=21) Kn jth (λ_ _ _ _ q=>q.len) (λ_ _ _ _ q=>q.le) λhh f cdv A outer s H vs Q E hr q=>?_;obtain ⟨X,rd,rs,n,hn,rfl,pre,c0,out⟩:=q;obtain ⟨R,dp,_,fu,sz⟩:=pre;have cl:=B.rd.c.cl
 have nd:=jth.nd;have r3:xu 3 _:=hr.mono (by omega)
 have GE:=I.expr h;refine ⟨_,(jc (ju (i:=1) nd rfl (Or.inl rfl) (xf B.move cl r3 (pv 0)))
   (jc (ju (i:=2) nd rfl (Or.inl rfl) (qe B.take cl r3 (pv 0) (ja jf jb)))
   (jc (j_ (qe B.take cl r3 (pv 0) (ja jf jb)))
   (jc (ju (i:=3) nd rfl (Or.inl rfl) (jg GE hr rfl (ja (pv 0) jb) (xq hh (by decide))))
   (jc (j_ (qe B.take cl r3 (pv 0) (ja jf jb)))
   (je (jp (ym B r3 rfl (ja (pv 1) (ja (j3 (ja (pv 2) jb)) (ja (j3 (ja (pv 3) jb)) (ja (j3 jb) jb)))))))))))),?_⟩
 have w:=R.wfr;cases n with
 | zero=>omega
 | succ n =>
  cases rs with
  | nil=>exact absurd c0 (by decide)
  | cons t r =>
   have lr:(t::r).length=r.length + 1:=rfl;have c0:jx t.lex∈(["let", "set"]:List Str):=c0
   obtain ⟨mk,emk,C1,out⟩:∃ mk:Bytes->Vanbka.Expr->Vanbka.Stmt,(∀ x e,x_ (mk x e) = .mk (jx t.lex) [.bytes x] [jw e] [])/\Cell.Con (t::r) r 0 1/\Out D X rd H Q E (yi D) (Vanbka.name r >>= λp=>eat (isSign "=") p.2 >>= λr=>Vanbka.expr n r >>= λq=>eat (isSign ";") q.2 >>= λr=>pure (mk p.1 q.1,r)):=by
    rw [statement,jbs w,jbr w] at out;simp only [List.mem_cons,List.not_mem_nil,or_false] at c0;rcases c0 with c | c
    ·rw [show decide (jq (t::r) = "let")=true from decide_eq_true c,if_pos rfl] at out;exact ⟨.leta,λx e=>by rw [c];rfl,Cell.yg (s := "let") (by rw [jbs w];exact decide_eq_true c),out⟩
    ·rw [show decide (jq (t::r) = "let")=false by show decide (jx t.lex = "let")=false;rw [c];decide,if_neg Bool.false_ne_true,show decide (jq (t::r) = "set")=true from decide_eq_true c,if_pos rfl] at out;exact ⟨.seta,λx e=>by rw [c];rfl,Cell.yg (s := "set") (by rw [jbr w];exact decide_eq_true c),out⟩
   refine jfm R λH1 b1 R1=>?_;refine jcg R1 (jbm out λx r2 he2 out v H2 b2 R2 lf=>?_);have C2:=yk Cell.y8 he2
   have lC2:=C2.len;refine yz R2 (jwf R2.wfr) (x8 out λr3 he3 out _ H3 b3 R3=>?_);have C3:=vg Cell.qr he3
   have lC3:=C3.len;have b03:=(b1.trans b2).trans b3
   refine ⟨_,rfl,X,rd,r3,n,by omega,rfl,⟨R3,dp0 C3 (dp0 C2 (dp0 C1 dp)),hh,by omega,sz⟩,trivial,qz out λe r4 he4 out v4 H4 b4 R4 n4=>?_⟩;refine yz R4 (jjt R4.wfr) (x8 out λr5 he5 out _ H5 b5 R5=>?_);have b05:=(b03.trans b4).trans b5
   have g4:jh (Cut X.T H3 H4) (Cut X.T H H5):=(yd b03 R3).trans (xx R b5);refine ⟨_,rfl,_,rfl,(by show 1<=2 ^ 24;decide),λl1 m1=>⟨_,rfl,(by show 1<=2 ^ 24;decide),λl2 m2=>⟨by decide,λl3 m3=>?_⟩⟩⟩;refine jdn (xb b05 R5) R5.st m1 m2 m3 ⟨(by show 1<=1000;decide),(by show 1<=1000;decide),by decide⟩ (.cons (qo.same jbn lf) .nil) (v9 (jz.same g4 _ _ n4)) zo λz H9 sm nd=>?_;rw [<- emk] at nd;exact out _ _ (b05.then sm) (R5.same sm) nd
theorem jta:jv ["reader", "kind", "value"] ["reader"] (ji jb9):=⟨rfl,rfl,rfl,by decide +kernel,rfl,by decide +kernel,by decide +kernel⟩
theorem jym(Kn:jr K mg "read_showing" ["reader"] jb9)(B:z6 P w K mg base D)(I:z9 P w K mg base D N)(h:Nat) :
  Has P w K mg base (xw h 22) "read_showing" ["reader"] (spR D 1 (N + 1) h [] (λrs=>jq rs∈jdr) statement (yi D)):=by
 refine zj (r:=21) Kn jta (λ_ _ _ _ q=>q.len) (λ_ _ _ _ q=>q.le) λhh f cdv A outer s H vs Q E hr q=>?_;obtain ⟨X,rd,rs,n,hn,rfl,pre,c0,out⟩:=q;obtain ⟨R,dp,_,fu,sz⟩:=pre;have cl:=B.rd.c.cl
 have nd:=jta.nd;have r3:xu 3 _:=hr.mono (by omega)
 have GE:=I.expr h;refine ⟨_,(jc (ju (i:=1) nd rfl (Or.inl rfl) (xf B.move cl r3 (pv 0)))
   (jc (ju (i:=2) nd rfl (Or.inl rfl) (jg GE hr rfl (ja (pv 0) jb) (xq hh (by decide))))
   (jc (j_ (qe B.take cl r3 (pv 0) (ja jf jb)))
   (je (jp (ym B r3 rfl (ja (pv 1) (ja (j3 jb) (ja (j3 (ja (pv 2) jb)) (ja (j3 jb) jb)))))))))),?_⟩
 have w:=R.wfr;cases n with
 | zero=>omega
 | succ n =>
  cases rs with
  | nil=>exact absurd c0 (by decide)
  | cons t r =>
   have lr:(t::r).length=r.length + 1:=rfl;have wn:=jih w
   cases hw:(wordNext (t::r)).bind Vanbka.wayOf with
   | none =>
    rw [hw] at wn;exact absurd c0 (of_decide_eq_true wn)
   | some wy =>
    rw [hw] at wn;have ek:jx t.lex=jkj wy:=of_decide_eq_true (Bool.and_eq_true_iff.mp wn).2
    have C1:Cell.Con (t::r) r 0 1:=by
     have:=Cell.Con.one t r;have z:Cell.bw t=0:=by
      cases hl:t.lex with
      | word x=>exact Cell.jcu hl
      | _ =>
       obtain ⟨l,p,k⟩:=t;have hl:l=_:=hl
       subst hl;cases hw
     rw [z] at this;exact this
    have out:Out D X rd H Q E (yi D) (Vanbka.expr n r >>= λq=>eat (isSign ";") q.2 >>= λr=>pure (.way wy q.1,r)):=by
     rw [statement,jbs w,jbr w,jd0 w,jah w,jce w,wv w,ww w,hw] at out;have hk:jq (t::r)=jkj wy:=ek
     rw [hk] at out;cases wy <;> exact out
    refine jfm R λH1 b1 R1=>?_;refine ⟨_,rfl,X,rd,r,n,by omega,rfl,⟨R1,dp0 C1 dp,hh,by omega,sz⟩,trivial,qz out λe r4 he4 out v4 H4 b4 R4 n4=>?_⟩;refine yz R4 (jjt R4.wfr) (x8 out λr5 he5 out _ H5 b5 R5=>?_);have b05:=(b1.trans b4).trans b5
    have g4:jh (Cut X.T H1 H4) (Cut X.T H H5):=(yd b1 R1).trans (xx R b5);refine ⟨_,rfl,by decide,λl1 m1=>⟨_,rfl,(by show 1<=2 ^ 24;decide),λl2 m2=>⟨by decide,λl3 m3=>?_⟩⟩⟩;refine jdn (xb b05 R5) R5.st m1 m2 m3 ⟨by decide,(by show 1<=1000;decide),by decide⟩ .nil (v9 (jz.same g4 _ _ n4)) zo λz H9 sm nd=>?_;rw [ek] at nd;exact out _ _ (b05.then sm) (R5.same sm) nd
abbrev jhz:PySem.Stmt:=top 28
abbrev jdt:PySem.Stmt:=top 29
abbrev jf5:PySem.Stmt:=top 30
theorem jo0{X:Tx}{rd l:Addr}{H2 H3:Hp}{r:qc}(b3:But rd H2 H3)(R2:RDa D X rd H2 r)(ne:l≠rd)(n:H3 l=none):H2 l=none:=by
 cases e:H2 l with
 | none=>rfl
 | some o=>rw [b3 _ _ e ne] at n;cases n
theorem jon{CN a:Addr}{H:Hp}{ws:List V}{l:List j5}(h:H a=some (.lst ws))(lw:ws.length<=700)(hN:jj CN H l ws):qu CN H [l] [.ref a]:=⟨a,ws,[],rfl,h,by omega,hN,rfl⟩
theorem jmq{X:Tx}{rd l1 l2 l3 a:Addr}{H H1 H3:Hp}{r' r r0:qc}{Q:Addr->Hp->Prop}{E:XK}{k:Str}{vls vps ws:List V}{ls:List x6}{ps:List j5}{ss:List j5}(b1:But rd H H1)(R1:RDa D X rd H1 r')(R:RDa D X rd H r0)(m1:H1 l1=none)(m2:upd H1 l1 (.lst vls) l2=none)
  (hl:Paired (qo X.T) ls vls) (hp:jj D.CN (Cut X.T H H1) ps vps) (sz:vls.length<=1000/\vps.length<=1000)
  (b3:But rd (upd (upd H1 l1 (.lst vls)) l2 (.lst vps)) H3) (R3:RDa D X rd H3 r) (ha:Cut X.T (upd (upd H1 l1 (.lst vls)) l2 (.lst vps)) H3 a=some (.lst ws)) (lw:ws.length<=700) (hN:jj D.CN (Cut X.T (upd (upd H1 l1 (.lst vls)) l2 (.lst vps)) H3) ss ws)
  (m3:H3 l3=none) (q:∀ z H9,But rd H H9->RDa D X rd H9 r->jz D.CN (Cut X.T H H9) (.mk k ls ps [ss]) (.ref z)->Q z H9) :
  ∀ z dx,upd H3 l3 (.lst [.ref a]) z=none->upd H3 l3 (.lst [.ref a]) dx=none->dx≠z->
   jfy D.CN [.ref z,.str k,.ref l1,.ref l2,.ref l3] (upd (upd (upd H3 l3 (.lst [.ref a])) dx (.own z)) z (.ins D.CN dx [])) (λv H2=>v = .non/\Q z H2) E:=by
 have s1:jh H1 (upd H1 l1 (.lst vls)):=jo m1 _;have s2:jh (upd H1 l1 (.lst vls)) (upd (upd H1 l1 (.lst vls)) l2 (.lst vps)):=jo m2 _
 have R2:=R1.same (s1.trans s2);have b2:=b1.then (s1.trans s2)
 have b03:=b2.trans b3;have gr:=xb b03 R3
 have s3:jh H3 (upd H3 l3 (.lst [.ref a])):=jo m3 _;have m1r:=R1.ne m1
 have m2r:=(R1.same s1).ne m2;have g:jh (Cut X.T (upd (upd H1 l1 (.lst vls)) l2 (.lst vps)) H3) (Cut X.T H (upd H3 l3 (.lst [.ref a]))):=(yd b2 R2).trans (xg s3)
 have gp:jh (Cut X.T H H1) (Cut X.T H (upd H3 l3 (.lst [.ref a]))):=jbb λb o z1 z2=>⟨z1,s3 _ _ (b3 _ _ ((s1.trans s2) _ _ z2) (R.ne z1))⟩
 exact yq (ls:=ls) (ps:=ps) (bs:=[ss]) (λb z=>gr b (jk s3 z)) (R3.st.trans s3) (j9 (zd R1.st m1) (xb b1 R1 l1 m1) (s3 _ _ (b3 _ _ (s2 _ _ jd) m1r))) (j9 (zd (R1.same s1).st m2) (xb b1 R1 l2 (jk s1 m2)) (s3 _ _ (b3 _ _ jd m2r))) (j9 (jk R3.st m3) (gr _ m3) jd)
  ⟨sz.1,sz.2,(by show 1<=1000;decide)⟩ (Paired.mapP hl λ_ _ z=>qo.same jbn z) (jj.same gp _ _ hp) (jon (g _ _ ha) lw (jj.same g _ _ hN)) λx H9 sm nd=>q x H9 (b03.then (s3.trans sm)) (R3.same (s3.trans sm)) nd
theorem jz0:jv ["reader", "condition", "blocks"] ["reader"] (ji jhz):=⟨rfl,rfl,rfl,by decide +kernel,rfl,by decide +kernel,by decide +kernel⟩
theorem j1p(Kn:jr K mg "read_if" ["reader"] jhz)(B:z6 P w K mg base D)(I:z9 P w K mg base D N)(h:Nat) :
  Has P w K mg base (xw h 22) "read_if" ["reader"] (spR D 1 (N + 1) h [] (λrs=>jq rs = "if") statement (yi D)):=by
 refine zj (r:=21) Kn jz0 (λ_ _ _ _ q=>q.len) (λ_ _ _ _ q=>q.le) λhh f cdv A outer s H vs Q E hr q=>?_;obtain ⟨X,rd,rs,n,hn,rfl,pre,c0,out⟩:=q;obtain ⟨R,dp,_,fu,sz⟩:=pre;have cl:=B.rd.c.cl
 have nd:=jz0.nd;have r3:xu 3 _:=hr.mono (by omega)
 have GE:=I.expr h;have GB:=I.block h
 refine ⟨_,(jc (j_ (qe B.take cl r3 (pv 0) (ja jf jb)))
   (jc (ju (i:=1) nd rfl (Or.inl rfl) (jg GE hr rfl (ja (pv 0) jb) (xq hh (by decide))))
   (jc (ju (i:=2) nd rfl (Or.inl rfl) (j3 (ja (jg GB hr rfl (ja (pv 0) jb) (xq hh (by decide))) jb)))
   (jc (qh (js xi (xf B.look cl r3 (pv 0)) jf (j6 _)) (jc (j_ (qe B.take cl r3 (pv 0) (ja jf jb)))
   (je (j_ (vk PySem.F.plainAttrs_list PySem.F.slot_list_append PySem.F.type_list_append zg (pv 2) (ja (jg GB hr rfl (ja (pv 0) jb) (xq hh (by decide))) jb))))) jy)
   (je (jp (ym B r3 rfl (ja jf (ja (j3 jb) (ja (j3 (ja (pv 1) jb)) (ja (pv 2) jb))))))))))),?_⟩
 have w:=R.wfr;cases n with
 | zero=>omega
 | succ n =>
  obtain ⟨t,r,e1,e2,hk⟩:=yr c0 (by decide);subst e1;have lr:(t::r).length=r.length + 1:=rfl
  have C1:Cell.Con (t::r) r 0 1:=Cell.yg (s := "if") (by rw [jd0 w];exact decide_eq_true c0);rw [statement,jbs w,jbr w,jd0 w,jah w,jce w,wv w,ww w,c0] at out;refine zh R c0 λ_ H1 b1 R1 _=>?_;have R1:RDa D X rd H1 r:=R1
  have out:Out D X rd H Q E (yi D) (Vanbka.expr n r >>= λp=>block n p.2 >>= λq=>if next (isWord "else") q.2 then (block n (q.2.drop 1) >>= λu=>pure (.iffElse p.1 q.1 u.1,u.2)) else pure (.iff p.1 q.1,q.2)):=out;refine ⟨_,rfl,X,rd,r,n,by omega,rfl,⟨R1,dp0 C1 dp,hh,by omega,sz⟩,trivial,qz out λc r2 he2 out v2 H2 b2 R2 n2=>?_⟩;have C2:=yk ((Cell.w8 n).expr r) he2
  have lC2:=C2.len;have b02:=b1.trans b2
  dsimp only at out;refine ⟨_,rfl,X,rd,r2,n,by omega,rfl,⟨R2,dp0 C2 (dp0 C1 dp),hh,by omega,sz⟩,trivial,qz out λxs r3 he3 out v3 H3 b3 R3 n3=>?_⟩;have C3:=yk ((Cell.w8 n).block r2) he3
  have lC3:=C3.len;dsimp only at out;obtain ⟨a3,ws,rfl,ha3,lw,hN3⟩:=n3;have b03:=b02.trans b3
  refine ⟨(by show 1<=2 ^ 24;decide),λl ml=>?_⟩;have mlT:=zd R3.st ml
  have mlr:=R3.ne ml;have mlH:=xb b03 R3 l ml
  have sl:jh H3 (upd H3 l (.lst [.ref a3])):=jo ml _;have R4:=R3.same sl
  have b04:=b03.then sl;have Rb:RDa D X rd (upd H l (.lst [])) (t::r):=R.updn mlT mlr
  have nc4:jz D.CN (Cut X.T (upd H l (.lst [])) (upd H3 l (.lst [.ref a3]))) (jw c) v2:=jz.same (jbb λb o z1 z2=>by
   have n1:b≠l:=λy=>by rw [y] at z2;rw [(jo0 b3 R2 mlr ml)] at z2;cases z2
   exact ⟨by rw [jm n1];exact xb b1 R1 b z1,by rw [jm n1];exact b3 _ _ z2 (R1.ne z1)⟩) _ _ n2
  have g34:jh (Cut X.T H2 H3) (Cut X.T (upd H l (.lst [])) (upd H3 l (.lst [.ref a3]))):=jbb λb o z1 z2=>by
   have n1:b≠l:=λy=>by rw [y,ml] at z2;cases z2
   exact ⟨by rw [jm n1];exact xb b02 R2 b z1,by rw [jm n1];exact z2⟩
  have hB4:qu D.CN (Cut X.T (upd H l (.lst [])) (upd H3 l (.lst [.ref a3]))) [xk xs] [.ref a3]:=jon (g34 _ _ ha3) lw (jj.same g34 _ _ hN3);rw [jp2 R3.wfr] at out;refine zi R4 ⟨rfl,_,rfl,qb (λce=>?_) (λce=>?_)⟩
  ·have ce:=wg ce;rw [decide_eq_true ce,if_pos rfl] at out;obtain ⟨t5,r5,e5,e6,_⟩:=yr ce (by decide);have len5:r3.length=r5.length + 1:=by rw [e5];rfl
   have C5:Cell.Con r3 (r3.drop 1) 0 1:=Cell.yg (s := "else") (by rw [jp2 R3.wfr];exact decide_eq_true ce);rw [e6] at out C5;refine zh R4 ce λ_ H5 b5 R5 _=>?_;rw [e6] at R5;have hl5:H5 l=some (.lst [.ref a3]):=b5 _ _ jd mlr
   have b05:=b04.trans b5;refine ⟨_,rfl,.inl ⟨rfl,_,SqL.of hl5⟩,_,rfl,X,rd,r5,n,by omega,rfl,⟨R5,dp0 C5 (dp0 C3 (dp0 C2 (dp0 C1 dp))),hh,by omega,sz⟩,trivial,qz out λys r6 he6 out v6 H6 b6 R6 n6=>?_⟩;obtain ⟨a6,us,rfl,ha6,lu,hN6⟩:=n6;have hl6:H6 l=some (.lst [.ref a3]):=b6 _ _ hl5 mlr
   refine ⟨l,_,_,rfl,rfl,hl6,(by show 1 < 2 ^ 24;decide),?_⟩;have g4:jh (Cut X.T (upd H l (.lst [])) (upd H3 l (.lst [.ref a3]))) (Cut X.T (upd H l (.lst [])) (upd H6 l (.lst ([.ref a3] ++ [.ref a6])))):=jeb Rb jd (b5.trans b6)
   have g6:jh (Cut X.T H5 H6) (Cut X.T (upd H l (.lst [])) (upd H6 l (.lst ([.ref a3] ++ [.ref a6])))):=jb7 b05 R5 hl5;have by_:But rd H (upd H6 l (.lst ([.ref a3] ++ [.ref a6]))):=(b05.trans b6).updn mlH
   have Ry:RDa D X rd (upd H6 l (.lst ([.ref a3] ++ [.ref a6]))) r6:=R6.updn mlT mlr;have hly:(upd H6 l (.lst ([.ref a3] ++ [.ref a6]))) l=some (.lst ([.ref a3] ++ [.ref a6])):=jd
   have nc:=jz.same (wo (T:=X.T) (H:=H) (l:=l) (o:=.lst [])) _ _ (jz.same g4 _ _ nc4);have hB:qu D.CN (Cut X.T H (upd H6 l (.lst ([.ref a3] ++ [.ref a6])))) [xk xs,xk ys] ([.ref a3] ++ [.ref a6]):=by
    refine qu.same (wo (T:=X.T) (H:=H) (l:=l) (o:=.lst [])) _ _ ?_;obtain ⟨a,ws',rr,ea,h1,h2,h3,h4⟩:=qu.same g4 _ _ hB4;cases ea;exact ⟨a3,ws',[.ref a6],rfl,h1,h2,h3,jon (g6 _ _ ha6) lu (jj.same g6 _ _ hN6)⟩
   refine ⟨by decide,λl1 m1=>⟨_,rfl,(by show 1<=2 ^ 24;decide),λl2 m2=>?_⟩⟩;have s1:jh (upd H6 l (.lst ([.ref a3] ++ [.ref a6]))) (upd (upd H6 l (.lst ([.ref a3] ++ [.ref a6]))) l1 (.lst [])):=jo m1 _
   have s2:jh (upd (upd H6 l (.lst ([.ref a3] ++ [.ref a6]))) l1 (.lst [])) (upd (upd (upd H6 l (.lst ([.ref a3] ++ [.ref a6]))) l1 (.lst [])) l2 (.lst [v2])):=jo m2 _;have gr:=xb by_ Ry
   refine ⟨_,rfl,?_⟩;exact yq (ls:=[]) (ps:=[jw c]) (bs:=[xk xs,xk ys]) (λb z=>gr b (jk (s1.trans s2) z)) (Ry.st.trans (s1.trans s2)) (j9 (jk Ry.st m1) (gr _ m1) (s2 _ _ jd)) (j9 (jk (Ry.st.trans s1) m2) (gr _ (jk s1 m2)) jd) (j9 mlT mlH ((s1.trans s2) _ _ hly))
    ⟨by decide,(by show 1<=1000;decide),(by show 2<=1000;decide)⟩ .nil (v9 (jz.same ((xg (s1.trans s2))) _ _ nc)) (qu.same (xg (s1.trans s2)) _ _ hB) λz H9 sm nd=>out _ _ (by_.then ((s1.trans s2).trans sm)) (Ry.same ((s1.trans s2).trans sm)) nd
  ·have ce:=w6 ce;rw [decide_eq_false ce,if_neg Bool.false_ne_true] at out;have by_:=b04
   have Ry:=R4;have hly:(upd H3 l (.lst [.ref a3])) l=some (.lst [.ref a3]):=jd
   have nc:=jz.same (wo (T:=X.T) (H:=H) (l:=l) (o:=.lst [])) _ _ nc4;have hB:=qu.same (wo (T:=X.T) (H:=H) (l:=l) (o:=.lst [])) _ _ hB4
   refine ⟨by decide,λl1 m1=>⟨_,rfl,(by show 1<=2 ^ 24;decide),λl2 m2=>?_⟩⟩;have s1:jh (upd H3 l (.lst [.ref a3])) (upd (upd H3 l (.lst [.ref a3])) l1 (.lst [])):=jo m1 _
   have s2:jh (upd (upd H3 l (.lst [.ref a3])) l1 (.lst [])) (upd (upd (upd H3 l (.lst [.ref a3])) l1 (.lst [])) l2 (.lst [v2])):=jo m2 _;have gr:=xb by_ Ry
   refine ⟨_,rfl,?_⟩;exact yq (ls:=[]) (ps:=[jw c]) (bs:=[xk xs]) (λb z=>gr b (jk (s1.trans s2) z)) (Ry.st.trans (s1.trans s2)) (j9 (jk Ry.st m1) (gr _ m1) (s2 _ _ jd)) (j9 (jk (Ry.st.trans s1) m2) (gr _ (jk s1 m2)) jd) (j9 mlT mlH ((s1.trans s2) _ _ hly))
    ⟨by decide,(by show 1<=1000;decide),(by show 1<=1000;decide)⟩ .nil (v9 (jz.same ((xg (s1.trans s2))) _ _ nc)) (qu.same (xg (s1.trans s2)) _ _ hB) λz H9 sm nd=>out _ _ (by_.then ((s1.trans s2).trans sm)) (Ry.same ((s1.trans s2).trans sm)) nd
theorem jpn:jv ["reader", "condition"] ["reader"] (ji jdt):=⟨rfl,rfl,rfl,by decide +kernel,rfl,by decide +kernel,by decide +kernel⟩
theorem jv0(Kn:jr K mg "read_while" ["reader"] jdt)(B:z6 P w K mg base D)(I:z9 P w K mg base D N)(h:Nat) :
  Has P w K mg base (xw h 22) "read_while" ["reader"] (spR D 1 (N + 1) h [] (λrs=>jq rs = "while") statement (yi D)):=by
 refine zj (r:=21) Kn jpn (λ_ _ _ _ q=>q.len) (λ_ _ _ _ q=>q.le) λhh f cdv A outer s H vs Q E hr q=>?_;obtain ⟨X,rd,rs,n,hn,rfl,pre,c0,out⟩:=q;obtain ⟨R,dp,_,fu,sz⟩:=pre;have cl:=B.rd.c.cl
 have nd:=jpn.nd;have r3:xu 3 _:=hr.mono (by omega)
 have GE:=I.expr h;have GB:=I.block h
 refine ⟨_,(jc (j_ (qe B.take cl r3 (pv 0) (ja jf jb)))
   (jc (ju (i:=1) nd rfl (Or.inl rfl) (jg GE hr rfl (ja (pv 0) jb) (xq hh (by decide))))
   (je (jp (ym B r3 rfl (ja jf (ja (j3 jb) (ja (j3 (ja (pv 1) jb)) (ja (j3 (ja (jg GB hr rfl (ja (pv 0) jb) (xq hh (by decide))) jb)) jb))))))))),?_⟩
 have w:=R.wfr;cases n with
 | zero=>omega
 | succ n =>
  obtain ⟨t,r,e1,e2,hk⟩:=yr c0 (by decide);subst e1;have lr:(t::r).length=r.length + 1:=rfl
  have C1:Cell.Con (t::r) r 0 1:=Cell.yg (s := "while") (by rw [jah w];exact decide_eq_true c0);rw [statement,jbs w,jbr w,jd0 w,jah w,jce w,wv w,ww w,c0] at out;refine zh R c0 λ_ H1 b1 R1 _=>?_;have R1:RDa D X rd H1 r:=R1
  have out:Out D X rd H Q E (yi D) (Vanbka.expr n r >>= λp=>block n p.2 >>= λq=>pure (.while_ p.1 q.1,q.2)):=out;refine ⟨_,rfl,X,rd,r,n,by omega,rfl,⟨R1,dp0 C1 dp,hh,by omega,sz⟩,trivial,qz out λc r2 he2 out v2 H2 b2 R2 n2=>?_⟩;have C2:=yk ((Cell.w8 n).expr r) he2
  have lC2:=C2.len;have b02:=b1.trans b2
  refine ⟨by decide,λl1 m1=>⟨_,rfl,(by show 1<=2 ^ 24;decide),λl2 m2=>?_⟩⟩;have s12:jh H2 (upd (upd H2 l1 (.lst [])) l2 (.lst [v2])):=(jo m1 _).trans (jo m2 _)
  refine ⟨_,rfl,X,rd,r2,n,by omega,rfl,⟨R2.same s12,dp0 C2 (dp0 C1 dp),hh,by omega,sz⟩,trivial,qz out λxs r3 he3 out v3 H3 b3 R3 n3=>?_⟩;obtain ⟨a3,ws,rfl,ha3,lw,hN3⟩:=n3;exact ⟨(by show 1<=2 ^ 24;decide),λl3 m3=>jmq b02 R2 R m1 m2 .nil (v9 (jz.same (yd b1 R1) _ _ n2)) ⟨by decide,(by show 1<=1000;decide)⟩ b3 R3 ha3 lw hN3 m3 λz H9 b9 R9 nd=>out _ _ b9 R9 nd⟩
theorem jxe:jv ["reader", "name", "walked"] ["reader"] (ji jf5):=⟨rfl,rfl,rfl,by decide +kernel,rfl,by decide +kernel,by decide +kernel⟩
theorem j0p(Kn:jr K mg "read_for" ["reader"] jf5)(B:z6 P w K mg base D)(I:z9 P w K mg base D N)(h:Nat) :
  Has P w K mg base (xw h 22) "read_for" ["reader"] (spR D 1 (N + 1) h [] (λrs=>jq rs = "for") statement (yi D)):=by
 refine zj (r:=21) Kn jxe (λ_ _ _ _ q=>q.len) (λ_ _ _ _ q=>q.le) λhh f cdv A outer s H vs Q E hr q=>?_;obtain ⟨X,rd,rs,n,hn,rfl,pre,c0,out⟩:=q;obtain ⟨R,dp,_,fu,sz⟩:=pre;have cl:=B.rd.c.cl
 have nd:=jxe.nd;have r3:xu 3 _:=hr.mono (by omega)
 have GE:=I.expr h;have GB:=I.block h
 refine ⟨_,(jc (j_ (qe B.take cl r3 (pv 0) (ja jf jb)))
   (jc (ju (i:=1) nd rfl (Or.inl rfl) (qe B.take cl r3 (pv 0) (ja jf jb)))
   (jc (j_ (qe B.take cl r3 (pv 0) (ja jf jb)))
   (jc (ju (i:=2) nd rfl (Or.inl rfl) (jg GE hr rfl (ja (pv 0) jb) (xq hh (by decide))))
   (je (jp (ym B r3 rfl (ja jf (ja (j3 (ja (pv 1) jb)) (ja (j3 (ja (pv 2) jb)) (ja (j3 (ja (jg GB hr rfl (ja (pv 0) jb) (xq hh (by decide))) jb)) jb))))))))))),?_⟩
 have w:=R.wfr;cases n with
 | zero=>omega
 | succ n =>
  obtain ⟨t,r,e1,e2,hk⟩:=yr c0 (by decide);subst e1;have lr:(t::r).length=r.length + 1:=rfl
  have C1:Cell.Con (t::r) r 0 1:=Cell.yg (s := "for") (by rw [jce w];exact decide_eq_true c0);rw [statement,jbs w,jbr w,jd0 w,jah w,jce w,wv w,ww w,c0] at out;refine zh R c0 λ_ H1 b1 R1 _=>?_;have R1:RDa D X rd H1 r:=R1
  have out:Out D X rd H Q E (yi D) (Vanbka.name r >>= λx=>eat (isWord "in") x.2 >>= λr=>Vanbka.expr n r >>= λp=>block n p.2 >>= λq=>pure (.for x.1 p.1 q.1,q.2)):=out;refine jcg R1 (jbm out λx ra hea out va Ha ba Ra lf=>?_);have Ca:=yk Cell.y8 hea
  have lCa:=Ca.len;refine yz Ra (jrg Ra.wfr) (x8 out λrb heb out _ Hb bb Rb=>?_);have Cb:=vg Cell.jga heb
  have lCb:=Cb.len;have b0b:=(b1.trans ba).trans bb
  refine ⟨_,rfl,X,rd,rb,n,by omega,rfl,⟨Rb,dp0 Cb (dp0 Ca (dp0 C1 dp)),hh,by omega,sz⟩,trivial,qz out λc r2 he2 out v2 H2 b2 R2 n2=>?_⟩;have C2:=yk ((Cell.w8 n).expr rb) he2
  have lC2:=C2.len;have b02:=b0b.trans b2
  refine ⟨_,rfl,(by show 1<=2 ^ 24;decide),λl1 m1=>⟨_,rfl,(by show 1<=2 ^ 24;decide),λl2 m2=>?_⟩⟩;have s12:jh H2 (upd (upd H2 l1 (.lst [va])) l2 (.lst [v2])):=(jo m1 _).trans (jo m2 _)
  refine ⟨_,rfl,X,rd,r2,n,by omega,rfl,⟨R2.same s12,dp0 C2 (dp0 Cb (dp0 Ca (dp0 C1 dp))),hh,by omega,sz⟩,trivial,qz out λxs r3 he3 out v3 H3 b3 R3 n3=>?_⟩;obtain ⟨a3,ws,rfl,ha3,lw,hN3⟩:=n3;exact ⟨(by show 1<=2 ^ 24;decide),λl3 m3=>jmq b02 R2 R m1 m2 (.cons lf .nil) (v9 (jz.same (yd b0b Rb) _ _ n2)) ⟨(by show 1<=1000;decide),(by show 1<=1000;decide)⟩ b3 R3 ha3 lw hN3 m3 λz H9 b9 R9 nd=>out _ _ b9 R9 nd⟩
abbrev jcz:PySem.Stmt:=top 31
abbrev jc5:PySem.Stmt:=top 33
def jzt:Nat->Vanbka.Tok->Bool
 | 0=>isSign "="
 | 1=>isWord "in"
 | _=>isSign ","
def jvd:Nat->Str
 | 0 => "="
 | 1 => "in"
 | _ => ","
theorem j1u(i:Nat){rs:qc}(h:WfL rs):next (jzt i) rs=decide (jq rs=jvd i):=by
 match i with
 | 0=>exact jwf h
 | 1=>exact jrg h
 | _ + 2=>exact jas h
theorem jzs(i:Nat):jvd i≠"END":=by
 match i with
 | 0=>decide
 | 1=>decide
 | _ + 2=>exact (show (",":Str)≠"END" by decide)
def slR(x:Bytes):Nat->List Int->qc->Except Nat (Vanbka.Stmt×qc)
 | 0,_,r=>eat (isSign "=") r >>= λr=>Vanbka.whole r >>= λv=>eat (isWord "in") v.2 >>= λr=>Vanbka.whole r >>= λlo=>eat (isSign ",") lo.2 >>= λr=>Vanbka.whole r >>= λhi=>eat (isSign ";") hi.2 >>= λr=>pure (.slider x v.1 lo.1 hi.1,r)
 | 1,d,r=>eat (isWord "in") r >>= λr=>Vanbka.whole r >>= λlo=>eat (isSign ",") lo.2 >>= λr=>Vanbka.whole r >>= λhi=>eat (isSign ";") hi.2 >>= λr=>pure (.slider x (d.getD 0 0) lo.1 hi.1,r)
 | 2,d,r=>eat (isSign ",") r >>= λr=>Vanbka.whole r >>= λhi=>eat (isSign ";") hi.2 >>= λr=>pure (.slider x (d.getD 0 0) (d.getD 1 0) hi.1,r)
 | _,d,r=>eat (isSign ";") r >>= λr=>pure (.slider x (d.getD 0 0) (d.getD 1 0) (d.getD 2 0),r)
theorem jvb{x:Bytes}{i:Nat}{d:List Int}{r:qc}(hi:i < 3)(hd:d.length=i):slR x i d r=eat (jzt i) r >>= λr=>Vanbka.whole r >>= λp=>slR x (i + 1) (d ++ [p.1]) p.2:=by
 match i,d,hi,hd with
 | 0,[],_,_=>rfl
 | 1,[a],_,_=>rfl
 | 2,[a,b],_,_=>rfl
theorem jm_:jv ["reader", "leaves", "sign"] ["reader"] (ji jcz):=⟨rfl,rfl,rfl,by decide +kernel,rfl,by decide +kernel,by decide +kernel⟩
theorem jtw(Kn:jr K mg "read_slider" ["reader"] jcz)(B:z6 P w K mg base D)(GW:Has P w K mg base 4 "read_whole" ["reader"] (jhv D))(I:z9 P w K mg base D N)(h:Nat) :
  Has P w K mg base (xw h 22) "read_slider" ["reader"] (spR D 1 (N + 1) h [] (λrs=>jq rs = "slider") statement (yi D)):=by
 refine zj (r:=21) Kn jm_ (λ_ _ _ _ q=>q.len) (λ_ _ _ _ q=>q.le) λhh f cdv A outer s H vs Q E hr q=>?_;obtain ⟨X,rd,rs,n,hn,rfl,pre,c0,out⟩:=q;obtain ⟨R,dp,_,fu,sz⟩:=pre;have cl:=B.rd.c.cl
 have nd:=jm_.nd;have r3:xu 3 _:=hr.mono (by omega)
 have GE:=I.expr h;have GB:=I.block h
 refine ⟨_,(jc (j_ (qe B.take cl r3 (pv 0) (ja jf jb)))
   (jc (ju (i:=1) nd rfl (Or.inl rfl) (j3 (ja (qe B.take cl r3 (pv 0) (ja jf jb)) jb)))
   (jc (jek jag rfl (j0f (jbq (ja jf (ja jf (ja jf jb))))) (y_ (i:=2) nd rfl (Or.inl rfl)) (jc (j_ (qe B.take cl r3 (pv 0) (ja (pv 2) jb)))
   (je (j_ (vk PySem.F.plainAttrs_list PySem.F.slot_list_append PySem.F.type_list_append zg (pv 1) (ja (jg GW hr rfl (ja (pv 0) jb) (by omega)) jb))))))
   (jc (j_ (qe B.take cl r3 (pv 0) (ja jf jb)))
   (je (jp (ym B r3 rfl (ja jf (ja (pv 1) (ja (j3 jb) (ja (j3 jb) jb))))))))))),?_⟩
 have w:=R.wfr;cases n with
 | zero=>omega
 | succ n =>
  obtain ⟨t,r,e1,e2,hk⟩:=yr c0 (by decide);subst e1;have lr:(t::r).length=r.length + 1:=rfl
  have C1:Cell.Con (t::r) r 0 1:=Cell.yg (s := "slider") (by rw [wv w];exact decide_eq_true c0);rw [statement,jbs w,jbr w,jd0 w,jah w,jce w,wv w,ww w,c0] at out;refine zh R c0 λ_ H1 b1 R1 _=>?_;have R1:RDa D X rd H1 r:=R1
  have out:Out D X rd H Q E (yi D) (Vanbka.name r >>= λp=>slR p.1 0 [] p.2):=out;refine jcg R1 (jbm out λx r2 he2 out v H2 b2 R2 lf=>?_);have b02:=b1.trans b2
  dsimp only at out;refine ⟨(by show 1<=2 ^ 24;decide),λl ml=>?_⟩;have mlT:=zd R2.st ml
  have mlr:=R2.ne ml;have mlH:=xb b02 R2 l ml
  have sl:jh H2 (upd H2 l (.lst [v])):=jo ml _;refine ⟨by decide,λtp mt=>?_⟩;have mtr:=(R2.same sl).ne mt
  have mtl:tp≠l:=λy=>by
   have mt:upd H2 l (.lst [v]) tp=none:=mt;rw [y,jd] at mt;cases mt
  have st:jh (upd H2 l (.lst [v])) (upd (upd H2 l (.lst [v])) tp (.tup [.str "=",.str "in",.str ","])):=jo mt _;refine ⟨tp,rfl,⟨_,SqT.of jd⟩,λi m σ H'=>∃ (r:qc) (done:List Int) (vs:List V) (v2:Option V),σ=[some (.ref rd),some (.ref l),v2]/\But rd H H'/\RDa D X rd H' r/\m=3 - i/\i<=3/\H' l=some (.lst vs)/\H' tp=some (.tup [.str "=",.str "in",.str ","])/\done.length=i/\Paired (qo X.T) (.bytes x::done.map x6.int) vs/\Out D X rd H Q E (yi D) (slR x i done r),
   ⟨_,r2,[],[v],none,rfl,b02.then (sl.trans st),R2.same (sl.trans st),rfl,Nat.zero_le _,st _ _ jd,jd,rfl,.cons lf .nil,out⟩,?_⟩
  rintro i m σ H' ⟨r,done,vs,v2,rfl,bt,R',rfl,hi,hl,ht,hd,hU,out⟩;have hv:=(Paired.len hU)
  rw [List.length_cons,List.length_map,hd] at hv;by_cases h3:i < 3
  ·have hx:([.str "=",.str "in",.str ","]:List V)[i]? = some (.str (jvd i)):=by
    match i,h3 with
    | 0,_=>rfl
    | 1,_=>rfl
    | 2,_=>rfl
   refine .inr ⟨⟨_,_,SqT.of ht,hx⟩,λσ H'=>∃ m,m < 3 - i/\∃ (r:qc) (done:List Int) (vs:List V) (v2:Option V),σ=[some (.ref rd),some (.ref l),v2]/\But rd H H'/\RDa D X rd H' r/\m=3 - (i + 1)/\i + 1<=3/\H' l=some (.lst vs)/\H' tp=some (.tup [.str "=",.str "in",.str ","])/\done.length=i + 1/\Paired (qo X.T) (.bytes x::done.map x6.int) vs/\Out D X rd H Q E (yi D) (slR x (i + 1) done r),λ_ _ z=>z,?_⟩;rintro y H2' ⟨rfl,hy⟩;have ey:=hy _ (SqT.of ht)
   rw [hx] at ey;cases ey;rw [jvb h3 hd] at out;refine yz R' (j1u i R'.wfr) (x8 out λr3 he3 out _ H3 b3 R3=>?_) (jzs i) (λ_ q=>⟨_,rfl,q⟩);have hl3:=b3 _ _ hl mlr
   have ht3:=b3 _ _ ht mtr;refine ⟨_,rfl,.inl ⟨rfl,_,SqL.of hl3⟩,_,rfl,X,rd,r3,rfl,R3,jbm out λz r4 he4 out v4 H4 b4 R4 e4=>?_⟩;have hl4:=b4 _ _ hl3 mlr
   have ht4:=b4 _ _ ht3 mtr;refine ⟨l,_,_,rfl,rfl,hl4,(by show vs.length < 2 ^ 24;omega),3 - (i + 1),by omega,r4,done ++ [z],vs ++ [v4],_,rfl,((bt.trans b3).trans b4).updn mlH,R4.updn mlT mlr,rfl,h3,jd,by rw [jm mtl];exact ht4,by rw [List.length_append,List.length_singleton];omega,?_,out⟩;rw [List.map_append];exact Paired.snoc hU e4
  ·have e3:i=3:=by omega
   subst e3;match done,hd with
   | [d0,d1,d2],_ =>
    refine .inl ⟨⟨_,SqT.of ht,by decide⟩,?_⟩;have out:Out D X rd H Q E (yi D) (eat (isSign ";") r >>= λr=>pure (.slider x d0 d1 d2,r)):=out
    refine yz R' (jjt R'.wfr) (x8 out λr5 he5 out _ H5 b5 R5=>?_);have b05:=bt.trans b5
    have hl5:=b5 _ _ hl mlr;refine ⟨_,rfl,by decide,λl2 m2=>⟨by decide,λl3 m3=>?_⟩⟩;have gr:=xb b05 R5
    have s1:jh H5 (upd H5 l2 (.lst [])):=jo m2 _;have s2:jh (upd H5 l2 (.lst [])) (upd (upd H5 l2 (.lst [])) l3 (.lst [])):=jo m3 _
    exact yq (ls:=[.bytes x,.int d0,.int d1,.int d2]) (ps:=[]) (bs:=[]) (λb z=>gr b (jk (s1.trans s2) z)) (R5.st.trans (s1.trans s2)) (j9 mlT mlH ((s1.trans s2) _ _ hl5)) (j9 (jk R5.st m2) (gr _ m2) (s2 _ _ jd)) (j9 (jk (R5.st.trans s1) m3) (gr _ (jk s1 m3)) jd) ⟨by omega,by decide,by decide⟩ (Paired.mapP hU λ_ _ z=>qo.same jbn z) ja7 zo λz H9 sm nd=>out _ _ (b05.then ((s1.trans s2).trans sm)) (R5.same ((s1.trans s2).trans sm)) nd
theorem jnh:jv ["reader", "leaves"] ["reader"] (ji jc5):=⟨rfl,rfl,rfl,by decide +kernel,rfl,by decide +kernel,by decide +kernel⟩
theorem jt1(Kn:jr K mg "read_choice" ["reader"] jc5)(B:z6 P w K mg base D)(GV:Has P w K mg base 4 "read_leaves" ["reader", "kind"] (jbz D "QUOTED" Vanbka.quoted Vanbka.quotedMore))(I:z9 P w K mg base D N)(h:Nat) :
  Has P w K mg base (xw h 22) "read_choice" ["reader"] (spR D 1 (N + 1) h [] (λrs=>jq rs = "choice") statement (yi D)):=by
 refine zj (r:=21) Kn jnh (λ_ _ _ _ q=>q.len) (λ_ _ _ _ q=>q.le) λhh f cdv A outer s H vs Q E hr q=>?_;obtain ⟨X,rd,rs,n,hn,rfl,pre,c0,out⟩:=q;obtain ⟨R,dp,_,fu,sz⟩:=pre;have cl:=B.rd.c.cl
 have nd:=jnh.nd;have r3:xu 3 _:=hr.mono (by omega)
 have GE:=I.expr h;have GB:=I.block h
 refine ⟨_,(jc (j_ (qe B.take cl r3 (pv 0) (ja jf jb)))
   (jc (ju (i:=1) nd rfl (Or.inl rfl) (j3 (ja (qe B.take cl r3 (pv 0) (ja jf jb)) jb)))
   (jc (j_ (qe B.take cl r3 (pv 0) (ja jf jb)))
   (jc (j_ (vk PySem.F.plainAttrs_list PySem.F.slot_list_append PySem.F.type_list_append zg (pv 1) (ja (qe B.take cl r3 (pv 0) (ja jf jb)) jb)))
   (jc (j_ (qe B.take cl r3 (pv 0) (ja jf jb)))
   (jc (j_ (vk PySem.F.plainAttrs_list PySem.F.slot_list_extend PySem.F.type_list_extend jev (pv 1) (ja (jg GV hr rfl (ja (pv 0) (ja jf jb)) (by omega)) jb)))
   (jc (j_ (qe B.take cl r3 (pv 0) (ja jf jb)))
   (je (jp (ym B r3 rfl (ja jf (ja (pv 1) (ja (j3 jb) (ja (j3 jb) jb)))))))))))))),?_⟩
 have w:=R.wfr;cases n with
 | zero=>omega
 | succ n =>
  obtain ⟨t,r,e1,e2,hk⟩:=yr c0 (by decide);subst e1;have lr:(t::r).length=r.length + 1:=rfl
  have C1:Cell.Con (t::r) r 0 1:=Cell.yg (s := "choice") (by rw [ww w];exact decide_eq_true c0);rw [statement,jbs w,jbr w,jd0 w,jah w,jce w,wv w,ww w,c0] at out;refine zh R c0 λ_ H1 b1 R1 _=>?_;have R1:RDa D X rd H1 r:=R1
  have out:Out D X rd H Q E (yi D) (Vanbka.name r >>= λx=>eat (isSign "=") x.2 >>= λr=>Vanbka.number r >>= λv=>eat (isWord "in") v.2 >>= λr=>wk Vanbka.quoted Vanbka.quotedMore r >>= λl=>eat (isSign ";") l.2 >>= λr=>pure (.choice x.1 v.1 l.1,r)):=by
   have out:Out D X rd H Q E (yi D) (Vanbka.name r >>= λx=>eat (isSign "=") x.2 >>= λr=>Vanbka.number r >>= λv=>eat (isWord "in") v.2 >>= λr=>Vanbka.quoted r >>= λo=>Vanbka.quotedMore o.2.length o.2 >>= λl=>eat (isSign ";") l.2 >>= λr=>pure (.choice x.1 v.1 (o.1::l.1),r)):=out;cases h1:Vanbka.name r with
   | error z=>rw [h1] at out;exact out
   | ok x =>
    rw [h1] at out;have out:Out D X rd H Q E (yi D) (eat (isSign "=") x.2 >>= λr=>Vanbka.number r >>= λv=>eat (isWord "in") v.2 >>= λr=>Vanbka.quoted r >>= λo=>Vanbka.quotedMore o.2.length o.2 >>= λl=>eat (isSign ";") l.2 >>= λr=>pure (.choice x.1 v.1 (o.1::l.1),r)):=out
    show Out D X rd H Q E (yi D) (eat (isSign "=") x.2 >>= _);cases h2:eat (isSign "=") x.2 with
    | error z=>rw [h2] at out;exact out
    | ok r2 =>
     rw [h2] at out;have out:Out D X rd H Q E (yi D) (Vanbka.number r2 >>= λv=>eat (isWord "in") v.2 >>= λr=>Vanbka.quoted r >>= λo=>Vanbka.quotedMore o.2.length o.2 >>= λl=>eat (isSign ";") l.2 >>= λr=>pure (.choice x.1 v.1 (o.1::l.1),r)):=out
     show Out D X rd H Q E (yi D) (Vanbka.number r2 >>= _);cases h3:Vanbka.number r2 with
     | error z=>rw [h3] at out;exact out
     | ok v =>
      rw [h3] at out;have out:Out D X rd H Q E (yi D) (eat (isWord "in") v.2 >>= λr=>Vanbka.quoted r >>= λo=>Vanbka.quotedMore o.2.length o.2 >>= λl=>eat (isSign ";") l.2 >>= λr=>pure (.choice x.1 v.1 (o.1::l.1),r)):=out
      show Out D X rd H Q E (yi D) (eat (isWord "in") v.2 >>= _);cases h4:eat (isWord "in") v.2 with
      | error z=>rw [h4] at out;exact out
      | ok r4 =>
       rw [h4] at out;have out:Out D X rd H Q E (yi D) (Vanbka.quoted r4 >>= λo=>Vanbka.quotedMore o.2.length o.2 >>= λl=>eat (isSign ";") l.2 >>= λr=>pure (.choice x.1 v.1 (o.1::l.1),r)):=out
       show Out D X rd H Q E (yi D) (wk Vanbka.quoted Vanbka.quotedMore r4 >>= λl=>eat (isSign ";") l.2 >>= λr=>pure (.choice x.1 v.1 l.1,r));unfold wk;cases h5:Vanbka.quoted r4 with
       | error z=>rw [h5] at out;exact out
       | ok o =>
        rw [h5] at out;obtain ⟨o1,o2⟩:=o;have out:Out D X rd H Q E (yi D) (Vanbka.quotedMore o2.length o2 >>= λl=>eat (isSign ";") l.2 >>= λr=>pure (.choice x.1 v.1 (o1::l.1),r)):=out
        show Out D X rd H Q E (yi D) ((Vanbka.quotedMore o2.length o2 >>= λl=>pure (o1::l.1,l.2)) >>= λl=>eat (isSign ";") l.2 >>= λr=>pure (.choice x.1 v.1 l.1,r));cases h6:Vanbka.quotedMore o2.length o2 with
        | error z=>rw [h6] at out;exact out
        | ok l=>rw [h6] at out;exact out
  refine jcg R1 (jbm out λx r2 he2 out v H2 b2 R2 lf=>?_);have b02:=b1.trans b2
  refine ⟨(by show 1<=2 ^ 24;decide),λl ml=>?_⟩;have mlT:=zd R2.st ml
  have mlr:=R2.ne ml;have Rbase:RDa D X rd (upd H l (.lst [])) (t::r):=R.updn mlT mlr
  have mlH:=xb b02 R2 l ml;have sl:jh H2 (upd H2 l (.lst [v])):=jo ml _
  have R2':=R2.same sl;have b02':=b02.then sl
  refine yz R2' (jwf R2'.wfr) (x8 out λr3 he3 out _ H3 b3 R3=>?_);have hl3:H3 l=some (.lst [v]):=b3 _ _ jd mlr
  refine ⟨_,rfl,.inl ⟨rfl,_,SqL.of hl3⟩,?_⟩;refine jiy R3 (jbm out λk r4 he4 out v4 H4 b4 R4 e4=>?_);have hl4:H4 l=some (.lst [v]):=b4 _ _ hl3 mlr
  refine ⟨l,_,_,rfl,rfl,hl4,(by show 1 < 2 ^ 24;decide),?_⟩;have b04:But rd H (upd H4 l (.lst ([v] ++ [v4]))):=((b02'.trans b3).trans b4).updn mlH
  have R4':RDa D X rd (upd H4 l (.lst ([v] ++ [v4]))) r4:=R4.updn mlT mlr;refine yz R4' (jrg R4'.wfr) (x8 out λr5 he5 out _ H5 b5 R5=>?_);have hl5:H5 l=some (.lst ([v] ++ [v4])):=b5 _ _ jd mlr
  have b05:=b04.trans b5;refine ⟨_,rfl,.inl ⟨rfl,_,SqL.of hl5⟩,_,rfl,X,rd,r5,rfl,R5,sz,qz out λqs r he6 out v6 H6 b6 R6 n6=>?_⟩;obtain ⟨a6,us,rfl,ha6,lu,hu6⟩:=n6;have hl6:H6 l=some (.lst ([v] ++ [v4])):=b6 _ _ hl5 mlr
  have ha6':H6 a6=some (.lst us):=jfr R6.st _ _ ha6;refine ⟨l,a6,_,_,rfl,rfl,hl6,ha6',(by show 2 + us.length<=2 ^ 24;omega),?_⟩;have bt:But rd H (upd H6 l (.lst (([v] ++ [v4]) ++ us))):=(b05.trans b6).updn mlH
  have R':RDa D X rd (upd H6 l (.lst (([v] ++ [v4]) ++ us))) r:=R6.updn mlT mlr;have hl:(upd H6 l (.lst (([v] ++ [v4]) ++ us))) l=some (.lst (([v] ++ [v4]) ++ us)):=jd
  have hU:Paired (qo (Cut X.T (upd H l (.lst [])) (upd H6 l (.lst (([v] ++ [v4]) ++ us))))) (.bytes x :: .int (k:Nat)::qs.map x6.bytes) (([v] ++ [v4]) ++ us) :=
   .cons (qo.same jbn lf) (.cons e4 (Paired.mapP hu6 λ_ _ z=>qo.same (jb7 b05 R5 hl5) z))
  refine yz R' (jjt R'.wfr) (x8 out λr7 he7 out _ H7 b7 R7=>?_);have b07:=bt.trans b7
  have hl7:=b7 _ _ hl mlr;refine ⟨_,rfl,by decide,λl2 m2=>⟨by decide,λl3 m3=>?_⟩⟩;have gr:=xb b07 R7
  have s1:jh H7 (upd H7 l2 (.lst [])):=jo m2 _;have s2:jh (upd H7 l2 (.lst [])) (upd (upd H7 l2 (.lst [])) l3 (.lst [])):=jo m3 _
  exact yq (ls:=.bytes x :: .int (k:Nat)::qs.map x6.bytes) (ps:=[]) (bs:=[]) (λb z=>gr b (jk (s1.trans s2) z)) (R7.st.trans (s1.trans s2)) (j9 mlT mlH ((s1.trans s2) _ _ hl7)) (j9 (jk R7.st m2) (gr _ m2) (s2 _ _ jd)) (j9 (jk (R7.st.trans s1) m3) (gr _ (jk s1 m3)) jd) ⟨(by show (v::v4::us).length<=1000;rw [List.length_cons,List.length_cons];omega),by decide,by decide⟩ (Paired.mapP hU λ_ _ z=>qo.same ((xx Rbase b7).trans ((xg (s1.trans s2)).trans wo)) z) ja7 zo λz H9 sm nd=>out _ _ (b07.then ((s1.trans s2).trans sm)) (R7.same ((s1.trans s2).trans sm)) nd
theorem js9:jv ["reader", "kind"] ["reader"] (ji jbi):=⟨rfl,rfl,rfl,by decide +kernel,rfl,by decide +kernel,by decide +kernel⟩
theorem jyk(Kn:jr K mg "read_statement" ["reader"] jbi)(B:z6 P w K mg base D)(W:jfa K mg "SHOWING" (jdr.map V.str))
  (G1:∀ h,Has P w K mg base (xw h 22) "read_binding" ["reader"] (spR D 1 (N + 1) h [] (λrs=>jq rs∈(["let", "set"]:List Str)) statement (yi D)))
  (G2:∀ h,Has P w K mg base (xw h 22) "read_showing" ["reader"] (spR D 1 (N + 1) h [] (λrs=>jq rs∈jdr) statement (yi D)))
  (G3:∀ h,Has P w K mg base (xw h 22) "read_if" ["reader"] (spR D 1 (N + 1) h [] (λrs=>jq rs = "if") statement (yi D)))
  (G4:∀ h,Has P w K mg base (xw h 22) "read_while" ["reader"] (spR D 1 (N + 1) h [] (λrs=>jq rs = "while") statement (yi D)))
  (G5:∀ h,Has P w K mg base (xw h 22) "read_for" ["reader"] (spR D 1 (N + 1) h [] (λrs=>jq rs = "for") statement (yi D)))
  (G6:∀ h,Has P w K mg base (xw h 22) "read_slider" ["reader"] (spR D 1 (N + 1) h [] (λrs=>jq rs = "slider") statement (yi D)))
  (G7:∀ h,Has P w K mg base (xw h 22) "read_choice" ["reader"] (spR D 1 (N + 1) h [] (λrs=>jq rs = "choice") statement (yi D))) (h:Nat) :
  Has P w K mg base (xw h 23) "read_statement" ["reader"] (spR D 1 (N + 1) h [] Any statement (yi D)):=by
 refine zj (r:=22) Kn js9 (λ_ _ _ _ q=>q.len) (λ_ _ _ _ q=>q.le) λhh f cdv A outer s H vs Q E hr q=>?_;obtain ⟨X,rd,rs,n,hn,rfl,pre,c0,out⟩:=q;obtain ⟨R,dp,_,fu,sz⟩:=pre;have cl:=B.rd.c.cl
 have nd:=js9.nd;have r3:xu 3 _:=hr.mono (by omega)
 have G1:=G1 h;have G2:=G2 h
 have G3:=G3 h;have G4:=G4 h
 have G5:=G5 h;have G6:=G6 h
 have G7:=G7 h;obtain ⟨wa,mW,sW⟩:=W;obtain ⟨fI,fdI,T⟩:=B.fault;refine ⟨_,(jc (ju (i:=1) nd rfl (Or.inl rfl) (xf B.look cl r3 (pv 0)))
   (jc (qh (js zw (pv 1) (jbq (ja jf (ja jf jb))) rfl) (je (jp (jg G1 hr rfl (ja (pv 0) jb) (xq hh (by decide))))) jy)
   (jc (qh (js zw (pv 1) (ve mW rfl) rfl) (je (jp (jg G2 hr rfl (ja (pv 0) jb) (xq hh (by decide))))) jy)
   (jc (qh (js xi (pv 1) jf (j6 _)) (je (jp (jg G3 hr rfl (ja (pv 0) jb) (xq hh (by decide))))) jy)
   (jc (qh (js xi (pv 1) jf (j6 _)) (je (jp (jg G4 hr rfl (ja (pv 0) jb) (xq hh (by decide))))) jy)
   (jc (qh (js xi (pv 1) jf (j6 _)) (je (jp (jg G5 hr rfl (ja (pv 0) jb) (xq hh (by decide))))) jy)
   (jc (qh (js xi (pv 1) jf (j6 _)) (je (jp (jg G6 hr rfl (ja (pv 0) jb) (xq hh (by decide))))) jy)
   (jc (qh (js xi (pv 1) jf (j6 _)) (je (jp (jg G7 hr rfl (ja (pv 0) jb) (xq hh (by decide))))) jy)
   (je (vz T (r3.mono (by decide)) rfl (ja (qx B.cNo rfl) (ja (xf B.here cl r3 (pv 0)) jb)))))))))))),?_⟩
 have w:=R.wfr;have out:Out D X rd H Q E (yi D) (statement n rs):=out
 refine zi R ⟨_,rfl,by decide,λp1 np1=>⟨p1,_,rfl,.inr (SqT.of jd),rfl,rfl,_,rfl,?_⟩⟩;have sp1:jh H (upd H p1 (.tup [.str "let",.str "set"])):=jo np1 _
 rw [if_neg Bool.false_ne_true,show inV (.str (jq rs)) [.str "let",.str "set"]=decide (jq rs∈(["let", "set"]:List Str)) from ja9 _ ["let", "set"]];generalize upd H p1 (.tup [.str "let",.str "set"])=Ha at sp1;have Ra:=R.same sp1
 have ba:But rd H Ha:=(But.refl rd H).then sp1;have go:∀ {res:Except Nat (Vanbka.Stmt×qc)},Out D X rd H Q E (yi D) res->Out D X rd Ha Q E (yi D) res:=by
  intro res out;cases res with
  | error l=>exact out
  | ok p=>exact λv H2 b2 R2 nn=>out v H2 (ba.trans b2) R2 (jz.same (yd ba Ra) _ _ nn)
 refine qb (λc=>?_) (λc1=>?_)
 ·exact ⟨_,rfl,X,rd,rs,n,hn,rfl,⟨Ra,dp,hh,fu,sz⟩,of_decide_eq_true c,go out⟩
 have c1:¬ jq rs∈(["let", "set"]:List Str):=λz=>c1 (decide_eq_true z);refine ⟨_,rfl,wa,_,rfl,.inr (sW _),rfl,by decide,_,rfl,?_⟩;rw [if_neg Bool.false_ne_true,ja9];refine qb (λc=>?_) (λc2=>?_)
 ·exact ⟨_,rfl,X,rd,rs,n,hn,rfl,⟨Ra,dp,hh,fu,sz⟩,of_decide_eq_true c,go out⟩
 have c2:¬ jq rs∈jdr:=λz=>c2 (decide_eq_true z);refine ⟨_,rfl,rfl,_,rfl,qb (λc=>?_) (λc3=>?_)⟩
 ·exact ⟨_,rfl,X,rd,rs,n,hn,rfl,⟨Ra,dp,hh,fu,sz⟩,wg c,go out⟩
 refine ⟨_,rfl,rfl,_,rfl,qb (λc=>?_) (λc4=>?_)⟩
 ·exact ⟨_,rfl,X,rd,rs,n,hn,rfl,⟨Ra,dp,hh,fu,sz⟩,wg c,go out⟩
 refine ⟨_,rfl,rfl,_,rfl,qb (λc=>?_) (λc5=>?_)⟩
 ·exact ⟨_,rfl,X,rd,rs,n,hn,rfl,⟨Ra,dp,hh,fu,sz⟩,wg c,go out⟩
 refine ⟨_,rfl,rfl,_,rfl,qb (λc=>?_) (λc6=>?_)⟩
 ·exact ⟨_,rfl,X,rd,rs,n,hn,rfl,⟨Ra,dp,hh,fu,sz⟩,wg c,go out⟩
 refine ⟨_,rfl,rfl,_,rfl,qb (λc=>?_) (λc7=>?_)⟩
 ·exact ⟨_,rfl,X,rd,rs,n,hn,rfl,⟨Ra,dp,hh,fu,sz⟩,wg c,go out⟩
 have hw:(wordNext rs).bind Vanbka.wayOf=none:=by
  have:=jih w;cases hx:(wordNext rs).bind Vanbka.wayOf with
  | none=>rfl
  | some x =>
   rw [hx] at this;exact absurd (of_decide_eq_true (Bool.and_eq_true_iff.mp this).1) c2
 cases n with
 | zero=>omega
 | succ n =>
  have d1:jq rs≠"let":=λz=>c1 (by rw [z];decide);have d2:jq rs≠"set":=λz=>c1 (by rw [z];decide)
  rw [statement] at out;dsimp only at out;rw [jbs w,jbr w,jd0 w,jah w,jce w,wv w,ww w,hw,decide_eq_false d1,decide_eq_false d2,decide_eq_false (w6 c3),decide_eq_false (w6 c4),decide_eq_false (w6 c5),decide_eq_false (w6 c6),decide_eq_false (w6 c7)] at out;exact jjx Ra (yx out)
abbrev jei:PySem.Stmt:=top 22
abbrev jg7:PySem.Stmt:=top 83
abbrev jcp:PySem.Stmt:=top 85
abbrev je3:PySem.Stmt:=top 86
structure jw3(K:PySem.W.Frag)(mg:Str->Option Value):Prop where
 kExpr:jr K mg "read_expression" ["reader"] jer
 kJoined:jr K mg "read_joined" ["reader", "strength"] jc4
 kSigned:jr K mg "read_signed" ["reader"] jc1
 kReached:jr K mg "read_reached" ["reader"] jb_
 kReach:jr K mg "read_reach" ["reader", "left"] jdu
 kListed:jr K mg "read_listed" ["reader", "closing"] jc3
 kSimple:jr K mg "read_simple" ["reader"] jc0
 kBrack:jr K mg "read_bracketed" ["reader"] jbj
 kRecord:jr K mg "read_record" ["reader"] jc2
 kFn:jr K mg "read_function" ["reader"] jbv
 kBuilt:jr K mg "read_built_in" ["reader"] jca
 kBlock:jr K mg "read_block" ["reader"] jdv
 kStmts:jr K mg "read_statements" ["reader", "closing"] jay
 kStmt:jr K mg "read_statement" ["reader"] jbi
 kBind:jr K mg "read_binding" ["reader"] jcb
 kShow:jr K mg "read_showing" ["reader"] jb9
 kIf:jr K mg "read_if" ["reader"] jhz
 kWhile:jr K mg "read_while" ["reader"] jdt
 kFor:jr K mg "read_for" ["reader"] jf5
 kSlider:jr K mg "read_slider" ["reader"] jcz
 kChoice:jr K mg "read_choice" ["reader"] jc5
theorem jct{x:Str}{ps:List Str}{st:PySem.Stmt}{k:Nat}{sp:Sp}(Kn:jr K mg x ps st)(h:∀ vs H Q E,sp vs H Q E->False):Has P w K mg base k x ps sp:=by
 obtain ⟨f,fd,F,bi,kp,m⟩:=Kn;exact ⟨f,fd,⟨λ_ _ _ _ z=>(h _ _ _ _ z).elim,λ_ _ _ _ _ _ _ _ _ _ _ _ _ z=>(h _ _ _ _ z).elim⟩,bi,kp,m⟩
theorem spR.zero{α:Type}{r h:Nat}{xs:List V}{G:qc->Prop}{F:Nat->qc->Except Nat (α×qc)}{rep:Hp->α->V->Prop}(hr:1<=r):∀ vs H Q E,spR D r 0 h xs G F rep vs H Q E->False:=by
 rintro vs H Q E ⟨X,rd,rs,n,hn,_,p,_⟩;have:=p.fu
 omega
theorem jrv(T:jw3 K mg)(B:z6 P w K mg base D)(Jo:Has P w K mg base 1 "joins_at" ["kind", "strength"] jff)(I:z9 P w K mg base D N)(h k:Nat)(k1:1<=k)(k8:k<=8) :
  Has P w K mg base (xw h (21 - k)) "read_joined" ["reader", "strength"] (spR D (11 - k) (N + 1) h [.int (k:Nat)] Any (λn=>line n k) (ql D)):=by
 have e:21 - k=20 - k + 1:=by omega
 rw [e];by_cases c8:k=8
 ·subst c8;exact jgd T.kJoined B Jo k1 k8 (jty T.kSigned B I h) (λ_=>rfl) (jjn (by decide)) (jen T.kJoined) (λz=>absurd z (by decide)) (Nat.zero_le _) (jen T.kJoined) (λz=>absurd z (by decide)) (Nat.zero_le _)
 ·have Jn:=I.line h (k + 1) (by omega) (by omega);by_cases c3:k<=3
  ·exact jgd T.kJoined B Jo k1 k8 (jen T.kSigned) (λz=>absurd z c8) (Nat.zero_le _) (I.line h 4 (by decide) (by decide)) (λ_=>rfl) (jjn (by omega)) Jn (λ_=>rfl) (jjn (by omega))
  ·exact jgd T.kJoined B Jo k1 k8 (jen T.kSigned) (λz=>absurd z c8) (Nat.zero_le _) (jen T.kJoined) (λz=>absurd z c3) (Nat.zero_le _) Jn (λ_=>rfl) (jjn (by omega))
theorem reads(T:jw3 K mg)(B:z6 P w K mg base D)(Jo:Has P w K mg base 1 "joins_at" ["kind", "strength"] jff)(GW:Has P w K mg base 4 "read_whole" ["reader"] (jhv D))(GV:Has P w K mg base 4 "read_leaves" ["reader", "kind"] (jbz D "NAME" Vanbka.name Vanbka.namesMore))
  (GQ:Has P w K mg base 4 "read_leaves" ["reader", "kind"] (jbz D "QUOTED" Vanbka.quoted Vanbka.quotedMore)) (U:jft w K mg) (W:jfa K mg "SHOWING" (jdr.map V.str)):∀ N,z9 P w K mg base D N:=by
 intro N;induction N with
 | zero =>
  exact ⟨λh=>jct T.kExpr (spR.zero (by decide)),λh k k1 k8=>jct T.kJoined (spR.zero (by omega)),λh=>jct T.kReached (spR.zero (by decide)),λh=>jct T.kSimple (spR.zero (by decide)),λh=>jct T.kBlock (spR.zero (by decide)),
   λh z _=>jct T.kStmts (spR.zero (by decide)),λh=>jct T.kStmt (spR.zero (by decide))⟩
 | succ N I =>
  have GLp:=λh=>jlv jzb T.kListed B I h;have GLb:=λh=>jlv jzc T.kListed B I h
  exact ⟨λh=>jyw T.kExpr B I h,λh k k1 k8=>jrv T B Jo I h k k1 k8,λh=>jq8 T.kReached B I (λh=>jv5 T.kReach B I GLp h) h,
   λh=>jtx T.kSimple B U GLb (λh=>jwb T.kBrack B I (λh=>jtz T.kRecord B I h) h) (λh=>j1q T.kFn B GV I h) (λh=>jwa T.kBuilt B U I h) h,λh=>jwc T.kBlock B I h,λh z hz=>jv2 hz T.kStmts B I h,
   λh=>jyk T.kStmt B W (λh=>jyx T.kBind B I h) (λh=>jym T.kShow B I h) (λh=>j1p T.kIf B I h) (λh=>jv0 T.kWhile B I h) (λh=>j0p T.kFor B I h) (λh=>jtw T.kSlider B GW I h) (λh=>jt1 T.kChoice B GQ I h) h⟩
def jzr(CR:Addr):Sp:=λvs H Q _=>∃ x dx lt,vs=[.ref x,.ref lt]/\H x=some (.ins CR dx [])/\∀ H',But x H H'->H' x=some (.ins CR dx [("tokens",.ref lt),("at",.int 0)])->Q .non H'
theorem j2f:jv ["self", "tokens"] ["self", "tokens"] (ji vq):=⟨rfl,rfl,rfl,by decide +kernel,rfl,by decide +kernel,by decide +kernel⟩
theorem j1r{f:Addr}{fd:FuncData}(F:Fun K "__init__" "Reader.__init__" vq f fd)(R:jak K mg D.CR):xh P w K mg base (CXF P w) 1 f fd ["self", "tokens"] (jzr D.CR):=by
 refine F.okF (k:=0) j2f (λvs H Q E h=>?_) (λcdv A outer s H vs Q E hr h=>?_)
 ·obtain ⟨x,dx,lt,rfl,_⟩:=h;rfl
 obtain ⟨x,dx,lt,rfl,hx,q⟩:=h;refine ⟨_,jc (vy (pv 0) (pv 1) rfl) (je (vy (pv 0) qd rfl)),?_⟩;refine ⟨_,rfl,_,rfl,x,D.CR,dx,_,rfl,hx,R.c.cl,R.c.no _ (.head _),(by show 0 < 1000;decide),?_⟩;refine ⟨_,rfl,x,D.CR,dx,_,rfl,jd,R.c.cl,R.c.no _ (.tail _ (.head _)),(by show 1 < 1000;decide),?_⟩;exact q _ (((But.refl x H).updx).updx) (by rw [jd];rfl)
structure jw5(P:Program)(w:World)(K:PySem.W.Frag)(mg:Str->Option Value)(base:Heap)(D:Ad)(rI:Addr)(rdI:FuncData):Prop where
 c:zu K mg "Reader" D.CR ["tokens", "at"]
 make:Mk K D.CR rI
 ok:xh P w K mg base (CXF P w) 1 rI rdI ["self", "tokens"] (jzr D.CR)
 b:zk K rdI ["self", "tokens"] []
def jmv(D:Ad):Sp:=λvs H Q E=>∃ (T:Hp) (lt:Addr) (all:qc) (len:Nat) (tr:∀ a C dx fs,T a=some (.ins C dx fs)->fs.lookup ("depth":Str)=none),vs=[.ref lt]/\jh T H/\ju1 D.CT T lt all len/\WfL all/\tooDeepAt 0 all=none/\all.length<=700/\match Vanbka.program all with
 | .error l=>Err D.CF E 4 (placeAt all len l:Nat)
 | .ok s=>∀ v H',jh H H'->yw D H' s v->Q v H'
theorem jtb:jv ["tokens", "reader"] ["tokens"] (ji jei):=⟨rfl,rfl,rfl,by decide +kernel,rfl,by decide +kernel,by decide +kernel⟩
theorem jyn{f rI:Addr}{fd rdI:FuncData}(F:Fun K "read_program" "read_program" jei f fd)(RI:jw5 P w K mg base D rI rdI)(I:∀ N,z9 P w K mg base D N):xh P w K mg base (CXF P w) 505 f fd ["tokens"] (jmv D):=by
 refine F.okF (k:=504) jtb (λvs H Q E h=>?_) (λcdv A outer s H vs Q E hr h=>?_)
 ·obtain ⟨T,lt,all,len,tr,rfl,_⟩:=h;rfl
 obtain ⟨T,lt,all,len,tr,rfl,st,tk,wf,dp,sz,q⟩:=h;have nd:=jtb.nd
 have GS:=(I (Vanbka.enough all)).stmts 0 "END" (.inl rfl);refine ⟨_,(jc (ju (i:=1) nd rfl (Or.inl rfl) (jbl RI.make RI.ok (hr.mono (by decide)) rfl RI.c.m RI.b .nil wu (ja (pv 0) jb)))
   (je (jp (jg GS hr rfl (ja (pv 1) (ja jf jb)))))),?_⟩
 refine ⟨_,rfl,λx dx nx ndx ne=>⟨x,dx,lt,rfl,jd,λH2 bt e=>⟨rfl,?_⟩⟩⟩;have sm:jh H H2:=But.same nx ndx bt
 have R:RDa D ⟨T,lt,all,len,tr⟩ x H2 all:=⟨st.trans sm,tk,wf,jk st nx,dx,[],e,rfl⟩
 refine ⟨_,rfl,⟨T,lt,all,len,tr⟩,x,all,Vanbka.enough all,Nat.le_refl _,rfl,⟨R,dp,by decide,by unfold Vanbka.enough;omega,sz⟩,trivial,?_⟩;unfold Vanbka.program at q;unfold vv;cases hs:statements (Vanbka.enough all) all with
 | error l=>rw [hs] at q;exact q
 | ok p =>
  obtain ⟨ss,r⟩:=p;rw [hs] at q;have w2:=jus (yk ((Cell.w8 _).statements all) hs) wf
  have q:match (if r.isEmpty=true then pure ss else halt_ r:Except Nat Stmts) with
   | .error l=>Err D.CF E 4 (placeAt all len l:Nat)
   | .ok s=>∀ v H',jh H H'->yw D H' s v->Q v H':=q
  show Out D ⟨T,lt,all,len,tr⟩ x H2 _ E (yw D) (if jq r = "END" then pure (ss,r) else halt_ r);cases r with
  | nil =>
   rw [if_pos (show jq [] = "END" from rfl)];intro v H3 b3 R3 n3;refine q v H3 (λb o eb=>b3 _ _ (sm _ _ eb) (qt eb nx)) ?_;obtain ⟨a,vs,rfl,ha,lv,hN⟩:=n3;have g:jh (Cut T H2 H3) H3:=jfr (X:=⟨T,lt,all,len,tr⟩) R3.st
   exact ⟨a,vs,rfl,g _ _ ha,lv,jj.same g _ _ hN⟩
  | cons t r =>
   rw [if_neg (show ¬ jq (t::r) = "END" from jjz (w2 t (.head _)))];exact q
def jfz(D:Ad):Sp:=λvs H Q E=>∃ (T:Hp) (lt:Addr) (all:qc),vs=[.ref lt]/\jh T H/\jgs D.CT T lt all/\WfL all/\match tooDeepAt 0 all with
 | some p=>Err D.CF E 3 (p:Int)
 | none=>∀ H',jh H H'->Q .non H'
def jjs:List Str:=["(", "[", "{"]
def jhp:List Str:=[")", "]", "}"]
theorem jq4:∀ l∈jac,Vanbka.opening l=decide (jx l∈jjs)/\Vanbka.closing l=decide (jx l∈jhp):=by decide +kernel
theorem jdb{l:Lex}(h:Wf l):Vanbka.opening l=decide (jx l∈jjs)/\Vanbka.closing l=decide (jx l∈jhp):=by
 rcases wz h with hf | ⟨x,rfl,u⟩ | ⟨v,rfl⟩ | ⟨x,rfl⟩
 ·exact jq4 l hf
 ·rw [zn u];exact ⟨rfl,rfl⟩
 ·exact ⟨rfl,rfl⟩
 ·exact ⟨rfl,rfl⟩
theorem jz3:jv ["tokens", "deep", "token"] ["tokens"] (ji jcp):=⟨rfl,rfl,rfl,by decide +kernel,rfl,by decide +kernel,by decide +kernel⟩
theorem jox{f fI tI:Addr}{fd fdI tdI:FuncData}(F:Fun K "check_brackets" "check_brackets" jcp f fd)(T:vt K mg D.CF fI fdI)(U:z5 K mg D.CT tI tdI)(c1:CI mg "DEEP_BRACKET" 3)(c2:CI mg "DEEPEST_BRACKET" 24)(WO:jfa K mg "OPENING" (jjs.map V.str))(WC:jfa K mg "CLOSING" (jhp.map V.str)) :
  xh P w K mg base (CXF P w) 3 f fd ["tokens"] (jfz D):=by
 refine F.okF (k:=2) jz3 (λvs H Q E h=>?_) (λcdv A outer s H vs Q E hr h=>?_)
 ·obtain ⟨T,lt,all,rfl,_⟩:=h;rfl
 obtain ⟨Th,lt,all,rfl,st,⟨xs,hx,pr⟩,wf,q⟩:=h;have nd:=jz3.nd
 obtain ⟨oa,mO,sO⟩:=WO;obtain ⟨ca,mC,sC⟩:=WC;refine ⟨_,(jc (ju (i:=1) nd rfl (Or.inl rfl) qd)
   (je (jek jag rfl (jab (pv 0)) (y_ (i:=2) nd rfl (Or.inl rfl)) (je (qh (js zw (qi (pv 2) rfl) (ve mO rfl) rfl) (jc (jc_ (i:=1) nd rfl (Or.inl rfl) qd jfo)
   (je (qh (js jdz (pv 1) (qx c2 rfl) (j6 _)) (je (vz T hr rfl (ja (qx c1 rfl) (ja (qi (pv 2) rfl) jb)))) jy))) (je (qh (js zw (qi (pv 2) rfl) (ve mC rfl) rfl) (je (jc_ (i:=1) nd rfl (Or.inl rfl) qd j00)) jy))))))),?_⟩
 have hS:SqL K H lt (xs.map V.ref):=SqL.of (st _ _ hx);have pl:=Paired.len pr
 refine ⟨_,rfl,lt,rfl,⟨_,hS⟩,λi m σ H'=>m=all.length - i/\i<=all.length/\jh H H'/\∃ (d:Int) (v2:Option V),σ=[some (.ref lt),some (.int d),v2]/\tooDeepAt 0 all=tooDeepAt d (all.drop i),⟨_,rfl,Nat.zero_le _,jh.refl H,0,none,rfl,rfl⟩,?_⟩;rintro i m σ H' ⟨rfl,hi,sm,d,v2,rfl,inv⟩;have hS':=sm.seq hS
 by_cases hlt:i < all.length
 ·have hlx:i < (xs.map V.ref).length:=by rw [List.length_map];omega
  have hti:all[i]? = some all[i]:=List.getElem?_eq_getElem hlt;obtain ⟨x,ex,tx⟩:=Paired.get pr hti;have hxi:(xs.map V.ref)[i]? = some (.ref x):=by rw [List.getElem?_map,ex];rfl
  refine .inr ⟨⟨_,_,hS',hxi⟩,λσ' H2=>∃ m',m' < all.length - i/\(m'=all.length - (i + 1)/\i + 1<=all.length/\jh H H2/\∃ (d:Int) (v2:Option V),σ'=[some (.ref lt),some (.int d),v2]/\tooDeepAt 0 all=tooDeepAt d (all.drop (i + 1))),λ_ _ z=>z,?_⟩;rintro y H2 ⟨rfl,hy⟩;have ey:=hy _ hS'
  rw [hxi] at ey;cases ey;obtain ⟨dt,k,p,e,v,ho,hh⟩:∃ (dt:Addr) (k:Str) (p e:Int) (v:V),H2 x=some (.ins D.CT dt (jdi k p e v))/\∃ t r,all.drop i=t::r/\k=jx t.lex/\p=(t.place:Int):=by
   obtain ⟨dt,v,e,_⟩:=tx;exact ⟨dt,_,_,_,_,sm _ _ (st _ _ e),all[i],all.drop (i + 1),List.drop_eq_getElem_cons hlt,rfl,rfl⟩
  have next':∀ (d':Int) (H3:Hp) (v3:Option V),jh H H3->tooDeepAt d (all.drop i)=tooDeepAt d' (all.drop (i + 1))->∃ m',m' < all.length - i/\(m'=all.length - (i + 1)/\i + 1<=all.length/\jh H H3/\∃ (d:Int) (v2:Option V),([some (.ref lt),some (.int d'),v3]:St)=[some (.ref lt),some (.int d),v2]/\tooDeepAt 0 all=tooDeepAt d (all.drop (i + 1))):=λd' H3 v3 s3 e3 =>
   ⟨_,by omega,rfl,hlt,s3,d',v3,rfl,inv.trans e3⟩
  refine ⟨_,rfl,x,D.CT,dt,_,_,rfl,ho,U.c.cl,U.c.no _ (.head _),rfl,oa,_,rfl,.inr (sO _),rfl,by decide,_,rfl,?_⟩;have s1:jh H2 H2:=jh.refl _
  rw [if_neg Bool.false_ne_true,ja9];refine qb (λc=>?_) (λc=>?_)
  ·have c:=of_decide_eq_true c;obtain ⟨t,r,hd,rfl,rfl⟩:=hh
   ·have wt:Wf t.lex:=wf t (List.mem_of_mem_drop (i:=i) (by rw [hd];exact .head _));have op:Vanbka.opening t.lex=true:=by rw [(jdb wt).1];exact decide_eq_true c
    have hr':all.drop (i + 1)=r:=by rw [<- List.drop_drop,hd];rfl
    refine ⟨_,rfl,_,_,rfl,rfl,_,rfl,_,_,rfl,rfl,_,rfl,qb (λc3=>?_) (λc3=>?_)⟩
    ·have c3:=of_decide_eq_true c3;have g:24<=d:=by
      have:(24:Int) < d + 1:=c3;omega
     rw [inv,hd,tooDeepAt,if_pos op,if_pos g] at q;refine ⟨_,rfl,x,D.CT,dt,_,_,rfl,s1 _ _ ho,U.c.cl,U.c.no _ (.tail _ (.head _)),rfl,yx q⟩
    ·have g:¬ 24<=d:=λz=>c3 (decide_eq_true (by show (24:Int) < d + 1;omega));refine next' (d + 1) _ _ (sm.trans s1) ?_;rw [hd,tooDeepAt,if_pos op,if_neg g,hr']
  ·have c:¬ k∈jjs:=λz=>c (decide_eq_true z);refine ⟨_,rfl,x,D.CT,dt,_,_,rfl,s1 _ _ ho,U.c.cl,U.c.no _ (.head _),rfl,ca,_,rfl,.inr (sC _),rfl,by decide,_,rfl,?_⟩;have s2:=s1
   rw [if_neg Bool.false_ne_true,ja9];refine qb (λc4=>?_) (λc4=>?_)
   ·have c4:=of_decide_eq_true c4;obtain ⟨t,r,hd,rfl,rfl⟩:=hh
    ·have wt:Wf t.lex:=wf t (List.mem_of_mem_drop (i:=i) (by rw [hd];exact .head _));have op:¬ Vanbka.opening t.lex=true:=by rw [(jdb wt).1];exact λz=>c (of_decide_eq_true z)
     have cl:Vanbka.closing t.lex=true:=by rw [(jdb wt).2];exact decide_eq_true c4
     have hr':all.drop (i + 1)=r:=by rw [<- List.drop_drop,hd];rfl
     refine ⟨_,rfl,_,_,rfl,rfl,next' (d - 1) _ _ (sm.trans s2) ?_⟩;rw [hd,tooDeepAt,if_neg op,if_pos cl,hr']
   ·have c4:¬ k∈jhp:=λz=>c4 (decide_eq_true z);refine next' d _ _ (sm.trans s2) ?_;obtain ⟨t,r,hd,rfl,rfl⟩:=hh
    ·have wt:Wf t.lex:=wf t (List.mem_of_mem_drop (i:=i) (by rw [hd];exact .head _));have op:¬ Vanbka.opening t.lex=true:=by rw [(jdb wt).1];exact λz=>c (of_decide_eq_true z)
     have cl:¬ Vanbka.closing t.lex=true:=by rw [(jdb wt).2];exact λz=>c4 (of_decide_eq_true z)
     have hr':all.drop (i + 1)=r:=by rw [<- List.drop_drop,hd];rfl
     rw [hd,tooDeepAt,if_neg op,if_neg cl,hr']
 ·have e:i=all.length:=by omega
  subst e;rw [List.drop_eq_nil_of_le (by omega)] at inv;rw [inv] at q;exact .inl ⟨⟨_,hS',by rw [List.length_map,pl];exact Nat.le_refl _⟩,q H' sm⟩
def jkp(D:Ad):Sp:=λvs H Q E=>∃ (s:Stmts) (v:V),vs=[v]/\yw D H s v/\if 40 < s.depth then Err D.CF E 5 (s.depth:Int) else ∀ H',jh H H'->Q .non H'
theorem jpu:jv ["program", "depth"] ["program"] (ji je3):=⟨rfl,rfl,rfl,by decide +kernel,rfl,by decide +kernel,by decide +kernel⟩
theorem jv9{f fI:Addr}{fd fdI:FuncData}(F:Fun K "check_depth" "check_depth" je3 f fd)(T:vt K mg D.CF fI fdI)(G:Has P w K mg base 1 "greatest_depth" ["trees"] (jfg K D.CN))(c1:CI mg "DEEP_PROGRAM" 5)(c2:CI mg "DEEPEST_PROGRAM" 40) :
  xh P w K mg base (CXF P w) 3 f fd ["program"] (jkp D):=by
 refine F.okF (k:=2) jpu (λvs H Q E h=>?_) (λcdv A outer s H vs Q E hr h=>?_)
 ·obtain ⟨ss,v,rfl,_⟩:=h;rfl
 obtain ⟨ss,v,rfl,⟨a,us,rfl,ha,lu,hN⟩,q⟩:=h;have nd:=jpu.nd
 refine ⟨_,(jc (ju (i:=1) nd rfl (Or.inl rfl) (jg G hr rfl (ja (pv 0) jb)))
   (je (qh (js jdz (pv 1) (qx c2 rfl) (j6 _)) (je (vz T hr rfl (ja (qx c1 rfl) (ja (pv 1) jb)))) jy))),?_⟩
 refine ⟨_,rfl,a,us,_,rfl,SqL.of ha,hN,by omega,λH1 sm=>?_⟩;rw [jba];refine ⟨_,rfl,_,_,rfl,rfl,_,rfl,qb (λc=>?_) (λc=>?_)⟩
 ·have c:(40:Int) < (ss.depth:Int):=of_decide_eq_true c;rw [if_pos (by omega)] at q;exact ⟨_,rfl,yx q⟩
 ·have c:¬ (40:Int) < (ss.depth:Int):=λz=>c (decide_eq_true z);rw [if_neg (by omega)] at q;exact q H1 sm
end
end Prg
end
section
set_option maxRecDepth 100000
set_option maxHeartbeats 1000000
namespace L2
open PySem PySem.Spec PyProof.Rows
def j1g(C:Addr)(tb:XK->TS)(ts:TS):TS:=λD σ H=>∃ EB:XK,tb EB D σ H/\∀ C' dxo H',EB C' dxo H'->C' = .ref C/\∃ dx,dxo=some dx/\∀ (σ':St) (H2:Hp),σ'.length=σ.length->jh H' H2->ts { nx:=λ_ _=>False,rt:=D.rt } σ' H2
theorem jx_{X:Cx}{body suite:List Stmt}{b0:Stmt}{cn:Str}{np hpos pos:Pos}{C fI:Addr}{fs:List Str}{tb:XK->TS}{ts:TS}
  (hst:X.stack=X.env::X.outer) (hf:X.env.frame=some X.env.locals) (hex:X.ex=[]) (hg:Gl X cn) (hm:X.mg cn=some (.ref C)) (q:jb8 X.K C fI fs=true)
  (hb:∀ (pn:List (Addr×Obj)) (EB:XK) (E':Value->Shared->Prop),jao (CXF X.prog X.w) (X.with pn E') EB->PSs (X.with pn E') body (tb EB))
  (hs:∀ (pn:List (Addr×Obj)) (e:Value),PSs (X.clause pn e) (b0::suite) ts) (hdb:(cn == ("__debug__":Str))=false:=by decide) :
  PS X (.Try body [.ExceptHandler (some (.Name cn np)) none (b0::suite) hpos] [] [] pos) (j1g C tb ts):=by
 intro pins s σ H D I h;obtain ⟨EB,hB,hH⟩:=h;refine wpAny_Try_except ?_;have ok:=I.ok
 have key:∀ (E':Value->Shared->Prop),(∀ e s1,E' e s1↔wpAny (model X.prog X.w) X.A (noteFrame e X.env) (λ_ s₂=>wpAny (model X.prog X.w) X.A (setFlight e none) (λ_ s₃ =>
   wpAny (model X.prog X.w) X.A (handleBy e X.env [.ExceptHandler (some (.Name cn np)) none (b0::suite) hpos]) (SP X pins D) X.xe s₃) X.xe s₂) X.xe s1)->jao (CXF X.prog X.w) (X.with (X.pn ++ pins) E') EB:=by
  intro E' hE' pins' σ1 H1 s1 e s2 I1 c;refine (hE' e s2).mpr ?_;refine jsr (X:=X.with (X.pn ++ pins) E') hst hf hex I1 c (λx T C' dx H2 H3 s3 ee hE nx sm ex eT ar I3=>?_) rfl;subst ee;obtain ⟨rfl,dx',edx,hH2⟩:=hH C' (some dx) H2 hE;cases edx;have J:=I3.toClause ok (.ref x)
  obtain ⟨nm,qn,N,bs,sn,sub,ab,col,dd,c0,c1,c2,c3,c5,mN,hC,_⟩:=jec J.kIn q;obtain ⟨⟨o,vs,hx,hc,hdx,hd,h1⟩,_,_⟩:=id ar;refine wpAny_handleBy_cons (codeAny_handlers_test (jfn J hg hm ?_ hdb)) (by intro z;cases z);obtain ⟨hp,g,dr,tk,os⟩:=s3;refine wpAny_excMatches_sub_self hC hx hc (by decide) ?_;refine codeAny_handlers_suite ?_;refine joo J eT ar λs4 ar4 J4=>?_;refine wpAny_mono (hs _ (.ref x) pins' s4 _ _ _ J4 (hH2 σ1 _ ?_ sm)) (λfl s6 z=>?_) (λ_ _ z=>z.elim)
  ·rw [I.len,I1.len]
  ·cases fl with
   | next=>obtain ⟨_,_,_,z⟩:=z;exact z.elim
   | brk=>obtain ⟨_,_,_,z⟩:=z;exact z.elim
   | cont=>obtain ⟨_,_,_,z⟩:=z;exact z.elim
   | ret u =>
    obtain ⟨v,σ6,H6,J7,ru,q6⟩:=z;exact ⟨v,_,H6,J7.ofClause ok,ru,q6⟩
 refine wpAny_mono (hb (X.pn ++ pins) EB _ (key _ λ_ _=>Iff.rfl) [] s σ H D (I.toPn _) hB) (λf s1 z=>?_) (λ_ _ z=>z);cases f with
 | next =>
  obtain ⟨σ',H',I',z⟩:=z;exact wpAny_execs_nil ⟨σ',H',I'.ofPn ok,z⟩
 | brk=>obtain ⟨σ',H',I',z⟩:=z;exact ⟨σ',H',I'.ofPn ok,z⟩
 | cont=>obtain ⟨σ',H',I',z⟩:=z;exact ⟨σ',H',I'.ofPn ok,z⟩
 | ret u=>obtain ⟨v,σ',H',I',ru,z⟩:=z;exact ⟨v,σ',H',I'.ofPn ok,ru,z⟩
end L2
end
section
set_option maxRecDepth 100000
set_option maxHeartbeats 4000000
namespace Prg
open PySem L2
open Vanbka (Bytes)
abbrev jez:PySem.Stmt:=top 84
abbrev jio:PySem.Stmt:=top 122
section
variable{P:Program}{w:World}{K:PySem.W.Frag}{mg:Str->Option Value}{base:Heap}{f CF CT:Addr}{fd:FuncData}
def jko(K:PySem.W.Frag)(CF CT:Addr):Sp:=λvs H Q E=>∃ (a:Addr) (t:Bytes),vs=[.ref a]/\SqL K H a (vb t)/\t.length<=900000/\match t.findIdx? (λc => !Vanbka.allowed c) with
 | some p=>Err CF E 1 (p:Int)
 | none=>match Vanbka.tokens t with
  | .error p=>Err CF E 2 (p:Int)
  | .ok ts=>∀ l H',jh H H'->jgs CT (Cut noH H H') l ts->Q (.ref l) H'
theorem jx3:jv ["text"] ["text"] (ji jez):=⟨rfl,rfl,rfl,by decide +kernel,rfl,by decide +kernel,by decide +kernel⟩
theorem jv4(F:Fun K "read_tokens" "read_tokens" jez f fd)(G1:Has P w K mg base 3 "check_bytes" ["text"] (jkq K CF))(G2:Has P w K mg base 5 "cut_tokens" ["text"] (jil K CF CT)):xh P w K mg base (CXF P w) 6 f fd ["text"] (jko K CF CT):=by
 refine F.okF (k:=5) jx3 (λvs H Q E h=>?_) (λcdv A outer s H vs Q E hr h=>?_)
 ·obtain ⟨a,t,rfl,_⟩:=h;rfl
 obtain ⟨a,t,rfl,hS,hlen,q⟩:=h;refine ⟨_,jc (j_ (jg G1 hr rfl (ja (pv 0) jb))) (je (jp (jg G2 hr rfl (ja (pv 0) jb)))),?_⟩;refine ⟨_,rfl,a,t,rfl,hS,?_⟩;cases hf:t.findIdx? (λc => !Vanbka.allowed c) with
 | some p=>rw [hf] at q;exact q
 | none =>
  rw [hf] at q;intro H1 s1;refine ⟨_,rfl,a,t,rfl,s1.seq hS,hlen,?_⟩;cases ht:Vanbka.tokens t with
  | error p=>rw [ht] at q;exact q
  | ok ts =>
   rw [ht] at q;exact λl H2 s2 tk=>q l H2 (s1.trans s2) (jgs.same (jbc (λb z=>jk s1 z) λ_ _ _ z=>z) tk)
def jmx(K:PySem.W.Frag):Sp:=λvs H Q _=>∃ (a:Addr) (t:Bytes),vs=[.ref a]/\SqL K H a (vb t)/\Q (.bl (decide (Vanbka.LONGEST < t.length))) H
theorem jzy:jv ["text"] ["text"] (ji jio):=⟨rfl,rfl,rfl,by decide +kernel,rfl,by decide +kernel,by decide +kernel⟩
theorem jyr(F:Fun K "is_too_long" "is_too_long" jio f fd)(ml:mg "len"=none)(c1:CI mg "LONGEST_TEXT" 600):xh P w K mg base (CXF P w) 1 f fd ["text"] (jmx K):=by
 refine F.okF (k:=0) jzy (λvs H Q E h=>?_) (λcdv A outer s H vs Q E hr h=>?_)
 ·obtain ⟨a,t,rfl,_⟩:=h;rfl
 obtain ⟨a,t,rfl,hS,q⟩:=h;refine ⟨_,je (jp (jh1 jdz (yt x9 rfl ml PySem.boot_len (ja (pv 0) jb)) (qx c1 rfl) (j6 _))),?_⟩;refine ⟨_,rfl,a,_,rfl,.inl hS,_,_,rfl,rfl,?_⟩;have e:decide ((600:Int) < ((vb t).length:Int))=decide (Vanbka.LONGEST < t.length):=decide_eq_decide.mpr (by
  rw [xp];unfold Vanbka.LONGEST;omega)
 rw [<- e] at q;exact q
end
def told(x:Vanbka.Answer):List Int:=match x with
 | .refused n=>[n]
 | .told l=>l
open Vanbka (Lex reserved isSign isWord next nameNext wordNext eat b halt_ placeAt tooDeepAt Op Prim Way Exprs Fields Stmts opNext chain line simple reach listed more fields parts inBrackets function block statements statement)
section
variable{P:Program}{w:World}{K:PySem.W.Frag}{mg:Str->Option Value}{base:Heap}{D:Ad}
abbrev jg9:PySem.Stmt:=top 70
def jqq(K:PySem.W.Frag)(CT:Addr):Sp:=λvs H Q _=>∃ (a:Addr) (t:Bytes),vs=[.ref a]/\SqL K H a (vb t)/\∀ x H',jh H H'->jmk CT H' x t.length->Q (.ref x) H'
theorem j1m:jv ["text"] ["text"] (ji jg9):=⟨rfl,rfl,rfl,by decide +kernel,rfl,by decide +kernel,by decide +kernel⟩
theorem j0q{f CT tI:Addr}{fd tdI:FuncData}(F:Fun K "end_token" "end_token" jg9 f fd)(U:z5 K mg CT tI tdI)(ml:mg "len"=none):xh P w K mg base (CXF P w) 3 f fd ["text"] (jqq K CT):=by
 refine F.okF (k:=2) j1m (λvs H Q E h=>?_) (λcdv A outer s H vs Q E hr h=>?_)
 ·obtain ⟨a,t,rfl,_⟩:=h;rfl
 obtain ⟨a,t,rfl,hS,q⟩:=h;refine ⟨_,je (jp (jbl U.make (jge U) hr rfl U.c.m U.b .nil wu
    (ja jf (ja (yt x9 rfl ml PySem.boot_len (ja (pv 0) jb)) (ja (yt x9 rfl ml PySem.boot_len (ja (pv 0) jb)) (ja jfl jb)))))),?_⟩
 refine ⟨_,rfl,a,_,rfl,.inl hS,_,rfl,a,_,rfl,.inl hS,λx dx nx ndx ne=>⟨x,dx,_,_,_,_,rfl,jd,λH2 b e=>⟨rfl,q x H2 (But.same nx ndx b) ⟨dx,?_⟩⟩⟩⟩;rw [<- xp t];exact e
def je_(T:Hp):Hp:=λb=>match T b with
 | some (.ins C dx fs)=>if fs.lookup ("depth":Str)=none then some (.ins C dx fs) else none
 | o=>o
theorem jyf{T:Hp}:∀ a C dx fs,je_ T a=some (.ins C dx fs)->fs.lookup ("depth":Str)=none:=by
 intro a C dx fs h;unfold je_ at h;split at h
 ·split at h
  ·rename_i c;injection h with h;injection h with _ _ h;rw [<- h];exact c
  ·cases h
 ·rename_i n;exact absurd h (n C dx fs)
theorem jvw{T:Hp}:jh (je_ T) T:=λb o h=>by
 unfold je_ at h;split at h
 ·rename_i e;split at h
  ·rw [e];exact h
  ·cases h
 ·exact h
theorem jnw{T:Hp}{a:Addr}{us:List V}(h:T a=some (.lst us)):je_ T a=some (.lst us):=by
 unfold je_;rw [h]
theorem jnv{T:Hp}{a C dx:Addr}{k:Str}{p e:Int}{v:V}(h:T a=some (.ins C dx (jdi k p e v))):je_ T a=some (.ins C dx (jdi k p e v)):=by
 unfold je_;rw [h];exact if_pos rfl
theorem vm.only{CT:Addr}{H:Hp}{x:Addr}{t:Vanbka.Tok}(h:vm CT H x t):vm CT (je_ H) x t:=by
 obtain ⟨dx,v,e,q⟩:=h;exact ⟨dx,v,jnv e,q.lists λ_ _ z=>jnw z⟩
def jg2(K:PySem.W.Frag)(D:Ad):Sp:=λvs H Q E=>∃ (a:Addr) (t:Bytes),vs=[.ref a]/\SqL K H a (vb t)/\t.length<=600/\match Vanbka.read t with
 | .error e=>Err D.CF E (e.1:Nat) (e.2:Nat)
 | .ok s=>∀ v H',jh H H'->yw D H' s v->Q v H'
theorem jtf:jv ["text", "tokens", "program"] ["text"] (ji jg7):=⟨rfl,rfl,rfl,by decide +kernel,rfl,by decide +kernel,by decide +kernel⟩
theorem yw.same{H H':Hp}{s:Stmts}{v:V}(sm:jh H H')(h:yw D H s v):yw D H' s v:=by
 obtain ⟨a,vs,e,ha,lv,hN⟩:=h;exact ⟨a,vs,e,sm _ _ ha,lv,jj.same sm _ _ hN⟩
theorem jyv{f:Addr}{fd:FuncData}(F:Fun K "read_good" "read_good" jg7 f fd)(GR:Has P w K mg base 6 "read_tokens" ["text"] (jko K D.CF D.CT))(GE:Has P w K mg base 3 "end_token" ["text"] (jqq K D.CT))(G3:Has P w K mg base 3 "check_brackets" ["tokens"] (jfz D))
  (G4:Has P w K mg base 505 "read_program" ["tokens"] (jmv D)) (G5:Has P w K mg base 3 "check_depth" ["program"] (jkp D)):xh P w K mg base (CXF P w) 506 f fd ["text"] (jg2 K D):=by
 refine F.okF (k:=505) jtf (λvs H Q E h=>?_) (λcdv A outer s H vs Q E hr h=>?_)
 ·obtain ⟨a,t,rfl,_⟩:=h;rfl
 obtain ⟨a,t,rfl,hS,hlen,q⟩:=h;have nd:=jtf.nd
 refine ⟨_,(jc (ju (i:=1) nd rfl (Or.inl rfl) (jg GR hr rfl (ja (pv 0) jb)))
   (jc (j_ (jg G3 hr rfl (ja (pv 1) jb)))
   (jc (ju (i:=2) nd rfl (Or.inl rfl) (jg G4 hr rfl (ja (qa qg (pv 1) (j3 (ja (jg GE hr rfl (ja (pv 0) jb)) jb))) jb)))
   (jc (j_ (jg G5 hr rfl (ja (pv 2) jb)))
   (je (jp (pv 2))))))),?_⟩
 unfold Vanbka.read at q;refine ⟨_,rfl,a,t,rfl,hS,by omega,?_⟩;cases hf:t.findIdx? (λc => !Vanbka.allowed c) with
 | some p=>rw [hf] at q;exact q
 | none =>
  rw [hf] at q;cases ht:Vanbka.tokens t with
  | error p=>rw [ht] at q;exact q
  | ok ts =>
   rw [ht] at q;dsimp only at q;intro lt H2 s2 tk;have sT:jh (Cut noH H H2) H2:=λb o e=>by
    rcases jbd e with z | ⟨_,_,z⟩
    ·cases z
    ·exact z
   have wf:WfL ts:=jso _ _ _ _ ht;have ln:ts.length<=t.length:=jqh _ _ _ _ ht
   refine ⟨_,rfl,H2,lt,ts,rfl,jh.refl H2,jgs.same sT tk,wf,?_⟩;cases hd:tooDeepAt 0 ts with
   | some p=>rw [hd] at q;exact q
   | none =>
    rw [hd] at q;dsimp only at q;intro H3 s3;refine ⟨_,rfl,_,rfl,a,t,rfl,(s2.trans s3).seq hS,λx H4 s4 en=>⟨by show 1<=2 ^ 24;decide,λl1 m1=>?_⟩⟩;obtain ⟨xs,hx,pr⟩:=jgs.same ((sT.trans s3).trans s4) tk;have pl:=Paired.len pr
    have s5:jh H4 (upd H4 l1 (.lst [.ref x])):=jo m1 _;refine ⟨lt,l1,_,_,rfl,rfl,s5 _ _ hx,jd,?_,λp mp=>?_⟩
    ·rw [List.length_map,pl];show ts.length + 1<=2 ^ 24
     omega
    have s6:=s5.trans (jo mp (.lst (xs.map V.ref ++ [.ref x])));refine ⟨je_ _,p,ts,t.length,jyf,rfl,jvw,⟨xs ++ [x],?_,?_⟩,wf,hd,by omega,?_⟩
    ·refine jnw ?_;rw [jd,List.map_append];rfl
    ·refine Paired.snoc (Paired.mapR (G:=j0_ D.CT _ t.length) (g:=some) (λ_ _ z=>vm.only (vm.same s6 z)) pr) ?_;obtain ⟨dx,e⟩:=en;exact ⟨dx,jnv (s6 _ _ e)⟩
    cases hp:Vanbka.program ts with
    | error l=>rw [hp] at q;exact q
    | ok ss =>
     rw [hp] at q;dsimp only at q;intro v H7 s7 rp;refine ⟨_,rfl,ss,v,rfl,rp,?_⟩;have q:match (if 40 < ss.depth then .error (5,ss.depth) else .ok ss:Except (Nat×Nat) Stmts) with
      | .error e=>Err D.CF E (e.1:Nat) (e.2:Nat)
      | .ok s=>∀ v H',jh H H'->yw D H' s v->Q v H':=q
     by_cases c:40 < ss.depth
     ·rw [if_pos c] at q ⊢;exact q
     ·rw [if_neg c] at q ⊢;intro H8 s8;exact ⟨_,rfl,q v H8 (s2.trans (s3.trans (s4.trans (s6.trans (s7.trans s8))))) (yw.same s8 rp)⟩
def MT(te:TE)(σ:St)(H:Hp)(x:Bytes):Prop:=∀ H',jh H H'->∀ Q:VK,(∀ a H2,jh H' H2->H2 a=some (.lst (vb x))->Q (.ref a) H2)->te σ H' Q
theorem MT.var{σ:St}{H:Hp}{i:Nat}{a:Addr}{x:Bytes}(e:σ[i]? = some (some (.ref a)))(h:H a=some (.lst (vb x))):MT (qy i) σ H x:=λH' s Q q=>⟨_,e,q a H' (jh.refl H') (s _ _ h)⟩
structure qp(D:Ad)(H:Hp)(x:Addr)(k:Str)(ls:List x6)(ps:List j5)(bs:List (List j5)):Prop where
 ex:∃ (dx:TX) (a1 a2 a3:Addr) (vls vps vbs:List V) (d:Nat),H x=some (.ins D.CN dx.d (jeo k a1 a2 a3 dx d))/\H a1=some (.lst vls)/\H a2=some (.lst vps)/\H a3=some (.lst vbs)/\(vls.length<=1000/\vps.length<=1000/\vbs.length<=1000)/\Paired (qo H) ls vls/\jj D.CN H ps vps/\qu D.CN H bs vbs
theorem qp.of{H:Hp}{k:Str}{ls:List x6}{ps:List j5}{bs:List (List j5)}{v:V}(h:jz D.CN H (.mk k ls ps bs) v):∃ x,v = .ref x/\qp D H x k ls ps bs:=by
 obtain ⟨x,dx,a1,a2,a3,vls,vps,vbs,e,h1⟩:=h;exact ⟨x,e,dx,a1,a2,a3,vls,vps,vbs,_,h1⟩
theorem qp.same{H H':Hp}{x:Addr}{k:Str}{ls:List x6}{ps:List j5}{bs:List (List j5)}(s:jh H H')(h:qp D H x k ls ps bs):qp D H' x k ls ps bs:=by
 obtain ⟨dx,a1,a2,a3,vls,vps,vbs,d,h1,h2,h3,h4,sz,h5,h6,h7⟩:=h.ex;exact ⟨dx,a1,a2,a3,vls,vps,vbs,d,s _ _ h1,s _ _ h2,s _ _ h3,s _ _ h4,sz,Paired.mapP h5 λ_ _ z=>z.same s,h6.same s,h7.same s⟩
variable{C:zu K mg "Tree" D.CN ["kind", "leaves", "parts", "blocks", "depth", "place", "end"]}
theorem qw(C:zu K mg "Tree" D.CN ["kind", "leaves", "parts", "blocks", "depth", "place", "end"]){H:Hp}{x:Addr}{k:Str}{ls:List x6}{ps:List j5}{bs:List (List j5)}{σ:St}{i:Nat}{Q:VK}(T:qp D H x k ls ps bs)(hi:σ[i]? = some (some (.ref x)))(q:Q (.str k) H):ja1 K (qy i) "kind" σ H Q:=by
 obtain ⟨dx,a1,a2,a3,vls,vps,vbs,d,h1,h2,h3,h4,sz,h5,h6,h7⟩:=T.ex;exact ⟨_,hi,x,D.CN,dx,_,_,rfl,h1,C.cl,C.no _ (.head _),rfl,q⟩
theorem jzl(C:zu K mg "Tree" D.CN ["kind", "leaves", "parts", "blocks", "depth", "place", "end"]){H:Hp}{x:Addr}{k:Str}{ls:List x6}{ps:List j5}{bs:List (List j5)}{σ:St}{i j:Nat}{Q:VK}{y:j5}(T:qp D H x k ls ps bs)(hi:σ[i]? = some (some (.ref x)))(hj:ps[j]? = some y)(q:∀ v,jz D.CN H y v->Q v H) :
  tOp (jgb K) (ja1 K (qy i) "parts") (tC (.int (j:Int))) σ H Q:=by
 obtain ⟨dx,a1,a2,a3,vls,vps,vbs,d,h1,h2,h3,h4,sz,h5,h6,h7⟩:=T.ex;obtain ⟨v,e,n⟩:=jj.get ps vps h6 j y hj;exact ⟨_,hi,x,D.CN,dx,_,_,rfl,h1,C.cl,C.no _ (.tail _ (.tail _ (.head _))),rfl,a2,vps,j,v,rfl,rfl,SqL.of h3,jaw e,q v n⟩
theorem jmr(C:zu K mg "Tree" D.CN ["kind", "leaves", "parts", "blocks", "depth", "place", "end"]){H:Hp}{x:Addr}{k:Str}{ls:List x6}{ps:List j5}{bs:List (List j5)}{σ:St}{i j:Nat}{Q:VK}{y:x6}(T:qp D H x k ls ps bs)(hi:σ[i]? = some (some (.ref x)))(hj:ls[j]? = some y)(q:∀ v,qo H y v->Q v H) :
  tOp (jgb K) (ja1 K (qy i) "leaves") (tC (.int (j:Int))) σ H Q:=by
 obtain ⟨dx,a1,a2,a3,vls,vps,vbs,d,h1,h2,h3,h4,sz,h5,h6,h7⟩:=T.ex;have h5':Paired (λv l=>qo H l v) vls ls:=by
  clear h6 h7 sz h2 h3 h4 hj q T;induction h5 with
  | nil=>exact .nil
  | cons r t ih=>exact .cons r ih
 obtain ⟨v,e,n⟩:=Paired.get h5' hj;exact ⟨_,hi,x,D.CN,dx,_,_,rfl,h1,C.cl,C.no _ (.tail _ (.head _)),rfl,a1,vls,j,v,rfl,rfl,SqL.of h2,jaw e,q v n⟩
theorem jcn(C:zu K mg "Tree" D.CN ["kind", "leaves", "parts", "blocks", "depth", "place", "end"]){H:Hp}{x:Addr}{k:Str}{ls:List x6}{ps:List j5}{bs:List (List j5)}{σ:St}{i j:Nat}{u:Bytes}(T:qp D H x k ls ps bs)(hi:σ[i]? = some (some (.ref x)))(hj:ls[j]? = some (.bytes u)) :
  MT (tOp (jgb K) (ja1 K (qy i) "leaves") (tC (.int (j:Int)))) σ H u:=λH' s Q q=>jmr C (T.same s) hi hj λv hv=>by
 obtain ⟨a,rfl,e⟩:=hv;exact q a H' (jh.refl H') e
theorem v_{x:Str}{ps N:List Str}{st:PySem.Stmt}{sp:Sp}{k:Nat}(Kn:jr K mg x ps st)(S:jv N ps (ji st))(len:∀ vs H Q E,sp vs H Q E->vs.length=ps.length)
  (body:∀ (f:Addr) (cdv:Value) (A:Around) (outer:List Env) (s:Shared) (H:Hp) (vs:List V) (Q:VK) (E:XK),xu k (A.deeper (PyProof.Rows.envOfC x (ji st) s.heap.objs.size f cdv))->sp vs H Q E->
   ∃ t,PSs (xt (CXF P w) P w K mg base N x (ji st) f cdv A outer s H E) (z0 st) t/\t { nx:=λ_ H'=>Q .non H',rt:=Q } (jcx N vs) H):Has P w K mg base (k + 1) x ps sp:=by
 obtain ⟨f,fd,F,bi,kp,m⟩:=Kn;exact ⟨f,fd,F.okF S len (λcdv A outer s H vs Q E hr hs=>body f cdv A outer s H vs Q E hr hs),bi,kp,m⟩
theorem jui{x:Str}{ps:List Str}{st:PySem.Stmt}{sp:Sp}{k:Nat}(Kn:jr K mg x ps st)(no:∀ vs H Q E,¬ sp vs H Q E):Has P w K mg base k x ps sp:=by
 obtain ⟨f,fd,F,bi,kp,m⟩:=Kn;exact ⟨f,fd,⟨λvs H Q E h=>absurd h (no _ _ _ _),λA outer s H args us vs Q E hr he hb hv hs=>absurd hs (no _ _ _ _)⟩,bi,kp,m⟩
def AT(t:TA)(σ:St)(H:Hp)(R:List V->Hp->Prop):Prop:=∀ H',jh H H'->∀ Q:List V->Hp->Prop,(∀ vs H2,jh H' H2->R vs H2->Q vs H2)->t σ H' Q
def LT(K:PySem.W.Frag)(te:TE)(σ:St)(H:Hp)(us:List V):Prop:=∀ H',jh H H'->∀ Q:VK,(∀ a H2,jh H' H2->SqL K H2 a us->Q (.ref a) H2)->te σ H' Q
theorem LT.var{σ:St}{H:Hp}{i:Nat}{a:Addr}{us:List V}(e:σ[i]? = some (some (.ref a)))(h:SqL K H a us):LT K (qy i) σ H us:=λH' s Q q=>⟨_,e,q a H' (jh.refl H') (s.seq h)⟩
abbrev MW:Nat:=450000
abbrev j1d:Vanbka.Expr->Prop:=λ_=>True
abbrev jsi:Vanbka.Stmt->Prop:=λ_=>True
theorem jzk{σ:St}{H:Hp}{k:Nat}:∀ H',jh H H'->∀ Q:VK,Q (.int (k:Int)) H'->(tC (.int (k:Int))) σ H' Q:=λ_ _ _ q=>q
theorem LT.parts{σ:St}{H:Hp}{i:Nat}{x:Addr}{z:Str}{ls:List x6}{ps:List j5}{bs:List (List j5)}(C:zu K mg "Tree" D.CN ["kind", "leaves", "parts", "blocks", "depth", "place", "end"])(T:qp D H x z ls ps bs)(hi:σ[i]? = some (some (.ref x))):∃ vps,vps.length<=1000/\jj D.CN H ps vps/\LT K (ja1 K (qy i) "parts") σ H vps:=by
 obtain ⟨dx,a1,a2,a3,vls,vps,vbs,d,h1,h2,h3,h4,sz,h5,h6,h7⟩:=T.ex;exact ⟨vps,sz.2.1,h6,λH' s Q q=>⟨_,hi,x,D.CN,dx,_,_,rfl,s _ _ h1,C.cl,C.no _ (.tail _ (.tail _ (.head _))),rfl,q a2 H' (jh.refl _) (SqL.of (s _ _ h3))⟩⟩
theorem LT.blocks{σ:St}{H:Hp}{i:Nat}{x:Addr}{z:Str}{ls:List x6}{ps:List j5}{bs:List (List j5)}(C:zu K mg "Tree" D.CN ["kind", "leaves", "parts", "blocks", "depth", "place", "end"])(T:qp D H x z ls ps bs)(hi:σ[i]? = some (some (.ref x))):∃ vbs,vbs.length<=1000/\qu D.CN H bs vbs/\LT K (ja1 K (qy i) "blocks") σ H vbs:=by
 obtain ⟨dx,a1,a2,a3,vls,vps,vbs,d,h1,h2,h3,h4,sz,h5,h6,h7⟩:=T.ex;exact ⟨vbs,sz.2.2,h7,λH' s Q q=>⟨_,hi,x,D.CN,dx,_,_,rfl,s _ _ h1,C.cl,C.no _ (.tail _ (.tail _ (.tail _ (.head _)))),rfl,q a3 H' (jh.refl _) (SqL.of (s _ _ h4))⟩⟩
theorem LT.leaves{σ:St}{H:Hp}{i:Nat}{x:Addr}{z:Str}{ls:List x6}{ps:List j5}{bs:List (List j5)}(C:zu K mg "Tree" D.CN ["kind", "leaves", "parts", "blocks", "depth", "place", "end"])(T:qp D H x z ls ps bs)(hi:σ[i]? = some (some (.ref x))):∃ vls,vls.length<=1000/\Paired (qo H) ls vls/\LT K (ja1 K (qy i) "leaves") σ H vls:=by
 obtain ⟨dx,a1,a2,a3,vls,vps,vbs,d,h1,h2,h3,h4,sz,h5,h6,h7⟩:=T.ex;exact ⟨vls,sz.1,h5,λH' s Q q=>⟨_,hi,x,D.CN,dx,_,_,rfl,s _ _ h1,C.cl,C.no _ (.tail _ (.head _)),rfl,q a1 H' (jh.refl _) (SqL.of (s _ _ h2))⟩⟩
theorem jod{xs:List V}{n:Nat}(h:n<=xs.length):jcj xs (some (n:Int)) none=xs.drop n:=by
 unfold jcj;rw [HT.jd6,HT.jnj,Nat.min_eq_left h,List.take_of_length_le (by rw [List.length_drop];exact Nat.le_refl _)]
theorem LT.from{σ:St}{H:Hp}{te:TE}{us:List V}{n:Nat}(h:LT K te σ H us)(hn:n<=us.length):LT K (tSl (jz9 K) te (jxa (tC (.int (n:Int)))) jpj) σ H (us.drop n):=λH' s Q q =>
 h H' s _ λa H2 s2 hS=>⟨_,rfl,a,us,rfl,hS,λp np=>q p _ (s2.trans (jo np _)) (by rw [jod hn];exact SqL.of jd)⟩
def v7(H:Hp)(as:List Addr)(xs:List Bytes):Prop:=Paired (λa x=>H a=some (.lst (vb x))) as xs
theorem jwn{H:Hp}{ls:List x6}{vls:List V}(h:Paired (qo H) ls vls){j:Nat}{y:x6}(hj:ls[j]? = some y):∃ v,vls[j]? = some v/\qo H y v:=by
 have h5':Paired (λv l=>qo H l v) vls ls:=by
  clear hj;induction h with
  | nil=>exact .nil
  | cons r t ih=>exact .cons r ih
 exact Paired.get (F:=λv l=>qo H l v) h5' hj
theorem jdl{H:Hp}:∀ {ps:List Bytes} {vr:List V},Paired (qo H) (ps.map x6.bytes) vr->∃ as:List Addr,vr=as.map V.ref/\v7 H as ps
 | [],[],_=>⟨[],rfl,.nil⟩
 | p::ps,v::vr,.cons r t=>by
  obtain ⟨as,rfl,hp⟩:=jdl t;obtain ⟨a,rfl,e⟩:=r;exact ⟨a::as,rfl,.cons e hp⟩
theorem AT.of{te:TE}{σ:St}{H:Hp}{us:List V}{R:List V->Hp->Prop}(h:LT K te σ H us)(r:∀ a H2,jh H H2->SqL K H2 a us->R [.ref a] H2):AT (qj te xc) σ H R:=λH' s Q q =>
 h H' s _ λa H2 s2 hS=>q _ H2 s2 (r a H2 (s.trans s2) hS)
theorem AT.tree{σ:St}{H:Hp}{i:Nat}{v:V}{R:List V->Hp->Prop}(hi:σ[i]? = some (some v))(r:∀ H2,jh H H2->R [v] H2):AT (qj (qy i) xc) σ H R:=λH' s Q q=>⟨_,hi,q _ H' (jh.refl _) (r H' s)⟩
theorem AT.block{σ:St}{H:Hp}{i j:Nat}{x:Addr}{z:Str}{ls:List x6}{ps:List j5}{bs:List (List j5)}{R:List V->Hp->Prop}{nl:List j5}(C:zu K mg "Tree" D.CN ["kind", "leaves", "parts", "blocks", "depth", "place", "end"])(T:qp D H x z ls ps bs)(hi:σ[i]? = some (some (.ref x)))(hj:bs[j]? = some nl)
  (r:∀ a us H2,jh H H2->SqL K H2 a us->us.length<=1000->jj D.CN H2 nl us->R [.ref a] H2):AT (qj (tOp (jgb K) (ja1 K (qy i) "blocks") (tC (.int (j:Int)))) xc) σ H R:=by
 intro H' s Q q;obtain ⟨dx,a1,a2,a3,vls,vps,vbs,d,h1,h2,h3,h4,sz,h5,h6,h7⟩:=(T.same s).ex;obtain ⟨a,ws,ev,ha,lw,nv⟩:=qu.get bs vbs h7 j _ hj;exact ⟨_,hi,x,D.CN,dx,_,_,rfl,h1,C.cl,C.no _ (.tail _ (.tail _ (.tail _ (.head _)))),rfl,a3,vbs,j,_,rfl,rfl,SqL.of h4,jaw ev,q _ H' (jh.refl _) (r a ws H' s (SqL.of ha) lw nv)⟩
theorem AT.leaf{σ:St}{H:Hp}{i j:Nat}{x:Addr}{z:Str}{ls:List x6}{ps:List j5}{bs:List (List j5)}{y:x6}{R:List V->Hp->Prop}(C:zu K mg "Tree" D.CN ["kind", "leaves", "parts", "blocks", "depth", "place", "end"])(T:qp D H x z ls ps bs)(hi:σ[i]? = some (some (.ref x)))(hj:ls[j]? = some y)
  (r:∀ v H2,jh H H2->qo H2 y v->R [v] H2):AT (qj (tOp (jgb K) (ja1 K (qy i) "leaves") (tC (.int (j:Int)))) xc) σ H R:=λH' s Q q =>
 jmr C (T.same s) hi hj λv hv=>q _ H' (jh.refl _) (r v H' s hv)
end
theorem jm5{c:TT}{t rest:TS}{Dn:jbf}{σ:St}{H:Hp}(h:c σ H λk H1=>if k=true then t { Dn with nx:=rest Dn } σ H1 else rest Dn σ H1):jby (jfx c t jdp) rest Dn σ H:=h
theorem ja4{t rest:TS}{Dn:jbf}{σ:St}{H:Hp}{te:TE}{z y:Str}(hv:∀ Q:VK,Q (.str z) H->te σ H Q)(yes:z=y->t { Dn with nx:=rest Dn } σ H)(no:¬ z=y->rest Dn σ H):jby (jfx (jdo (tOp rEq te (tC (.str y)))) t jdp) rest Dn σ H :=
 hv _ ⟨rfl,_,rfl,qb (λk=>yes (wg k)) (λk=>no (w6 k))⟩
theorem js4{K:PySem.W.Frag}{t rest:TS}{Dn:jbf}{σ:St}{H:Hp}{te:TE}{ta:TA}{z:Str}{ys:List Str}(hv:∀ Q:VK,Q (.str z) H->te σ H Q)(ha:∀ Q:List V->Hp->Prop,Q (ys.map V.str) H->ta σ H Q)(hl:ys.length<=1000)
  (yes:∀ H1,jh H H1->z∈ys->t { Dn with nx:=rest Dn } σ H1) (no:∀ H1,jh H H1->¬ z∈ys->rest Dn σ H1):jby (jfx (jdo (tOp (rIn K false) te (jqk ta))) t jdp) rest Dn σ H:=by
 refine hv _ (ha _ ⟨by rw [List.length_map];exact Nat.le_trans hl (by decide),λp np=>⟨p,_,rfl,.inr (SqT.of jd),rfl,?_,_,rfl,?_⟩⟩)
 ·rw [List.all_map];exact List.all_eq_true.mpr λ_ _=>rfl
 ·rw [if_neg Bool.false_ne_true,ja9];exact qb (λk=>yes _ (jo np _) (of_decide_eq_true k)) (λk=>no _ (jo np _) (λm=>k (decide_eq_true m)))
theorem j7{t rest:TS}{Dn:jbf}{σ:St}{H:Hp}{i:Nat}{z y:Str}(hv:σ[i]? = some (some (.str z)))(h:¬ z=y)(k:rest Dn σ H):jby (jfx (jdo (tOp rEq (qy i) (tC (.str y)))) t jdp) rest Dn σ H :=
 ja4 (λQ q=>⟨_,hv,q⟩) (λe=>absurd e h) λ_=>k
theorem ja3{t rest:TS}{Dn:jbf}{σ:St}{H:Hp}{i:Nat}{z y:Str}(hv:σ[i]? = some (some (.str z)))(h:z=y)(k:t { Dn with nx:=rest Dn } σ H):jby (jfx (jdo (tOp rEq (qy i) (tC (.str y)))) t jdp) rest Dn σ H :=
 ja4 (λQ q=>⟨_,hv,q⟩) (λ_=>k) λn=>absurd h n
theorem yf{K:PySem.W.Frag}{t rest:TS}{Dn:jbf}{σ:St}{H:Hp}{i:Nat}{ta:TA}{z:Str}(hv:σ[i]? = some (some (.str z)))(ys:List Str)(h:¬ z∈ys)(k:∀ H1,jh H H1->rest Dn σ H1)(hl:ys.length<=1000:=by decide)(ha:∀ Q:List V->Hp->Prop,Q (ys.map V.str) H->ta σ H Q:=by exact λ_ q=>q) :
  jby (jfx (jdo (tOp (rIn K false) (qy i) (jqk ta))) t jdp) rest Dn σ H:=js4 (λQ q=>⟨_,hv,q⟩) ha hl (λ_ _ m=>absurd m h) λH1 s _=>k H1 s
theorem wj{K:PySem.W.Frag}{t rest:TS}{Dn:jbf}{σ:St}{H:Hp}{i:Nat}{ta:TA}{z:Str}(hv:σ[i]? = some (some (.str z)))(ys:List Str)(h:z∈ys)(k:∀ H1,jh H H1->t { Dn with nx:=rest Dn } σ H1)(hl:ys.length<=1000:=by decide)(ha:∀ Q:List V->Hp->Prop,Q (ys.map V.str) H->ta σ H Q:=by exact λ_ q=>q) :
  jby (jfx (jdo (tOp (rIn K false) (qy i) (jqk ta))) t jdp) rest Dn σ H:=js4 (λQ q=>⟨_,hv,q⟩) ha hl (λH1 s _=>k H1 s) λ_ _ m=>absurd h m
theorem jjb{σ:St}{H:Hp}{i:Nat}{z:Str}(h:σ[i]? = some (some (.str z)):=by rfl):∀ H',jh H H'->∀ Q:VK,Q (.str z) H'->(qy i) σ H' Q:=λ_ _ _ q=>⟨_,h,q⟩
end Prg
end
section
set_option autoImplicit false
namespace Cell
open Vanbka
def nw(n:Nat):Nat:=(Nat.toDigits 10 n).length + if n < 10 ^ 30 then 0 else 10 ^ 9
def word(x:Bytes):Bool:=match x with
 | []=>false
 | c::r=>letter c && (r.all wordByte && decide (r.length<=15))
def ne(x:Bytes):Nat:=if word x=true then 0 else 10 ^ 9
def nes:List Bytes->Nat
 | []=>0
 | x::l=>ne x + nes l
def ow:Option Bytes->Nat
 | none=>0
 | some x=>x.length + ne x
def lw:Lex->Nat
 | .word x=>2 * x.length + ne x
 | .num n=>nw n
 | .quoted s=>2 * s.length
 | .sign _=>0
def tw(t:Tok):Nat:=200 + lw t.lex
def tws:List Tok->Nat
 | []=>0
 | t::r=>tw t + tws r
def bsw:List Bytes->Nat
 | []=>0
 | x::l=>100 + 2 * x.length + bsw l
mutual
def ew:Expr->Nat
 | .num n=>50 + nw n
 | .quoted s=>50 + 2 * s.length
 | .truth _=>50
 | .nothing=>50
 | .name x=>50 + x.length + ne x
 | .list l=>50 + esw l
 | .record l=>50 + fsw l
 | .minus e=>50 + ew e
 | .not e=>50 + ew e
 | .bin _ x y=>50 + ew x + ew y
 | .pick c x y=>50 + ew c + ew x + ew y
 | .call f l=>50 + ew f + esw l
 | .index l i=>50 + ew l + ew i
 | .field r x=>50 + ew r + x.length + ne x
 | .prim _ l=>50 + esw l
 | .fn own ps s=>50 + ow own + bsw ps + nes ps + ssw s
def esw:Exprs->Nat
 | .nil=>0
 | .cons e l=>20 + ew e + esw l
def fsw:Fields->Nat
 | .nil=>0
 | .cons x e l=>20 + x.length + ne x + ew e + fsw l
def sw1:Stmt->Nat
 | .leta x e=>50 + x.length + ne x + ew e
 | .seta x e=>50 + x.length + ne x + ew e
 | .way _ e=>50 + ew e
 | .iff c x=>50 + ew c + ssw x
 | .iffElse c x y=>50 + ew c + ssw x + ssw y
 | .while_ c x=>50 + ew c + ssw x
 | .for x e l=>50 + x.length + ne x + ew e + ssw l
 | .slider x v lo hi=>50 + x.length + ne x + (1 + nw v.natAbs) + (1 + nw lo.natAbs) + (1 + nw hi.natAbs)
 | .choice x v l=>50 + x.length + ne x + nw v + bsw l
def ssw:Stmts->Nat
 | .nil=>0
 | .cons s l=>20 + sw1 s + ssw l
end
theorem jt{α β:Type}{x:Except Nat α}{f:α->Except Nat β}{y:β}(h:(x >>= f) = .ok y):∃ a,x = .ok a/\f a = .ok y:=by
 cases x with
 | error l=>cases h
 | ok a=>exact ⟨a,rfl,h⟩
theorem za{p:Tok->Bool}{ts r:List Tok}(h:eat p ts = .ok r):200 + tws r<=tws ts:=by
 unfold eat at h;split at h
 ·cases h;rename_i hn;obtain ⟨t,r,rfl,_,e⟩:=jb5 hn;rw [e,tws,tw];omega
 ·cases h
theorem zc{p:Tok->Bool}{ts:List Tok}(h:next p ts=true):200 + tws (ts.drop 1)<=tws ts:=by
 obtain ⟨t,r,rfl,_,e⟩:=jb5 h;rw [e,tws,tw];omega
theorem j0k{k:Nat}{ts:List Tok}{o:Op}(h:opNext k ts=some o):200 + tws (ts.drop 1)<=tws ts:=by
 cases ts with
 | nil=>cases h
 | cons t r=>show 200 + tws r<=tw t + tws r;rw [tw];omega
theorem ja8{ts r:List Tok}{x:Bytes}(h:name ts = .ok (x,r)):200 + 2 * x.length + ne x + tws r<=tws ts:=by
 cases ts with
 | nil=>cases h
 | cons t r0 =>
  obtain ⟨l,p,k⟩:=t;cases l with
  | word w =>
   have h:(match (if reserved.contains w then none else some w) with
    | some x=>Except.ok (x,r0)
    | none=>halt_ (⟨.word w,p,k⟩::r0))=Except.ok (x,r):=h
   cases hr:reserved.contains w with
   | true=>rw [hr] at h;cases h
   | false =>
    rw [hr] at h;cases h;rw [tws,tw,lw];omega
  | num n=>cases h
  | quoted s=>cases h
  | sign s=>cases h
theorem jiv{ts r:List Tok}{n:Nat}(h:number ts = .ok (n,r)):200 + nw n + tws r<=tws ts:=by
 unfold number at h;split at h
 ·cases h;rw [tws,tw,lw];omega
 ·cases h
theorem jnn{ts r:List Tok}{s:Bytes}(h:quoted ts = .ok (s,r)):200 + 2 * s.length + tws r<=tws ts:=by
 unfold quoted at h;split at h
 ·cases h;rw [tws,tw,lw];omega
 ·cases h
theorem jki{ts r:List Tok}{z:Int}(h:whole ts = .ok (z,r)):200 + nw z.natAbs + tws r<=tws ts:=by
 unfold whole at h;split at h
 ·rename_i hn;obtain ⟨⟨n,r1⟩,h1,h⟩:=jt h;have:=jiv h1
  have:=zc hn;cases h;rw [Int.natAbs_neg,Int.natAbs_natCast];omega
 ·obtain ⟨⟨n,r1⟩,h1,h⟩:=jt h;have:=jiv h1
  cases h;rw [Int.natAbs_natCast];omega
theorem jic:∀ (n:Nat) {ts r:List Tok} {l:List Bytes},namesMore n ts = .ok (l,r)->bsw l + nes l + tws r<=tws ts
 | 0,ts,r,l,h=>by cases h;rw [bsw,nes];omega
 | n + 1,ts,r,l,h=>by
  rw [namesMore] at h;split at h
  ·rename_i hn;obtain ⟨⟨x,r1⟩,h1,h⟩:=jt h;obtain ⟨⟨l2,r2⟩,h2,h⟩:=jt h;have:=zc hn
   have:=ja8 h1;have:=jic n h2
   cases h;rw [bsw,nes];omega
  ·cases h;rw [bsw,nes];omega
theorem jhc:∀ (n:Nat) {ts r:List Tok} {l:List Bytes},quotedMore n ts = .ok (l,r)->bsw l + tws r<=tws ts
 | 0,ts,r,l,h=>by cases h;rw [bsw];omega
 | n + 1,ts,r,l,h=>by
  rw [quotedMore] at h;split at h
  ·rename_i hn;obtain ⟨⟨x,r1⟩,h1,h⟩:=jt h;obtain ⟨⟨l2,r2⟩,h2,h⟩:=jt h;have:=zc hn
   have:=jnn h1;have:=jhc n h2
   cases h;rw [bsw];omega
  ·cases h;rw [bsw];omega
theorem jvs{ts r:List Tok}{l:List Bytes}(h:params ts = .ok (l,r)):100 + bsw l + nes l + tws r<=tws ts:=by
 unfold params at h;split at h
 ·rename_i hn;have:=zc hn
  cases h;rw [bsw,nes];omega
 ·obtain ⟨⟨x,r1⟩,h1,h⟩:=jt h;obtain ⟨⟨l2,r2⟩,h2,h⟩:=jt h;obtain ⟨r3,h3,h⟩:=jt h;have:=ja8 h1
  have:=jic _ h2;have:=za h3
  cases h;rw [bsw,nes];omega
structure jxo(n:Nat):Prop where
 expr:∀ {ts r e},expr n ts = .ok (e,r)->ew e + 100 + tws r<=tws ts
 line:∀ {k ts r e},line n k ts = .ok (e,r)->ew e + 100 + tws r<=tws ts
 chain:∀ {k x ts r e},chain n k x ts = .ok (e,r)->ew e + tws r<=ew x + tws ts
 reach:∀ {x ts r e},reach n x ts = .ok (e,r)->ew e + tws r<=ew x + tws ts
 listed:∀ {s ts r l},listed n s ts = .ok (l,r)->esw l + 100 + tws r<=tws ts
 more:∀ {ts r l},more n ts = .ok (l,r)->esw l + tws r<=tws ts
 fields:∀ {ts r l},fields n ts = .ok (l,r)->fsw l + 100 + tws r<=tws ts
 simple:∀ {ts r e},simple n ts = .ok (e,r)->ew e + 100 + tws r<=tws ts
 parts:∀ {k ts r l},parts n k ts = .ok (l,r)->esw l + tws r<=tws ts
 inBrackets:∀ {ts r e},inBrackets n ts = .ok (e,r)->ew e + tws r<=50 + tws ts
 function:∀ {ts r e},function n ts = .ok (e,r)->ew e + tws r<=tws ts
 block:∀ {ts r l},block n ts = .ok (l,r)->ssw l + 100 + tws r<=tws ts
 statements:∀ {ts r l},statements n ts = .ok (l,r)->ssw l + tws r<=tws ts
 statement:∀ {ts r s},statement n ts = .ok (s,r)->sw1 s + 100 + tws r<=tws ts
section
variable{n:Nat}(W:jxo n)
include W
theorem jrq{ts r:List Tok}{e:Expr}(h:expr (n + 1) ts = .ok (e,r)):ew e + 100 + tws r<=tws ts:=by
 rw [expr] at h;obtain ⟨⟨c,r1⟩,h1,h⟩:=jt h;have:=W.line h1
 dsimp only at h;split at h
 ·rename_i hn;have:=zc hn
  obtain ⟨⟨x,r2⟩,h2,h⟩:=jt h;obtain ⟨r3,h3,h⟩:=jt h;obtain ⟨⟨y,r4⟩,h4,h⟩:=jt h;have:=W.line h2
  have:=za h3;have:=W.line h4
  cases h;rw [ew];(try dsimp only at *);omega
 ·cases h;(try dsimp only at *);omega
theorem jrp{k:Nat}{ts r:List Tok}{e:Expr}(h:line (n + 1) k ts = .ok (e,r)):ew e + 100 + tws r<=tws ts:=by
 rw [line] at h;split at h
 ·split at h
  ·rename_i hn;have:=zc hn
   obtain ⟨⟨x,r1⟩,h1,h⟩:=jt h;have:=W.line h1
   cases h;rw [ew];(try dsimp only at *);omega
  ·exact W.line h
 split at h
 ·obtain ⟨⟨x,r1⟩,h1,h⟩:=jt h;have:=W.line h1
  dsimp only at h;split at h
  ·rename_i o ho;have:=j0k ho
   obtain ⟨⟨y,r2⟩,h2,h⟩:=jt h;have:=W.line h2
   cases h;rw [ew];(try dsimp only at *);omega
  ·cases h;(try dsimp only at *);omega
 split at h
 ·split at h
  ·rename_i hn;have:=zc hn
   obtain ⟨⟨x,r1⟩,h1,h⟩:=jt h;have:=W.line h1
   cases h;rw [ew];(try dsimp only at *);omega
  ·exact W.line h
 split at h
 ·obtain ⟨⟨x,r1⟩,h1,h⟩:=jt h;have:=W.simple h1
  have:=W.reach h
  (try dsimp only at *);omega
 ·obtain ⟨⟨x,r1⟩,h1,h⟩:=jt h;have:=W.line h1
  have:=W.chain h
  (try dsimp only at *);omega
theorem jo6{k:Nat}{x:Expr}{ts r:List Tok}{e:Expr}(h:chain (n + 1) k x ts = .ok (e,r)):ew e + tws r<=ew x + tws ts:=by
 rw [chain] at h;split at h
 ·rename_i o ho;have:=j0k ho
  obtain ⟨⟨y,r1⟩,h1,h⟩:=jt h;have:=W.line h1
  have:=W.chain h;rw [ew] at this;(try dsimp only at *);omega
 ·cases h;(try dsimp only at *);omega
theorem jo4{x:Expr}{ts r:List Tok}{e:Expr}(h:reach (n + 1) x ts = .ok (e,r)):ew e + tws r<=ew x + tws ts:=by
 rw [reach] at h;split at h
 ·rename_i hn;have:=zc hn
  obtain ⟨⟨l,r1⟩,h1,h⟩:=jt h;have:=W.listed h1
  have:=W.reach h;rw [ew] at this;(try dsimp only at *);omega
 split at h
 ·rename_i hn;have:=zc hn
  obtain ⟨⟨e1,r1⟩,h1,h⟩:=jt h;obtain ⟨r2,h2,h⟩:=jt h;have:=W.expr h1
  have:=za h2;have:=W.reach h
  rw [ew] at this;(try dsimp only at *);omega
 split at h
 ·rename_i hn;have:=zc hn
  obtain ⟨⟨y,r1⟩,h1,h⟩:=jt h;have:=ja8 h1
  have:=W.reach h;rw [ew] at this;(try dsimp only at *);omega
 ·cases h;(try dsimp only at *);omega
theorem jn1{s:String}{ts r:List Tok}{l:Exprs}(h:listed (n + 1) s ts = .ok (l,r)):esw l + 100 + tws r<=tws ts:=by
 rw [listed] at h;split at h
 ·rename_i hn;have:=zc hn
  cases h;rw [esw];(try dsimp only at *);omega
 ·obtain ⟨⟨e,r1⟩,h1,h⟩:=jt h;obtain ⟨⟨l2,r2⟩,h2,h⟩:=jt h;obtain ⟨r3,h3,h⟩:=jt h;have:=W.expr h1
  have:=W.more h2;have:=za h3
  cases h;rw [esw];(try dsimp only at *);omega
theorem jro{ts r:List Tok}{l:Exprs}(h:more (n + 1) ts = .ok (l,r)):esw l + tws r<=tws ts:=by
 rw [more] at h;split at h
 ·rename_i hn;have:=zc hn
  obtain ⟨⟨e,r1⟩,h1,h⟩:=jt h;obtain ⟨⟨l2,r2⟩,h2,h⟩:=jt h;have:=W.expr h1
  have:=W.more h2;cases h;rw [esw];(try dsimp only at *);omega
 ·cases h;rw [esw];(try dsimp only at *);omega
theorem jn2{ts r:List Tok}{l:Fields}(h:fields (n + 1) ts = .ok (l,r)):fsw l + 100 + tws r<=tws ts:=by
 rw [fields] at h;obtain ⟨⟨x,r1⟩,h1,h⟩:=jt h;obtain ⟨r2,h2,h⟩:=jt h;obtain ⟨⟨e,r3⟩,h3,h⟩:=jt h;have:=ja8 h1
 have:=za h2;have:=W.expr h3
 dsimp only at h;split at h
 ·rename_i hn;have:=zc hn
  obtain ⟨⟨l2,r4⟩,h4,h⟩:=jt h;have:=W.fields h4
  cases h;rw [fsw];(try dsimp only at *);omega
 ·cases h;rw [fsw,fsw];(try dsimp only at *);omega
theorem jo5{k:Nat}{ts r:List Tok}{l:Exprs}(h:parts (n + 1) k ts = .ok (l,r)):esw l + tws r<=tws ts:=by
 rw [parts] at h;obtain ⟨⟨e,r1⟩,h1,h⟩:=jt h;have:=W.expr h1
 dsimp only at h;split at h
 ·obtain ⟨r2,h2,h⟩:=jt h;have:=za h2
  cases h;rw [esw,esw];(try dsimp only at *);omega
 ·obtain ⟨r2,h2,h⟩:=jt h;obtain ⟨⟨l2,r3⟩,h3,h⟩:=jt h;have:=za h2
  have:=W.parts h3;cases h;rw [esw];(try dsimp only at *);omega
theorem ji0{ts r:List Tok}{e:Expr}(h:inBrackets (n + 1) ts = .ok (e,r)):ew e + tws r<=50 + tws ts:=by
 rw [inBrackets] at h;split at h
 ·rename_i hn;have:=zc hn
  obtain ⟨r1,h1,h⟩:=jt h;have:=za h1
  cases h;rw [ew,fsw];(try dsimp only at *);omega
 split at h
 ·obtain ⟨⟨l,r1⟩,h1,h⟩:=jt h;obtain ⟨r2,h2,h⟩:=jt h;have:=W.fields h1
  have:=za h2;cases h;rw [ew];(try dsimp only at *);omega
 ·obtain ⟨⟨e1,r1⟩,h1,h⟩:=jt h;obtain ⟨r2,h2,h⟩:=jt h;have:=W.expr h1
  have:=za h2;cases h
  (try dsimp only at *);omega
theorem jo7{ts r:List Tok}{l:Stmts}(h:block (n + 1) ts = .ok (l,r)):ssw l + 100 + tws r<=tws ts:=by
 rw [block] at h;obtain ⟨r1,h1,h⟩:=jt h;obtain ⟨⟨s,r2⟩,h2,h⟩:=jt h;obtain ⟨r3,h3,h⟩:=jt h;have:=za h1
 have:=W.statements h2;have:=za h3
 cases h
 (try dsimp only at *);omega
theorem jiz{ts r:List Tok}{l:Stmts}(h:statements (n + 1) ts = .ok (l,r)):ssw l + tws r<=tws ts:=by
 rw [statements] at h;split at h
 ·cases h;rw [ssw];(try dsimp only at *);omega
 ·obtain ⟨⟨s,r1⟩,h1,h⟩:=jt h;obtain ⟨⟨l2,r2⟩,h2,h⟩:=jt h;have:=W.statement h1
  have:=W.statements h2;cases h;rw [ssw];(try dsimp only at *);omega
theorem jn0{ts r:List Tok}{e:Expr}(h:simple (n + 1) ts = .ok (e,r)):ew e + 100 + tws r<=tws ts:=by
 rw [simple.eq_def] at h;dsimp only at h;split at h
 ·cases h;rw [ew,tws,tw,lw];omega
 ·cases h;rw [ew,tws,tw,lw];omega
 ·rename_i t r0 _ _;have ht:tws (t::r0)=tw t + tws r0:=rfl
  have ht2:200<=tw t:=by rw [tw];omega
  split at h
  ·obtain ⟨⟨l,r1⟩,h1,h⟩:=jt h;have:=W.listed h1
   cases h;rw [ew];(try dsimp only at *);omega
  split at h
  ·have:=W.inBrackets h;omega
  split at h
  ·have:=W.function h;omega
  split at h
  ·cases h;rw [ew];omega
  split at h
  ·cases h;rw [ew];omega
  split at h
  ·cases h;rw [ew];omega
  split at h
  ·rename_i x hx;cases h;have hn:name (t::r) = .ok (x,r):=by unfold name;rw [hx];rfl
   have:=ja8 hn;rw [ew];omega
  ·split at h
   ·obtain ⟨r1,h1,h⟩:=jt h;obtain ⟨⟨l,r2⟩,h2,h⟩:=jt h;have:=za h1
    have:=W.parts h2;cases h;rw [ew];(try dsimp only at *);omega
   ·cases h
 ·cases h
theorem jk0{ts r:List Tok}{e:Expr}(h:function (n + 1) ts = .ok (e,r)):ew e + tws r<=tws ts:=by
 rw [function] at h;dsimp only at h;obtain ⟨r1,h1,h⟩:=jt h;obtain ⟨⟨l,r2⟩,h2,h⟩:=jt h;obtain ⟨⟨s,r3⟩,h3,h⟩:=jt h;have a1:=za h1
 have a2:=jvs h2;have a3:=W.block h3
 cases h;cases hx:nameNext ts with
 | none =>
  rw [hx] at a1;have a1:200 + tws r1<=tws ts:=a1
  rw [ew];show 50 + 0 + bsw l + nes l + ssw s + tws r3<=tws ts
  (try dsimp only at *);omega
 | some x =>
  rw [hx] at a1;have a1:200 + tws r1<=tws (ts.drop 1):=a1
  have hn:name ts = .ok (x,ts.drop 1):=by unfold name;rw [hx]
  have:=ja8 hn;rw [ew];show 50 + (x.length + ne x) + bsw l + nes l + ssw s + tws r3<=tws ts
  (try dsimp only at *);omega
theorem jjy{ts r:List Tok}{s:Stmt}(h:statement (n + 1) ts = .ok (s,r)):sw1 s + 100 + tws r<=tws ts:=by
 rw [statement] at h;dsimp only at h;split at h
 ·rename_i hn;have:=zc hn
  obtain ⟨⟨x,r1⟩,h1,h⟩:=jt h;obtain ⟨r2,h2,h⟩:=jt h;obtain ⟨⟨e,r3⟩,h3,h⟩:=jt h;obtain ⟨r4,h4,h⟩:=jt h;have:=ja8 h1
  have:=za h2;have:=W.expr h3
  have:=za h4;cases h;rw [sw1];(try dsimp only at *);omega
 split at h
 ·rename_i hn;have:=zc hn
  obtain ⟨⟨x,r1⟩,h1,h⟩:=jt h;obtain ⟨r2,h2,h⟩:=jt h;obtain ⟨⟨e,r3⟩,h3,h⟩:=jt h;obtain ⟨r4,h4,h⟩:=jt h;have:=ja8 h1
  have:=za h2;have:=W.expr h3
  have:=za h4;cases h;rw [sw1];(try dsimp only at *);omega
 split at h
 ·rename_i hn;have:=zc hn
  obtain ⟨⟨c,r1⟩,h1,h⟩:=jt h;obtain ⟨⟨x,r2⟩,h2,h⟩:=jt h;have:=W.expr h1
  have:=W.block h2;dsimp only at h;split at h
  ·rename_i hn2;have:=zc hn2
   obtain ⟨⟨y,r3⟩,h3,h⟩:=jt h;have:=W.block h3
   cases h;rw [sw1];(try dsimp only at *);omega
  ·cases h;rw [sw1];(try dsimp only at *);omega
 split at h
 ·rename_i hn;have:=zc hn
  obtain ⟨⟨c,r1⟩,h1,h⟩:=jt h;obtain ⟨⟨x,r2⟩,h2,h⟩:=jt h;have:=W.expr h1
  have:=W.block h2;cases h;rw [sw1];(try dsimp only at *);omega
 split at h
 ·rename_i hn;have:=zc hn
  obtain ⟨⟨x,r1⟩,h1,h⟩:=jt h;obtain ⟨r2,h2,h⟩:=jt h;obtain ⟨⟨e,r3⟩,h3,h⟩:=jt h;obtain ⟨⟨l,r4⟩,h4,h⟩:=jt h;have:=ja8 h1
  have:=za h2;have:=W.expr h3
  have:=W.block h4;cases h;rw [sw1];(try dsimp only at *);omega
 split at h
 ·rename_i hn;have:=zc hn
  obtain ⟨⟨x,r1⟩,h1,h⟩:=jt h;obtain ⟨r2,h2,h⟩:=jt h;obtain ⟨⟨v,r3⟩,h3,h⟩:=jt h;obtain ⟨r4,h4,h⟩:=jt h;obtain ⟨⟨lo,r5⟩,h5,h⟩:=jt h;obtain ⟨r6,h6,h⟩:=jt h;obtain ⟨⟨hi,r7⟩,h7,h⟩:=jt h;obtain ⟨r8,h8,h⟩:=jt h;have:=ja8 h1
  have:=za h2;have:=jki h3
  have:=za h4;have:=jki h5
  have:=za h6;have:=jki h7
  have:=za h8;cases h;rw [sw1];(try dsimp only at *);omega
 split at h
 ·rename_i hn;have:=zc hn
  obtain ⟨⟨x,r1⟩,h1,h⟩:=jt h;obtain ⟨r2,h2,h⟩:=jt h;obtain ⟨⟨v,r3⟩,h3,h⟩:=jt h;obtain ⟨r4,h4,h⟩:=jt h;obtain ⟨⟨o,r5⟩,h5,h⟩:=jt h;obtain ⟨⟨l,r6⟩,h6,h⟩:=jt h;obtain ⟨r7,h7,h⟩:=jt h;have:=ja8 h1
  have:=za h2;have:=jiv h3
  have:=za h4;have:=jnn h5
  have:=jhc _ h6;have:=za h7
  cases h;rw [sw1,bsw];(try dsimp only at *);omega
 ·split at h
  ·rename_i w hw;obtain ⟨⟨e,r1⟩,h1,h⟩:=jt h;obtain ⟨r2,h2,h⟩:=jt h;have:=W.expr h1
   have:=za h2;have:tws (ts.drop 1)<=tws ts:=by
    cases ts with
    | nil=>exact Nat.le_refl _
    | cons t r=>show tws r<=tw t + tws r;omega
   cases h;rw [sw1];(try dsimp only at *);omega
  ·cases h
end
theorem jxl:∀ n,jxo n
 | 0=>by
  constructor <;> intros <;> rename_i h <;> simp only [expr,line,chain,reach,listed,more,fields,simple,parts,inBrackets,function,block,statements,statement] at h <;> cases h
 | n + 1 =>
  have W:=jxl n
  ⟨jrq W,jrp W,jo6 W,jo4 W,jn1 W,jro W,jn2 W,jn0 W,jo5 W,ji0 W,jk0 W,jo7 W,jiz W,jjy W⟩
theorem jto{ts:List Tok}{s:Stmts}(h:program ts = .ok s):ssw s<=tws ts:=by
 unfold program at h;obtain ⟨⟨s1,r⟩,h1,h⟩:=jt h;have:=(jxl _).statements h1
 dsimp only at h;split at h
 ·cases h;omega
 ·cases h
theorem jwg{n:Nat}(h:nw n<=1000000):n < 10 ^ 30:=by
 unfold nw at h;split at h
 ·assumption
 ·omega
end Cell
end
section
set_option maxRecDepth 100000
set_option maxHeartbeats 4000000
namespace Prg
open PySem L2
open Vanbka (Bytes glue)
abbrev jjm:PySem.Stmt:=top 96
abbrev jqv:PySem.Stmt:=top 97
section
variable{P:Program}{w:World}{K:PySem.W.Frag}{mg:Str->Option Value}{base:Heap}{f:Addr}{fd:FuncData}{D:Ad}
def Wr(H:Hp)(Q:VK)(x:Bytes):Prop:=∀ a H',jh H H'->H a=none->H' a=some (.lst (vb x))->Q (.ref a) H'
def zy:Sp:=λvs H Q _=>∃ u:Bytes,vs=[.str (xm u)]/\u.length<=1000000/\Wr H Q u
theorem jm9:jv ["signs", "sign"] ["signs"] (ji jjm):=⟨rfl,rfl,rfl,by decide +kernel,rfl,by decide +kernel,by decide +kernel⟩
theorem jwy:jbo ["signs", "sign"] (ji jjm) { kind:=.function,names:=[(".0",.local),("sign",.local),("ord",.globalImplicit)],isGenerator:=false,isCoroutine:=false } [("sign",1)]:=⟨rfl,by decide +kernel,by decide +kernel,by decide +kernel,by decide +kernel⟩
theorem jtv(F:Fun K "spell" "spell" jjm f fd)(mo:mg "ord"=none):xh P w K mg base (CXF P w) 1 f fd ["signs"] zy:=by
 refine F.okF (k:=0) jm9 (λvs H Q E h=>?_) (λcdv A outer s H vs Q E hr h=>?_)
 ·obtain ⟨u,rfl,_⟩:=h;rfl
 obtain ⟨u,rfl,hu,q⟩:=h;have nd:=jm9.nd
 refine ⟨_,je (jp (jeu (own:=[("sign",1)]) (te:=tCB (λxs H Q=>∃ x,xs=[.str x]/\x.length=1/\Q (.int (x.cps.getD 0 0:Nat)) H) (qj (qy 1) xc)) rfl nd (j0g (pv 0)) jwy (λ_ _ _ _ _=>y_ (i:=1) nd rfl (Or.inl rfl)) (λ_ _ _ _ _=>jbk)
  (λ_ _ _ _ _=>yt jww rfl mo (by decide +kernel) (ja (pv 1) jb)))),?_⟩
 have sz:(xm u).cps.size=u.length:=by show ((u.map (·.toNat)).toArray).size=_;simp
 refine ⟨_,rfl,xm u,rfl,λDl nD=>⟨λi m H'=>m=u.length - i/\i<=u.length/\jh H H'/\H' Dl=some (.lst (vb (u.take i))),⟨_,rfl,Nat.zero_le _,jo nD _,jd⟩,?_⟩⟩;rintro i m H' ⟨rfl,hi,sm,hD⟩;by_cases hlt:i < u.length
 ·have hc:u[i]? = some u[i]:=List.getElem?_eq_getElem hlt;refine .inr ⟨by show i < _;rw [sz];exact hlt,λH2=>∃ m',m' < u.length - i/\(m'=u.length - (i + 1)/\i + 1<=u.length/\jh H H2/\H2 Dl=some (.lst (vb (u.take (i + 1))))),λ_ z=>z,?_⟩;rintro x H2 ⟨rfl,c,hx,rfl⟩;have ec:c=(u[i]).toNat:=by
   have:(xm u).cps[i]? = some (u[i]).toNat:=by
    show ((u.map (·.toNat)).toArray)[i]? = _;simp [hc]
   rw [this] at hx;exact (Option.some.inj hx).symm
  subst ec;refine ⟨rfl,_,rfl,_,rfl,rfl,_,hD,?_,_,Nat.lt_of_lt_of_le (Nat.lt_succ_self _) (by omega),rfl,hlt,vw sm nD,?_⟩
  ·rw [xp,List.length_take];show min i u.length < 2 ^ 24
   omega
  ·rw [jd,ja0 hc,jpi];rfl
 ·have e:i=u.length:=by omega
  subst e;rw [List.take_length] at hD;exact .inl ⟨by show _<=_;rw [sz];exact Nat.le_refl _,q Dl H' sm nD hD⟩
def jjg(K:PySem.W.Frag):Sp:=λvs H Q _=>∃ (a:Addr) (as:List Addr) (xs:List Bytes) (g:Bytes),vs=[.ref a,.str (xm g)]/\SqL K H a (as.map V.ref)/\v7 H as xs/\g.length<=10/\(glue g xs).length<=1000000/\Wr H Q (glue g xs)
theorem juk(g:Bytes)(xs:List Bytes)(x:Bytes):glue g (xs ++ [x])=if xs=[] then x else glue g xs ++ g ++ x:=by
 induction xs with
 | nil=>rfl
 | cons y l ih =>
  rw [if_neg (by simp)];cases l with
  | nil=>rfl
  | cons z l =>
   rw [if_neg (by simp)] at ih;show y ++ g ++ glue g ((z::l) ++ [x])=(y ++ g ++ glue g (z::l)) ++ g ++ x
   rw [ih];simp only [List.append_assoc]
theorem jn6(g:Bytes)(xs:List Bytes)(i:Nat):(glue g (xs.take i)).length<=(glue g xs).length:=by
 induction xs generalizing i with
 | nil=>simp
 | cons x l ih =>
  cases i with
  | zero=>exact Nat.zero_le _
  | succ i =>
   rw [List.take_succ_cons];cases l with
   | nil=>simp
   | cons y l =>
    have e:glue g (x::y::l)=x ++ g ++ glue g (y::l):=rfl;cases i with
    | zero =>
     rw [List.take_zero,e];show x.length<=_
     rw [List.length_append,List.length_append];omega
    | succ i =>
     have:=ih (i + 1);rw [List.take_succ_cons] at this ⊢;have e2:glue g (x::y::l.take i)=x ++ g ++ glue g (y::l.take i):=rfl
     rw [e,e2,List.length_append,List.length_append,List.length_append,List.length_append];omega
theorem jte:jv ["pieces", "gap", "written", "at", "piece"] ["pieces", "gap"] (ji jqv):=⟨rfl,rfl,rfl,by decide +kernel,rfl,by decide +kernel,by decide +kernel⟩
theorem jyt(F:Fun K "join_pieces" "join_pieces" jqv f fd)(S:Has P w K mg base 1 "spell" ["signs"] zy)(me:mg "enumerate"=none):xh P w K mg base (CXF P w) 2 f fd ["pieces", "gap"] (jjg K):=by
 refine F.okF (k:=1) jte (λvs H Q E h=>?_) (λcdv A outer s H vs Q E hr h=>?_)
 ·obtain ⟨a,as,xs,g,rfl,_⟩:=h;rfl
 obtain ⟨a,as,xs,g,rfl,hS,hp,hg,hb,q⟩:=h;have nd:=jte.nd
 refine ⟨_,jc (ju (i:=2) nd rfl (Or.inl rfl) (j3 jb))
  (jc (jek jag rfl (jp0 rfl me (ja (pv 0) jb)) (jnt rfl (jcq (y_ (i:=3) nd rfl (Or.inl rfl)) (jcq (y_ (i:=4) nd rfl (Or.inl rfl)) jkv)))
   (jc (qh (js jdz (pv 3) qd (j6 _)) (je (j_ (vk PySem.F.plainAttrs_list PySem.F.slot_list_extend PySem.F.type_list_extend jev (pv 2) (ja (jg S hr rfl (ja (pv 1) jb)) jb)))) jy)
   (je (j_ (vk PySem.F.plainAttrs_list PySem.F.slot_list_extend PySem.F.type_list_extend jev (pv 2) (ja (pv 4) jb))))))
  (je (jp (pv 2)))),?_⟩
 have pl:=Paired.len hp;refine ⟨by decide,λl nl=>?_⟩;have s0:jh H (upd H l (.lst [])):=jo nl _
 refine ⟨_,rfl,a,_,rfl,s0.seq hS,λi m σ H'=>m=xs.length - i/\i<=xs.length/\jh H H'/\H' l=some (.lst (vb (glue g (xs.take i))))/\∃ v3 v4,σ=[some (.ref a),some (.str (xm g)),some (.ref l),v3,v4],⟨_,rfl,Nat.zero_le _,s0,jd,none,none,rfl⟩,?_⟩;rintro i m σ H' ⟨rfl,hi,sm,hl,v3,v4,rfl⟩;have hS':=sm.seq hS
 by_cases hlt:i < xs.length
 ·have hxi:xs[i]? = some xs[i]:=List.getElem?_eq_getElem hlt;obtain ⟨ai,eai,hai⟩:=Paired.get hp hxi;have hai2:(as.map V.ref)[i]? = some (.ref ai):=by rw [List.getElem?_map,eai];rfl
  refine .inr ⟨⟨_,_,hS',hai2⟩,λσ' H2=>∃ m',m' < xs.length - i/\(m'=xs.length - (i + 1)/\i + 1<=xs.length/\jh H H2/\H2 l=some (.lst (vb (glue g (xs.take (i + 1)))))/\∃ v3 v4,σ'=[some (.ref a),some (.str (xm g)),some (.ref l),v3,v4]),λ_ _ z=>z,?_⟩;rintro x H2 ⟨Tp,y,rfl,hT,rfl,hy⟩;have ey:=hy _ hS'
  rw [hai2] at ey;cases ey;have s1:jh H' (upd H' Tp (.tup [.int (i:Nat),.ref ai])):=jo hT _
  have hl1:=s1 _ _ hl;have hle:=jn6 g xs (i + 1)
  have htk:xs.take (i + 1)=xs.take i ++ [xs[i]]:=by rw [List.take_add_one,hxi];rfl
  refine ⟨Tp,_,rfl,SqT.of jd,rfl,_,_,rfl,_,_,rfl,rfl,?_⟩;refine ⟨_,rfl,_,_,rfl,rfl,_,rfl,qb (λc=>?_) (λc=>?_)⟩
  ·have i0:0 < i:=by have:=of_decide_eq_true c;omega
   have ne:xs.take i≠[]:=λz=>by
    have:=congrArg List.length z;rw [List.length_take,List.length_nil] at this;omega
   have eg:glue g (xs.take (i + 1))=glue g (xs.take i) ++ g ++ xs[i]:=by rw [htk,juk,if_neg ne]
   have hle':(glue g (xs.take i) ++ g ++ xs[i]).length<=(glue g xs).length:=by rw [<- eg];exact hle
   rw [List.length_append,List.length_append] at hle';refine ⟨_,rfl,.inl ⟨rfl,_,SqL.of hl1⟩,_,rfl,g,rfl,by omega,λb H3 s3 nb hb3=>?_⟩;have hl3:=s3 _ _ hl1
   have lb:ai≠l:=λy=>by
    have:=sm _ _ (show H ai=_ from hai);rw [y] at hai;rw [nl] at hai;cases hai
   refine ⟨l,b,_,_,rfl,rfl,hl3,hb3,?_,?_⟩
   ·rw [xp,xp];show _<=2 ^ 24
    omega
   have ha4:(upd H3 l (.lst (vb (glue g (xs.take i)) ++ vb g))) ai=some (.lst (vb xs[i])):=by rw [jm lb];exact s3 _ _ (s1 _ _ (sm _ _ hai))
   refine ⟨_,rfl,.inl ⟨rfl,_,SqL.of jd⟩,_,rfl,l,ai,_,_,rfl,rfl,jd,ha4,?_,_,by omega,rfl,hlt,vw (vw (sm.trans (s1.trans s3)) nl) nl,?_,_,_,rfl⟩
   ·rw [List.length_append,xp,xp,xp];show _<=2 ^ 24
    omega
   ·rw [jd,eg];unfold vb;simp
  ·have i0:i=0:=by
    have:¬ ((0:Int) < ((i:Nat):Int)):=λz=>c (decide_eq_true z);omega
   subst i0;have lb:ai≠l:=λy=>by rw [y] at hai;rw [nl] at hai;cases hai
   have eg:glue g (xs.take 1)=xs[0]:=by rw [htk];rfl
   have hle':(xs[0]).length<=(glue g xs).length:=by rw [<- eg];exact hle
   refine ⟨_,rfl,.inl ⟨rfl,_,SqL.of hl1⟩,_,rfl,l,ai,_,_,rfl,rfl,hl1,s1 _ _ (sm _ _ hai),?_,_,by omega,rfl,hlt,vw (sm.trans s1) nl,?_,_,_,rfl⟩
   ·rw [xp,xp];show 0 + _<=2 ^ 24
    omega
   ·rw [jd,eg];rfl
 ·have e:i=xs.length:=by omega
  subst e;rw [List.take_length] at hl;exact .inl ⟨⟨_,hS',by rw [List.length_map,pl];exact Nat.le_refl _⟩,_,rfl,q l H' sm nl hl⟩
end
end Prg
end
section
set_option maxRecDepth 100000
set_option maxHeartbeats 1000000
namespace L2
open PySem PySem.Spec PyProof.Rows
theorem jr4(l c:Addr)(xs ys:Array Value)(n m:Nat)(dd:Option Addr)(sl:Array (Option Value))(h0:¬(!xs.isEmpty && Builtin.List.listTooLong (xs.size + ys.size))=true)(h1:xs.size<=sizeLine)(h2:xs.size + ys.size<=sizeLine + 1) :
  Meets (Builtin.«list.extend» ⟨[.ref l,.ref c],[]⟩) (λ_ R s=>s.heap.get? l=some { cls:=.type "list",dict:=none,data:=.seq xs n,slots := #[] }/\s.heap.get? c=some { cls:=.type "tuple",dict:=dd,data:=.seq ys m,slots:=sl }/\R (.ok (.ret Value.none)) { s with heap:=s.heap.update l (Obj.mapSeq λx=>x ++ ys),toks:=s.toks }) :=
 .of_wp λprog w A R s h=>by
  obtain ⟨hp,g,d,tk,os⟩:=s;obtain ⟨hl,hb,h⟩:=h;have f1:=AutoSeq1.idx_int
  have f2:=AutoSeq1.sub_tuple_tuple;have f3:=AutoSeq1.sub_list_list
  have f4:=AutoSeq1.sub_tuple_list;have f5:=AutoSeq1.sub_list_tuple
  have h3:(xs ++ ys).size<=sizeLine + 1:=by rw [Array.size_append];exact h2
  wp_walk using (wpAny_updateSeq hl rfl (hz:=h1) (_hz':=h3)),wpAny_loadPart' hl,wpAny_loadPart' hb
  exact ⟨_,rfl,h⟩
section
variable{X:Cx}
def jnm(K:PySem.W.Frag):V->List V->Hp->VK->Prop:=λx vs H Q=>∃ l c xs zs,x = .ref l/\vs=[.ref c]/\H l=some (.lst xs)/\SqT K H c zs/\xs.length + zs.length<=sizeLine/\Q .non (upd H l (.lst (xs ++ zs)))
theorem jrl:MtM X "list.extend" (jnm X.K):=by
 intro pins s σ H x vs v us Q I rx rv h;obtain ⟨l,c,xs,zs,rfl,rfl,hH,hB,hz,q⟩:=h;cases rx;obtain ⟨u,rfl,ru⟩:=rv.one;cases ru;obtain ⟨z,its,n,r,hl,e⟩:=I.lstM hH;obtain ⟨its2,r2,⟨⟨cl,dd,da,sl⟩,e2,hc,m,hd⟩,hz2⟩:=I.tuple hB;have hl2:=r2.length
 simp only at hc hd;subst hc hd;have hsz:its.toArray.size + its2.toArray.size<=sizeLine:=by rw [List.size_toArray,List.size_toArray];omega
 have hlong:¬ (!its.toArray.isEmpty && Builtin.List.listTooLong (its.toArray.size + its2.toArray.size))=true:=by
  rw [jny hsz,Bool.and_false];exact Bool.false_ne_true
 refine call_meets F.slot_list_extend ⟨_,e,rfl⟩ F.entry_list_extend (F.args_list_extend_2 _ _) (jr4 l c its.toArray its2.toArray n m dd sl hlong (by rw [List.size_toArray];omega) (by omega)) ⟨e,e2,?_⟩;refine ⟨.non,_,I.lset (its':=its ++ its2) hH e (by simp) (r.append r2) ?_,rfl,q⟩;rw [List.length_append];omega
def jxx(w:World)(K:PySem.W.Frag)(td ty tx:TE):TE:=λσ H Q=>td σ H λx H1=>∃ a kvs,x = .ref a/\jck w K a kvs/\ty σ H1 λy H2=>tx σ H2 λz H3=>∃ k,y=kV k/\Q ((ze kvs k).getD z) H3
theorem jls{o e f:Expr}{apos cpos:Pos}{td ty tx:TE}(ho:PE X o td)(he:PE X e ty)(hf:PE X f tx)(m:M2 X o "get" apos e f cpos):PE X (.Call (.Attribute o "get" apos) [e,f] [] cpos) (jxx X.w X.K td ty tx):=by
 intro pins s σ H Q I h;refine wpAny_Call_method m.base m.few m.line PySem.F.plainAttrs_dict PySem.F.slot_dict_get PySem.F.type_dict_get (thn (ho pins s σ H _ I h) λu s1 ⟨x,H1,I1,rx,a,kvs,ex,d,q1⟩=>?_);subst ex;obtain rfl:u=Value.ref a:=rx;have d0:=d
 obtain ⟨nm,ob,es,ep,lk,hx,hd,_⟩:=d0;have hob:=I1.kIn _ _ lk
 refine ⟨⟨ob,hob,hx.1⟩,λb q=>?_,?_⟩
 ·cases q;exact ⟨ob,hob,hx.2.1⟩
 rw [m.trees];refine Calls.callWith_builtin rfl (Calls.evalArgs_plain (Calls.spliced_cons (thn (he pins s1 σ H1 _ I1 q1) λiv s2 ⟨y,H2,I2,ry,q2⟩ =>
  Calls.spliced_cons (thn (hf pins s2 σ H2 _ I2 q2) λfv s3 ⟨z,H3,I3,rz,k,ek,q3⟩=>Calls.spliced_nil ?_))))
 subst ek;obtain ⟨f1,mp,rel⟩:=d.map (P:=X.prog) I3.kIn;refine call_meetsIn PySem.F.slot_dict_get mp.typeIs PySem.F.entry_dict_get (PySem.F.args_dict_get_3 _ _ _) (meets_dict_get_default (yn X.prog X.w) a (jj2 ry) nm fv) ⟨_,mp,⟨_,H3,I3.tok _,?_,q3⟩⟩;exact (rel k).getD rz
end
end L2
end
section
set_option autoImplicit false
namespace Cell
open Vanbka
theorem j17(s:String):(b s).length=s.toList.length:=by unfold b;rw [List.length_map]
theorem jaq(k:Nat)(e:Expr)(f:Bytes):(put k e f).length<=f.length + 2:=by
 unfold put;split
 ·rw [List.length_append,List.length_append];show 1 + f.length + 1<=_
  omega
 ·omega
def fw:List Bytes->Nat
 | []=>0
 | x::l=>x.length + 2 + fw l
theorem zz{g:Bytes}(hg:g.length<=2):∀ l:List Bytes,(glue g l).length<=fw l
 | []=>Nat.le_refl _
 | [x]=>by show x.length<=x.length + 2 + 0;omega
 | x::y::l=>by
  have:=zz hg (y::l);show (x ++ g ++ glue g (y::l)).length<=x.length + 2 + fw (y::l)
  rw [List.length_append,List.length_append];omega
theorem jh3(n:Nat):(shownNat n).length<=nw n:=by
 unfold shownNat nw;rw [j17];have:(toString n).toList.length=(Nat.toDigits 10 n).length:=by
  show (Nat.repr n).toList.length=_;unfold Nat.repr;simp
 omega
theorem jh5(z:Int):(shownInt z).length<=1 + nw z.natAbs:=by
 unfold shownInt;split
 ·have:=jh3 z.natAbs;rw [List.length_append];show 1 + _<=_
  omega
 ·have:=jh3 z.natAbs;omega
theorem jkt(s:Bytes):(shownQuoted s).length<=2 * s.length + 2:=by
 unfold shownQuoted;rw [List.length_append,List.length_append];have:(s.flatMap shownByte).length<=2 * s.length:=by
  induction s with
  | nil=>simp
  | cons c s ih =>
   rw [List.flatMap_cons,List.length_append,List.length_cons];have:(shownByte c).length<=2:=by
    unfold shownByte;split
    ·exact Nat.le_refl _
    split
    ·exact Nat.le_refl _
    split
    ·exact Nat.le_refl _
    ·show 1<=2;omega
   omega
 show 1 + _ + 1<=_;omega
theorem jno:∀ l:List Bytes,fw (l.map shownQuoted)<=bsw l
 | []=>Nat.le_refl _
 | x::l=>by
  have:=jno l;have:=jkt x
  show (shownQuoted x).length + 2 + fw (l.map shownQuoted)<=100 + 2 * x.length + bsw l;omega
theorem jlz:∀ l:List Bytes,fw l<=bsw l
 | []=>Nat.le_refl _
 | x::l=>by
  have:=jlz l;show x.length + 2 + fw l<=100 + 2 * x.length + bsw l
  omega
theorem jbe(l:List Bytes):(shownBlock l).length<=fw l + 4:=by
 unfold shownBlock;split
 ·show 2<=_;omega
 ·rw [List.length_append,List.length_append];have:=zz (g:=b " ") (by decide) l
  show 2 + _ + 2<=_;omega
theorem jm3(o:Op):o.sign.length<=3:=by cases o <;> decide
theorem jnr(p:Prim):p.word.length<=4:=by cases p <;> decide
theorem jpg(x:Way):x.word.length<=5:=by cases x <;> decide
mutual
theorem yc:∀ e:Expr,e.form.length<=ew e
 | .num n=>by have:=jh3 n;rw [Expr.form,ew];omega
 | .quoted s=>by have:=jkt s;rw [Expr.form,ew];omega
 | .truth v=>by rw [Expr.form,ew];cases v <;> decide
 | .nothing=>by rw [Expr.form,ew];decide
 | .name x=>by rw [Expr.form,ew];omega
 | .list l=>by
  have:=zz (g:=b ", ") (by decide) l.forms;have:=jfq l
  rw [Expr.form,ew,List.length_append,List.length_append];show 1 + _ + 1<=_;omega
 | .record .nil=>by rw [Expr.form,ew];show 3<=_;omega
 | .record (.cons x e l)=>by
  have:=zz (g:=b ", ") (by decide) ((x ++ b ": " ++ e.form)::l.forms);have h:=jk4 (.cons x e l)
  rw [Fields.forms] at h;rw [Expr.form,ew,List.length_append,List.length_append];show 1 + _ + 1<=_;omega
 | .minus e=>by
  have:=yc e;have:=jaq 9 e e.form
  rw [Expr.form,ew,List.length_append];show 1 + _<=_;omega
 | .not e=>by
  have:=yc e;have:=jaq 4 e e.form
  rw [Expr.form,ew,List.length_append];show 4 + _<=_;omega
 | .bin o x y=>by
  have:=yc x;have:=yc y
  have:=jaq o.left x x.form;have:=jaq o.right y y.form
  have:=jm3 o;rw [Expr.form,ew];simp only [List.length_append];show _ + 1 + _ + 1 + _<=_;omega
 | .pick c x y=>by
  have:=yc c;have:=yc x
  have:=yc y;have:=jaq 1 c c.form
  have:=jaq 1 x x.form;have:=jaq 1 y y.form
  rw [Expr.form,ew];simp only [List.length_append];show _ + 3 + _ + 3 + _<=_;omega
 | .call f l=>by
  have:=yc f;have:=jaq 9 f f.form
  have:=zz (g:=b ", ") (by decide) l.forms;have:=jfq l
  rw [Expr.form,ew];simp only [List.length_append];show _ + 1 + _ + 1<=_;omega
 | .index l i=>by
  have:=yc l;have:=yc i
  have:=jaq 9 l l.form;rw [Expr.form,ew];simp only [List.length_append];show _ + 1 + _ + 1<=_;omega
 | .field r x=>by
  have:=yc r;have:=jaq 9 r r.form
  rw [Expr.form,ew];simp only [List.length_append];show _ + 1 + _<=_;omega
 | .prim p l=>by
  have:=zz (g:=b ", ") (by decide) l.forms;have:=jfq l
  have:=jnr p;rw [Expr.form,ew];simp only [List.length_append];show _ + 1 + _ + 1<=_;omega
 | .fn own ps s=>by
  have:=zz (g:=b ", ") (by decide) ps;have:=jlz ps
  have:=jbe s.forms;have:=jau s
  have:(own.getD []).length<=ow own:=by
   cases own with
   | none=>exact Nat.zero_le _
   | some x=>show x.length<=x.length + ne x;omega
  rw [Expr.form,ew];simp only [List.length_append];show 3 + _ + 1 + _ + 2 + _<=_;omega
theorem jfq:∀ l:Exprs,fw l.forms<=esw l
 | .nil=>by rw [Exprs.forms,esw,fw];omega
 | .cons e l=>by
  have:=yc e;have:=jfq l
  rw [Exprs.forms,esw,fw];omega
theorem jk4:∀ l:Fields,fw l.forms<=fsw l
 | .nil=>by rw [Fields.forms,fsw,fw];omega
 | .cons x e l=>by
  have:=yc e;have:=jk4 l
  rw [Fields.forms,fsw,fw,List.length_append,List.length_append];show _ + 2 + _ + 2 + _<=_;omega
theorem jhl:∀ s:Stmt,s.form.length<=sw1 s
 | .leta x e=>by
  have:=yc e;rw [Stmt.form,sw1];simp only [List.length_append];show 4 + _ + 3 + _ + 1<=_;omega
 | .seta x e=>by
  have:=yc e;rw [Stmt.form,sw1];simp only [List.length_append];show 4 + _ + 3 + _ + 1<=_;omega
 | .way x e=>by
  have:=yc e;have:=jpg x
  rw [Stmt.form,sw1];simp only [List.length_append];show _ + 1 + _ + 1<=_;omega
 | .iff c x=>by
  have:=yc c;have:=jbe x.forms
  have:=jau x;rw [Stmt.form,sw1];simp only [List.length_append];show 3 + _ + 1 + _<=_;omega
 | .iffElse c x y=>by
  have:=yc c;have:=jbe x.forms
  have:=jau x;have:=jbe y.forms
  have:=jau y;rw [Stmt.form,sw1];simp only [List.length_append];show 3 + _ + 1 + _ + 6 + _<=_;omega
 | .while_ c x=>by
  have:=yc c;have:=jbe x.forms
  have:=jau x;rw [Stmt.form,sw1];simp only [List.length_append];show 6 + _ + 1 + _<=_;omega
 | .for x e l=>by
  have:=yc e;have:=jbe l.forms
  have:=jau l;rw [Stmt.form,sw1];simp only [List.length_append];show 4 + _ + 4 + _ + 1 + _<=_;omega
 | .slider x v lo hi=>by
  have:=jh5 v;have:=jh5 lo
  have:=jh5 hi;rw [Stmt.form,sw1];simp only [List.length_append];show 7 + _ + 3 + _ + 4 + _ + 2 + _ + 1<=_;omega
 | .choice x v l=>by
  have:=zz (g:=b ", ") (by decide) (l.map shownQuoted);have:=jno l
  have:=jh3 v;rw [Stmt.form,sw1];simp only [List.length_append];show 7 + _ + 3 + _ + 4 + _ + 1<=_;omega
theorem jau:∀ l:Stmts,fw l.forms<=ssw l
 | .nil=>by rw [Stmts.forms,ssw,fw];omega
 | .cons s l=>by
  have:=jhl s;have:=jau l
  rw [Stmts.forms,ssw,fw];omega
end
end Cell
end
section
set_option maxRecDepth 100000
set_option maxHeartbeats 4000000
namespace Prg
open PySem L2
open Vanbka (Bytes glue b shownNat shownInt shownByte shownQuoted)
abbrev jg6:PySem.Stmt:=top 11
abbrev jin:PySem.Stmt:=top 104
abbrev jim:PySem.Stmt:=top 105
abbrev jni:PySem.Stmt:=top 109
theorem jpl{s:String}(h:∀ c∈s.toList,c.toNat < 256):xm (b s)=Str.ofString s:=by
 unfold xm b;rw [List.map_map];have e:s.toList.map ((·.toNat) ∘ λc=>UInt8.ofNat c.toNat)=s.toList.map Char.toNat:=List.map_congr_left λc hc=>by
  show (UInt8.ofNat c.toNat).toNat=c.toNat;rw [UInt8.toNat_ofNat'];exact Nat.mod_eq_of_lt (h c hc)
 rw [e,Str.ofString_eq_toList]
theorem jhm(n:Nat):∀ c∈(toString n).toList,c.toNat < 256:=by
 intro c hc;have:c∈Nat.toDigits 10 n:=by
  have e:(toString n).toList=Nat.toDigits 10 n:=by
   show (Nat.repr n).toList=_;unfold Nat.repr;simp
  rw [e] at hc;exact hc
 have d:=Nat.isDigit_of_mem_toDigits (by decide) (by decide) this;unfold Char.isDigit at d;simp only [Bool.and_eq_true,decide_eq_true_eq] at d;have:c.val<=57:=d.2
 have:c.val.toNat<=57:=this;show c.val.toNat < 256
 omega
theorem jw1(s t:String):b (s ++ t)=b s ++ b t:=by unfold b;simp
theorem jwp(z:Int):xm (shownInt z)=Str.ofString (toString z):=by
 unfold shownInt shownNat;cases z with
 | ofNat n =>
  rw [if_neg (by exact Int.not_lt.mpr (Int.natCast_nonneg n))];exact jpl (jhm n)
 | negSucc n =>
  rw [if_pos (Int.negSucc_lt_zero n)];have e:toString (Int.negSucc n) = "-" ++ toString (n + 1):=rfl
  have e2:(Int.negSucc n).natAbs=n + 1:=rfl;rw [e2,<- jw1,e];refine jpl λc hc=>?_;rw [String.toList_append] at hc;rcases List.mem_append.mp hc with y | y
  ·have:c='-':=by simpa using y
   rw [this];decide
  ·exact jhm _ c y
section
variable{P:Program}{w:World}{K:PySem.W.Frag}{mg:Str->Option Value}{base:Heap}{f:Addr}{fd:FuncData}{D:Ad}
def jc9:Sp:=λvs H Q _=>∃ z:Int,vs=[.int z]/\z.natAbs.log2 < 1920/\(shownInt z).length<=1000000/\Wr H Q (shownInt z)
theorem js6:jv ["number"] ["number"] (ji jin):=⟨rfl,rfl,rfl,by decide +kernel,rfl,by decide +kernel,by decide +kernel⟩
theorem jq7(F:Fun K "write_number" "write_number" jin f fd)(S:Has P w K mg base 1 "spell" ["signs"] zy)(ms:mg "str"=none):xh P w K mg base (CXF P w) 2 f fd ["number"] jc9:=by
 refine F.okF (k:=1) js6 (λvs H Q E h=>?_) (λcdv A outer s H vs Q E hr h=>?_)
 ·obtain ⟨z,rfl,_⟩:=h;rfl
 obtain ⟨z,rfl,hz,hl,q⟩:=h;refine ⟨_,je (jp (jg S hr rfl (ja (jhf joj rfl ms (by decide +kernel) (ja (pv 0) jb)) jb))),?_⟩;exact ⟨_,rfl,z,rfl,hz,shownInt z,by rw [jwp];rfl,hl,q⟩
def jn9(c:UInt8):Option Bytes:=if c == 92 then some [92,92] else if c == 34 then some [92,34] else if c == 10 then some [92,110] else none
theorem jkb(c:UInt8):(jn9 c).getD [c]=shownByte c:=by
 unfold jn9 shownByte;split
 ·rfl
 split
 ·rfl
 split
 ·rfl
 ·rfl
def jsh(w:World)(K:PySem.W.Frag)(mg:Str->Option Value):Prop:=∃ a kvs,mg "ESCAPES"=some (.ref a)/\jck w K a kvs/\∀ c:UInt8,match jn9 c with
 | none=>ze kvs (.inl (c.toNat:Int))=none
 | some u=>∃ t,ze kvs (.inl (c.toNat:Int))=some (.ref t)/\∀ H,SqT K H t (vb u)
def jc8(K:PySem.W.Frag):Sp:=λvs H Q _=>∃ (a:Addr) (u:Bytes),vs=[.ref a]/\SqL K H a (vb u)/\u.length<=300000/\Wr H Q (shownQuoted u)
theorem jli:jv ["said", "written", "byte"] ["said"] (ji jim):=⟨rfl,rfl,rfl,by decide +kernel,rfl,by decide +kernel,by decide +kernel⟩
theorem jy7(u:Bytes)(c:UInt8):(u ++ [c]).flatMap shownByte=u.flatMap shownByte ++ shownByte c:=by simp
theorem jn7(u:Bytes):(u.flatMap shownByte).length<=2 * u.length:=by
 have:=Cell.jkt u;unfold shownQuoted at this;rw [List.length_append,List.length_append] at this;have e:([34]:Bytes).length=1:=rfl
 rw [e] at this;omega
theorem jmm(u v:Bytes):vb (u ++ v)=vb u ++ vb v:=by unfold vb;rw [List.map_append]
theorem jq6(F:Fun K "write_quoted" "write_quoted" jim f fd)(S:Has P w K mg base 1 "spell" ["signs"] zy)(Es:jsh w K mg):xh P w K mg base (CXF P w) 2 f fd ["said"] (jc8 K):=by
 refine F.okF (k:=1) jli (λvs H Q E h=>?_) (λcdv A outer s H vs Q E hr h=>?_)
 ·obtain ⟨a,u,rfl,_⟩:=h;rfl
 obtain ⟨a,u,rfl,hS,hu,q⟩:=h;have nd:=jli.nd
 obtain ⟨ea,kvs,mE,dE,vE⟩:=Es;refine ⟨_,jc (ju (i:=1) nd rfl (Or.inl rfl) (jg S hr rfl (ja jf jb)))
  (jc (jek jag rfl (jab (pv 0)) (y_ (i:=2) nd rfl (Or.inl rfl)) (je (j_ (vk PySem.F.plainAttrs_list PySem.F.slot_list_extend PySem.F.type_list_extend jrl (pv 1) (ja (jls (ve mE rfl) (pv 2) (jbq (ja (pv 2) jb)) ⟨rfl,rfl,rfl,rfl⟩) jb)))))
  (je (jp (qa qg (pv 1) (jg S hr rfl (ja jf jb)))))),?_⟩
 refine ⟨[34],rfl,by decide,λl H1 s1 nl hl1=>?_⟩;refine ⟨_,rfl,a,rfl,⟨_,s1.seq hS⟩,λi m σ H'=>m=u.length - i/\i<=u.length/\jh H H'/\H' l=some (.lst (vb ([34] ++ (u.take i).flatMap shownByte)))/\∃ v2,σ=[some (.ref a),some (.ref l),v2],⟨_,rfl,Nat.zero_le _,s1,hl1,none,rfl⟩,?_⟩;rintro i m σ H' ⟨rfl,hi,sm,hl,v2,rfl⟩;have hS':=sm.seq hS
 by_cases hlt:i < u.length
 ·have hc:u[i]? = some u[i]:=List.getElem?_eq_getElem hlt;have hx:(vb u)[i]? = some (.int ((u[i]).toNat:Int)):=by unfold vb;rw [List.getElem?_map,hc];rfl
  refine .inr ⟨⟨_,_,hS',hx⟩,λσ' H2=>∃ m',m' < u.length - i/\(m'=u.length - (i + 1)/\i + 1<=u.length/\jh H H2/\H2 l=some (.lst (vb ([34] ++ (u.take (i + 1)).flatMap shownByte)))/\∃ v2,σ'=[some (.ref a),some (.ref l),v2]),λ_ _ z=>z,?_⟩;rintro y H2 ⟨rfl,hy⟩;have ey:=hy _ hS'
  rw [hx] at ey;cases ey;have fl:=jn7 (u.take i)
  rw [List.length_take] at fl;refine ⟨_,rfl,.inl ⟨rfl,_,SqL.of hl⟩,ea,kvs,rfl,dE,_,rfl,_,rfl,(by show 1<=2 ^ 24;decide),λp np=>⟨.inl ((u[i]).toNat:Int),rfl,?_⟩⟩;have sp:jh H2 (upd H2 p (.tup [.int ((u[i]).toNat:Int)])):=jo np _
  have hlp:=sp _ _ hl;have go:∀ (t:Addr),SqT K (upd H2 p (.tup [.int ((u[i]).toNat:Int)])) t (vb (shownByte u[i]))->jnm K (.ref l) [.ref t] (upd H2 p (.tup [.int ((u[i]).toNat:Int)])) (λ_ H3=>∃ m',m' < u.length - i/\(m'=u.length - (i + 1)/\i + 1<=u.length/\jh H H3/\H3 l=some (.lst (vb ([34] ++ (u.take (i + 1)).flatMap shownByte)))/\∃ v2,([some (.ref a),some (.ref l),some (.int ((u[i]).toNat:Int))]:St)=[some (.ref a),some (.ref l),v2])):=by
   intro t ht;refine ⟨l,t,_,_,rfl,rfl,hlp,ht,?_,_,by omega,rfl,hlt,vw (sm.trans sp) nl,?_,_,rfl⟩
   ·have:(shownByte u[i]).length<=2:=by
     have:=jn7 [u[i]];rw [List.flatMap_singleton] at this;exact this
    rw [xp,xp,List.length_append];show 1 + _ + _<=2 ^ 24
    omega
   ·rw [jd,ja0 hc,jy7,<- List.append_assoc,jmm ([34] ++ _)]
  have:=vE u[i];cases he:jn9 u[i] with
  | none =>
   rw [he] at this;rw [this];refine go p ?_;rw [<- jkb,he];exact SqT.of jd
  | some z =>
   rw [he] at this;obtain ⟨t,e1,e2⟩:=this;rw [e1];refine go t ?_;rw [<- jkb,he];exact e2 _
 ·have e:i=u.length:=by omega
  subst e;rw [List.take_length] at hl;refine .inl ⟨⟨_,hS',by rw [xp];exact Nat.le_refl _⟩,_,rfl,[34],rfl,by decide,λl2 H2 s2 nl2 hl2=>?_⟩;have fl:=jn7 u
  refine ⟨l,l2,_,_,rfl,rfl,s2 _ _ hl,hl2,?_,λp np=>q p _ ((sm.trans s2).trans (jo np _)) (jk (sm.trans s2) np) ?_⟩
  ·rw [xp,xp,List.length_append];show 1 + _ + 1<=2 ^ 24
   omega
  ·rw [jd,<- jmm];rfl
end
open Vanbka (put)
def NT(te:TE)(σ:St)(H:Hp)(x:Bytes):Prop:=∀ H',jh H H'->∀ Q:VK,Wr H' Q x->te σ H' Q
theorem NT.mt{te:TE}{σ:St}{H:Hp}{x:Bytes}(h:NT te σ H x):MT te σ H x:=λH' s Q q=>h H' s Q λa H2 s2 _ e=>q a H2 s2 e
theorem NT.cat{t1 t2:TE}{σ:St}{H:Hp}{x y:Bytes}(h1:MT t1 σ H x)(h2:MT t2 σ H y)(sz:x.length + y.length<=1000000):NT (tOp jhb t1 t2) σ H (x ++ y):=by
 intro H' s Q q;refine h1 H' s _ λa H1 s1 e1=>h2 H1 (s.trans s1) _ λc H2 s2 e2=>?_;refine ⟨a,c,_,_,rfl,rfl,s2 _ _ e1,e2,?_,λp np=>q p _ ((s1.trans s2).trans (jo np _)) (jk (s1.trans s2) np) ?_⟩
 ·rw [xp,xp];exact Nat.le_trans sz (by decide)
 ·rw [jd,jmm]
def CT(te:TE)(σ:St)(H:Hp)(x:Bytes):Prop:=x.length<=1000000->MT te σ H x
def CN(te:TE)(σ:St)(H:Hp)(x:Bytes):Prop:=x.length<=1000000->NT te σ H x
theorem NT.c{te:TE}{σ:St}{H:Hp}{x:Bytes}(h:NT te σ H x):CT te σ H x:=λ_=>h.mt
theorem MT.c{te:TE}{σ:St}{H:Hp}{x:Bytes}(h:MT te σ H x):CT te σ H x:=λ_=>h
theorem CN.c{te:TE}{σ:St}{H:Hp}{x:Bytes}(h:CN te σ H x):CT te σ H x:=λl=>(h l).mt
theorem jd1{x y:Bytes}{n:Nat}(h:(x ++ y).length<=n):x.length<=n:=by rw [List.length_append] at h;omega
theorem jh4{x y:Bytes}{n:Nat}(h:(x ++ y).length<=n):y.length<=n:=by rw [List.length_append] at h;omega
theorem CN.cat{t1 t2:TE}{σ:St}{H:Hp}{x y:Bytes}(h1:CT t1 σ H x)(h2:CT t2 σ H y):CN (tOp jhb t1 t2) σ H (x ++ y):=λl=>NT.cat (h1 (jd1 l)) (h2 (jh4 l)) (by rw [List.length_append] at l;exact l)
theorem NT.spell{E:XK}{σ:St}{H:Hp}{u:Bytes}{z:Str}(e:z=xm u)(hl:u.length<=1000000):NT (yh zy [] E (qj (tC (.str z)) xc)) σ H u:=by
 subst e;exact λH' s Q q=>⟨u,rfl,hl,q⟩
open Vanbka (Exprs Fields Stmts)
def jnu:List (Str×Nat):=[("?",0),("not",3),("minus",8),("call",9),("element",9),("field",9)]
def yb(z:Str):Int:=match vc.lookup z with
 | some i=>i
 | none=>(((jnu.lookup z).getD 10:Nat):Int)
def jmi:Vanbka.Expr->Str
 | .num _ => "NUMBER" | .quoted _ => "QUOTED" | .truth v=>if v then "yes" else "no" | .nothing => "none" | .name _ => "NAME" | .list _ => "list" | .record _ => "record" | .minus _ => "minus" | .not _ => "not"
 | .bin o _ _=>opK o | .pick _ _ _ => "?" | .call _ _ => "call" | .index _ _ => "element" | .field _ _ => "field" | .prim p _=>jc6 p | .fn _ _ _ => "fn"
theorem jma(e:Vanbka.Expr):yb (jmi e)=(e.strength:Int):=by
 cases e with
 | truth v=>cases v <;> decide +kernel
 | bin o x y =>
  show yb (opK o)=((o.strength:Nat):Int)
  cases o <;> decide +kernel
 | prim p l =>
  show yb (jc6 p)=((10:Nat):Int)
  cases p <;> decide +kernel
 | num n=>exact (show yb "NUMBER"=((10:Nat):Int) by decide +kernel)
 | quoted s=>exact (show yb "QUOTED"=((10:Nat):Int) by decide +kernel)
 | nothing=>exact (show yb "none"=((10:Nat):Int) by decide +kernel)
 | name x=>exact (show yb "NAME"=((10:Nat):Int) by decide +kernel)
 | list l=>exact (show yb "list"=((10:Nat):Int) by decide +kernel)
 | record l=>exact (show yb "record"=((10:Nat):Int) by decide +kernel)
 | minus e=>exact (show yb "minus"=((8:Nat):Int) by decide +kernel)
 | not e=>exact (show yb "not"=((3:Nat):Int) by decide +kernel)
 | pick c x y=>exact (show yb "?"=((0:Nat):Int) by decide +kernel)
 | call f l=>exact (show yb "call"=((9:Nat):Int) by decide +kernel)
 | index l i=>exact (show yb "element"=((9:Nat):Int) by decide +kernel)
 | field r x=>exact (show yb "field"=((9:Nat):Int) by decide +kernel)
 | fn o p s=>exact (show yb "fn"=((10:Nat):Int) by decide +kernel)
section
variable{P:Program}{w:World}{K:PySem.W.Frag}{mg:Str->Option Value}{base:Heap}{f:Addr}{fd:FuncData}{D:Ad}
def jsf(w:World)(K:PySem.W.Frag)(mg:Str->Option Value):Prop:=∃ a kvs,mg "OTHER_STRENGTHS"=some (.ref a)/\jck w K a kvs/\∀ z:Str,ze kvs (.inr z)=(jnu.lookup z).map λ(m:Nat)=>V.int (m:Int)
def jje:Sp:=λvs H Q _=>∃ z,vs=[.str z]/\Q (.int (yb z)) H
theorem jqs:jv ["kind"] ["kind"] (ji jg6):=⟨rfl,rfl,rfl,by decide +kernel,rfl,by decide +kernel,by decide +kernel⟩
theorem jow(F:Fun K "strength_of" "strength_of" jg6 f fd)(S:jfs w K mg)(O:jsf w K mg)(c:CI mg "GREATEST_STRENGTH" 10):xh P w K mg base (CXF P w) 1 f fd ["kind"] jje:=by
 refine F.okF (k:=0) jqs (λvs H Q E h=>?_) (λcdv A outer s H vs Q E hr h=>?_)
 ·obtain ⟨z,rfl,_⟩:=h;rfl
 obtain ⟨z,rfl,q⟩:=h;obtain ⟨a,kvs,mS,dS,tS⟩:=S;obtain ⟨oa,okv,mO,dO,vO⟩:=O;refine ⟨_,jc (qh (js jhh (pv 0) (ve mS rfl) rfl) (je (jp (xo jj3 (jcr (ve mS rfl) (pv 0) (λ_ _=>rfl)) qd (λ_ _=>rfl)))) jy)
  (je (jp (jls (ve mO rfl) (pv 0) (qx c rfl) ⟨rfl,rfl,rfl,rfl⟩))),?_⟩
 have t:=tS z;unfold yb at q;refine ⟨_,rfl,a,kvs,.inr z,rfl,dS,rfl,_,rfl,?_⟩;cases e:vc.lookup z with
 | none =>
  rw [e] at t q;rw [t];refine qb (λc=>absurd c (by decide)) (λ_=>⟨oa,okv,rfl,dO,_,rfl,.inr z,rfl,?_⟩);rw [vO];cases ho:jnu.lookup z with
  | none=>rw [ho] at q;exact q
  | some m=>rw [ho] at q;exact q
 | some j =>
  rw [e] at t q;obtain ⟨tt,u,v,ev,sq⟩:=t;rw [ev];refine qb (λ_=>?_) (λc=>absurd rfl c);exact ⟨_,rfl,a,kvs,.inr z,_,rfl,dS,rfl,ev,tt,_,_,_,rfl,rfl,sq _,rfl,q⟩
theorem jyc(o:Vanbka.Op):xm o.sign=if opK o = "percent" then ("%":Str) else opK o:=by cases o <;> decide +kernel
def jkm:Sp:=λvs H Q _=>∃ o:Vanbka.Op,vs=[.str (opK o)]/\Wr H Q o.sign
theorem jx2:jv ["kind"] ["kind"] (ji jni):=⟨rfl,rfl,rfl,by decide +kernel,rfl,by decide +kernel,by decide +kernel⟩
theorem jvx(F:Fun K "write_sign" "write_sign" jni f fd)(S:Has P w K mg base 1 "spell" ["signs"] zy)(c:CI mg "PERCENT" 37):xh P w K mg base (CXF P w) 2 f fd ["kind"] jkm:=by
 refine F.okF (k:=1) jx2 (λvs H Q E h=>?_) (λcdv A outer s H vs Q E hr h=>?_)
 ·obtain ⟨o,rfl,_⟩:=h;rfl
 obtain ⟨o,rfl,q⟩:=h;refine ⟨_,jc (qh (js xi (pv 0) jf (j6 _)) (je (jp (j3 (ja (qx c rfl) jb)))) jy) (je (jp (jg S hr rfl (ja (pv 0) jb)))),?_⟩;have es:=jyc o
 refine ⟨_,rfl,rfl,_,rfl,qb (λk=>?_) (λk=>?_)⟩
 ·have k:=wg k;rw [if_pos k] at es;have eo:o.sign=[37]:=jgz (es.trans rfl)
  rw [eo] at q;exact ⟨(by show 1<=2 ^ 24;decide),λl nl=>q l _ (jo nl _) nl jd⟩
 ·have k:=w6 k;rw [if_neg k] at es;have:=Cell.jm3 o
  exact ⟨_,rfl,o.sign,by rw [es];rfl,by omega,q⟩
end
section
variable{P:Program}{w:World}{K:PySem.W.Frag}{mg:Str->Option Value}{base:Heap}{D:Ad}
theorem Wr.on{H H1:Hp}{Q:VK}{x:Bytes}(q:Wr H Q x)(s:jh H H1):Wr H1 Q x:=λa H' s' n e=>q a H' (s.trans s') (jk s n) e
def WSp(R:List V->Hp->Bytes->Prop):Sp:=λvs H Q _=>∃ x,R vs H x/\Wr H Q x
theorem NT.call{R:List V->Hp->Bytes->Prop}{E:XK}{t:TA}{σ:St}{H:Hp}{x:Bytes}(h:AT t σ H λvs H2=>R vs H2 x):NT (yh (WSp R) [] E t) σ H x:=λH' s Q q =>
 h H' s _ λvs H2 s2 r=>⟨x,by rw [List.append_nil];exact r,q.on s2⟩
theorem ye{te:TE}{ts:TS}{Dn:jbf}{σ:St}{H:Hp}{x:Bytes}{i:Nat}(h:NT te σ H x)(k:∀ a H1,jh H H1->H a=none->H1 a=some (.lst (vb x))->ts Dn (σ.set i (some (.ref a))) H1):jby (jgx te (jai i)) ts Dn σ H :=
 h H (jh.refl H) _ λa H1 s n e=>k a H1 s n e
theorem xz{te:TE}{Dn:jbf}{σ:St}{H:Hp}{x:Bytes}(h:NT te σ H x)(q:Wr H Dn.rt x):jfw te Dn σ H:=h H (jh.refl H) _ q
theorem zt{te:TE}{Dn:jbf}{σ:St}{H:Hp}{x:Bytes}(h:CN te σ H x)(q:Wr H Dn.rt x)(l:x.length<=1000000):jfw te Dn σ H:=xz (h l) q
def PcT(K:PySem.W.Frag)(te:TE)(σ:St)(H:Hp)(xs:List Bytes):Prop:=∀ H',jh H H'->∀ Q:VK,(∀ a as H2,jh H' H2->SqL K H2 a (as.map V.ref)->v7 H2 as xs->Q (.ref a) H2)->te σ H' Q
theorem PcT.of{te:TE}{σ:St}{H:Hp}{as:List Addr}{xs:List Bytes}(h:LT K te σ H (as.map V.ref))(p:v7 H as xs):PcT K te σ H xs:=λH' s Q q=>h H' s _ λa H2 s2 hS=>q a as H2 s2 hS (Paired.mapP p λ_ _ z=>s2 _ _ (s _ _ z))
theorem jjq{H H3:Hp}{Dl:Addr}{o:HO}(s3:jh H H3):∀ {as:List Addr} {ys:List Bytes},Dl∉as->v7 H as ys->v7 (upd H3 Dl o) as ys:=by
 intro as ys n h;induction h with
 | nil=>exact .nil
 | cons r t ih =>
  rename_i c d e f;have nc:c≠Dl:=λz=>n (by rw [z];exact .head _)
  exact .cons (by rw [jm nc];exact s3 _ _ r) (ih λz=>n (.tail _ z))
theorem PcT.lc{σ:St}{H:Hp}{ti te:TE}{j:Nat}{us:List V}{xs:List Bytes}(hi:LT K ti σ H us)(hl:us.length=xs.length)(sz:xs.length<=100000)
  (step:∀ (i:Nat) (v:V) (x:Bytes),us[i]? = some v->xs[i]? = some x->NT te ((zp σ [j]).set j (some v)) H x)
  (hws:∀ v,zp ((zp σ [j]).set j (some v)) [j]=zp σ [j]):PcT K (tLc (jh6 K ti) (jai j) jkl te [j]) σ H xs:=by
 intro H0 s0 Q q;refine hi H0 s0 _ λa H1 s1 hS=>⟨a,rfl,⟨_,hS⟩,λDl nD=>⟨λi m H'=>m=xs.length - i/\i<=xs.length/\jh H1 H'/\∃ as:List Addr,H' Dl=some (.lst (as.map V.ref))/\Dl∉as/\v7 H' as (xs.take i),⟨_,rfl,Nat.zero_le _,jo nD _,[],jd,by simp,.nil⟩,?_⟩⟩
 rintro i m H' ⟨rfl,hile,sm,as,hD,nas,hp⟩;have hS':=sm.seq hS
 by_cases hlt:i < xs.length
 ·have hx:us[i]? = some us[i]:=List.getElem?_eq_getElem (by omega);have hxi:xs[i]? = some xs[i]:=List.getElem?_eq_getElem hlt
  refine .inr ⟨⟨_,_,hS',hx⟩,λH2=>∃ m',m' < xs.length - i/\(m'=xs.length - (i + 1)/\i + 1<=xs.length/\jh H1 H2/\∃ as:List Addr,H2 Dl=some (.lst (as.map V.ref))/\Dl∉as/\v7 H2 as (xs.take (i + 1))),λ_ z=>z,?_⟩;rintro x H2 ⟨rfl,hy⟩;have ey:=hy _ hS'
  rw [hx] at ey;cases ey;refine ⟨hws _,step i _ _ hx hxi H2 ((s0.trans s1).trans sm) _ λp H3 s3 np e3=>?_⟩;have pD:p≠Dl:=λz=>by rw [z,hD] at np;cases np
  have hD3:=s3 _ _ hD;have pl:=Paired.len hp
  refine ⟨_,hD3,?_,_,Nat.lt_of_lt_of_le (Nat.lt_succ_self _) (by omega),rfl,hlt,vw (sm.trans s3) nD,as ++ [p],?_,?_,?_⟩
  ·rw [List.length_map,pl,List.length_take];show min i xs.length < 2 ^ 24
   omega
  ·rw [jd,List.map_append];rfl
  ·intro z;rcases List.mem_append.mp z with y | y
   ·exact nas y
   ·exact pD (List.mem_singleton.mp y).symm
  ·rw [List.take_add_one,hxi];exact Paired.snoc (jjq s3 nas hp) (by show upd H3 Dl _ p=_;rw [jm pD];exact e3)
 ·have e:i=xs.length:=by omega
  subst e;rw [List.take_length] at hp;exact .inl ⟨⟨_,hS',by omega⟩,q Dl as H' (s1.trans sm) (SqL.of hD) hp⟩
theorem NT.join{E:XK}{σ:St}{H:Hp}{te:TE}{xs:List Bytes}{z:Str}{g:Bytes}(h:PcT K te σ H xs)(ez:z=xm g)(hg:g.length<=10)(bd:(glue g xs).length<=1000000) :
  NT (yh (jjg K) [] E (qj te (qj (tC (.str z)) xc))) σ H (glue g xs):=by
 subst ez;intro H' s Q q;exact h H' s _ λa as H2 s2 e p=>⟨a,as,xs,g,rfl,e,p,hg,bd,q.on s2⟩
def RE(D:Ad)(d:Nat):List V->Hp->Bytes->Prop:=λvs H x=>∃ (e:Vanbka.Expr) (v:V) (k:Nat),vs=[v,.int (k:Int)]/\jz D.CN H (jw e) v/\e.depth<=d/\Cell.ew e<=MW/\x=put k e e.form
def RT(D:Ad)(d:Nat)(S:Vanbka.Expr->Prop):List V->Hp->Bytes->Prop:=λvs H x=>∃ (e:Vanbka.Expr) (v:V),vs=[v]/\S e/\jz D.CN H (jw e) v/\e.depth<=d/\Cell.ew e<=MW/\x=e.form
def RS(D:Ad)(d:Nat)(S:Vanbka.Stmt->Prop):List V->Hp->Bytes->Prop:=λvs H x=>∃ (e:Vanbka.Stmt) (v:V),vs=[v]/\S e/\jz D.CN H (x_ e) v/\e.depth<=d/\Cell.sw1 e<=MW/\x=e.form
def RL(K:PySem.W.Frag)(D:Ad)(d:Nat):List V->Hp->Bytes->Prop:=λvs H x=>∃ (l:Exprs) (a:Addr) (us:List V),vs=[.ref a]/\SqL K H a us/\us.length<=1000/\jj D.CN H (y9 l) us/\l.depth<=d/\Cell.esw l<=MW/\x=glue (b ", ") l.forms
def RB(K:PySem.W.Frag)(D:Ad)(d:Nat):List V->Hp->Bytes->Prop:=λvs H x=>∃ (l:Stmts) (a:Addr) (us:List V),vs=[.ref a]/\SqL K H a us/\us.length<=1000/\jj D.CN H (xk l) us/\l.depth<=d/\Cell.ssw l<=MW/\x=Vanbka.shownBlock l.forms
structure vj(P:Program)(w:World)(K:PySem.W.Frag)(mg:Str->Option Value)(base:Heap)(D:Ad)(d:Nat):Prop where
 expr:Has P w K mg base (5 * d + 5) "write_expression" ["tree", "wanted"] (WSp (RE D d))
 stmt:Has P w K mg base (5 * d + 5) "write_statement" ["tree"] (WSp (RS D d jsi))
structure wx(P:Program)(w:World)(K:PySem.W.Frag)(mg:Str->Option Value)(base:Heap)(D:Ad):Prop where
 C:zu K mg "Tree" D.CN ["kind", "leaves", "parts", "blocks", "depth", "place", "end"]
 spell:Has P w K mg base 1 "spell" ["signs"] zy
 join:Has P w K mg base 2 "join_pieces" ["pieces", "gap"] (jjg K)
 number:Has P w K mg base 2 "write_number" ["number"] jc9
 quoted:Has P w K mg base 2 "write_quoted" ["said"] (jc8 K)
 strength:Has P w K mg base 1 "strength_of" ["kind"] jje
 sign:Has P w K mg base 2 "write_sign" ["kind"] jkm
 any:CI mg "ANY" 0
 chosen:CI mg "CHOSEN" 1
 denied:CI mg "DENIED" 4
 reached:CI mg "REACHED" 9
 sides:jfs w K mg
 sidesLR:∃ a kvs,mg "SIDES"=some (.ref a)/\jck w K a kvs/\∀ o:Vanbka.Op,∃ t,ze kvs (.inr (opK o))=some (.ref t)/\∀ H,SqT K H t [.int (o.strength:Nat),.int (o.left:Nat),.int (o.right:Nat)]
 m_len:mg "len"=none
 m_list:mg "list"=none
 m_zip:mg "zip"=none
theorem jjw:∀ {l:Exprs} {i:Nat} {x:Bytes},l.forms[i]? = some x->∃ e,(y9 l)[i]? = some (jw e)/\x=e.form/\e.depth<=l.depth/\Cell.ew e<=Cell.esw l
 | .nil,i,x,h=>by simp [Exprs.forms] at h
 | .cons e l,0,x,h=>by
  rw [Exprs.forms] at h;cases h;refine ⟨e,by rw [y9];rfl,rfl,?_,?_⟩
  ·rw [Exprs.depth];omega
  ·rw [Cell.esw];omega
 | .cons e l,i + 1,x,h=>by
  rw [Exprs.forms,List.getElem?_cons_succ] at h;obtain ⟨e',h1,h2,h3,h4⟩:=jjw h;refine ⟨e',by rw [y9,List.getElem?_cons_succ];exact h1,h2,?_,?_⟩
  ·rw [Exprs.depth];omega
  ·rw [Cell.esw];omega
theorem jgg:∀ {l:Stmts} {i:Nat} {x:Bytes},l.forms[i]? = some x->∃ e,(xk l)[i]? = some (x_ e)/\x=e.form/\e.depth<=l.depth/\Cell.sw1 e<=Cell.ssw l
 | .nil,i,x,h=>by simp [Stmts.forms] at h
 | .cons e l,0,x,h=>by
  rw [Stmts.forms] at h;cases h;refine ⟨e,by rw [xk];rfl,rfl,?_,?_⟩
  ·rw [Stmts.depth];omega
  ·rw [Cell.ssw];omega
 | .cons e l,i + 1,x,h=>by
  rw [Stmts.forms,List.getElem?_cons_succ] at h;obtain ⟨e',h1,h2,h3,h4⟩:=jgg h;refine ⟨e',by rw [xk,List.getElem?_cons_succ];exact h1,h2,?_,?_⟩
  ·rw [Stmts.depth];omega
  ·rw [Cell.ssw];omega
theorem jj7:∀ l:Exprs,l.forms.length=(y9 l).length
 | .nil=>by rw [Exprs.forms,y9];rfl
 | .cons e l=>by rw [Exprs.forms,y9,List.length_cons,List.length_cons,jj7 l]
theorem jgn:∀ l:Stmts,l.forms.length=(xk l).length
 | .nil=>by rw [Stmts.forms,xk];rfl
 | .cons e l=>by rw [Stmts.forms,xk,List.length_cons,List.length_cons,jgn l]
theorem jsx(u v:Bytes):xm (u ++ v)=xm u ++ xm v:=by
 show (⟨((u ++ v).map (·.toNat)).toArray⟩:Str)=Str.append ⟨(u.map (·.toNat)).toArray⟩ ⟨(v.map (·.toNat)).toArray⟩;unfold Str.append;simp
def jxh:R2:=λx y H Q=>∃ i j,x = .str i/\y = .str j/\i.length + j.length<=sizeLine/\Q (.str (i ++ j)) H
theorem jh2{X:Cx}:OpR X (binaryOp .Add) jxh:=jq5
theorem NT.spellAdd{E:XK}{σ:St}{H:Hp}{te:TE}{z y:Str}{u v:Bytes}(hv:∀ H',jh H H'->∀ Q:VK,Q (.str z) H'->te σ H' Q)(e1:z=xm u)(e2:y=xm v:=by decide +kernel)(h1:u.length<=500:=by decide +kernel)(h2:v.length<=500:=by decide +kernel):NT (yh zy [] E (qj (tOp jxh te (tC (.str y))) xc)) σ H (u ++ v):=by
 subst e1 e2;refine λH' s Q q=>hv H' s _ ⟨_,_,rfl,rfl,?_,u ++ v,by rw [jsx];rfl,?_,q⟩
 ·rw [jgy,jgy];show _<=2 ^ 24
  omega
 ·rw [List.length_append];omega
theorem jku(e:Vanbka.Expr)(f:Bytes):put 0 e f=f:=by unfold put;rw [if_neg (Nat.not_lt_zero _)]
theorem NT.lit{E:XK}{σ:St}{H:Hp}{z:Str}(s:String)(e:z=xm (b s):=by decide +kernel)(hl:(b s).length<=1000000:=by decide +kernel):NT (yh zy [] E (qj (tC (.str z)) xc)) σ H (b s):=NT.spell e hl
theorem AT.part{d:Nat}{σ:St}{H:Hp}{i j k:Nat}{x:Addr}{z:Str}{ls:List x6}{ps:List j5}{bs:List (List j5)}{e:Vanbka.Expr}{tk:TE}(C:zu K mg "Tree" D.CN ["kind", "leaves", "parts", "blocks", "depth", "place", "end"])(T:qp D H x z ls ps bs)(hi:σ[i]? = some (some (.ref x)))(hj:ps[j]? = some (jw e))(hd:e.depth<=d)(hw:Cell.ew e<=MW)
  (hk:∀ H',jh H H'->∀ Q:VK,Q (.int (k:Int)) H'->tk σ H' Q):AT (qj (tOp (jgb K) (ja1 K (qy i) "parts") (tC (.int (j:Int)))) (qj tk xc)) σ H λvs H2=>RE D d vs H2 (put k e e.form):=λH' s Q q =>
 jzl C (T.same s) hi hj λv nv=>hk H' s _ (q _ H' (jh.refl H') ⟨e,v,k,rfl,nv,hd,hw,rfl⟩)
theorem NT.part{d:Nat}{E:XK}{σ:St}{H:Hp}{i j k:Nat}{x:Addr}{z:Str}{ls:List x6}{ps:List j5}{bs:List (List j5)}{e:Vanbka.Expr}(C:zu K mg "Tree" D.CN ["kind", "leaves", "parts", "blocks", "depth", "place", "end"])(T:qp D H x z ls ps bs)(hi:σ[i]? = some (some (.ref x)))(hj:ps[j]? = some (jw e))(hd:e.depth<=d)(hw:Cell.ew e<=MW) :
  NT (yh (WSp (RE D d)) [] E (qj (tOp (jgb K) (ja1 K (qy i) "parts") (tC (.int (j:Int)))) (qj (tC (.int (k:Int))) xc))) σ H (put k e e.form):=NT.call (AT.part C T hi hj hd hw jzk)
abbrev jef:PySem.Stmt:=top 112
theorem jlj:jv ["parts", "part"] ["parts"] (ji jef):=⟨rfl,rfl,rfl,by decide +kernel,rfl,by decide +kernel,by decide +kernel⟩
theorem jsc:jbo ["parts", "part"] (ji jef) { kind:=.function,names:=[(".0",.local),("part",.local),("write_expression",.globalImplicit),("ANY",.globalImplicit)],isGenerator:=false,isCoroutine:=false } [("part",1)]:=⟨rfl,by decide +kernel,by decide +kernel,by decide +kernel,by decide +kernel⟩
theorem jrb(Kn:jr K mg "write_listed" ["parts"] jef)(B:wx P w K mg base D){d:Nat}(I:vj P w K mg base D d):Has P w K mg base (5 * d + 6 + 1) "write_listed" ["parts"] (WSp (RL K D d)):=by
 refine v_ Kn jlj (λ_ _ _ _ h=>by obtain ⟨_,⟨l,a,us,rfl,hS,hn,hN,hd,hw,rfl⟩,_⟩:=h;rfl) λf cdv A outer s H vs Q E hr h=>?_;obtain ⟨_,⟨l,a,us,rfl,hS,hn,hN,hd,hw,rfl⟩,q⟩:=h;have nd:=jlj.nd
 have m_len:=B.m_len;have m_list:=B.m_list
 have m_zip:=B.m_zip;have C:=B.C
 obtain ⟨gf,gfd,gF,gb,gk,gm⟩:=I.expr;refine ⟨_,(je (jp (jg B.join hr rfl (ja (jeu (own:=[("part",1)]) (te:=(yh (WSp (RE D d)) [] (λ_ _ _=>False) (qj (qy 1) (qj (tC (.int 0)) xc)))) rfl nd (jab (pv 0)) jsc (λ_ _ _ _ _=>y_ (i:=1) nd rfl (Or.inl rfl)) (λ_ _ _ _ _=>jbk) (λ_ _ _ _ _=>(vf gF (hr.mono (by omega)) rfl gm gk gb .nil jb0 (ja (pv 1) (ja (qx B.any rfl) jb))))) (ja jf jb)) (by omega)))),?_⟩;have fl:=Cell.jfq l
 have gl:=Cell.zz (g:=b ", ") (by decide) l.forms;have ln:=jj.len _ _ hN
 have lf:=jj7 l;refine xz (NT.join (PcT.lc (LT.var rfl hS) (by omega) (by omega) (λi v x hv hx=>?_) (λ_=>rfl)) (by decide +kernel) (by decide) (by unfold MW at hw;omega)) q;obtain ⟨e,h1,rfl,h3,h4⟩:=jjw hx;obtain ⟨v',ev,nv⟩:=jj.get _ _ hN i _ h1;rw [hv] at ev;cases ev;exact NT.call λH' s Q' q'=>⟨_,rfl,q' _ H' (jh.refl _) ⟨e,_,0,rfl,jz.same s _ _ nv,by omega,by omega,(jku _ _).symm⟩⟩
abbrev jfj:PySem.Stmt:=top 99
theorem jm7:jv ["statements", "written", "statement"] ["statements"] (ji jfj):=⟨rfl,rfl,rfl,by decide +kernel,rfl,by decide +kernel,by decide +kernel⟩
theorem juw:jbo ["statements", "written", "statement"] (ji jfj) { kind:=.function,names:=[(".0",.local),("statement",.local),("write_statement",.globalImplicit)],isGenerator:=false,isCoroutine:=false } [("statement",2)]:=⟨rfl,by decide +kernel,by decide +kernel,by decide +kernel,by decide +kernel⟩
theorem jt4(Kn:jr K mg "write_block" ["statements"] jfj)(B:wx P w K mg base D){d:Nat}(I:vj P w K mg base D d):Has P w K mg base (5 * d + 5 + 1) "write_block" ["statements"] (WSp (RB K D d)):=by
 refine v_ Kn jm7 (λ_ _ _ _ h=>by obtain ⟨_,⟨l,a,us,rfl,hS,hn,hN,hd,hw,rfl⟩,_⟩:=h;rfl) λf cdv A outer s H vs Q E hr h=>?_;obtain ⟨_,⟨l,a,us,rfl,hS,hn,hN,hd,hw,rfl⟩,q⟩:=h;have nd:=jm7.nd
 have m_len:=B.m_len;have m_list:=B.m_list
 have m_zip:=B.m_zip;have C:=B.C
 obtain ⟨gf,gfd,gF,gb,gk,gm⟩:=I.stmt;refine ⟨_,(jc (qh (js xi (yt x9 (by rfl) m_len PySem.boot_len (ja (pv 0) jb)) qd (j6 _)) (je (jp (jg B.spell hr rfl (ja jf jb) (by omega)))) jy)
   (jc (ju (i:=1) nd rfl (Or.inl rfl) (jg B.join hr rfl (ja (jeu (own:=[("statement",2)]) (te:=(yh (WSp (RS D d jsi)) [] (λ_ _ _=>False) (qj (qy 2) xc))) rfl nd (jab (pv 0)) juw (λ_ _ _ _ _=>y_ (i:=2) nd rfl (Or.inl rfl)) (λ_ _ _ _ _=>jbk) (λ_ _ _ _ _=>(vf gF (hr.mono (by omega)) rfl gm gk gb .nil jb0 (ja (pv 2) jb)))) (ja jf jb)) (by omega)))
   (je (jp (qa qg (qa qg (jg B.spell hr rfl (ja jf jb) (by omega)) (pv 1)) (jg B.spell hr rfl (ja jf jb) (by omega))))))),?_⟩
 have fl:=Cell.jau l;have gl:=Cell.zz (g:=b " ") (by decide) l.forms
 have ln:=jj.len _ _ hN;have lf:=jgn l
 refine jm5 ⟨_,rfl,a,us,rfl,.inl hS,rfl,_,rfl,qb (λc=>?_) (λc=>?_)⟩
 ·have c:(us.length:Int)=0:=by have:=of_decide_eq_true c;injection this
  have e:l.forms=[]:=List.eq_nil_of_length_eq_zero (by omega);have e2:Vanbka.shownBlock l.forms=b "{}":=by rw [e];rfl
  rw [e2] at q;exact xz (NT.lit "{}") q
 ·have c:¬ (us.length:Int)=0:=λz=>c (decide_eq_true (by rw [z]));have e:l.forms.isEmpty=false:=by
   cases h:l.forms with
   | nil=>rw [h] at lf;rw [List.length_nil] at lf;omega
   | cons x y=>rfl
  have e2:Vanbka.shownBlock l.forms=b "{ " ++ glue (b " ") l.forms ++ b " }":=by
   unfold Vanbka.shownBlock;rw [e];rfl
  rw [e2] at q;have bd:(b "{ " ++ glue (b " ") l.forms ++ b " }").length<=1000000:=by
   rw [<- e2];have:=Cell.jbe l.forms
   unfold MW at hw;omega
  refine ye (NT.join (g:=b " ") (xs:=l.forms) (PcT.lc (LT.var rfl hS) (by omega) (by omega) (λi v x hv hx=>?_) (λ_=>rfl)) (by decide +kernel) (by decide) (by unfold MW at hw;omega)) λp H1 s1 n1 e1=>?_
  ·obtain ⟨e,h1,rfl,h3,h4⟩:=jgg hx;obtain ⟨v',ev,nv⟩:=jj.get _ _ hN i _ h1;rw [hv] at ev;cases ev;exact NT.call λH' s Q' q'=>⟨_,rfl,q' _ H' (jh.refl _) ⟨e,_,rfl,trivial,jz.same s _ _ nv,by omega,by omega,rfl⟩⟩
  ·exact zt (CN.cat (CN.cat (NT.lit "{ ").c (MT.var rfl e1).c).c (NT.lit " }").c) (q.on s1) bd
theorem jig:∀ {l:Fields} {i:Nat} {x:Bytes},l.forms[i]? = some x->∃ n e,(jem l)[i]? = some (.bytes n)/\(v8 l)[i]? = some (jw e)/\x=n ++ b ": " ++ e.form/\e.depth<=l.depth/\Cell.ew e<=Cell.fsw l/\n.length<=Cell.fsw l
 | .nil,i,x,h=>by simp [Fields.forms] at h
 | .cons n e l,0,x,h=>by
  rw [Fields.forms] at h;cases h;refine ⟨n,e,by rw [jem];rfl,by rw [v8];rfl,rfl,?_,?_,?_⟩
  ·rw [Fields.depth];omega
  ·rw [Cell.fsw];omega
  ·rw [Cell.fsw];omega
 | .cons n e l,i + 1,x,h=>by
  rw [Fields.forms,List.getElem?_cons_succ] at h;obtain ⟨n',e',h0,h1,h2,h3,h4,h5⟩:=jig h;refine ⟨n',e',by rw [jem,List.getElem?_cons_succ];exact h0,by rw [v8,List.getElem?_cons_succ];exact h1,h2,?_,?_,?_⟩
  ·rw [Fields.depth];omega
  ·rw [Cell.fsw];omega
  ·rw [Cell.fsw];omega
theorem jj6:∀ l:Fields,l.forms.length=(v8 l).length
 | .nil=>by rw [Fields.forms,v8];rfl
 | .cons x e l=>by rw [Fields.forms,v8,List.length_cons,List.length_cons,jj6 l]
def joq(e:Vanbka.Expr):Prop:=∃ l,e = .record l
def j1a(e:Vanbka.Expr):Prop:=∃ o p s,e = .fn o p s
def jqe(e:Vanbka.Expr):Prop:=(∃ f l,e = .call f l)\/(∃ l i,e = .index l i)\/∃ r x,e = .field r x
def ju3(e:Vanbka.Expr):Prop:=∃ c x y,e = .pick c x y
def jxp(e:Vanbka.Expr):Prop:=∃ o x y,e = .bin o x y
abbrev jf2:PySem.Stmt:=top 114
theorem jlh:jv ["tree", "fields", "name", "part"] ["tree"] (ji jf2):=⟨rfl,rfl,rfl,by decide +kernel,rfl,by decide +kernel,by decide +kernel⟩
theorem jra(Kn:jr K mg "write_record" ["tree"] jf2)(B:wx P w K mg base D){d:Nat}(I:vj P w K mg base D d):Has P w K mg base (5 * d + 6 + 1) "write_record" ["tree"] (WSp (RT D (d + 1) joq)):=by
 refine v_ Kn jlh (λ_ _ _ _ h=>by obtain ⟨_,⟨e,v,rfl,⟨l,rfl⟩,nv,hd,hw,rfl⟩,_⟩:=h;rfl) λf cdv A outer s H vs Q E hr h=>?_;obtain ⟨_,⟨e,v,rfl,⟨l,rfl⟩,nv,hd,hw,rfl⟩,q⟩:=h;have nd:=jlh.nd
 have m_len:=B.m_len;have m_list:=B.m_list
 have m_zip:=B.m_zip;have C:=B.C
 refine ⟨_,(jc (qh (js xi (yt x9 (by rfl) m_len PySem.boot_len (ja (qi (pv 0) rfl) jb)) qd (j6 _)) (je (jp (jg B.spell hr rfl (ja jf jb) (by omega)))) jy)
   (jc (ju (i:=1) nd rfl (Or.inl rfl) (j3 jb))
   (jc (jek jag rfl (j0e rfl m_zip (ja (qi (pv 0) rfl) (ja (qi (pv 0) rfl) jb))) (jnt rfl (jcq (y_ (i:=2) nd rfl (Or.inl rfl)) (jcq (y_ (i:=3) nd rfl (Or.inl rfl)) jkv))) (je (j_ (vk PySem.F.plainAttrs_list PySem.F.slot_list_append PySem.F.type_list_append zg (pv 1) (ja (qa qg (qa qg (pv 2) (jg B.spell hr rfl (ja jf jb) (by omega))) (jg I.expr hr rfl (ja (pv 3) (ja (qx B.any rfl) jb)) (by omega))) jb)))))
   (je (jp (qa qg (qa qg (jg B.spell hr rfl (ja jf jb) (by omega)) (jg B.join hr rfl (ja (pv 1) (ja jf jb)) (by omega))) (jg B.spell hr rfl (ja jf jb) (by omega)))))))),?_⟩
 have hw':Cell.ew (.record l)<=450000:=hw;rw [Vanbka.Expr.depth] at hd;rw [Cell.ew] at hw';rw [jw] at nv;obtain ⟨x,rfl,T⟩:=qp.of nv;obtain ⟨dx,a1,a2,a3,vls,vps,vbs,dd,h1,h2,h3,h4,sz,h5,h6,h7⟩:=T.ex;have ln:=jj.len _ _ h6
 have lf:=jj6 l;have fl0:=Cell.jk4 l
 have gl0:=Cell.zz (g:=b ", ") (by decide) l.forms;refine jm5 ⟨_,rfl,x,D.CN,dx,_,_,rfl,h1,C.cl,C.no _ (.tail _ (.tail _ (.head _))),rfl,a2,vps,rfl,.inl (SqL.of h3),rfl,_,rfl,qb (λc=>?_) (λc=>?_)⟩
 ·have c:(vps.length:Int)=0:=by have:=of_decide_eq_true c;injection this
  cases l with
  | nil=>rw [Vanbka.Expr.form] at q;exact xz (NT.lit "(:)") q
  | cons n e l=>rw [v8,List.length_cons] at ln;omega
 have c:¬ (vps.length:Int)=0:=λz=>c (decide_eq_true (by rw [z]));have ef:(Vanbka.Expr.record l).form=b "(" ++ glue (b ", ") l.forms ++ b ")":=by
  cases l with
  | nil=>rw [v8,List.length_nil] at ln;omega
  | cons n e l=>rw [Vanbka.Expr.form,Fields.forms]
 have bd:(b "(" ++ glue (b ", ") l.forms ++ b ")").length<=1000000:=by
  rw [<- ef];exact Nat.le_trans (Cell.yc _) (Nat.le_trans hw (by decide))
 rw [ef] at q;refine ⟨by decide,λfl nfl=>?_⟩;have s0:jh H (upd H fl (.lst [])):=jo nfl _
 refine ⟨_,rfl,x,D.CN,dx,_,_,rfl,s0 _ _ h1,C.cl,C.no _ (.tail _ (.head _)),rfl,_,rfl,x,D.CN,dx,_,_,rfl,s0 _ _ h1,C.cl,C.no _ (.tail _ (.tail _ (.head _))),rfl,a1,a2,vls,vps,rfl,SqL.of (s0 _ _ h2),SqL.of (s0 _ _ h3),λi m σ H'=>m=l.forms.length - i/\i<=l.forms.length/\jh H H'/\(∃ as:List Addr,H' fl=some (.lst (as.map V.ref))/\fl∉as/\v7 H' as (l.forms.take i))/\∃ v2 v3,σ=[some (.ref x),some (.ref fl),v2,v3],⟨_,rfl,Nat.zero_le _,s0,⟨[],jd,by simp,.nil⟩,none,none,rfl⟩,?_⟩;rintro i m σ H' ⟨rfl,hi,sm,⟨as,hfl,nas,hp⟩,v2,v3,rfl⟩;have pl:=Paired.len hp
 by_cases hlt:i < l.forms.length
 ·have hxi:l.forms[i]? = some l.forms[i]:=List.getElem?_eq_getElem hlt;obtain ⟨nm,e,g1,g2,g3,g4,g5,g6⟩:=jig hxi;obtain ⟨vn,en,an,rfl,hn⟩:=jwn h5 g1;obtain ⟨vp,ep,np⟩:=jj.get _ _ h6 i _ g2;refine .inr ⟨⟨vls,vps,_,vp,SqL.of (sm _ _ h2),SqL.of (sm _ _ h3),en,ep⟩,λσ' H2=>∃ m',m' < l.forms.length - i/\(m'=l.forms.length - (i + 1)/\i + 1<=l.forms.length/\jh H H2/\(∃ as:List Addr,H2 fl=some (.lst (as.map V.ref))/\fl∉as/\v7 H2 as (l.forms.take (i + 1)))/\∃ v2 v3,σ'=[some (.ref x),some (.ref fl),v2,v3]),λ_ _ z=>z,?_⟩;rintro y H2 ⟨Tp,y1,y2,rfl,hT,rfl,q1,q2⟩;have e1:=q1 _ (SqL.of (sm _ _ h2))
  have e2:=q2 _ (SqL.of (sm _ _ h3));rw [en] at e1;rw [ep] at e2;cases e1;cases e2;have s1:jh H' (upd H' Tp (.tup [.ref an,vp])):=jo hT _
  have fe:=Cell.yc e;refine ⟨Tp,_,rfl,SqT.of jd,rfl,_,_,rfl,_,_,rfl,rfl,?_⟩;refine ⟨_,rfl,.inl ⟨rfl,_,SqL.of (s1 _ _ hfl)⟩,?_⟩;have nt:CN (tOp jhb (tOp jhb (qy 2) (yh zy [] E (qj (tC (.str ": ")) xc))) (yh (WSp (RE D d)) [] E (qj (qy 3) (qj (tC (.int 0)) xc)))) [some (.ref x),some (.ref fl),some (.ref an),some vp] (upd H' Tp (.tup [.ref an,vp])) (nm ++ b ": " ++ e.form) :=
   CN.cat (CN.cat (MT.var rfl (s1 _ _ (sm _ _ hn))).c (NT.lit ": ").c).c (NT.call λH3 s3 Q' q'=>⟨_,rfl,q' _ H3 (jh.refl _) ⟨e,vp,0,rfl,jz.same ((sm.trans s1).trans s3) _ _ np,by omega,by unfold MW;omega,(jku _ _).symm⟩⟩).c
  refine nt (by rw [List.length_append,List.length_append];show _ + 2 + _<=_;omega) _ (jh.refl _) _ λp H3 s3 n3 e3=>?_;have hfl3:=s3 _ _ (s1 _ _ hfl)
  have pD:p≠fl:=λz=>by rw [z,s1 _ _ hfl] at n3;cases n3
  refine ⟨fl,_,_,rfl,rfl,hfl3,?_,_,by omega,rfl,hlt,vw (sm.trans (s1.trans s3)) nfl,⟨as ++ [p],?_,?_,?_⟩,_,_,rfl⟩
  ·rw [List.length_map,pl,List.length_take];show min i l.forms.length < 2 ^ 24
   omega
  ·rw [jd,List.map_append];rfl
  ·intro z;rcases List.mem_append.mp z with y | y
   ·exact nas y
   ·exact pD (List.mem_singleton.mp y).symm
  ·rw [List.take_add_one,hxi];exact Paired.snoc (jjq (s1.trans s3) nas hp) (by show upd H3 fl _ p=_;rw [jm pD,g3];exact e3)
 ·have e:i=l.forms.length:=by omega
  subst e;rw [List.take_length] at hp;refine .inl ⟨⟨vls,vps,SqL.of (sm _ _ h2),SqL.of (sm _ _ h3),.inr (by omega)⟩,?_⟩;exact zt (CN.cat (CN.cat (NT.lit (E:=E) "(").c (NT.join (PcT.of (LT.var rfl (SqL.of hfl)) hp) (by decide +kernel) (by decide) (jh4 (jd1 bd))).c).c (NT.lit ")").c) (q.on sm) bd
abbrev jds:PySem.Stmt:=top 115
theorem jib:jv ["tree", "parameters"] ["tree"] (ji jds):=⟨rfl,rfl,rfl,by decide +kernel,rfl,by decide +kernel,by decide +kernel⟩
theorem jnx(Kn:jr K mg "write_function" ["tree"] jds)(B:wx P w K mg base D){d:Nat}(I:vj P w K mg base D d)(GB:Has P w K mg base (5 * d + 6) "write_block" ["statements"] (WSp (RB K D d))):Has P w K mg base (5 * d + 6 + 1) "write_function" ["tree"] (WSp (RT D (d + 1) j1a)):=by
 refine v_ Kn jib (λ_ _ _ _ h=>by obtain ⟨_,⟨e,v,rfl,⟨own,ps,st,rfl⟩,nv,hd,hw,rfl⟩,_⟩:=h;rfl) λf cdv A outer s H vs Q E hr h=>?_;obtain ⟨_,⟨e,v,rfl,⟨own,ps,st,rfl⟩,nv,hd,hw,rfl⟩,q⟩:=h;have nd:=jib.nd
 have m_len:=B.m_len;have m_list:=B.m_list
 have m_zip:=B.m_zip;have C:=B.C
 refine ⟨_,(jc (ju (i:=1) nd rfl (Or.inl rfl) (jg B.join hr rfl (ja (ja6 jb3 (qi (pv 0) rfl) (jar qd) jd7) (ja jf jb)) (by omega)))
   (je (jp (qa qg (qa qg (qa qg (qa qg (qa qg (jg B.spell hr rfl (ja jf jb) (by omega)) (xo qv (qi (pv 0) rfl) qd (λ_ _=>rfl))) (jg B.spell hr rfl (ja jf jb) (by omega))) (pv 1)) (jg B.spell hr rfl (ja jf jb) (by omega))) (jg GB hr rfl (ja (xo qv (qi (pv 0) rfl) qd (λ_ _=>rfl)) jb) (by omega)))))),?_⟩
 have hw':Cell.ew (.fn own ps st)<=450000:=hw;have fb:=Cell.yc (.fn own ps st)
 rw [Vanbka.Expr.form] at fb q;have bd:=Nat.le_trans fb (Nat.le_trans hw (show MW<=1000000 by decide))
 rw [Vanbka.Expr.depth] at hd;rw [Cell.ew] at hw';rw [jw] at nv;obtain ⟨x,rfl,T⟩:=qp.of nv;obtain ⟨vls,ll,hL,LL⟩:=LT.leaves (i:=0) (σ:=[some (.ref x),none]) C T rfl;cases hL with
 | cons hl0 hL =>
  rename_i v0 vr;obtain ⟨as,rfl,hp⟩:=jdl hL;refine ye (NT.join (g:=b ", ") (PcT.of (as:=as) (LT.from (n:=1) LL (by rw [List.length_cons];omega)) hp) (by decide +kernel) (by decide) (jh4 (jd1 (jd1 bd)))) λp H1 s1 n1 e1=>?_;refine zt (CN.cat (CN.cat (CN.cat (CN.cat (CN.cat (NT.lit "fn ").c (jcn C (T.same s1) rfl rfl).c).c (NT.lit "(").c).c (MT.var rfl e1).c).c (NT.lit ") ").c).c (NT.call (AT.block (j:=0) C (T.same s1) rfl rfl λa us H2 s2 hS hl hN=>⟨st,a,us,rfl,hS,hl,hN,by omega,by unfold MW;omega,rfl⟩)).c) (q.on s1) bd
abbrev jhx:PySem.Stmt:=top 111
theorem jm6:jv ["tree", "left", "inside"] ["tree"] (ji jhx):=⟨rfl,rfl,rfl,by decide +kernel,rfl,by decide +kernel,by decide +kernel⟩
theorem jt3(Kn:jr K mg "write_reach" ["tree"] jhx)(B:wx P w K mg base D){d:Nat}(I:vj P w K mg base D d)(GL:Has P w K mg base (5 * d + 7) "write_listed" ["parts"] (WSp (RL K D d))):Has P w K mg base (5 * d + 7 + 1) "write_reach" ["tree"] (WSp (RT D (d + 1) jqe)):=by
 refine v_ Kn jm6 (λ_ _ _ _ h=>by obtain ⟨_,⟨e,v,rfl,hs,nv,hd,hw,rfl⟩,_⟩:=h;rfl) λf cdv A outer s H vs Q E hr h=>?_;obtain ⟨_,⟨e,v,rfl,hs,nv,hd,hw,rfl⟩,q⟩:=h;have nd:=jm6.nd
 have m_len:=B.m_len;have m_list:=B.m_list
 have m_zip:=B.m_zip;have C:=B.C
 refine ⟨_,(jc (ju (i:=1) nd rfl (Or.inl rfl) (jg I.expr hr rfl (ja (xo qv (qi (pv 0) rfl) qd (λ_ _=>rfl)) (ja (qx B.reached rfl) jb)) (by omega)))
   (jc (qh (js xi (qi (pv 0) rfl) jf (j6 _)) (je (jp (qa qg (qa qg (pv 1) (jg B.spell hr rfl (ja jf jb) (by omega))) (xo qv (qi (pv 0) rfl) qd (λ_ _=>rfl))))) jy)
   (jc (ju (i:=2) nd rfl (Or.inl rfl) (jg GL hr rfl (ja (ja6 jb3 (qi (pv 0) rfl) (jar qd) jd7) jb) (by omega)))
   (jc (qh (js xi (qi (pv 0) rfl) jf (j6 _)) (je (jp (qa qg (qa qg (qa qg (pv 1) (jg B.spell hr rfl (ja jf jb) (by omega))) (pv 2)) (jg B.spell hr rfl (ja jf jb) (by omega))))) jy)
   (je (jp (qa qg (qa qg (qa qg (pv 1) (jg B.spell hr rfl (ja jf jb) (by omega))) (pv 2)) (jg B.spell hr rfl (ja jf jb) (by omega))))))))),?_⟩
 have hw':Cell.ew e<=450000:=hw;have fb:=Cell.yc e
 rcases hs with ⟨f0,l,rfl⟩ | ⟨l0,i0,rfl⟩ | ⟨r0,y,rfl⟩
 ·rw [Vanbka.Expr.form] at fb q;have bd:=Nat.le_trans fb (Nat.le_trans hw (show MW<=1000000 by decide))
  rw [Vanbka.Expr.depth] at hd;rw [Cell.ew] at hw';rw [jw] at nv;obtain ⟨x,rfl,T⟩:=qp.of nv;refine ye (NT.part (k:=9) (j:=0) C T rfl rfl (by omega) (by unfold MW;omega)) λp H1 s1 n1 e1=>?_;have T1:=T.same s1
  refine ja4 (λQ q=>qw C T1 rfl q) (λc=>absurd c (by decide)) λ_=>?_;obtain ⟨vps,lp,⟨v0,vr,rfl,_,hN⟩,LP⟩:=LT.parts (i:=0) (σ:=[some (.ref x),some (.ref p),none]) C T1 rfl;rw [List.length_cons] at lp;refine ye (NT.call (AT.of (LT.from (n:=1) LP (by rw [List.length_cons];omega)) λa H2 s2 hS=>⟨l,a,vr,rfl,hS,by omega,jj.same s2 _ _ hN,by omega,by unfold MW;omega,rfl⟩)) λp2 H2 s2 n2 e2=>?_;have T2:=T1.same s2
  refine ja4 (λQ q=>qw C T2 rfl q) (λc=>absurd c (by decide)) λ_=>?_;refine zt (CN.cat (CN.cat (CN.cat (MT.var rfl (s2 _ _ e1)).c (NT.lit "(").c).c (MT.var rfl e2).c).c (NT.lit ")").c) (q.on (s1.trans s2)) bd
 ·rw [Vanbka.Expr.form] at fb q;have bd:=Nat.le_trans fb (Nat.le_trans hw (show MW<=1000000 by decide))
  rw [Vanbka.Expr.depth] at hd;rw [Cell.ew] at hw';rw [jw] at nv;obtain ⟨x,rfl,T⟩:=qp.of nv;refine ye (NT.part (k:=9) (j:=0) C T rfl rfl (by omega) (by unfold MW;omega)) λp H1 s1 n1 e1=>?_;have T1:=T.same s1
  refine ja4 (λQ q=>qw C T1 rfl q) (λc=>absurd c (by decide)) λ_=>?_;obtain ⟨vps,lp,⟨v0,vr,rfl,_,hN⟩,LP⟩:=LT.parts (i:=0) (σ:=[some (.ref x),some (.ref p),none]) C T1 rfl;rw [List.length_cons] at lp;have hN:jj D.CN H1 (y9 (.cons i0 .nil)) vr:=by rw [y9,y9];exact hN
  refine ye (x:=i0.form) (NT.call (AT.of (LT.from (n:=1) LP (by rw [List.length_cons];omega)) λa H2 s2 hS=>⟨.cons i0 .nil,a,vr,rfl,hS,by omega,jj.same s2 _ _ hN,?_,?_,?_⟩)) λp2 H2 s2 n2 e2=>?_
  ·rw [Exprs.depth,Exprs.depth];omega
  ·rw [Cell.esw,Cell.esw];unfold MW;omega
  ·rw [Exprs.forms,Exprs.forms];rfl
  have T2:=T1.same s2;refine ja4 (λQ q=>qw C T2 rfl q) (λ_=>?_) λc=>absurd rfl c;refine zt (CN.cat (CN.cat (CN.cat (MT.var rfl (s2 _ _ e1)).c (NT.lit "[").c).c (MT.var rfl e2).c).c (NT.lit "]").c) (q.on (s1.trans s2)) bd
 ·rw [Vanbka.Expr.form] at fb q;have bd:=Nat.le_trans fb (Nat.le_trans hw (show MW<=1000000 by decide))
  rw [Vanbka.Expr.depth] at hd;rw [Cell.ew] at hw';rw [jw] at nv;obtain ⟨x,rfl,T⟩:=qp.of nv;refine ye (NT.part (k:=9) (j:=0) C T rfl rfl (by omega) (by unfold MW;omega)) λp H1 s1 n1 e1=>?_;have T1:=T.same s1
  refine ja4 (λQ q=>qw C T1 rfl q) (λ_=>?_) λc=>absurd rfl c;refine zt (CN.cat (CN.cat (MT.var rfl e1).c (NT.lit ".").c).c (jcn C T1 rfl rfl).c) (q.on s1) bd
abbrev jf3:PySem.Stmt:=top 110
theorem jlk:jv ["tree", "condition", "first", "second"] ["tree"] (ji jf3):=⟨rfl,rfl,rfl,by decide +kernel,rfl,by decide +kernel,by decide +kernel⟩
theorem jrc(Kn:jr K mg "write_chosen" ["tree"] jf3)(B:wx P w K mg base D){d:Nat}(I:vj P w K mg base D d):Has P w K mg base (5 * d + 7 + 1) "write_chosen" ["tree"] (WSp (RT D (d + 1) ju3)):=by
 refine v_ Kn jlk (λ_ _ _ _ h=>by obtain ⟨_,⟨e,v,rfl,⟨c0,x0,y0,rfl⟩,nv,hd,hw,rfl⟩,_⟩:=h;rfl) λf cdv A outer s H vs Q E hr h=>?_;obtain ⟨_,⟨e,v,rfl,⟨c0,x0,y0,rfl⟩,nv,hd,hw,rfl⟩,q⟩:=h;have nd:=jlk.nd
 have m_len:=B.m_len;have m_list:=B.m_list
 have m_zip:=B.m_zip;have C:=B.C
 refine ⟨_,(jc (ju (i:=1) nd rfl (Or.inl rfl) (jg I.expr hr rfl (ja (xo qv (qi (pv 0) rfl) qd (λ_ _=>rfl)) (ja (qx B.chosen rfl) jb)) (by omega)))
   (jc (ju (i:=2) nd rfl (Or.inl rfl) (jg I.expr hr rfl (ja (xo qv (qi (pv 0) rfl) qd (λ_ _=>rfl)) (ja (qx B.chosen rfl) jb)) (by omega)))
   (jc (ju (i:=3) nd rfl (Or.inl rfl) (jg I.expr hr rfl (ja (xo qv (qi (pv 0) rfl) qd (λ_ _=>rfl)) (ja (qx B.chosen rfl) jb)) (by omega)))
   (je (jp (qa qg (qa qg (qa qg (qa qg (pv 1) (jg B.spell hr rfl (ja jf jb) (by omega))) (pv 2)) (jg B.spell hr rfl (ja jf jb) (by omega))) (pv 3))))))),?_⟩
 have hw':Cell.ew (.pick c0 x0 y0)<=450000:=hw;have fb:=Cell.yc (.pick c0 x0 y0)
 rw [Vanbka.Expr.form] at fb q;have bd:=Nat.le_trans fb (Nat.le_trans hw (show MW<=1000000 by decide))
 rw [Vanbka.Expr.depth] at hd;rw [Cell.ew] at hw';rw [jw] at nv;obtain ⟨x,rfl,T⟩:=qp.of nv;refine ye (NT.part (k:=1) (j:=0) C T rfl rfl (by omega) (by unfold MW;omega)) λp H1 s1 n1 e1=>?_;refine ye (NT.part (k:=1) (j:=1) C (T.same s1) rfl rfl (by omega) (by unfold MW;omega)) λp2 H2 s2 n2 e2=>?_;refine ye (NT.part (k:=1) (j:=2) C ((T.same s1).same s2) rfl rfl (by omega) (by unfold MW;omega)) λp3 H3 s3 n3 e3=>?_;refine zt (CN.cat (CN.cat (CN.cat (CN.cat (MT.var rfl (s3 _ _ (s2 _ _ e1))).c (NT.lit " ? ").c).c (MT.var rfl (s3 _ _ e2)).c).c (NT.lit " : ").c).c (MT.var rfl e3).c) (q.on ((s1.trans s2).trans s3)) bd
theorem NT.sign{E:XK}{σ:St}{H:Hp}{i:Nat}{x:Addr}{o:Vanbka.Op}{ls:List x6}{ps:List j5}{bs:List (List j5)}(C:zu K mg "Tree" D.CN ["kind", "leaves", "parts", "blocks", "depth", "place", "end"])(T:qp D H x (opK o) ls ps bs)(hi:σ[i]? = some (some (.ref x))):NT (yh jkm [] E (qj (ja1 K (qy i) "kind") xc)) σ H o.sign:=λH' s Q q =>
 qw C (T.same s) hi ⟨o,rfl,q⟩
abbrev jeq:PySem.Stmt:=top 108
theorem jjj:jv ["tree", "sides", "left", "right"] ["tree"] (ji jeq):=⟨rfl,rfl,rfl,by decide +kernel,rfl,by decide +kernel,by decide +kernel⟩
theorem joz(Kn:jr K mg "write_between" ["tree"] jeq)(B:wx P w K mg base D){d:Nat}(I:vj P w K mg base D d):Has P w K mg base (5 * d + 7 + 1) "write_between" ["tree"] (WSp (RT D (d + 1) jxp)):=by
 refine v_ Kn jjj (λ_ _ _ _ h=>by obtain ⟨_,⟨e,v,rfl,⟨o,x0,y0,rfl⟩,nv,hd,hw,rfl⟩,_⟩:=h;rfl) λf cdv A outer s H vs Q E hr h=>?_;obtain ⟨_,⟨e,v,rfl,⟨o,x0,y0,rfl⟩,nv,hd,hw,rfl⟩,q⟩:=h;have nd:=jjj.nd
 have m_len:=B.m_len;have m_list:=B.m_list
 have m_zip:=B.m_zip;have C:=B.C
 obtain ⟨sa,kvs,mS,dS,tS⟩:=B.sidesLR;refine ⟨_,(jc (ju (i:=1) nd rfl (Or.inl rfl) (jcr (ve mS rfl) (qi (pv 0) rfl) (λ_ _=>rfl)))
   (jc (ju (i:=2) nd rfl (Or.inl rfl) (jg I.expr hr rfl (ja (xo qv (qi (pv 0) rfl) qd (λ_ _=>rfl)) (ja (xo jj3 (pv 1) qd (λ_ _=>rfl)) jb)) (by omega)))
   (jc (ju (i:=3) nd rfl (Or.inl rfl) (jg I.expr hr rfl (ja (xo qv (qi (pv 0) rfl) qd (λ_ _=>rfl)) (ja (xo jj3 (pv 1) qd (λ_ _=>rfl)) jb)) (by omega)))
   (je (jp (qa qg (qa qg (qa qg (qa qg (pv 2) (jg B.spell hr rfl (ja jf jb) (by omega))) (jg B.sign hr rfl (ja (qi (pv 0) rfl) jb) (by omega))) (jg B.spell hr rfl (ja jf jb) (by omega))) (pv 3))))))),?_⟩
 have hw':Cell.ew (.bin o x0 y0)<=450000:=hw;have fb:=Cell.yc (.bin o x0 y0)
 rw [Vanbka.Expr.form] at fb q;have bd:=Nat.le_trans fb (Nat.le_trans hw (show MW<=1000000 by decide))
 rw [Vanbka.Expr.depth] at hd;rw [Cell.ew] at hw';rw [jw] at nv;obtain ⟨x,rfl,T⟩:=qp.of nv;obtain ⟨tt,ev,sq⟩:=tS o;obtain ⟨dx,a1,a2,a3,vls,vps,vbs,dd,g1,_⟩:=id T.ex;refine ⟨_,rfl,x,D.CN,dx,_,_,rfl,g1,C.cl,C.no _ (.head _),rfl,sa,kvs,.inr (opK o),.ref tt,rfl,dS,rfl,ev,?_⟩;refine ye (NT.call (AT.part (tk:=tOp (jvj K) (qy 1) (tC (.int 1))) (k:=o.left) (j:=0) C T rfl rfl (by omega) (by unfold MW;omega) λH' s Q q=>⟨_,rfl,tt,_,_,_,rfl,rfl,sq H',rfl,q⟩)) λp H1 s1 n1 e1=>?_;refine ye (NT.call (AT.part (tk:=tOp (jvj K) (qy 1) (tC (.int 2))) (k:=o.right) (j:=1) C (T.same s1) rfl rfl (by omega) (by unfold MW;omega) λH' s Q q=>⟨_,rfl,tt,_,_,_,rfl,rfl,sq H',rfl,q⟩)) λp2 H2 s2 n2 e2=>?_;refine zt (CN.cat (CN.cat (CN.cat (CN.cat (MT.var rfl (s2 _ _ e1)).c (NT.lit " ").c).c (NT.sign C ((T.same s1).same s2) rfl).c).c (NT.lit " ").c).c (MT.var rfl e2).c) (q.on (s1.trans s2)) bd
def jgt:Vanbka.Expr->Prop
 | .minus _ | .not _ | .bin _ _ _ | .pick _ _ _ | .call _ _ | .index _ _ | .field _ _=>False
 | _=>True
theorem j0t{n:Nat}(h:Cell.nw n<=1000000):n.log2 < 1920:=by
 have:=Cell.jwg h;by_cases z:n=0
 ·subst z;decide
 ·rw [Nat.log2_lt z];exact Nat.lt_of_lt_of_le this (Nat.le_trans (show 10 ^ 30<=2 ^ 128 by decide) (Nat.pow_le_pow_right (by decide) (by decide)))
theorem NT.number{E:XK}{t:TA}{σ:St}{H:Hp}{z:Int}(h:AT t σ H λvs _=>vs=[.int z])(hz:Cell.nw z.natAbs<=MW):NT (yh jc9 [] E t) σ H (shownInt z):=λH' s Q q =>
 h H' s _ λvs H2 s2 r=>⟨z,by rw [r];rfl,j0t (Nat.le_trans hz (by decide)),by have:=Cell.jh5 z;have:Cell.nw z.natAbs<=450000:=hz;omega,q.on s2⟩
theorem NT.quoted{E:XK}{t:TA}{σ:St}{H:Hp}{u:Bytes}(h:AT t σ H λvs H2=>∃ a,vs=[.ref a]/\H2 a=some (.lst (vb u)))(hz:u.length<=300000):NT (yh (jc8 K) [] E t) σ H (shownQuoted u):=λH' s Q q =>
 h H' s _ λvs H2 s2 ⟨a,r,e⟩=>⟨a,u,by rw [r];rfl,SqL.of e,hz,q.on s2⟩
theorem NT.spellV{E:XK}{σ:St}{H:Hp}{i:Nat}{z:Str}(hi:σ[i]? = some (some (.str z)))(u:Bytes)(e:z=xm u:=by decide +kernel)(hl:u.length<=1000000:=by decide +kernel):NT (yh zy [] E (qj (qy i) xc)) σ H u:=by
 subst e;exact λH' s Q q=>⟨_,hi,u,rfl,hl,q⟩
theorem jtp(p:Vanbka.Prim):jc6 p=xm p.word:=by cases p <;> decide +kernel
abbrev jf1:PySem.Stmt:=top 113
theorem jlg:jv ["tree", "kind"] ["tree"] (ji jf1):=⟨rfl,rfl,rfl,by decide +kernel,rfl,by decide +kernel,by decide +kernel⟩
theorem jq_(Kn:jr K mg "write_simple" ["tree"] jf1)(B:wx P w K mg base D){d:Nat}(I:vj P w K mg base D d)(GL:Has P w K mg base (5 * d + 7) "write_listed" ["parts"] (WSp (RL K D d)))(GR:Has P w K mg base (5 * d + 7) "write_record" ["tree"] (WSp (RT D (d + 1) joq)))(GF:Has P w K mg base (5 * d + 7) "write_function" ["tree"] (WSp (RT D (d + 1) j1a))):Has P w K mg base (5 * d + 7 + 1) "write_simple" ["tree"] (WSp (RT D (d + 1) jgt)):=by
 refine v_ Kn jlg (λ_ _ _ _ h=>by obtain ⟨_,⟨e,v,rfl,hs,nv,hd,hw,rfl⟩,_⟩:=h;rfl) λf cdv A outer s H vs Q E hr h=>?_;obtain ⟨_,⟨e,v,rfl,hs,nv,hd,hw,rfl⟩,q⟩:=h;have nd:=jlg.nd
 have m_len:=B.m_len;have m_list:=B.m_list
 have m_zip:=B.m_zip;have C:=B.C
 refine ⟨_,(jc (ju (i:=1) nd rfl (Or.inl rfl) (qi (pv 0) rfl))
   (jc (qh (js xi (pv 1) jf (j6 _)) (je (jp (jg B.number hr rfl (ja (xo qv (qi (pv 0) rfl) qd (λ_ _=>rfl)) jb) (by omega)))) jy)
   (jc (qh (js xi (pv 1) jf (j6 _)) (je (jp (jg B.quoted hr rfl (ja (xo qv (qi (pv 0) rfl) qd (λ_ _=>rfl)) jb) (by omega)))) jy)
   (jc (qh (js xi (pv 1) jf (j6 _)) (je (jp (jhf jok rfl m_list (by decide +kernel) (ja (xo qv (qi (pv 0) rfl) qd (λ_ _=>rfl)) jb)))) jy)
   (jc (qh (js zw (pv 1) (jbq (ja jf (ja jf (ja jf jb)))) rfl) (je (jp (jg B.spell hr rfl (ja (pv 1) jb) (by omega)))) jy)
   (jc (qh (js xi (pv 1) jf (j6 _)) (je (jp (qa qg (qa qg (jg B.spell hr rfl (ja jf jb) (by omega)) (jg GL hr rfl (ja (qi (pv 0) rfl) jb) (by omega))) (jg B.spell hr rfl (ja jf jb) (by omega))))) jy)
   (jc (qh (js xi (pv 1) jf (j6 _)) (je (jp (jg GR hr rfl (ja (pv 0) jb) (by omega)))) jy)
   (jc (qh (js xi (pv 1) jf (j6 _)) (je (jp (jg GF hr rfl (ja (pv 0) jb) (by omega)))) jy)
   (je (jp (qa qg (qa qg (jg B.spell hr rfl (ja (qa jh2 (pv 1) jf) jb) (by omega)) (jg GL hr rfl (ja (qi (pv 0) rfl) jb) (by omega))) (jg B.spell hr rfl (ja jf jb) (by omega))))))))))))),?_⟩
 have hw':Cell.ew e<=450000:=hw;have fb:=Cell.yc e
 cases e with
 | minus _=>exact hs.elim
 | not _=>exact hs.elim
 | bin _ _ _=>exact hs.elim
 | pick _ _ _=>exact hs.elim
 | call _ _=>exact hs.elim
 | index _ _=>exact hs.elim
 | field _ _=>exact hs.elim
 | num n =>
  rw [Vanbka.Expr.form] at q;rw [Cell.ew] at hw';rw [jw] at nv;obtain ⟨x,rfl,T⟩:=qp.of nv;have e:shownInt (n:Int)=shownNat n:=by
   unfold shownInt;rw [if_neg (by omega)];rfl
  rw [<- e] at q;refine qw C T rfl (ja3 rfl rfl (xz (NT.number (AT.leaf (j:=0) C T rfl rfl λv H2 s2 hv=>?_) (by show Cell.nw n<=MW;unfold MW;omega)) q));rw [show v=_ from hv]
 | quoted u =>
  rw [Vanbka.Expr.form] at q;rw [Cell.ew] at hw';rw [jw] at nv;obtain ⟨x,rfl,T⟩:=qp.of nv;refine qw C T rfl (j7 rfl (by decide) (ja3 rfl rfl (xz (NT.quoted (AT.leaf (j:=0) C T rfl rfl λv H2 s2 hv=>?_) (by omega)) q)));obtain ⟨a,rfl,e⟩:=hv;exact ⟨a,rfl,e⟩
 | name u =>
  rw [Vanbka.Expr.form] at q;rw [Cell.ew] at hw';rw [jw] at nv;obtain ⟨x,rfl,T⟩:=qp.of nv;refine qw C T rfl (j7 rfl (by decide) (j7 rfl (by decide) (ja3 rfl rfl ?_)));refine jmr (j:=0) C T rfl rfl λv hv=>?_;obtain ⟨a,rfl,e⟩:=hv;exact ⟨a,_,rfl,.inl (SqL.of e),λl nl=>q l _ (jo nl _) nl jd⟩
 | truth k =>
  rw [Vanbka.Expr.form] at q;rw [jw] at nv;obtain ⟨x,rfl,T⟩:=qp.of nv;cases k with
  | true=>exact qw C T rfl (j7 rfl (by decide) (j7 rfl (by decide) (j7 rfl (by decide) (wj rfl ["yes", "no", "none"] (by decide) λH1 s1=>xz (NT.spellV rfl (b "yes")) (q.on s1)))))
  | false=>exact qw C T rfl (j7 rfl (by decide) (j7 rfl (by decide) (j7 rfl (by decide) (wj rfl ["yes", "no", "none"] (by decide) λH1 s1=>xz (NT.spellV rfl (b "no")) (q.on s1)))))
 | nothing =>
  rw [Vanbka.Expr.form] at q;rw [jw] at nv;obtain ⟨x,rfl,T⟩:=qp.of nv;exact qw C T rfl (j7 rfl (by decide) (j7 rfl (by decide) (j7 rfl (by decide) (wj rfl ["yes", "no", "none"] (by decide) λH1 s1=>xz (NT.spellV rfl (b "none")) (q.on s1)))))
 | list l =>
  rw [Vanbka.Expr.form] at fb q;have bd:=Nat.le_trans fb (Nat.le_trans hw (show MW<=1000000 by decide))
  rw [Vanbka.Expr.depth] at hd;rw [Cell.ew] at hw';rw [jw] at nv;obtain ⟨x,rfl,T⟩:=qp.of nv;refine qw C T rfl (j7 rfl (by decide) (j7 rfl (by decide) (j7 rfl (by decide) (yf rfl ["yes", "no", "none"] (by decide) λH1 s1=>ja3 rfl rfl ?_))));obtain ⟨vps,lp,hN,LP⟩:=LT.parts (i:=0) (σ:=[some (.ref x),some (.str "list")]) C (T.same s1) rfl;refine zt (CN.cat (CN.cat (NT.lit "[").c (NT.call (AT.of LP λa H2 s2 hS=>⟨l,a,vps,rfl,hS,lp,jj.same s2 _ _ hN,by omega,by unfold MW;omega,rfl⟩)).c).c (NT.lit "]").c) (q.on s1) bd
 | record l =>
  rw [jw] at nv;obtain ⟨x,rfl,T⟩:=qp.of nv;refine qw C T rfl (j7 rfl (by decide) (j7 rfl (by decide) (j7 rfl (by decide) (yf rfl ["yes", "no", "none"] (by decide) λH1 s1=>j7 rfl (by decide) (ja3 rfl rfl ?_)))));exact xz (NT.call (AT.tree rfl λH2 s2=>⟨.record l,_,rfl,⟨l,rfl⟩,by rw [jw];exact jz.same (s1.trans s2) _ _ nv,hd,hw,rfl⟩)) (q.on s1)
 | fn o p st =>
  rw [jw] at nv;obtain ⟨x,rfl,T⟩:=qp.of nv;refine qw C T rfl (j7 rfl (by decide) (j7 rfl (by decide) (j7 rfl (by decide) (yf rfl ["yes", "no", "none"] (by decide) λH1 s1=>j7 rfl (by decide) (j7 rfl (by decide) (ja3 rfl rfl ?_))))));exact xz (NT.call (AT.tree rfl λH2 s2=>⟨.fn o p st,_,rfl,⟨o,p,st,rfl⟩,by rw [jw];exact jz.same (s1.trans s2) _ _ nv,hd,hw,rfl⟩)) (q.on s1)
 | prim p l =>
  rw [Vanbka.Expr.form] at fb q;have bd:=Nat.le_trans fb (Nat.le_trans hw (show MW<=1000000 by decide))
  rw [Vanbka.Expr.depth] at hd;rw [Cell.ew] at hw';rw [jw] at nv;obtain ⟨x,rfl,T⟩:=qp.of nv;have pw:=Cell.jnr p
  refine qw C T rfl (j7 rfl (by cases p <;> decide) (j7 rfl (by cases p <;> decide) (j7 rfl (by cases p <;> decide) (yf rfl ["yes", "no", "none"] (by cases p <;> decide) λH1 s1=>j7 rfl (by cases p <;> decide) (j7 rfl (by cases p <;> decide) (j7 rfl (by cases p <;> decide) ?_))))));obtain ⟨vps,lp,hN,LP⟩:=LT.parts (i:=0) (σ:=[some (.ref x),some (.str (jc6 p))]) C (T.same s1) rfl;refine zt (CN.cat (CN.cat (NT.spellAdd jjb (jtp p) (v:=b "(") (h1:=by omega)).c (NT.call (AT.of LP λa H2 s2 hS=>⟨l,a,vps,rfl,hS,lp,jj.same s2 _ _ hN,by omega,by unfold MW;omega,rfl⟩)).c).c (NT.lit ")").c) (q.on s1) bd
theorem yj{sa:Addr}{kvs:List (Key×V)}{t rest:TS}{Dn:jbf}{σ:St}{H:Hp}{i:Nat}{z:Str}(hv:σ[i]? = some (some (.str z)))(dS:jck w K sa kvs) (tS:∀ z:Str,match vc.lookup z with
 | none=>ze kvs (.inr z)=none
 | some i=>∃ t u v,ze kvs (.inr z)=some (.ref t)/\∀ H,SqT K H t [.int i,u,v]) (yes:(vc.lookup z).isSome=true->t { Dn with nx:=rest Dn } σ H) (no:(vc.lookup z).isSome=false->rest Dn σ H):jby (jfx (jdo (tOp (jvk w K false) (qy i) (tC (.ref sa)))) t jdp) rest Dn σ H:=by
 have h:=tS z;refine ⟨_,hv,sa,kvs,.inr z,rfl,dS,rfl,_,rfl,?_⟩;cases e:vc.lookup z with
 | none =>
  rw [e] at h no;rw [h];exact qb (λc=>absurd c (by decide)) (λ_=>no rfl)
 | some j =>
  rw [e] at h yes;obtain ⟨tt,u,v,ev,sq⟩:=h;rw [ev];exact qb (λ_=>yes rfl) (λc=>absurd rfl c)
theorem js2(o:Vanbka.Op):(vc.lookup (opK o)).isSome=true:=by cases o <;> decide
theorem jqr(p:Vanbka.Prim):(vc.lookup (jc6 p)).isSome=false:=by cases p <;> decide
theorem zl{z:Str}{p:Prop}(h:(vc.lookup z).isSome=true)(n:(vc.lookup z).isSome=false):p:=by rw [h] at n;cases n
abbrev jjl:PySem.Stmt:=top 107
theorem jpp:jv ["tree", "kind"] ["tree"] (ji jjl):=⟨rfl,rfl,rfl,by decide +kernel,rfl,by decide +kernel,by decide +kernel⟩
theorem jwe(Kn:jr K mg "write_bare" ["tree"] jjl)(B:wx P w K mg base D){d:Nat}(I:vj P w K mg base D d)(GBe:Has P w K mg base (5 * d + 8) "write_between" ["tree"] (WSp (RT D (d + 1) jxp)))(GC:Has P w K mg base (5 * d + 8) "write_chosen" ["tree"] (WSp (RT D (d + 1) ju3)))(GRe:Has P w K mg base (5 * d + 8) "write_reach" ["tree"] (WSp (RT D (d + 1) jqe)))(GS:Has P w K mg base (5 * d + 8) "write_simple" ["tree"] (WSp (RT D (d + 1) jgt))):Has P w K mg base (5 * d + 8 + 1) "write_bare" ["tree"] (WSp (RT D (d + 1) j1d)):=by
 refine v_ Kn jpp (λ_ _ _ _ h=>by obtain ⟨_,⟨e,v,rfl,_,nv,hd,hw,rfl⟩,_⟩:=h;rfl) λf cdv A outer s H vs Q E hr h=>?_;obtain ⟨_,⟨e,v,rfl,_,nv,hd,hw,rfl⟩,q⟩:=h;have nd:=jpp.nd
 have m_len:=B.m_len;have m_list:=B.m_list
 have m_zip:=B.m_zip;have C:=B.C
 obtain ⟨sa,kvs,mS,dS,tS⟩:=B.sides;refine ⟨_,(jc (ju (i:=1) nd rfl (Or.inl rfl) (qi (pv 0) rfl))
   (jc (qh (js jhh (pv 1) (ve mS rfl) rfl) (je (jp (jg GBe hr rfl (ja (pv 0) jb) (by omega)))) jy)
   (jc (qh (js xi (pv 1) jf (j6 _)) (je (jp (jg GC hr rfl (ja (pv 0) jb) (by omega)))) jy)
   (jc (qh (js xi (pv 1) jf (j6 _)) (je (jp (qa qg (jg B.spell hr rfl (ja jf jb) (by omega)) (jg I.expr hr rfl (ja (xo qv (qi (pv 0) rfl) qd (λ_ _=>rfl)) (ja (qx B.denied rfl) jb)) (by omega))))) jy)
   (jc (qh (js xi (pv 1) jf (j6 _)) (je (jp (qa qg (jg B.spell hr rfl (ja jf jb) (by omega)) (jg I.expr hr rfl (ja (xo qv (qi (pv 0) rfl) qd (λ_ _=>rfl)) (ja (qx B.reached rfl) jb)) (by omega))))) jy)
   (jc (qh (js zw (pv 1) (jbq (ja jf (ja jf (ja jf jb)))) rfl) (je (jp (jg GRe hr rfl (ja (pv 0) jb) (by omega)))) jy)
   (je (jp (jg GS hr rfl (ja (pv 0) jb) (by omega)))))))))),?_⟩
 have hw':Cell.ew e<=450000:=hw;have fb:=Cell.yc e
 have simp_:∀ H1,jh H H1->jgt e->NT (yh (WSp (RT D (d + 1) jgt)) [] E (qj (qy 0) xc)) [some v,some (.str (jmi e))] H1 e.form:=λH1 s1 hs=>NT.call (AT.tree rfl λH2 s2=>⟨e,v,rfl,hs,jz.same (s1.trans s2) _ _ nv,hd,hw,rfl⟩);cases e with
 | bin o x0 y0 =>
  have nv':=nv;rw [jw] at nv;obtain ⟨x,rfl,T⟩:=qp.of nv;refine qw C T rfl (yj rfl dS tS (λ_=>?_) λn=>zl (js2 o) n);exact xz (NT.call (AT.tree rfl λH2 s2=>⟨_,_,rfl,⟨o,x0,y0,rfl⟩,jz.same s2 _ _ nv',hd,hw,rfl⟩)) q
 | pick c0 x0 y0 =>
  have nv':=nv;rw [jw] at nv;obtain ⟨x,rfl,T⟩:=qp.of nv;refine qw C T rfl (yj rfl dS tS (λn=>zl n (by decide)) λ_=>ja3 rfl rfl ?_);exact xz (NT.call (AT.tree rfl λH2 s2=>⟨_,_,rfl,⟨c0,x0,y0,rfl⟩,jz.same s2 _ _ nv',hd,hw,rfl⟩)) q
 | not e =>
  rw [Vanbka.Expr.form] at fb q;have bd:=Nat.le_trans fb (Nat.le_trans hw (show MW<=1000000 by decide))
  rw [Vanbka.Expr.depth] at hd;rw [Cell.ew] at hw';rw [jw] at nv;obtain ⟨x,rfl,T⟩:=qp.of nv;refine qw C T rfl (yj rfl dS tS (λn=>zl n (by decide)) λ_=>j7 rfl (by decide) (ja3 rfl rfl ?_));exact zt (CN.cat (NT.lit "not ").c (NT.part (k:=4) (j:=0) C T rfl rfl (by omega) (by unfold MW;omega)).c) q bd
 | minus e =>
  rw [Vanbka.Expr.form] at fb q;have bd:=Nat.le_trans fb (Nat.le_trans hw (show MW<=1000000 by decide))
  rw [Vanbka.Expr.depth] at hd;rw [Cell.ew] at hw';rw [jw] at nv;obtain ⟨x,rfl,T⟩:=qp.of nv;refine qw C T rfl (yj rfl dS tS (λn=>zl n (by decide)) λ_=>j7 rfl (by decide) (j7 rfl (by decide) (ja3 rfl rfl ?_)));exact zt (CN.cat (NT.lit "-").c (NT.part (k:=9) (j:=0) C T rfl rfl (by omega) (by unfold MW;omega)).c) q bd
 | call f0 l =>
  have nv':=nv;rw [jw] at nv;obtain ⟨x,rfl,T⟩:=qp.of nv;refine qw C T rfl (yj rfl dS tS (λn=>zl n (by decide)) λ_=>j7 rfl (by decide) (j7 rfl (by decide) (j7 rfl (by decide) (wj rfl ["call", "element", "field"] (by decide) λH1 s1=>?_))));exact xz (NT.call (AT.tree rfl λH2 s2=>⟨_,_,rfl,.inl ⟨_,_,rfl⟩,jz.same (s1.trans s2) _ _ nv',hd,hw,rfl⟩)) (q.on s1)
 | index l0 i0 =>
  have nv':=nv;rw [jw] at nv;obtain ⟨x,rfl,T⟩:=qp.of nv;refine qw C T rfl (yj rfl dS tS (λn=>zl n (by decide)) λ_=>j7 rfl (by decide) (j7 rfl (by decide) (j7 rfl (by decide) (wj rfl ["call", "element", "field"] (by decide) λH1 s1=>?_))));exact xz (NT.call (AT.tree rfl λH2 s2=>⟨_,_,rfl,.inr (.inl ⟨_,_,rfl⟩),jz.same (s1.trans s2) _ _ nv',hd,hw,rfl⟩)) (q.on s1)
 | field r0 y0 =>
  have nv':=nv;rw [jw] at nv;obtain ⟨x,rfl,T⟩:=qp.of nv;refine qw C T rfl (yj rfl dS tS (λn=>zl n (by decide)) λ_=>j7 rfl (by decide) (j7 rfl (by decide) (j7 rfl (by decide) (wj rfl ["call", "element", "field"] (by decide) λH1 s1=>?_))));exact xz (NT.call (AT.tree rfl λH2 s2=>⟨_,_,rfl,.inr (.inr ⟨_,_,rfl⟩),jz.same (s1.trans s2) _ _ nv',hd,hw,rfl⟩)) (q.on s1)
 | num n =>
  rw [jw] at nv;obtain ⟨x,rfl,T⟩:=qp.of nv;exact qw C T rfl (yj rfl dS tS (λn=>zl n (by decide)) λ_=>j7 rfl (by decide) (j7 rfl (by decide) (j7 rfl (by decide) (yf rfl ["call", "element", "field"] (by decide) λH1 s1=>xz (simp_ H1 s1 trivial) (q.on s1)))))
 | quoted u =>
  rw [jw] at nv;obtain ⟨x,rfl,T⟩:=qp.of nv;exact qw C T rfl (yj rfl dS tS (λn=>zl n (by decide)) λ_=>j7 rfl (by decide) (j7 rfl (by decide) (j7 rfl (by decide) (yf rfl ["call", "element", "field"] (by decide) λH1 s1=>xz (simp_ H1 s1 trivial) (q.on s1)))))
 | name u =>
  rw [jw] at nv;obtain ⟨x,rfl,T⟩:=qp.of nv;exact qw C T rfl (yj rfl dS tS (λn=>zl n (by decide)) λ_=>j7 rfl (by decide) (j7 rfl (by decide) (j7 rfl (by decide) (yf rfl ["call", "element", "field"] (by decide) λH1 s1=>xz (simp_ H1 s1 trivial) (q.on s1)))))
 | nothing =>
  rw [jw] at nv;obtain ⟨x,rfl,T⟩:=qp.of nv;exact qw C T rfl (yj rfl dS tS (λn=>zl n (by decide)) λ_=>j7 rfl (by decide) (j7 rfl (by decide) (j7 rfl (by decide) (yf rfl ["call", "element", "field"] (by decide) λH1 s1=>xz (simp_ H1 s1 trivial) (q.on s1)))))
 | list l =>
  rw [jw] at nv;obtain ⟨x,rfl,T⟩:=qp.of nv;exact qw C T rfl (yj rfl dS tS (λn=>zl n (by decide)) λ_=>j7 rfl (by decide) (j7 rfl (by decide) (j7 rfl (by decide) (yf rfl ["call", "element", "field"] (by decide) λH1 s1=>xz (simp_ H1 s1 trivial) (q.on s1)))))
 | record l =>
  rw [jw] at nv;obtain ⟨x,rfl,T⟩:=qp.of nv;exact qw C T rfl (yj rfl dS tS (λn=>zl n (by decide)) λ_=>j7 rfl (by decide) (j7 rfl (by decide) (j7 rfl (by decide) (yf rfl ["call", "element", "field"] (by decide) λH1 s1=>xz (simp_ H1 s1 trivial) (q.on s1)))))
 | fn o p st =>
  rw [jw] at nv;obtain ⟨x,rfl,T⟩:=qp.of nv;exact qw C T rfl (yj rfl dS tS (λn=>zl n (by decide)) λ_=>j7 rfl (by decide) (j7 rfl (by decide) (j7 rfl (by decide) (yf rfl ["call", "element", "field"] (by decide) λH1 s1=>xz (simp_ H1 s1 trivial) (q.on s1)))))
 | truth k =>
  rw [jw] at nv;obtain ⟨x,rfl,T⟩:=qp.of nv;cases k with
  | true=>exact qw C T rfl (yj rfl dS tS (λn=>zl n (by decide)) λ_=>j7 rfl (by decide) (j7 rfl (by decide) (j7 rfl (by decide) (yf rfl ["call", "element", "field"] (by decide) λH1 s1=>xz (simp_ H1 s1 trivial) (q.on s1)))))
  | false=>exact qw C T rfl (yj rfl dS tS (λn=>zl n (by decide)) λ_=>j7 rfl (by decide) (j7 rfl (by decide) (j7 rfl (by decide) (yf rfl ["call", "element", "field"] (by decide) λH1 s1=>xz (simp_ H1 s1 trivial) (q.on s1)))))
 | prim p l =>
  rw [jw] at nv;obtain ⟨x,rfl,T⟩:=qp.of nv;exact qw C T rfl (yj rfl dS tS (λn=>zl n (jqr p)) λ_=>j7 rfl (by cases p <;> decide) (j7 rfl (by cases p <;> decide) (j7 rfl (by cases p <;> decide) (yf rfl ["call", "element", "field"] (by cases p <;> decide) λH1 s1=>xz (simp_ H1 s1 trivial) (q.on s1)))))
theorem jt7(e:Vanbka.Expr):∃ ls ps bs,jw e = .mk (jmi e) ls ps bs:=by
 cases e <;> (rw [jw];exact ⟨_,_,_,rfl⟩)
abbrev jjk:PySem.Stmt:=top 106
theorem jpo:jv ["tree", "wanted", "written"] ["tree", "wanted"] (ji jjk):=⟨rfl,rfl,rfl,by decide +kernel,rfl,by decide +kernel,by decide +kernel⟩
theorem jwd(Kn:jr K mg "write_expression" ["tree", "wanted"] jjk)(B:wx P w K mg base D){d:Nat}(I:vj P w K mg base D d)(GBa:Has P w K mg base (5 * d + 9) "write_bare" ["tree"] (WSp (RT D (d + 1) j1d))):Has P w K mg base (5 * d + 9 + 1) "write_expression" ["tree", "wanted"] (WSp (RE D (d + 1))):=by
 refine v_ Kn jpo (λ_ _ _ _ h=>by obtain ⟨_,⟨e,v,k,rfl,nv,hd,hw,rfl⟩,_⟩:=h;rfl) λf cdv A outer s H vs Q E hr h=>?_;obtain ⟨_,⟨e,v,k,rfl,nv,hd,hw,rfl⟩,q⟩:=h;have nd:=jpo.nd
 have m_len:=B.m_len;have m_list:=B.m_list
 have m_zip:=B.m_zip;have C:=B.C
 refine ⟨_,(jc (ju (i:=2) nd rfl (Or.inl rfl) (jg GBa hr rfl (ja (pv 0) jb) (by omega)))
   (jc (qh (js jdz (pv 1) (jg B.strength hr rfl (ja (qi (pv 0) rfl) jb) (by omega)) (j6 _)) (je (jp (qa qg (qa qg (jg B.spell hr rfl (ja jf jb) (by omega)) (pv 2)) (jg B.spell hr rfl (ja jf jb) (by omega))))) jy)
   (je (jp (pv 2))))),?_⟩
 have hw':Cell.ew e<=450000:=hw;have fb:=Cell.yc e
 obtain ⟨ls,ps,bs,ek⟩:=jt7 e;have nv':=nv
 rw [ek] at nv;obtain ⟨x,rfl,T⟩:=qp.of nv;refine ye (NT.call (AT.tree rfl λH2 s2=>⟨e,_,rfl,trivial,jz.same s2 _ _ nv',hd,hw,rfl⟩)) λp H1 s1 n1 e1=>?_;have sk:=jma e
 refine jm5 ⟨_,rfl,qw C (T.same s1) rfl ⟨_,rfl,_,_,rfl,rfl,_,rfl,qb (λc=>?_) (λc=>?_)⟩⟩
 ·have c:=of_decide_eq_true c;rw [sk] at c;have ep:put k e e.form=b "(" ++ e.form ++ b ")":=by unfold put;rw [if_pos (by omega)]
  have bd:(b "(" ++ e.form ++ b ")").length<=1000000:=by
   rw [List.length_append,List.length_append];show 1 + _ + 1<=_
   omega
  rw [ep] at q;exact zt (CN.cat (CN.cat (NT.lit "(").c (MT.var rfl e1).c).c (NT.lit ")").c) (q.on s1) bd
 ·have c:¬ (yb (jmi e) < (k:Int)):=λz=>c (decide_eq_true z);rw [sk] at c;have ep:put k e e.form=e.form:=by unfold put;rw [if_neg (by omega)]
  rw [ep] at q;exact ⟨_,rfl,q p H1 s1 n1 e1⟩
theorem jzu{te:TE}{Dn:jbf}{σ:St}{H:Hp}{x:Bytes}{i:Nat}(h:NT te σ H x)(k:∀ a H1,jh H H1->H a=none->H1 a=some (.lst (vb x))->Dn.nx (σ.set i (some (.ref a))) H1):jgx te (jai i) Dn σ H :=
 h H (jh.refl H) _ λa H1 s n e=>k a H1 s n e
theorem jgj{σ:St}{H:Hp}{i:Nat}{x:Addr}{z:Str}{ls:List x6}{ps:List j5}{bs:List (List j5)}(C:zu K mg "Tree" D.CN ["kind", "leaves", "parts", "blocks", "depth", "place", "end"])(T:qp D H x z ls ps bs)(hi:σ[i]? = some (some (.ref x))):∀ H',jh H H'->∀ Q:VK,Q (.str z) H'->(ja1 K (qy i) "kind") σ H' Q:=λ_ s _ q=>qw C (T.same s) hi q
theorem PcT.blocks{d:Nat}{σ:St}{H:Hp}{ti:TE}{j:Nat}{vbs:List V}{ss:List Stmts}(LB:LT K ti σ H vbs)(hB:qu D.CN H (ss.map xk) vbs)(sz:ss.length<=1000)(hd:∀ s∈ss,s.depth<=d)(hw:∀ s∈ss,Cell.ssw s<=MW)(hws:∀ v,zp ((zp σ [j]).set j (some v)) [j]=zp σ [j])(hj:∀ v,((zp σ [j]).set j (some v))[j]? = some (some v)) :
  PcT K (tLc (jh6 K ti) (jai j) jkl (yh (WSp (RB K D d)) [] (λ_ _ _=>False) (qj (qy j) xc)) [j]) σ H (ss.map λs=>Vanbka.shownBlock s.forms):=by
 have ln:=qu.len _ _ hB;rw [List.length_map] at ln;refine PcT.lc LB (by rw [List.length_map];omega) (by rw [List.length_map];omega) (λi v x hv hx=>?_) hws;rw [List.getElem?_map] at hx;cases e:ss[i]? with
 | none=>rw [e] at hx;cases hx
 | some st =>
  rw [e] at hx;cases hx;have hm:st∈ss:=List.mem_of_getElem? e
  obtain ⟨a,ws,ev,ha,lw,nv⟩:=qu.get _ vbs hB i (xk st) (by rw [List.getElem?_map,e];rfl);rw [hv] at ev;cases ev;exact NT.call (AT.tree (hj _) λH2 s2=>⟨st,a,ws,rfl,SqL.of (s2 _ _ ha),lw,jj.same s2 _ _ nv,hd st hm,hw st hm,rfl⟩)
theorem PcT.numbers{σ:St}{H:Hp}{ti:TE}{j:Nat}{zs:List Int}(LB:LT K ti σ H (zs.map V.int))(sz:zs.length<=1000)(hw:∀ z∈zs,Cell.nw z.natAbs<=MW)(hws:∀ v,zp ((zp σ [j]).set j (some v)) [j]=zp σ [j])(hj:∀ v,((zp σ [j]).set j (some v))[j]? = some (some v)) :
  PcT K (tLc (jh6 K ti) (jai j) jkl (yh jc9 [] (λ_ _ _=>False) (qj (qy j) xc)) [j]) σ H (zs.map shownInt):=by
 refine PcT.lc LB (by rw [List.length_map,List.length_map]) (by rw [List.length_map];omega) (λi v x hv hx=>?_) hws;rw [List.getElem?_map] at hx hv;cases e:zs[i]? with
 | none=>rw [e] at hx;cases hx
 | some z =>
  rw [e] at hx hv;cases hx;cases hv;exact NT.number (AT.tree (hj _) λH2 s2=>rfl) (hw z (List.mem_of_getElem? e))
theorem PcT.quoteds{σ:St}{H:Hp}{ti:TE}{j:Nat}{as:List Addr}{us:List Bytes}(LB:LT K ti σ H (as.map V.ref))(hp:v7 H as us)(sz:us.length<=1000)(hw:∀ z∈us,z.length<=300000)(hws:∀ v,zp ((zp σ [j]).set j (some v)) [j]=zp σ [j])(hj:∀ v,((zp σ [j]).set j (some v))[j]? = some (some v)) :
  PcT K (tLc (jh6 K ti) (jai j) jkl (yh (jc8 K) [] (λ_ _ _=>False) (qj (qy j) xc)) [j]) σ H (us.map shownQuoted):=by
 have pl:=Paired.len hp;refine PcT.lc LB (by rw [List.length_map,List.length_map];exact pl) (by rw [List.length_map];omega) (λi v x hv hx=>?_) hws;rw [List.getElem?_map] at hx hv;cases e:us[i]? with
 | none=>rw [e] at hx;cases hx
 | some z =>
  rw [e] at hx;cases hx;obtain ⟨a,ea,ha⟩:=Paired.get hp e;rw [ea] at hv;cases hv;exact NT.quoted (AT.tree (hj _) λH2 s2=>⟨a,rfl,s2 _ _ ha⟩) (hw z (List.mem_of_getElem? e))
def jos(s:Vanbka.Stmt):Prop:=(∃ c x,s = .iff c x)\/(∃ c x y,s = .iffElse c x y)\/(∃ c x,s = .while_ c x)\/∃ n c x,s = .for n c x
def jop(s:Vanbka.Stmt):Prop:=∃ x v lo hi,s = .slider x v lo hi
def jor(s:Vanbka.Stmt):Prop:=∃ x v l,s = .choice x v l
abbrev jqm(K:PySem.W.Frag)(D:Ad)(d:Nat)(E:XK):TS:=jby (jgx (yh (jjg K) [] E (qj (tLc (jh6 K (ja1 K (qy 0) "blocks")) (jai 3) jkl (yh (WSp (RB K D d)) [] (λ_ _ _=>False) (qj (qy 3) xc)) [3]) (qj (tC (.str " else ")) xc))) (jai 2)) (jfw (tOp jhb (tOp jhb (tOp jhb (qy 1) (yh (WSp (RE D d)) [] E (qj (tOp (jgb K) (ja1 K (qy 0) "parts") (tC (.int 0))) (qj (tC (.int 0)) xc)))) (yh zy [] E (qj (tC (.str " ")) xc))) (qy 2)))
theorem jd3{d:Nat}{E:XK}{Dn:jbf}{H:Hp}{x p:Addr}{z:Str}{ls:List x6}{c:Vanbka.Expr}{ss:List Stmts}{pre:Bytes}(C:zu K mg "Tree" D.CN ["kind", "leaves", "parts", "blocks", "depth", "place", "end"])(T:qp D H x z ls [jw c] (ss.map xk))(e1:H p=some (.lst (vb pre)))(sz:ss.length<=1000)(hc:c.depth<=d)(wc:Cell.ew c<=MW)(hd:∀ s∈ss,s.depth<=d)(hw:∀ s∈ss,Cell.ssw s<=MW)
  (bd:(pre ++ c.form ++ b " " ++ glue (b " else ") (ss.map λs=>Vanbka.shownBlock s.forms)).length<=1000000) (q:Wr H Dn.rt (pre ++ c.form ++ b " " ++ glue (b " else ") (ss.map λs=>Vanbka.shownBlock s.forms))):jqm K D d E Dn [some (.ref x),some (.ref p),none,none] H:=by
 obtain ⟨vbs,lb,hB,LB⟩:=LT.blocks (i:=0) (σ:=[some (.ref x),some (.ref p),none,none]) C T rfl;refine ye (NT.join (g:=b " else ") (PcT.blocks LB hB sz hd hw (λ_=>rfl) (λ_=>rfl)) (by decide +kernel) (by decide) (jh4 bd)) λp3 H3 s3 n3 e3=>?_;have nt:=NT.part (E:=E) (σ:=[some (.ref x),some (.ref p),some (.ref p3),none]) (i:=0) (k:=0) (j:=0) C (T.same s3) rfl rfl hc wc
 rw [jku] at nt;refine zt (CN.cat (CN.cat (CN.cat (MT.var rfl (s3 _ _ e1)).c nt.c).c (NT.lit " ").c).c (MT.var rfl e3).c) (q.on s3) bd
abbrev jeh:PySem.Stmt:=top 101
theorem jlm:jv ["tree", "written", "blocks", "block"] ["tree"] (ji jeh):=⟨rfl,rfl,rfl,by decide +kernel,rfl,by decide +kernel,by decide +kernel⟩
theorem jse:jbo ["tree", "written", "blocks", "block"] (ji jeh) { kind:=.function,names:=[(".0",.local),("block",.local),("write_block",.globalImplicit)],isGenerator:=false,isCoroutine:=false } [("block",3)]:=⟨rfl,by decide +kernel,by decide +kernel,by decide +kernel,by decide +kernel⟩
theorem jre(Kn:jr K mg "write_blocks" ["tree"] jeh)(B:wx P w K mg base D){d:Nat}(I:vj P w K mg base D d)(GB:Has P w K mg base (5 * d + 6) "write_block" ["statements"] (WSp (RB K D d))):Has P w K mg base (5 * d + 7 + 1) "write_blocks" ["tree"] (WSp (RS D (d + 1) jos)):=by
 refine v_ Kn jlm (λ_ _ _ _ h=>by obtain ⟨_,⟨e,v,rfl,hs,nv,hd,hw,rfl⟩,_⟩:=h;rfl) λf cdv A outer s H vs Q E hr h=>?_;obtain ⟨_,⟨e,v,rfl,hs,nv,hd,hw,rfl⟩,q⟩:=h;have nd:=jlm.nd
 have m_len:=B.m_len;have m_list:=B.m_list
 have m_zip:=B.m_zip;have C:=B.C
 obtain ⟨gf,gfd,gF,gb,gk,gm⟩:=GB;refine ⟨_,(jc (ju (i:=1) nd rfl (Or.inl rfl) (jg B.spell hr rfl (ja (qa jh2 (qi (pv 0) rfl) jf) jb) (by omega)))
   (jc (qh (js xi (qi (pv 0) rfl) jf (j6 _)) (je (ju (i:=1) nd rfl (Or.inl rfl) (qa qg (qa qg (pv 1) (xo qv (qi (pv 0) rfl) qd (λ_ _=>rfl))) (jg B.spell hr rfl (ja jf jb) (by omega))))) jy)
   (jc (ju (i:=2) nd rfl (Or.inl rfl) (jg B.join hr rfl (ja (jeu (own:=[("block",3)]) (te:=(yh (WSp (RB K D d)) [] (λ_ _ _=>False) (qj (qy 3) xc))) rfl nd (jab (qi (pv 0) rfl)) jse (λ_ _ _ _ _=>y_ (i:=3) nd rfl (Or.inl rfl)) (λ_ _ _ _ _=>jbk) (λ_ _ _ _ _=>(vf gF (hr.mono (by omega)) rfl gm gk gb .nil jb0 (ja (pv 3) jb)))) (ja jf jb)) (by omega)))
   (je (jp (qa qg (qa qg (qa qg (pv 1) (jg I.expr hr rfl (ja (xo qv (qi (pv 0) rfl) qd (λ_ _=>rfl)) (ja (qx B.any rfl) jb)) (by omega))) (jg B.spell hr rfl (ja jf jb) (by omega))) (pv 2))))))),?_⟩
 have hw':Cell.sw1 e<=450000:=hw;have fb:=Cell.jhl e
 rcases hs with ⟨c0,x0,rfl⟩ | ⟨c0,x0,y0,rfl⟩ | ⟨c0,x0,rfl⟩ | ⟨m0,c0,x0,rfl⟩
 ·have bd:=Nat.le_trans fb hw';rw [Vanbka.Stmt.form] at bd q;rw [Vanbka.Stmt.depth] at hd;rw [Cell.sw1] at hw';rw [x_] at nv;obtain ⟨x,rfl,T⟩:=qp.of nv;refine ye (NT.spellAdd (u:=b "if") (v:=b " ") (jgj C T rfl) (by decide +kernel)) λp H1 s1 n1 e1=>?_;have T1:=T.same s1
  refine ja4 (λQ q=>qw C T1 rfl q) (λc=>absurd c (by decide)) λ_=>?_;exact jd3 (ss:=[x0]) C T1 e1 (by simp) (by omega) (by unfold MW;omega) (λs hs=>by
   simp only [List.mem_cons,List.not_mem_nil,or_false] at hs;rw [hs];omega) (λs hs=>by
   simp only [List.mem_cons,List.not_mem_nil,or_false] at hs;rw [hs];unfold MW;omega) (Nat.le_trans bd (by decide)) (q.on s1)
 ·have bd:=Nat.le_trans fb hw';rw [Vanbka.Stmt.form] at bd q;rw [Vanbka.Stmt.depth] at hd;rw [Cell.sw1] at hw';rw [x_] at nv;obtain ⟨x,rfl,T⟩:=qp.of nv;refine ye (NT.spellAdd (u:=b "if") (v:=b " ") (jgj C T rfl) (by decide +kernel)) λp H1 s1 n1 e1=>?_;have T1:=T.same s1
  refine ja4 (λQ q=>qw C T1 rfl q) (λc=>absurd c (by decide)) λ_=>?_;have ea:b "if " ++ c0.form ++ b " " ++ Vanbka.shownBlock x0.forms ++ b " else " ++ Vanbka.shownBlock y0.forms=(b "if" ++ b " ") ++ c0.form ++ b " " ++ glue (b " else ") ([x0,y0].map λs=>Vanbka.shownBlock s.forms):=by
   show _=b "if " ++ c0.form ++ b " " ++ (Vanbka.shownBlock x0.forms ++ b " else " ++ Vanbka.shownBlock y0.forms)
   simp only [List.append_assoc]
  rw [ea] at bd q;exact jd3 (ss:=[x0,y0]) C T1 e1 (by simp) (by omega) (by unfold MW;omega) (λs hs=>by
   simp only [List.mem_cons,List.not_mem_nil,or_false] at hs;rcases hs with hs | hs <;> rw [hs] <;> omega) (λs hs=>by
   simp only [List.mem_cons,List.not_mem_nil,or_false] at hs;rcases hs with hs | hs <;> rw [hs] <;> unfold MW <;> omega) (Nat.le_trans bd (by decide)) (q.on s1)
 ·have bd:=Nat.le_trans fb hw';rw [Vanbka.Stmt.form] at bd q;rw [Vanbka.Stmt.depth] at hd;rw [Cell.sw1] at hw';rw [x_] at nv;obtain ⟨x,rfl,T⟩:=qp.of nv;refine ye (NT.spellAdd (u:=b "while") (v:=b " ") (jgj C T rfl) (by decide +kernel)) λp H1 s1 n1 e1=>?_;have T1:=T.same s1
  refine ja4 (λQ q=>qw C T1 rfl q) (λc=>absurd c (by decide)) λ_=>?_;exact jd3 (ss:=[x0]) C T1 e1 (by simp) (by omega) (by unfold MW;omega) (λs hs=>by
   simp only [List.mem_cons,List.not_mem_nil,or_false] at hs;rw [hs];omega) (λs hs=>by
   simp only [List.mem_cons,List.not_mem_nil,or_false] at hs;rw [hs];unfold MW;omega) (Nat.le_trans bd (by decide)) (q.on s1)
 ·have bd:=Nat.le_trans fb hw';rw [Vanbka.Stmt.form] at bd q;rw [Vanbka.Stmt.depth] at hd;rw [Cell.sw1] at hw';rw [x_] at nv;obtain ⟨x,rfl,T⟩:=qp.of nv;refine ye (NT.spellAdd (u:=b "for") (v:=b " ") (jgj C T rfl) (by decide +kernel)) λp H1 s1 n1 e1=>?_;have T1:=T.same s1
  refine ja4 (λQ q=>qw C T1 rfl q) (λ_=>jzu (CN.cat (CN.cat (MT.var rfl e1).c (jcn C T1 rfl rfl).c).c (NT.lit " in ").c (Nat.le_trans (jd1 (jd1 (jd1 bd))) (by decide))) λp2 H2 s2 n2 e2=>?_) λc=>absurd rfl c;exact jd3 (ss:=[x0]) C (T1.same s2) e2 (by simp) (by omega) (by unfold MW;omega) (λs hs=>by
   simp only [List.mem_cons,List.not_mem_nil,or_false] at hs;rw [hs];omega) (λs hs=>by
   simp only [List.mem_cons,List.not_mem_nil,or_false] at hs;rw [hs];unfold MW;omega) (Nat.le_trans bd (by decide)) (q.on (s1.trans s2))
abbrev jee:PySem.Stmt:=top 102
theorem jlf:jv ["tree", "first", "ends", "number"] ["tree"] (ji jee):=⟨rfl,rfl,rfl,by decide +kernel,rfl,by decide +kernel,by decide +kernel⟩
theorem jsb:jbo ["tree", "first", "ends", "number"] (ji jee) { kind:=.function,names:=[(".0",.local),("number",.local),("write_number",.globalImplicit)],isGenerator:=false,isCoroutine:=false } [("number",3)]:=⟨rfl,by decide +kernel,by decide +kernel,by decide +kernel,by decide +kernel⟩
theorem jq9(Kn:jr K mg "write_slider" ["tree"] jee)(B:wx P w K mg base D){d:Nat}(I:vj P w K mg base D d):Has P w K mg base (5 * d + 8 + 1) "write_slider" ["tree"] (WSp (RS D (d + 1) jop)):=by
 refine v_ Kn jlf (λ_ _ _ _ h=>by obtain ⟨_,⟨e,v,rfl,⟨x0,v0,lo,hi,rfl⟩,nv,hd,hw,rfl⟩,_⟩:=h;rfl) λf cdv A outer s H vs Q E hr h=>?_;obtain ⟨_,⟨e,v,rfl,⟨x0,v0,lo,hi,rfl⟩,nv,hd,hw,rfl⟩,q⟩:=h;have nd:=jlf.nd
 have m_len:=B.m_len;have m_list:=B.m_list
 have m_zip:=B.m_zip;have C:=B.C
 obtain ⟨gf,gfd,gF,gb,gk,gm⟩:=B.number;refine ⟨_,(jc (ju (i:=1) nd rfl (Or.inl rfl) (jg B.number hr rfl (ja (xo qv (qi (pv 0) rfl) qd (λ_ _=>rfl)) jb) (by omega)))
   (jc (ju (i:=2) nd rfl (Or.inl rfl) (jg B.join hr rfl (ja (jeu (own:=[("number",3)]) (te:=(yh jc9 [] (λ_ _ _=>False) (qj (qy 3) xc))) rfl nd (jab (ja6 jb3 (qi (pv 0) rfl) (jar qd) jd7)) jsb (λ_ _ _ _ _=>y_ (i:=3) nd rfl (Or.inl rfl)) (λ_ _ _ _ _=>jbk) (λ_ _ _ _ _=>(vf gF (hr.mono (by omega)) rfl gm gk gb .nil jb0 (ja (pv 3) jb)))) (ja jf jb)) (by omega)))
   (je (jp (qa qg (qa qg (qa qg (qa qg (qa qg (qa qg (jg B.spell hr rfl (ja jf jb) (by omega)) (xo qv (qi (pv 0) rfl) qd (λ_ _=>rfl))) (jg B.spell hr rfl (ja jf jb) (by omega))) (pv 1)) (jg B.spell hr rfl (ja jf jb) (by omega))) (pv 2)) (jg B.spell hr rfl (ja jf jb) (by omega))))))),?_⟩
 have hw':Cell.sw1 (.slider x0 v0 lo hi)<=450000:=hw;have fb:=Nat.le_trans (Cell.jhl (.slider x0 v0 lo hi)) hw'
 have ef:(Vanbka.Stmt.slider x0 v0 lo hi).form=b "slider " ++ x0 ++ b " = " ++ shownInt v0 ++ b " in " ++ glue (b ", ") ([lo,hi].map shownInt) ++ b ";":=by
  rw [Vanbka.Stmt.form];show _=b "slider " ++ x0 ++ b " = " ++ shownInt v0 ++ b " in " ++ (shownInt lo ++ b ", " ++ shownInt hi) ++ b ";"
  simp only [List.append_assoc]
 rw [ef] at fb q;have bd:=Nat.le_trans fb (show 450000<=1000000 by decide)
 rw [Cell.sw1] at hw';rw [x_] at nv;obtain ⟨x,rfl,T⟩:=qp.of nv;refine ye (NT.number (AT.leaf (j:=1) C T rfl rfl λv H2 s2 hv=>by rw [show v=_ from hv]) (by unfold MW;omega)) λp H1 s1 n1 e1=>?_;have T1:=T.same s1
 obtain ⟨vls,ll,hL,LL⟩:=LT.leaves (i:=0) (σ:=[some (.ref x),some (.ref p),none,none]) C T1 rfl;have ev:vls.drop 2=[lo,hi].map V.int:=by
  cases hL with
  | cons r0 hL=>cases hL with
   | cons r1 hL=>cases hL with
    | cons r2 hL=>cases hL with
     | cons r3 hL =>
      cases hL;rw [show _=_ from r2,show _=_ from r3];rfl
 have l2:2<=vls.length:=by rw [<- Paired.len hL];show 2<=4;decide
 have LL2:=LT.from (n:=2) LL l2
 rw [ev] at LL2;refine ye (NT.join (g:=b ", ") (PcT.numbers (zs:=[lo,hi]) LL2 (by simp) (λz hz=>?_) (λ_=>rfl) (λ_=>rfl)) (by decide +kernel) (by decide) (jh4 (jd1 bd))) λp2 H2 s2 n2 e2=>?_
 ·simp only [List.mem_cons,List.not_mem_nil,or_false] at hz;rcases hz with hz | hz <;> rw [hz] <;> unfold MW <;> omega
 refine zt (CN.cat (CN.cat (CN.cat (CN.cat (CN.cat (CN.cat (NT.lit "slider ").c (jcn C (T1.same s2) rfl rfl).c).c (NT.lit " = ").c).c (MT.var rfl (s2 _ _ e1)).c).c (NT.lit " in ").c).c (MT.var rfl e2).c).c (NT.lit ";").c) (q.on (s1.trans s2)) bd
abbrev jeg:PySem.Stmt:=top 103
theorem jll:jv ["tree", "first", "texts", "said"] ["tree"] (ji jeg):=⟨rfl,rfl,rfl,by decide +kernel,rfl,by decide +kernel,by decide +kernel⟩
theorem jsd:jbo ["tree", "first", "texts", "said"] (ji jeg) { kind:=.function,names:=[(".0",.local),("said",.local),("write_quoted",.globalImplicit)],isGenerator:=false,isCoroutine:=false } [("said",3)]:=⟨rfl,by decide +kernel,by decide +kernel,by decide +kernel,by decide +kernel⟩
theorem jrd(Kn:jr K mg "write_choice" ["tree"] jeg)(B:wx P w K mg base D){d:Nat}(I:vj P w K mg base D d):Has P w K mg base (5 * d + 8 + 1) "write_choice" ["tree"] (WSp (RS D (d + 1) jor)):=by
 refine v_ Kn jll (λ_ _ _ _ h=>by obtain ⟨_,⟨e,v,rfl,⟨x0,v0,l,rfl⟩,nv,hd,hw,rfl⟩,_⟩:=h;rfl) λf cdv A outer s H vs Q E hr h=>?_;obtain ⟨_,⟨e,v,rfl,⟨x0,v0,l,rfl⟩,nv,hd,hw,rfl⟩,q⟩:=h;have nd:=jll.nd
 have m_len:=B.m_len;have m_list:=B.m_list
 have m_zip:=B.m_zip;have C:=B.C
 obtain ⟨gf,gfd,gF,gb,gk,gm⟩:=B.quoted;refine ⟨_,(jc (ju (i:=1) nd rfl (Or.inl rfl) (jg B.number hr rfl (ja (xo qv (qi (pv 0) rfl) qd (λ_ _=>rfl)) jb) (by omega)))
   (jc (ju (i:=2) nd rfl (Or.inl rfl) (jg B.join hr rfl (ja (jeu (own:=[("said",3)]) (te:=(yh (jc8 K) [] (λ_ _ _=>False) (qj (qy 3) xc))) rfl nd (jab (ja6 jb3 (qi (pv 0) rfl) (jar qd) jd7)) jsd (λ_ _ _ _ _=>y_ (i:=3) nd rfl (Or.inl rfl)) (λ_ _ _ _ _=>jbk) (λ_ _ _ _ _=>(vf gF (hr.mono (by omega)) rfl gm gk gb .nil jb0 (ja (pv 3) jb)))) (ja jf jb)) (by omega)))
   (je (jp (qa qg (qa qg (qa qg (qa qg (qa qg (qa qg (jg B.spell hr rfl (ja jf jb) (by omega)) (xo qv (qi (pv 0) rfl) qd (λ_ _=>rfl))) (jg B.spell hr rfl (ja jf jb) (by omega))) (pv 1)) (jg B.spell hr rfl (ja jf jb) (by omega))) (pv 2)) (jg B.spell hr rfl (ja jf jb) (by omega))))))),?_⟩
 have hw':Cell.sw1 (.choice x0 v0 l)<=450000:=hw;have fb:=Nat.le_trans (Cell.jhl (.choice x0 v0 l)) hw'
 rw [Vanbka.Stmt.form] at fb q;have bd:=Nat.le_trans fb (show 450000<=1000000 by decide)
 rw [Cell.sw1] at hw';rw [x_] at nv;obtain ⟨x,rfl,T⟩:=qp.of nv;have e0:shownInt (v0:Int)=shownNat v0:=by
  unfold shownInt;rw [if_neg (by omega)];rfl
 rw [<- e0] at q bd;refine ye (NT.number (z:=(v0:Int)) (AT.leaf (j:=1) C T rfl rfl λv H2 s2 hv=>by rw [show v=_ from hv]) (by show Cell.nw v0<=MW;unfold MW;omega)) λp H1 s1 n1 e1=>?_;have T1:=T.same s1
 obtain ⟨vls,ll,hL,LL⟩:=LT.leaves (i:=0) (σ:=[some (.ref x),some (.ref p),none,none]) C T1 rfl;cases hL with
 | cons r0 hL=>cases hL with
  | cons r1 hL =>
   obtain ⟨as,rfl,hp⟩:=jdl hL;have pl:=Paired.len hp
   have lw:∀ z∈l,z.length<=300000:=by
    have:∀ (l:List Bytes),Cell.bsw l<=450000->∀ z∈l,z.length<=300000:=by
     intro l;induction l with
     | nil=>intro _ z hz;cases hz
     | cons y l ih =>
      intro h z hz;rw [Cell.bsw] at h;rcases List.mem_cons.mp hz with rfl | hz
      ·omega
      ·exact ih (by omega) z hz
    exact this l (by omega)
   rw [List.length_cons,List.length_cons,List.length_map] at ll;have LL2:=LT.from (n:=2) LL (by rw [List.length_cons,List.length_cons];omega)
   refine ye (NT.join (g:=b ", ") (PcT.quoteds (as:=as) LL2 hp (by omega) lw (λ_=>rfl) (λ_=>rfl)) (by decide +kernel) (by decide) (jh4 (jd1 bd))) λp2 H2 s2 n2 e2=>?_;refine zt (CN.cat (CN.cat (CN.cat (CN.cat (CN.cat (CN.cat (NT.lit "choice ").c (jcn C (T1.same s2) rfl rfl).c).c (NT.lit " = ").c).c (MT.var rfl (s2 _ _ e1)).c).c (NT.lit " in ").c).c (MT.var rfl e2).c).c (NT.lit ";").c) (q.on (s1.trans s2)) bd
theorem ju5(x:Vanbka.Way):jkj x=xm x.word:=by cases x <;> decide +kernel
abbrev jcy:PySem.Stmt:=top 100
theorem jg5:jv ["tree", "kind", "value"] ["tree"] (ji jcy):=⟨rfl,rfl,rfl,by decide +kernel,rfl,by decide +kernel,by decide +kernel⟩
theorem jmc(Kn:jr K mg "write_statement" ["tree"] jcy)(B:wx P w K mg base D){d:Nat}(I:vj P w K mg base D d)(GBs:Has P w K mg base (5 * d + 8) "write_blocks" ["tree"] (WSp (RS D (d + 1) jos)))(GSl:Has P w K mg base (5 * d + 9) "write_slider" ["tree"] (WSp (RS D (d + 1) jop)))(GCh:Has P w K mg base (5 * d + 9) "write_choice" ["tree"] (WSp (RS D (d + 1) jor))):Has P w K mg base (5 * d + 9 + 1) "write_statement" ["tree"] (WSp (RS D (d + 1) jsi)):=by
 refine v_ Kn jg5 (λ_ _ _ _ h=>by obtain ⟨_,⟨e,v,rfl,_,nv,hd,hw,rfl⟩,_⟩:=h;rfl) λf cdv A outer s H vs Q E hr h=>?_;obtain ⟨_,⟨e,v,rfl,_,nv,hd,hw,rfl⟩,q⟩:=h;have nd:=jg5.nd
 have m_len:=B.m_len;have m_list:=B.m_list
 have m_zip:=B.m_zip;have C:=B.C
 refine ⟨_,(jc (ju (i:=1) nd rfl (Or.inl rfl) (qi (pv 0) rfl))
   (jc (qh (js zw (pv 1) (jbq (ja jf (ja jf jb))) rfl) (jc (ju (i:=2) nd rfl (Or.inl rfl) (jg I.expr hr rfl (ja (xo qv (qi (pv 0) rfl) qd (λ_ _=>rfl)) (ja (qx B.any rfl) jb)) (by omega)))
   (je (jp (qa qg (qa qg (qa qg (qa qg (jg B.spell hr rfl (ja (qa jh2 (pv 1) jf) jb) (by omega)) (xo qv (qi (pv 0) rfl) qd (λ_ _=>rfl))) (jg B.spell hr rfl (ja jf jb) (by omega))) (pv 2)) (jg B.spell hr rfl (ja jf jb) (by omega)))))) jy)
   (jc (qh (js zw (pv 1) (jbq (ja jf (ja jf (ja jf jb)))) rfl) (je (jp (jg GBs hr rfl (ja (pv 0) jb) (by omega)))) jy)
   (jc (qh (js xi (pv 1) jf (j6 _)) (je (jp (jg GSl hr rfl (ja (pv 0) jb) (by omega)))) jy)
   (jc (qh (js xi (pv 1) jf (j6 _)) (je (jp (jg GCh hr rfl (ja (pv 0) jb) (by omega)))) jy)
   (je (jp (qa qg (qa qg (jg B.spell hr rfl (ja (qa jh2 (pv 1) jf) jb) (by omega)) (jg I.expr hr rfl (ja (xo qv (qi (pv 0) rfl) qd (λ_ _=>rfl)) (ja (qx B.any rfl) jb)) (by omega))) (jg B.spell hr rfl (ja jf jb) (by omega)))))))))),?_⟩
 have hw':Cell.sw1 e<=450000:=hw;have fb:=Nat.le_trans (Cell.jhl e) hw'
 cases e with
 | leta x0 e0 =>
  rw [Vanbka.Stmt.form] at fb q;have bd:=Nat.le_trans fb (show 450000<=1000000 by decide)
  rw [Vanbka.Stmt.depth] at hd;rw [Cell.sw1] at hw';rw [x_] at nv;obtain ⟨x,rfl,T⟩:=qp.of nv;refine qw C T rfl (wj rfl ["let", "set"] (by decide) λH1 s1=>?_);have T1:=T.same s1
  have nt:=NT.part (E:=E) (σ:=[some (.ref x),some (.str "let"),none]) (i:=0) (k:=0) (j:=0) C T1 rfl rfl (show e0.depth<=d by omega) (show Cell.ew e0<=MW by unfold MW;omega);rw [jku] at nt;refine ye nt λp H2 s2 n2 e2=>?_;refine zt (CN.cat (CN.cat (CN.cat (CN.cat (NT.spellAdd (u:=b "let") (v:=b " ") jjb (by decide +kernel)).c (jcn C (T1.same s2) rfl rfl).c).c (NT.lit " = ").c).c (MT.var rfl e2).c).c (NT.lit ";").c) (q.on (s1.trans s2)) bd
 | seta x0 e0 =>
  rw [Vanbka.Stmt.form] at fb q;have bd:=Nat.le_trans fb (show 450000<=1000000 by decide)
  rw [Vanbka.Stmt.depth] at hd;rw [Cell.sw1] at hw';rw [x_] at nv;obtain ⟨x,rfl,T⟩:=qp.of nv;refine qw C T rfl (wj rfl ["let", "set"] (by decide) λH1 s1=>?_);have T1:=T.same s1
  have nt:=NT.part (E:=E) (σ:=[some (.ref x),some (.str "set"),none]) (i:=0) (k:=0) (j:=0) C T1 rfl rfl (show e0.depth<=d by omega) (show Cell.ew e0<=MW by unfold MW;omega);rw [jku] at nt;refine ye nt λp H2 s2 n2 e2=>?_;refine zt (CN.cat (CN.cat (CN.cat (CN.cat (NT.spellAdd (u:=b "set") (v:=b " ") jjb (by decide +kernel)).c (jcn C (T1.same s2) rfl rfl).c).c (NT.lit " = ").c).c (MT.var rfl e2).c).c (NT.lit ";").c) (q.on (s1.trans s2)) bd
 | iff c0 x0 =>
  have nv':=nv;rw [x_] at nv;obtain ⟨x,rfl,T⟩:=qp.of nv;refine qw C T rfl (yf rfl ["let", "set"] (by decide) λH1 s1=>wj rfl ["if", "while", "for"] (by decide) λH2 s2=>?_);exact xz (NT.call (AT.tree rfl λH3 s3=>⟨_,_,rfl,.inl ⟨_,_,rfl⟩,jz.same ((s1.trans s2).trans s3) _ _ nv',hd,hw,rfl⟩)) (q.on (s1.trans s2))
 | iffElse c0 x0 y0 =>
  have nv':=nv;rw [x_] at nv;obtain ⟨x,rfl,T⟩:=qp.of nv;refine qw C T rfl (yf rfl ["let", "set"] (by decide) λH1 s1=>wj rfl ["if", "while", "for"] (by decide) λH2 s2=>?_);exact xz (NT.call (AT.tree rfl λH3 s3=>⟨_,_,rfl,.inr (.inl ⟨_,_,_,rfl⟩),jz.same ((s1.trans s2).trans s3) _ _ nv',hd,hw,rfl⟩)) (q.on (s1.trans s2))
 | while_ c0 x0 =>
  have nv':=nv;rw [x_] at nv;obtain ⟨x,rfl,T⟩:=qp.of nv;refine qw C T rfl (yf rfl ["let", "set"] (by decide) λH1 s1=>wj rfl ["if", "while", "for"] (by decide) λH2 s2=>?_);exact xz (NT.call (AT.tree rfl λH3 s3=>⟨_,_,rfl,.inr (.inr (.inl ⟨_,_,rfl⟩)),jz.same ((s1.trans s2).trans s3) _ _ nv',hd,hw,rfl⟩)) (q.on (s1.trans s2))
 | «for» n0 c0 x0 =>
  have nv':=nv;rw [x_] at nv;obtain ⟨x,rfl,T⟩:=qp.of nv;refine qw C T rfl (yf rfl ["let", "set"] (by decide) λH1 s1=>wj rfl ["if", "while", "for"] (by decide) λH2 s2=>?_);exact xz (NT.call (AT.tree rfl λH3 s3=>⟨_,_,rfl,.inr (.inr (.inr ⟨_,_,_,rfl⟩)),jz.same ((s1.trans s2).trans s3) _ _ nv',hd,hw,rfl⟩)) (q.on (s1.trans s2))
 | slider x0 v0 lo hi =>
  have nv':=nv;rw [x_] at nv;obtain ⟨x,rfl,T⟩:=qp.of nv;refine qw C T rfl (yf rfl ["let", "set"] (by decide) λH1 s1=>yf rfl ["if", "while", "for"] (by decide) λH2 s2=>ja3 rfl rfl ?_);exact xz (NT.call (AT.tree rfl λH3 s3=>⟨_,_,rfl,⟨_,_,_,_,rfl⟩,jz.same ((s1.trans s2).trans s3) _ _ nv',hd,hw,rfl⟩)) (q.on (s1.trans s2))
 | choice x0 v0 l =>
  have nv':=nv;rw [x_] at nv;obtain ⟨x,rfl,T⟩:=qp.of nv;refine qw C T rfl (yf rfl ["let", "set"] (by decide) λH1 s1=>yf rfl ["if", "while", "for"] (by decide) λH2 s2=>j7 rfl (by decide) (ja3 rfl rfl ?_));exact xz (NT.call (AT.tree rfl λH3 s3=>⟨_,_,rfl,⟨_,_,_,rfl⟩,jz.same ((s1.trans s2).trans s3) _ _ nv',hd,hw,rfl⟩)) (q.on (s1.trans s2))
 | way w0 e0 =>
  rw [Vanbka.Stmt.form] at fb q;have bd:=Nat.le_trans fb (show 450000<=1000000 by decide)
  rw [Vanbka.Stmt.depth] at hd;rw [Cell.sw1] at hw';rw [x_] at nv;obtain ⟨x,rfl,T⟩:=qp.of nv;have wl:=Cell.jpg w0
  refine qw C T rfl (yf rfl ["let", "set"] (by cases w0 <;> decide) λH1 s1=>yf rfl ["if", "while", "for"] (by cases w0 <;> decide) λH2 s2=>j7 rfl (by cases w0 <;> decide) (j7 rfl (by cases w0 <;> decide) ?_));have nt:=NT.part (E:=E) (σ:=[some (.ref x),some (.str (jkj w0)),none]) (i:=0) (k:=0) (j:=0) C ((T.same s1).same s2) rfl rfl (show e0.depth<=d by omega) (show Cell.ew e0<=MW by unfold MW;omega)
  rw [jku] at nt;refine zt (CN.cat (CN.cat (NT.spellAdd (v:=b " ") jjb (ju5 w0) (h1:=by omega)).c nt.c).c (NT.lit ";").c) (q.on (s1.trans s2)) bd
structure ju0(K:PySem.W.Frag)(mg:Str->Option Value):Prop where
 WListed:jr K mg "write_listed" ["parts"] jef
 WBlock:jr K mg "write_block" ["statements"] jfj
 WRecord:jr K mg "write_record" ["tree"] jf2
 WFunction:jr K mg "write_function" ["tree"] jds
 WReach:jr K mg "write_reach" ["tree"] jhx
 WChosen:jr K mg "write_chosen" ["tree"] jf3
 WBetween:jr K mg "write_between" ["tree"] jeq
 WSimple:jr K mg "write_simple" ["tree"] jf1
 WBare:jr K mg "write_bare" ["tree"] jjl
 WExpr:jr K mg "write_expression" ["tree", "wanted"] jjk
 WBlocks:jr K mg "write_blocks" ["tree"] jeh
 WSlider:jr K mg "write_slider" ["tree"] jee
 WChoice:jr K mg "write_choice" ["tree"] jeg
 WStatement:jr K mg "write_statement" ["tree"] jcy
theorem jr7(e:Vanbka.Expr):1<=e.depth:=by cases e <;> (rw [Vanbka.Expr.depth];omega)
theorem jr6(e:Vanbka.Stmt):1<=e.depth:=by cases e <;> (rw [Vanbka.Stmt.depth];omega)
theorem jsj(Kn:ju0 K mg)(B:wx P w K mg base D):∀ d,vj P w K mg base D d
 | 0=>⟨jui Kn.WExpr (λvs H Q E h=>by
   obtain ⟨_,⟨e,v,k,rfl,nv,hd,hw,rfl⟩,_⟩:=h;have:=jr7 e
   omega),jui Kn.WStatement (λvs H Q E h=>by
   obtain ⟨_,⟨e,v,rfl,_,nv,hd,hw,rfl⟩,_⟩:=h;have:=jr6 e
   omega)⟩
 | d + 1=>by
  have I:=jsj Kn B d;have GL:=jrb Kn.WListed B I
  have GB:=jt4 Kn.WBlock B I;have GR:=jra Kn.WRecord B I
  have GF:=jnx Kn.WFunction B I GB;have GS:=jq_ Kn.WSimple B I GL GR GF
  have GBa:=jwe Kn.WBare B I (joz Kn.WBetween B I) (jrc Kn.WChosen B I) (jt3 Kn.WReach B I GL) GS;exact ⟨jwd Kn.WExpr B I GBa,jmc Kn.WStatement B I (jre Kn.WBlocks B I GB) (jq9 Kn.WSlider B I) (jrd Kn.WChoice B I)⟩
end
end Prg
end
section
set_option autoImplicit false
namespace Cell
open Vanbka
theorem jke:∀ (k n:Nat),0 < k->n < 10 ^ k->(Nat.toDigits 10 n).length<=k
 | 0,_,h,_=>absurd h (Nat.lt_irrefl 0)
 | 1,n,_,h=>by rw [Nat.toDigits_of_lt_base (by simpa using h)];exact Nat.le_refl _
 | k + 2,n,_,h=>by
  rw [Nat.toDigits_eq_if (by decide)];split
  ·show 1<=_;omega
  ·rw [List.length_append];have:=jke (k + 1) (n / 10) (Nat.succ_pos _) (by rw [Nat.div_lt_iff_lt_mul (by decide)];rw [Nat.pow_succ] at h;exact h)
   show _ + 1<=_;omega
theorem jly:∀ (d:Bytes) (a:Nat),(∀ c∈d,digit c=true)->d.foldl (λn c=>10 * n + (c.toNat - 48)) a < (a + 1) * 10 ^ d.length
 | [],a,_=>by simp
 | c::d,a,h=>by
  have:=jly d (10 * a + (c.toNat - 48)) (λx hx=>h x (.tail _ hx));have hc:=h c (.head _)
  unfold digit at hc;simp only [Bool.and_eq_true,decide_eq_true_eq,UInt8.le_iff_toNat_le] at hc;have hc2:c.toNat<=57:=hc.2
  rw [List.foldl_cons,List.length_cons,Nat.pow_succ];refine Nat.lt_of_lt_of_le this ?_;have:10 * a + (c.toNat - 48) + 1<=(a + 1) * 10:=by omega
  calc (10 * a + (c.toNat - 48) + 1) * 10 ^ d.length<=((a + 1) * 10) * 10 ^ d.length:=Nat.mul_le_mul_right _ this
   _=(a + 1) * (10 ^ d.length * 10):=by rw [Nat.mul_assoc,Nat.mul_comm 10]
theorem jwh(d:Bytes)(h:∀ c∈d,digit c=true):natOf d < 10 ^ d.length:=by
 have:=jly d 0 h;unfold natOf;omega
theorem jtm:∀ (u:Bytes) (x:Bytes×Nat),quotedFrom u=some x->x.1.length<=x.2:=by
 intro u;induction u using quotedFrom.induct <;> intro x hx <;> simp only [quotedFrom,Option.map_eq_some_iff,Option.some.injEq,reduceCtorEq] at hx
 all_goals first
  | (subst hx;simp)
  | (obtain ⟨y,hy,rfl⟩:=hx;rename_i ih _ ;have:=ih _ hy;simp only [List.length_cons];omega)
  | (obtain ⟨y,hy,rfl⟩:=hx;rename_i ih;have:=ih _ hy;simp only [List.length_cons];omega)
  | skip
theorem jnz{p:UInt8->Bool}:∀ (l:Bytes),∀ c∈l.takeWhile p,p c=true
 | [],c,h=>by simp at h
 | x::l,c,h=>by
  rw [List.takeWhile_cons] at h;split at h
  ·rcases List.mem_cons.mp h with rfl | h
   ·assumption
   ·exact jnz l c h
  ·cases h
theorem j1w{t:Bytes}{l:Lex}{k:Nat}(h:lexAt t=some (l,k)):lw l<=2 * k:=by
 unfold lexAt at h;split at h
 ·cases h
 ·rename_i c r;split at h
  ·rename_i hl;dsimp only at h;split at h
   ·cases h;have wb:wordByte c=true:=by unfold wordByte;rw [hl];rfl
    have wd:word ((c::r).takeWhile wordByte)=true:=by
     rw [List.takeWhile_cons,if_pos wb];rename_i hk;rw [List.takeWhile_cons,if_pos wb,List.length_cons] at hk;show (letter c && ((r.takeWhile wordByte).all wordByte && decide ((r.takeWhile wordByte).length<=15)))=true
     rw [hl,Bool.true_and,Bool.and_eq_true];exact ⟨List.all_eq_true.mpr λd hd=>jnz _ d hd,decide_eq_true (by omega)⟩
    rw [lw,ne,if_pos wd];omega
   ·cases h
  split at h
  ·dsimp only at h;split at h
   ·rename_i hd hk;cases h;simp only [Bool.and_eq_true,decide_eq_true_eq] at hk;have n1:=jwh ((c::r).takeWhile digit) (jnz _)
    have pos:0 < ((c::r).takeWhile digit).length:=by rw [List.takeWhile_cons,if_pos hd,List.length_cons];omega
    have dl:=jke _ _ pos n1;rw [lw,nw,if_pos (Nat.lt_of_lt_of_le n1 (Nat.pow_le_pow_right (by decide) (by omega)))];omega
   ·cases h
  split at h
  ·rw [Option.map_eq_some_iff] at h;obtain ⟨x,hx,e⟩:=h;cases e;have:=jtm r x hx
   rw [lw];omega
  split at h
  ·cases h;rw [lw];omega
  split at h
  ·cases h;rw [lw];omega
  ·cases h
theorem ju8:∀ (n p:Nat) (t:Bytes) (ts:List Tok),tokensFrom n p t = .ok ts->tws ts<=202 * t.length:=by
 intro n;induction n with
 | zero=>intro p t ts h;cases h;rw [tws];omega
 | succ n ih =>
  intro p t ts h;cases t with
  | nil=>cases h;rw [tws];omega
  | cons c r =>
   rw [tokensFrom] at h;split at h
   ·have:=ih _ _ _ h;rw [List.length_cons];omega
   split at h
   ·have:=ih _ _ _ h;rw [List.length_drop] at this;omega
   ·split at h
    ·cases h
    ·rename_i l k hl;split at h
     ·cases h
     ·rename_i ts' hts;cases h;have:=ih _ _ _ hts
      have kl:=jdc hl;have wl:=j1w hl
      rw [List.length_drop] at this;rw [tws,tw];dsimp only;omega
theorem jtl{t:Bytes}{s:Stmts}(h:Vanbka.read t = .ok s)(ht:t.length<=600):ssw s<=200000/\s.depth<=40:=by
 unfold Vanbka.read at h;split at h
 ·cases h
 split at h
 ·cases h
 rename_i ts hts;split at h
 ·cases h
 split at h
 ·cases h
 rename_i s' hp;split at h
 ·cases h
 ·cases h;have a:=jto hp
  have c:=ju8 _ _ _ _ hts;exact ⟨by omega,by omega⟩
end Cell
end
section
set_option maxRecDepth 100000
set_option maxHeartbeats 4000000
namespace Prg
open PySem L2
open Vanbka (Bytes glue b shownNat shownInt shownByte shownQuoted put Exprs Fields Stmts)
section
variable{P:Program}{w:World}{K:PySem.W.Frag}{mg:Str->Option Value}{base:Heap}{D:Ad}
abbrev jkr:PySem.Stmt:=top 88
theorem j2e:jv ["said"] ["said"] (ji jkr):=⟨rfl,rfl,rfl,by decide +kernel,rfl,by decide +kernel,by decide +kernel⟩
theorem jr_(x:Bytes):(Vanbka.counted x).map V.int = .int (x.length:Int)::vb x:=by
 unfold Vanbka.counted vb;rw [List.map_cons,List.map_map];rfl
def jmu:Sp:=λvs H Q _=>∃ (a:Addr) (x:Bytes),vs=[.ref a]/\H a=some (.lst (vb x))/\x.length<=10000000/\∀ l H',jh H H'->H' l=some (.lst ((Vanbka.counted x).map V.int))->Q (.ref l) H'
theorem jv1{f:Addr}{fd:FuncData}(F:Fun K "tell_bytes" "tell_bytes" jkr f fd)(ml:mg "len"=none):xh P w K mg base (CXF P w) 1 f fd ["said"] jmu:=by
 refine F.okF (k:=0) j2e (λvs H Q E h=>?_) (λcdv A outer s H vs Q E hr h=>?_)
 ·obtain ⟨a,x,rfl,_⟩:=h;rfl
 obtain ⟨a,x,rfl,hx,lx,q⟩:=h;refine ⟨_,je (jp (qa qg (j3 (ja (yt x9 rfl ml PySem.boot_len (ja (pv 0) jb)) jb)) (pv 0))),?_⟩;refine ⟨_,rfl,a,_,rfl,.inl (SqL.of hx),(by show 1<=2 ^ 24;decide),λl1 m1=>⟨_,rfl,l1,a,_,_,rfl,rfl,jd,jo m1 _ _ _ hx,?_,λl2 m2=>q l2 _ ((jo m1 _).trans (jo m2 _)) ?_⟩⟩
 ·rw [xp];show 1 + x.length<=2 ^ 24
  omega
 ·rw [jd,jr_,xp];rfl
def RP(K:PySem.W.Frag)(D:Ad):List V->Hp->Bytes->Prop:=λvs H x=>∃ (l:Stmts) (a:Addr) (us:List V),vs=[.ref a]/\SqL K H a us/\us.length<=2000/\jj D.CN H (xk l) us/\l.depth<=40/\Cell.ssw l<=MW/\x=l.form
abbrev jep:PySem.Stmt:=top 98
theorem jji:jv ["statements", "statement"] ["statements"] (ji jep):=⟨rfl,rfl,rfl,by decide +kernel,rfl,by decide +kernel,by decide +kernel⟩
theorem jpf:jbo ["statements", "statement"] (ji jep) { kind:=.function,names:=[(".0",.local),("statement",.local),("write_statement",.globalImplicit)],isGenerator:=false,isCoroutine:=false } [("statement",1)]:=⟨rfl,by decide +kernel,by decide +kernel,by decide +kernel,by decide +kernel⟩
theorem joy(Kn:jr K mg "write_program" ["statements"] jep)(B:wx P w K mg base D)(I:vj P w K mg base D 40):Has P w K mg base (205 + 1) "write_program" ["statements"] (WSp (RP K D)):=by
 refine v_ Kn jji (λ_ _ _ _ h=>by obtain ⟨_,⟨l,a,us,rfl,hS,hn,hN,hd,hw,rfl⟩,_⟩:=h;rfl) λf cdv A outer s H vs Q E hr h=>?_;obtain ⟨_,⟨l,a,us,rfl,hS,hn,hN,hd,hw,rfl⟩,q⟩:=h;have nd:=jji.nd
 have m_len:=B.m_len;have m_list:=B.m_list
 have m_zip:=B.m_zip;have C:=B.C
 obtain ⟨gf,gfd,gF,gb,gk,gm⟩:=I.stmt;refine ⟨_,(je (jp (jg B.join hr rfl (ja (jeu (own:=[("statement",1)]) (te:=(yh (WSp (RS D 40 jsi)) [] (λ_ _ _=>False) (qj (qy 1) xc))) rfl nd (jab (pv 0)) jpf (λ_ _ _ _ _=>y_ (i:=1) nd rfl (Or.inl rfl)) (λ_ _ _ _ _=>jbk) (λ_ _ _ _ _=>(vf gF (hr.mono (by omega)) rfl gm gk gb .nil jb0 (ja (pv 1) jb)))) (ja jf jb)) (by omega)))),?_⟩;have fl:=Cell.jau l
 have gl:=Cell.zz (g:=[10]) (by decide) l.forms;have ln:=jj.len _ _ hN
 have lf:=jgn l;refine xz (NT.join (g:=[10]) (PcT.lc (LT.var rfl hS) (by omega) (by omega) (λi v x hv hx=>?_) (λ_=>rfl)) (by decide +kernel) (by decide) (by unfold MW at hw;omega)) q;obtain ⟨e,h1,rfl,h3,h4⟩:=jgg hx;obtain ⟨v',ev,nv⟩:=jj.get _ _ hN i _ h1;rw [hv] at ev;cases ev;exact NT.call λH' s Q' q'=>⟨_,rfl,q' _ H' (jh.refl _) ⟨e,_,rfl,trivial,jz.same s _ _ nv,by omega,by omega,rfl⟩⟩
abbrev jhy:PySem.Stmt:=top 123
theorem jjv:∀ l:Stmts,xk l=l.list.map x_
 | .nil=>by rw [xk,Stmts.list];rfl
 | .cons e l=>by rw [xk,Stmts.list,List.map_cons,jjv l]
theorem jlx:∀ l:List Vanbka.Stmt,xk (Stmts.ofList l)=l.map x_
 | []=>by rw [Stmts.ofList,xk];rfl
 | e::l=>by rw [Stmts.ofList,xk,List.map_cons,jlx l]
theorem jj.app{CN:Addr}{H:Hp}{m:List j5}{ws:List V}(h2:jj CN H m ws):∀ (l:List j5) (vs:List V),jj CN H l vs->jj CN H (l ++ m) (vs ++ ws)
 | [],vs,h=>by
  have e:vs=[]:=h;subst e;exact h2
 | x::l,vs,h=>by
  obtain ⟨v,r,rfl,h1,h3⟩:=h;exact ⟨v,r ++ ws,rfl,h1,jj.app h2 l r h3⟩
theorem jj.cutTo{CN:Addr}{H:Hp}:∀ (n:Nat) (l:List j5) (vs:List V),jj CN H l vs->jj CN H (l.take n) (vs.take n)
 | 0,l,vs,h=>rfl
 | n + 1,[],vs,h=>by
  have e:vs=[]:=h;subst e;exact rfl
 | n + 1,x::l,vs,h=>by
  obtain ⟨v,r,rfl,h1,h3⟩:=h;exact ⟨v,r.take n,rfl,h1,jj.cutTo n l r h3⟩
theorem jj.cutFrom{CN:Addr}{H:Hp}:∀ (n:Nat) (l:List j5) (vs:List V),jj CN H l vs->jj CN H (l.drop n) (vs.drop n)
 | 0,l,vs,h=>h
 | n + 1,[],vs,h=>by
  have e:vs=[]:=h;subst e;exact rfl
 | n + 1,x::l,vs,h=>by
  obtain ⟨v,r,rfl,h1,h3⟩:=h;exact jj.cutFrom n l r h3
def swL:List Vanbka.Stmt->Nat
 | []=>0
 | e::l=>20 + Cell.sw1 e + swL l
theorem jsz:∀ l:List Vanbka.Stmt,Cell.ssw (Stmts.ofList l)=swL l
 | []=>by rw [Stmts.ofList,Cell.ssw];rfl
 | e::l=>by rw [Stmts.ofList,Cell.ssw,swL,jsz l]
theorem jmt:∀ l:Stmts,Cell.ssw l=swL l.list
 | .nil=>by rw [Cell.ssw,Stmts.list];rfl
 | .cons e l=>by rw [Cell.ssw,Stmts.list,swL,jmt l]
theorem jfd:∀ l m:List Vanbka.Stmt,swL (l ++ m)=swL l + swL m
 | [],m=>by rw [List.nil_append,swL,Nat.zero_add]
 | e::l,m=>by rw [List.cons_append,swL,swL,jfd l m];omega
theorem jxy(l:List Vanbka.Stmt)(k n:Nat):swL (l.take k) + swL (l.drop (k + n))<=swL l:=by
 have e:swL l=swL (l.take k) + swL (l.drop k):=by rw [<- jfd,List.take_append_drop]
 have e2:swL (l.drop k)=swL ((l.drop k).take n) + swL ((l.drop k).drop n):=by rw [<- jfd,List.take_append_drop]
 rw [List.drop_drop] at e2;omega
theorem job:∀ {l:List Vanbka.Stmt} {d:Nat},(∀ e∈l,e.depth<=d)->(Stmts.ofList l).depth<=d
 | [],d,_=>by rw [Stmts.ofList,Stmts.depth];exact Nat.zero_le _
 | e::l,d,h=>by
  rw [Stmts.ofList,Stmts.depth];exact Nat.max_le.mpr ⟨h e (.head _),job λx z=>h x (.tail _ z)⟩
theorem jj4:∀ {l:Stmts} {e:Vanbka.Stmt},e∈l.list->e.depth<=l.depth
 | .nil,e,h=>by rw [Stmts.list] at h;cases h
 | .cons x l,e,h=>by
  rw [Stmts.list] at h;rw [Stmts.depth];rcases List.mem_cons.mp h with rfl | z
  ·exact Nat.le_max_left _ _
  ·exact Nat.le_trans (jj4 z) (Nat.le_max_right _ _)
theorem j06{xs:List V}{n:Nat}(h:n<=xs.length):jcj xs none (some (n:Int))=xs.take n:=by
 unfold jcj;rw [HT.jd6,HT.jnj,Nat.min_eq_left h,List.drop_zero,Nat.sub_zero]
def jmy(K:PySem.W.Frag)(g:Int->Int->Bytes->Bytes->Vanbka.Answer):Sp:=λvs H Q _=>∃ (k n:Int) (a:Addr) (t:Bytes) (b:Addr) (u:Bytes),vs=[.int k,.int n,.ref a,.ref b]/\SqL K H a (vb t)/\SqL K H b (vb u)/\∀ l H',H' l=some (.lst ((told (g k n t u)).map V.int))->Q (.ref l) H'
def jbg(k n:Int)(t u:Bytes):Vanbka.Answer:=Vanbka.answer (.splice k n t u)
theorem jm8:jv ["k", "n", "text_a", "text_b", "program_a", "program_b", "written"] ["k", "n", "text_a", "text_b"] (ji jhy):=⟨rfl,rfl,rfl,by decide +kernel,rfl,by decide +kernel,by decide +kernel⟩
theorem jtu{f fI:Addr}{fd fdI:FuncData}(F:Fun K "splice" "splice" jhy f fd)(T:vt K mg D.CF fI fdI)(GL:Has P w K mg base 1 "is_too_long" ["text"] (jmx K))(G:Has P w K mg base 506 "read_good" ["text"] (jg2 K D))(GP:Has P w K mg base 206 "write_program" ["statements"] (WSp (RP K D)))(GT:Has P w K mg base 1 "tell_bytes" ["said"] jmu)(ml:mg "len"=none)(c2:CI mg "TOO_LONG" (-1))(c3:CI mg "NOT_GOOD" (-2))(c4:CI mg "NO_SUCH_STATEMENTS" (-3))(c5:CI mg "LONG_FORM" (-4)) :
  xh P w K mg base (CXF P w) 507 f fd ["k", "n", "text_a", "text_b"] (jmy K jbg):=by
 refine F.okF (k:=506) jm8 (λvs H Q E h=>?_) (λcdv A outer s H vs Q E hr h=>?_)
 ·obtain ⟨k,n,a,t,b,u,rfl,_⟩:=h;rfl
 obtain ⟨k,n,a,t,b,u,rfl,hS,hU,q⟩:=h;have nd:=jm8.nd
 obtain ⟨gf,gfd,gF,gb,gk,gm⟩:=G;refine ⟨_,(jc (qh (PW.pt (jh0 (jcd (jg GL hr rfl (ja (pv 2) jb))) (jhd (jcd (jg GL hr rfl (ja (pv 3) jb)))))) (je (jp (j3 (ja (qx c2 rfl) jb)))) jy)
   (jc (jx_ (tb:=λEB=>jby (jgx (yh (jg2 K D) [] EB (qj (qy 2) xc)) (jai 4)) (jgx (yh (jg2 K D) [] EB (qj (qy 3) xc)) (jai 5))) (ts:=jfw (jgw (qj (tC (.int (-2))) xc))) rfl rfl rfl rfl T.m T.x (λ_ _ _ hp=>(jc (ju (i:=4) nd rfl (Or.inl rfl) (vf gF hr rfl gm gk gb .nil hp (ja (pv 2) jb))) (je (ju (i:=5) nd rfl (Or.inl rfl) (vf gF hr rfl gm gk gb .nil hp (ja (pv 3) jb)))))) (λ_ _=>(je (jp (j3 (ja (qx c3 rfl) jb))))))
   (jc (qh (PW.pt (jh0 (js jdx (pv 0) qd (j6 _)) (jh0 (js jdx (pv 1) qd (j6 _)) (jhd (js jdz (qa jam (pv 0) (pv 1)) (yt x9 rfl ml PySem.boot_len (ja (pv 4) jb)) (j6 _)))))) (je (jp (j3 (ja (qx c4 rfl) jb)))) jy)
   (jc (ju (i:=6) nd rfl (Or.inl rfl) (jg GP hr rfl (ja (qa qg (qa qg (ja6 jb3 (pv 4) jd7 (jar (pv 0))) (pv 5)) (ja6 jb3 (pv 4) (jar (qa jam (pv 0) (pv 1))) jd7)) jb)))
   (jc (qh (jcd (jg GL hr rfl (ja (pv 6) jb))) (je (jp (j3 (ja (qx c5 rfl) jb)))) jy)
   (je (jp (jg GT hr rfl (ja (pv 6) jb))))))))),?_⟩
 have qq:∀ l H',H' l=some (.lst ((told (Vanbka.withTwo t u λs z=>if k < 0\/n < 0\/(s.list.length:Int) < k + n then .refused (-3) else
   let f:=(Vanbka.spliced k.toNat n.toNat s z).form
   if Vanbka.LONGEST < f.length then .refused (-4) else Vanbka.bytesTold f)).map V.int))->Q (.ref l) H':=q
 unfold Vanbka.withTwo at qq;have long:(Vanbka.LONGEST < t.length\/Vanbka.LONGEST < u.length)->∀ l H',H' l=some (.lst [V.int (-1)])->Q (.ref l) H':=λc=>by
  rw [if_pos (by simpa using c)] at qq;exact qq
 refine ⟨_,rfl,a,t,rfl,hS,_,rfl,qb (λc=>?_) (λc=>?_)⟩
 ·exact ⟨(by show 1<=2 ^ 24;decide),λl nl=>long (.inl (of_decide_eq_true c)) l _ jd⟩
 have n1:¬ Vanbka.LONGEST < t.length:=λz=>c (decide_eq_true z);refine ⟨_,rfl,b,u,rfl,hU,_,rfl,qb (λc=>?_) (λc=>?_)⟩
 ·exact ⟨(by show 1<=2 ^ 24;decide),λl nl=>long (.inr (of_decide_eq_true c)) l _ jd⟩
 have n2:¬ Vanbka.LONGEST < u.length:=λz=>c (decide_eq_true z);rw [if_neg (by simpa using ⟨Nat.not_lt.mp n1,Nat.not_lt.mp n2⟩)] at qq;have l1:t.length<=600:=by unfold Vanbka.LONGEST at n1;omega
 have l2:u.length<=600:=by unfold Vanbka.LONGEST at n2;omega
 cases r1:Vanbka.read t with
 | error e =>
  rw [r1] at qq;refine ⟨λC' dxo H'=>∃ dx,C' = .ref D.CF/\dxo=some dx,⟨_,rfl,a,t,rfl,hS,l1,?_⟩,?_⟩
  ·rw [r1];exact λdx H' hx=>⟨dx,rfl,rfl⟩
  ·rintro C' dxo H' ⟨dx,rfl,rfl⟩;exact ⟨rfl,dx,rfl,λσ' H2 hl sm=>⟨(by show 1<=2 ^ 24;decide),λl nl=>qq l _ jd⟩⟩
 | ok sa =>
  rw [r1] at qq;obtain ⟨w1,d1⟩:=Cell.jtl r1 l1;cases r2:Vanbka.read u with
  | error e =>
   rw [r2] at qq;refine ⟨λC' dxo H'=>∃ dx,C' = .ref D.CF/\dxo=some dx,⟨_,rfl,a,t,rfl,hS,l1,?_⟩,?_⟩
   ·rw [r1];intro va H1 s1 ra;refine ⟨_,rfl,b,u,rfl,s1.seq hU,l2,?_⟩;rw [r2];exact λdx H' hx=>⟨dx,rfl,rfl⟩
   ·rintro C' dxo H' ⟨dx,rfl,rfl⟩;exact ⟨rfl,dx,rfl,λσ' H2 hl sm=>⟨(by show 1<=2 ^ 24;decide),λl nl=>qq l _ jd⟩⟩
  | ok sb =>
   rw [r2] at qq;obtain ⟨w2,d2⟩:=Cell.jtl r2 l2;refine ⟨λ_ _ _=>False,⟨_,rfl,a,t,rfl,hS,l1,?_⟩,λ_ _ _ z=>z.elim⟩;rw [r1];intro va H1 s1 ra;obtain ⟨pa,ua,rfl,hpa,lpa,hNa⟩:=ra;refine ⟨_,rfl,b,u,rfl,s1.seq hU,l2,?_⟩;rw [r2];intro vbb H2 s2 rb;obtain ⟨pb,ub,rfl,hpb,lpb,hNb⟩:=rb;have hpa:=s2 _ _ hpa
   have hNa:=jj.same s2 _ _ hNa;rw [jjv] at hNa hNb;have lna:=jj.len _ _ hNa
   rw [List.length_map] at lna;have qq:∀ l H',H' l=some (.lst ((told (if k < 0\/n < 0\/(sa.list.length:Int) < k + n then .refused (-3) else
    if Vanbka.LONGEST < (Vanbka.spliced k.toNat n.toNat sa sb).form.length then .refused (-4) else Vanbka.bytesTold (Vanbka.spliced k.toNat n.toNat sa sb).form)).map V.int))->Q (.ref l) H':=qq
   have none3:(k < 0\/n < 0\/(sa.list.length:Int) < k + n)->∀ l H',H' l=some (.lst [V.int (-3)])->Q (.ref l) H':=λc=>by
    rw [if_pos c] at qq;exact qq
   refine ⟨_,rfl,_,_,rfl,rfl,_,rfl,qb (λc=>?_) (λc=>?_)⟩
   ·exact ⟨(by show 1<=2 ^ 24;decide),λl nl=>none3 (.inl (of_decide_eq_true c)) l _ jd⟩
   have k0:¬ k < 0:=λz=>c (decide_eq_true z);refine ⟨_,rfl,_,_,rfl,rfl,_,rfl,qb (λc=>?_) (λc=>?_)⟩
   ·exact ⟨(by show 1<=2 ^ 24;decide),λl nl=>none3 (.inr (.inl (of_decide_eq_true c))) l _ jd⟩
   have n0:¬ n < 0:=λz=>c (decide_eq_true z);refine ⟨_,rfl,_,rfl,_,_,rfl,rfl,_,rfl,pa,ua,rfl,.inl (SqL.of hpa),_,_,rfl,rfl,_,rfl,qb (λc=>?_) (λc=>?_)⟩
   ·have c:(ua.length:Int) < k + n:=of_decide_eq_true c;exact ⟨(by show 1<=2 ^ 24;decide),λl nl=>none3 (.inr (.inr (by omega))) l _ jd⟩
   have c:¬ (ua.length:Int) < k + n:=λz=>c (decide_eq_true z);rw [if_neg (by rintro (z | z | z) <;> omega)] at qq;obtain ⟨k,rfl⟩:=Int.eq_ofNat_of_zero_le (show 0<=k by omega);obtain ⟨n,rfl⟩:=Int.eq_ofNat_of_zero_le (show 0<=n by omega);rw [Int.toNat_natCast,Int.toNat_natCast] at qq;have kn:k + n<=ua.length:=by omega
   have lk:k<=ua.length:=by omega
   have e1:jcj ua none (some (k:Int))=ua.take k:=j06 lk;have e2:jcj ua (some ((k:Int) + (n:Int))) none=ua.drop (k + n):=jod (n:=k + n) kn
   have hNs:jj D.CN H2 (xk (Vanbka.spliced k n sa sb)) (ua.take k ++ ub ++ ua.drop (k + n)):=by
    unfold Vanbka.spliced;rw [jlx,List.map_append,List.map_append,List.map_take,List.map_drop];exact jj.app (jj.cutFrom _ _ _ hNa) _ _ (jj.app hNb _ _ (jj.cutTo _ _ _ hNa))
   have dp:(Vanbka.spliced k n sa sb).depth<=40:=by
    refine job λe he=>?_;rcases List.mem_append.mp he with he | he
    ·rcases List.mem_append.mp he with he | he
     ·exact Nat.le_trans (jj4 (List.mem_of_mem_take he)) d1
     ·exact Nat.le_trans (jj4 he) d2
    ·exact Nat.le_trans (jj4 (List.mem_of_mem_drop he)) d1
   have sw:Cell.ssw (Vanbka.spliced k n sa sb)<=400000:=by
    unfold Vanbka.spliced;have:=jxy sa.list k n
    rw [jmt] at w1 w2;rw [jsz,jfd,jfd];omega
   refine ⟨_,rfl,_,rfl,_,rfl,pa,ua,rfl,SqL.of hpa,λp1 m1=>?_⟩;rw [e1];have t1:jh H2 (upd H2 p1 (.lst (ua.take k))):=jo m1 _
   refine ⟨_,rfl,p1,pb,_,_,rfl,rfl,jd,t1 _ _ hpb,?_,λp2 m2=>?_⟩
   ·rw [List.length_take];show min k ua.length + ub.length<=2 ^ 24
    omega
   have t2:=jo m2 (.lst (ua.take k ++ ub));refine ⟨_,rfl,_,rfl,_,rfl,_,_,rfl,rfl,_,rfl,pa,ua,rfl,SqL.of (t2 _ _ (t1 _ _ hpa)),λp3 m3=>?_⟩;rw [e2];have t3:=jo m3 (.lst (ua.drop (k + n)))
   refine ⟨p2,p3,_,_,rfl,rfl,t3 _ _ jd,jd,?_,λp4 m4=>?_⟩
   ·rw [List.length_append,List.length_take,List.length_drop];show min k ua.length + ub.length + (ua.length - (k + n))<=2 ^ 24
    omega
   have t4:=jo m4 (.lst (ua.take k ++ ub ++ ua.drop (k + n)));have fl:=Cell.jau (Vanbka.spliced k n sa sb)
   have gl:=Cell.zz (g:=[10]) (by decide) (Vanbka.spliced k n sa sb).forms;refine ⟨(Vanbka.spliced k n sa sb).form,⟨_,p4,_,rfl,SqL.of jd,?_,jj.same (t1.trans (t2.trans (t3.trans t4))) _ _ hNs,dp,(by unfold MW;omega),rfl⟩,λp5 H5 s5 m5 e5=>?_⟩
   ·rw [List.length_append,List.length_append,List.length_take,List.length_drop];omega
   refine ⟨_,rfl,p5,_,rfl,SqL.of e5,_,rfl,qb (λc=>?_) (λc=>?_)⟩
   ·rw [if_pos (of_decide_eq_true c)] at qq;exact ⟨(by show 1<=2 ^ 24;decide),λl nl=>qq l _ jd⟩
   ·rw [if_neg λz=>c (decide_eq_true z)] at qq;exact ⟨_,rfl,p5,_,rfl,e5,(by show (glue [10] (Vanbka.spliced k n sa sb).forms).length<=10000000;omega),λl H3 _ e3=>qq l _ e3⟩
end
end Prg
end
section
set_option maxRecDepth 100000
set_option maxHeartbeats 2000000
namespace L2
open PySem PySem.Spec PyProof.Rows
open PySem.W (WData Codec OpenSpec Well WellAll ReadsW ReadsAllW)
mutual
inductive Dw(K:PySem.W.Frag)(H:Hp):V->WData->Prop
 | non:Dw K H .non .none
 | bl (b:Bool):Dw K H (.bl b) (.bool b)
 | int (i:Int):Dw K H (.int i) (.int i)
 | str (x:Str):Dw K H (.str x) (.str x)
 | byt (b:Array UInt8):Dw K H (.byt b) (.bytes b.toList)
 | lst {a:Addr} {xs:List V} {ds:List WData}:SqL K H a xs->jcl K H xs ds->Dw K H (.ref a) (.list ds)
 | tup {a:Addr} {xs:List V} {ds:List WData}:SqT K H a xs->jcl K H xs ds->Dw K H (.ref a) (.tuple ds)
inductive jcl(K:PySem.W.Frag)(H:Hp):List V->List WData->Prop
 | nil:jcl K H [] []
 | cons {v:V} {vs:List V} {d:WData} {ds:List WData}:Dw K H v d->jcl K H vs ds->jcl K H (v::vs) (d::ds)
end
theorem jp8{K:PySem.W.Frag}{H:Hp}:∀ ns:List Int,jcl K H (ns.map V.int) (ns.map WData.int)
 | []=>.nil
 | n::r=>.cons (.int n) (jp8 r)
theorem jk2{K:PySem.W.Frag}{H:Hp}:∀ (ns:List Int) (xs:List V),jcl K H xs (ns.map WData.int)->xs=ns.map V.int
 | [],xs,h=>by
  cases h;rfl
 | n::r,xs,h=>by
  cases h with
  | cons h1 h2 =>
   cases h1;rw [jk2 r _ h2] <;> rfl
section
variable{P:Program}{w:World}{K:PySem.W.Frag}{H:Hp}{h:Heap}{R:PySem.W.WRecords}{cl:Str->Option Addr}
theorem jzp{a:Addr}{xs:List V}(hok:HOk P w H h)(KX:K.In h)(q:SqL K H a xs):∃ (its:List Value) (o:Obj) (n:Nat),q_ xs its/\h.get? a=some o/\o.cls = .type "list"/\o.data = .seq its.toArray n:=by
 rcases q with q | ⟨o,its,n,e,hc,_,hd,_,hv⟩
 ·obtain ⟨_,its,n,hv,e⟩:=(show y6 P w H h a (.lst xs) from q.ok hok)
  exact ⟨its,_,n,hv,e,rfl,rfl⟩
 ·exact ⟨its.toList,o,n,hv,KX _ _ e,hc,by simp [hd]⟩
theorem jzo{a:Addr}{xs:List V}(hok:HOk P w H h)(KX:K.In h)(q:SqT K H a xs):∃ (its:List Value) (o:Obj) (n:Nat),q_ xs its/\h.get? a=some o/\o.cls = .type "tuple"/\o.data = .seq its.toArray n:=by
 rcases q with q | ⟨o,its,n,e,hc,hd,_,hv⟩
 ·obtain ⟨_,its,hv,o,e,hc,n,hd⟩:=(show y6 P w H h a (.tup xs) from q.ok hok)
  exact ⟨its,o,n,hv,e,hc,hd⟩
 ·exact ⟨its.toList,o,n,hv,KX _ _ e,hc,by simp [hd]⟩
mutual
theorem Dw.reads(hok:HOk P w H h)(KX:K.In h):∀ (d:WData) (v:V) (u:Value),Dw K H v d->xj v u->∃ as,ReadsW R cl h u d as
 | .none,_,_,x,r=>by
  cases x;cases r;exact ⟨_,ReadsW.none⟩
 | .bool b,_,_,x,r=>by
  cases x;cases r;exact ⟨_,ReadsW.bool b⟩
 | .int i,_,_,x,r=>by
  cases x;obtain ⟨t,rfl⟩:=r;exact ⟨_,ReadsW.int i t⟩
 | .str s,_,_,x,r=>by
  cases x;obtain ⟨t,rfl⟩:=r;exact ⟨_,ReadsW.str s t⟩
 | .bytes b,_,_,x,r=>by
  cases x;obtain ⟨t,rfl⟩:=r;exact ⟨_,ReadsW.bytes _ t⟩
 | .list ds,_,_,x,r=>by
  cases x with
  | lst hs ha =>
   cases r;obtain ⟨its,o,n,rv,ho,hc,hd⟩:=jzp hok KX hs;obtain ⟨as,hr⟩:=Dw.readsAll hok KX ds _ its ha rv;exact ⟨_,ReadsW.list ho hc hd hr⟩
 | .tuple ds,_,_,x,r=>by
  cases x with
  | tup hs ha =>
   cases r;obtain ⟨its,o,n,rv,ho,hc,hd⟩:=jzo hok KX hs;obtain ⟨as,hr⟩:=Dw.readsAll hok KX ds _ its ha rv;exact ⟨_,ReadsW.tuple ho hc hd hr⟩
 | .float _,_,_,x,_=>by cases x
 | .dict _,_,_,x,_=>by cases x
 | .bytearray _,_,_,x,_=>by cases x
 | .set _,_,_,x,_=>by cases x
 | .frozenset _,_,_,x,_=>by cases x
 | .obj _ _,_,_,x,_=>by cases x
theorem Dw.readsAll(hok:HOk P w H h)(KX:K.In h):∀ (ds:List WData) (vs:List V) (us:List Value),jcl K H vs ds->q_ vs us->∃ as,ReadsAllW R cl h us ds as
 | [],_,_,x,r=>by
  cases x;cases r;exact ⟨_,ReadsAllW.nil⟩
 | d::ds,_,_,x,r=>by
  cases x with
  | cons h1 h2 =>
   cases r with
   | cons r1 r2 =>
    obtain ⟨as,q1⟩:=Dw.reads hok KX d _ _ h1 r1;obtain ⟨bs,q2⟩:=Dw.readsAll hok KX ds _ _ h2 r2;exact ⟨_,ReadsAllW.cons q1 q2⟩
end
end
mutual
def plW:WData->Bool
 | .none=>true
 | .bool _=>true
 | .int _=>true
 | .str _=>true
 | .bytes _=>true
 | .list xs=>jdk xs
 | .tuple xs=>jdk xs
 | _=>false
def jdk:List WData->Bool
 | []=>true
 | x::r=>plW x && jdk r
end
theorem jns{α:Type}{f:α->WData}(h:∀ a,plW (f a)=true):∀ l:List α,jdk (l.map f)=true
 | []=>rfl
 | x::r=>by
  show (plW (f x) && jdk (r.map f))=true;rw [h x,jns h r] <;> rfl
theorem jda:∀ (c:Codec) (a:c.denote),plW (c.enc a)=true
 | .unit,_=>rfl
 | .bool,_=>rfl
 | .int _ _,_=>rfl
 | .nat _ _,_=>rfl
 | .u8,_=>rfl
 | .bytes _ _,_=>rfl
 | .text _ _ _ _,_=>rfl
 | .list _ _ c,a=>jns (λx=>jda c x) a
 | .pair c d,a=>by
  show (plW (c.enc a.1) && (plW (d.enc a.2) && true))=true;rw [jda c a.1,jda d a.2] <;> rfl
 | .triple c d e,a=>by
  show (plW (c.enc a.1) && (plW (d.enc a.2.1) && (plW (e.enc a.2.2) && true)))=true;rw [jda c a.1,jda d a.2.1,jda e a.2.2] <;> rfl
 | .option c,none=>rfl
 | .option c,some x=>jda c x
theorem jlr:∀ (cs:List Codec) (a:Codec.denoteAll cs),jdk (Codec.encAll cs a)=true
 | [],_=>rfl
 | c::cs,a=>by
  show (plW (c.enc a.1) && jdk (Codec.encAll cs a.2))=true;rw [jda c a.1,jlr cs a.2] <;> rfl
theorem jfv:∀ {xs:List WData} {d:WData},d∈xs->d.weight<=WData.weightAll xs
 | [],d,h=>absurd h (by simp)
 | x::r,d,h=>by
  show d.weight<=x.weight + 1 + WData.weightAll r;rcases List.mem_cons.mp h with e | m
  ·rw [e];omega
  ·have z:=jfv m;omega
def toV:Value->V
 | .none=>.non
 | .bool b=>.bl b
 | .int i _=>.int i
 | .str x _=>.str x
 | .bytes b _=>.byt b
 | .ref a=>.ref a
 | _=>.non
def OkU(A:List Addr):Value->Prop
 | .none=>True
 | .bool _=>True
 | .int _ _=>True
 | .str _ _=>True
 | .bytes _ _=>True
 | .ref a=>a∈A
 | _=>False
theorem OkU.mono{A B:List Addr}(h:∀ a∈A,a∈B):∀ {u:Value},OkU A u->OkU B u:=λ{u} x=>by
 cases u with
 | ref a=>exact h a x
 | none=>trivial
 | bool b=>trivial
 | int i t=>trivial
 | str s t=>trivial
 | bytes b t=>trivial
 | _=>exact False.elim x
theorem jvi{A:List Addr}{u:Value}(x:OkU A u):xj (toV u) u:=by
 cases u with
 | ref a=>rfl
 | none=>rfl
 | bool b=>rfl
 | int i t=>exact ⟨t,rfl⟩
 | str s t=>exact ⟨t,rfl⟩
 | bytes b t=>exact ⟨t,rfl⟩
 | _=>exact False.elim x
theorem jcm{A:List Addr}:∀ {vs:List Value},(∀ u∈vs,OkU A u)->q_ (vs.map toV) vs
 | [],_=>.nil
 | u::r,h=>.cons (jvi (h u (List.mem_cons_self ..))) (jcm λx hx=>h x (List.mem_cons_of_mem _ hx))
def jbx(h:Heap)(A:List Addr)(a:Addr):Prop:=∃ vs:List Value,vs.length<=sizeLine/\(∀ u∈vs,OkU A u)/\
 (h.get? a=some { cls:=.type "list",data:=.seq vs.toArray }\/h.get? a=some { cls:=.type "tuple",data:=.seq vs.toArray })
theorem jbx.mono{h:Heap}{A B:List Addr}{a:Addr}(k:∀ a∈A,a∈B)(x:jbx h A a):jbx h B a:=by
 obtain ⟨vs,h1,h2,h3⟩:=x;exact ⟨vs,h1,λu hu=>(h2 u hu).mono k,h3⟩
theorem jcv{P:Params}{h:Heap}:∀ {vs:List Value} {ds:List WData},WellAll P h vs ds->vs.length=ds.length
 | _,_,.nil=>rfl
 | _,_,.cons _ b=>by
  show _ + 1=_ + 1;rw [jcv b]
theorem jlc{P:Params}{h:Heap}{v:Value}{ds:List WData}(x:Well P h v (.list ds)):∃ (a:Addr) (vs:List Value),v = .ref a/\h.get? a=some { cls:=.type "list",data:=.seq vs.toArray }/\WellAll P h vs ds:=by
 cases x with
 | list ho hall=>exact ⟨_,_,rfl,ho,hall⟩
theorem ji_{P:Params}{h:Heap}{v:Value}{ds:List WData}(x:Well P h v (.tuple ds)):∃ (a:Addr) (vs:List Value),v = .ref a/\h.get? a=some { cls:=.type "tuple",data:=.seq vs.toArray }/\WellAll P h vs ds:=by
 cases x with
 | tuple ho hall=>exact ⟨_,_,rfl,ho,hall⟩
theorem jld{P:Params}{h:Heap}{us:List Value}{d:WData}{ds:List WData}(x:WellAll P h us (d::ds)):∃ (v:Value) (vs:List Value),us=v::vs/\Well P h v d/\WellAll P h vs ds:=by
 cases x with
 | cons a b=>exact ⟨_,_,rfl,a,b⟩
theorem jp5{n:Nat}(h:n<=1048576):n<=sizeLine:=Nat.le_trans h (by decide)
section
variable{P:Params}{h:Heap}
mutual
theorem jw2:∀ (d:WData) (v:Value),Well P h v d->plW d=true->d.weight<=1048576->∃ A:List Addr,OkU A v/\∀ a∈A,jbx h A a
 | .none,_,x,_,_=>by
  cases x;exact ⟨[],trivial,λa m=>absurd m (by simp)⟩
 | .bool b,_,x,_,_=>by
  cases x;exact ⟨[],trivial,λa m=>absurd m (by simp)⟩
 | .int i,_,x,_,_=>by
  cases x;exact ⟨[],trivial,λa m=>absurd m (by simp)⟩
 | .str s,_,x,_,_=>by
  cases x;exact ⟨[],trivial,λa m=>absurd m (by simp)⟩
 | .bytes b,_,x,_,_=>by
  cases x;exact ⟨[],trivial,λa m=>absurd m (by simp)⟩
 | .list ds,_,x,p,z=>by
  obtain ⟨a,vs,rfl,ho,hall⟩:=jlc x;have z2:WData.weightAll ds<=1048576:=z
  obtain ⟨A,h1,h2⟩:=jgq ds _ hall p λd hd=>Nat.le_trans (jfv hd) z2;have k:∀ b∈A,b∈a::A:=λb hb=>List.mem_cons_of_mem _ hb
  refine ⟨a::A,List.mem_cons_self ..,λb hb=>?_⟩;rcases List.mem_cons.mp hb with e | m
  ·rw [e];exact ⟨vs,jp5 (by rw [jcv hall];exact Nat.le_trans (PySem.W.length_le_weightAllW ds) z2),λu hu=>(h1 u hu).mono k,.inl ho⟩
  ·exact (h2 b m).mono k
 | .tuple ds,_,x,p,z=>by
  obtain ⟨a,vs,rfl,ho,hall⟩:=ji_ x;have z2:WData.weightAll ds<=1048576:=z
  obtain ⟨A,h1,h2⟩:=jgq ds _ hall p λd hd=>Nat.le_trans (jfv hd) z2;have k:∀ b∈A,b∈a::A:=λb hb=>List.mem_cons_of_mem _ hb
  refine ⟨a::A,List.mem_cons_self ..,λb hb=>?_⟩;rcases List.mem_cons.mp hb with e | m
  ·rw [e];exact ⟨vs,jp5 (by rw [jcv hall];exact Nat.le_trans (PySem.W.length_le_weightAllW ds) z2),λu hu=>(h1 u hu).mono k,.inr ho⟩
  ·exact (h2 b m).mono k
 | .float _,_,_,p,_=>Bool.noConfusion (show false=true from p)
 | .dict _,_,_,p,_=>Bool.noConfusion (show false=true from p)
 | .bytearray _,_,_,p,_=>Bool.noConfusion (show false=true from p)
 | .set _,_,_,p,_=>Bool.noConfusion (show false=true from p)
 | .frozenset _,_,_,p,_=>Bool.noConfusion (show false=true from p)
 | .obj _ _,_,_,p,_=>Bool.noConfusion (show false=true from p)
theorem jgq:∀ (ds:List WData) (vs:List Value),WellAll P h vs ds->jdk ds=true->(∀ d∈ds,d.weight<=1048576)->∃ A:List Addr,(∀ u∈vs,OkU A u)/\∀ a∈A,jbx h A a
 | [],_,x,_,_=>by
  cases x;exact ⟨[],λu m=>absurd m (by simp),λa m=>absurd m (by simp)⟩
 | d::ds,_,x,p,z=>by
  obtain ⟨v,vs,rfl,x1,x2⟩:=jld x;have q:plW d=true/\jdk ds=true:=Bool.and_eq_true_iff.mp p
  obtain ⟨A,a1,a2⟩:=jw2 d v x1 q.1 (z d (List.mem_cons_self ..));obtain ⟨B,b1,b2⟩:=jgq ds vs x2 q.2 λe he=>z e (List.mem_cons_of_mem _ he);have kA:∀ b∈A,b∈A ++ B:=λb hb=>List.mem_append.mpr (.inl hb)
  have kB:∀ b∈B,b∈A ++ B:=λb hb=>List.mem_append.mpr (.inr hb);refine ⟨A ++ B,λu hu=>?_,λb hb=>?_⟩
  ·rcases List.mem_cons.mp hu with e | m
   ·rw [e];exact a1.mono kA
   ·exact (b1 u m).mono kB
  ·rcases List.mem_append.mp hb with m | m
   ·exact (a2 b m).mono kA
   ·exact (b2 b m).mono kB
end
end
def jrx(o:Obj):Option HO:=match o.data with
 | .seq vs _=>if (o.cls == Value.type "list")=true then some (.frz o (.lst (vs.toList.map toV))) else some (.frz o (.tup (vs.toList.map toV)))
 | _=>none
def jaj(K:PySem.W.Frag)(h:Heap)(A:List Addr):Hp:=λb=>if b∈A then (if (K.lookup b).isNone=true then (h.get? b).bind jrx else none) else none
def jmj(H:Hp):Prop:=∀ b,H b=none\/∃ o u,H b=some (.frz o u)
theorem jn5(vs:List Value):jrx { cls:=.type "list",data:=.seq vs.toArray }=some (.frz { cls:=.type "list",data:=.seq vs.toArray } (.lst (vs.map toV))):=by
 show (if (Value.type "list" == Value.type "list")=true then some (HO.frz { cls:=.type "list",data:=.seq vs.toArray } (.lst (vs.toArray.toList.map toV))) else some (HO.frz { cls:=.type "list",data:=.seq vs.toArray } (.tup (vs.toArray.toList.map toV))))=_;rw [if_pos (beq_self_eq_true _)]
theorem jn4(vs:List Value):jrx { cls:=.type "tuple",data:=.seq vs.toArray }=some (.frz { cls:=.type "tuple",data:=.seq vs.toArray } (.tup (vs.map toV))):=by
 show (if (Value.type "tuple" == Value.type "list")=true then some (HO.frz { cls:=.type "tuple",data:=.seq vs.toArray } (.lst (vs.toArray.toList.map toV))) else some (HO.frz { cls:=.type "tuple",data:=.seq vs.toArray } (.tup (vs.toArray.toList.map toV))))=_;rw [if_neg (by decide)]
section
variable{P:Program}{w:World}{K:PySem.W.Frag}{h:Heap}{A:List Addr}
theorem jia{b:Addr}{o:Obj}(hb:b∈A)(hk:K.lookup b=none)(e:h.get? b=some o):jaj K h A b=jrx o:=by
 unfold jaj;rw [if_pos hb,hk,if_pos (show (none:Option Obj).isNone=true from rfl),e] <;> rfl
theorem jyz{b:Addr}{u:HO}(q:jaj K h A b=some u):b∈A/\K.lookup b=none:=by
 unfold jaj at q;by_cases hb:b∈A
 ·rw [if_pos hb] at q;cases hk:K.lookup b with
  | none=>exact ⟨hb,rfl⟩
  | some o =>
   rw [hk,if_neg (by simp)] at q;cases q
 ·rw [if_neg hb] at q;cases q
theorem jh_(ar:∀ a∈A,jbx h A a){b:Addr}{u:HO}(q:jaj K h A b=some u):K.lookup b=none/\∃ vs:List Value,vs.length<=sizeLine/\(∀ u∈vs,OkU A u)/\
  ((h.get? b=some { cls:=.type "list",data:=.seq vs.toArray }/\u = .frz { cls:=.type "list",data:=.seq vs.toArray } (.lst (vs.map toV)))\/
  (h.get? b=some { cls:=.type "tuple",data:=.seq vs.toArray }/\u = .frz { cls:=.type "tuple",data:=.seq vs.toArray } (.tup (vs.map toV)))):=by
 obtain ⟨hb,hk⟩:=jyz q;obtain ⟨vs,h1,h2,h3⟩:=ar b hb;refine ⟨hk,vs,h1,h2,?_⟩;rcases h3 with e | e
 ·rw [jia hb hk e,jn5] at q;exact .inl ⟨e,(Option.some.inj q).symm⟩
 ·rw [jia hb hk e,jn4] at q;exact .inr ⟨e,(Option.some.inj q).symm⟩
theorem jux(ar:∀ a∈A,jbx h A a):jmj (jaj K h A):=λb=>by
 cases q:jaj K h A b with
 | none=>exact .inl rfl
 | some u =>
  obtain ⟨_,vs,_,_,⟨_,e⟩ | ⟨_,e⟩⟩:=jh_ ar q
  ·exact .inr ⟨_,_,by rw [e]⟩
  ·exact .inr ⟨_,_,by rw [e]⟩
theorem jzg(ar:∀ a∈A,jbx h A a):HOk P w (jaj K h A) h:=λb u q=>by
 obtain ⟨_,vs,h1,h2,⟨e,rfl⟩ | ⟨e,rfl⟩⟩:=jh_ ar q
 ·exact ⟨e,by rw [List.length_map];exact h1,vs,_,jcm h2,e⟩
 ·exact ⟨e,by rw [List.length_map];exact h1,vs,jcm h2,_,e,rfl,_,rfl⟩
theorem jhw{c c':Value}{vs us:List Value}(e:(some { cls:=c,data:=.seq vs.toArray }:Option Obj)=some { cls:=c',data:=.seq us.toArray }):c=c'/\vs=us:=by
 have e1:=Option.some.inj e;have e2:c=c':=congrArg Obj.cls e1
 have e3:Data.seq vs.toArray=Data.seq us.toArray:=congrArg Obj.data e1;injection e3 with e4;refine ⟨e2,?_⟩;have e5:=congrArg Array.toList e4
 simpa using e5
theorem j2v(KX:K.In h)(ar:∀ a∈A,jbx h A a){a:Addr}{vs:List Value}(ha:a∈A)(e:h.get? a=some { cls:=.type "list",data:=.seq vs.toArray }):(∀ u∈vs,OkU A u)/\SqL K (jaj K h A) a (vs.map toV):=by
 obtain ⟨us,h1,h2,h3⟩:=ar a ha;have hu:us=vs:=by
  rcases h3 with q | q
  ·rw [e] at q;exact (jhw q).2.symm
  ·rw [e] at q;exact absurd (Value.type.inj (jhw q).1) (by decide)
 subst hu;refine ⟨h2,?_⟩;cases hk:K.lookup a with
 | none=>exact .inl (.inr ⟨_,by rw [jia ha hk e,jn5]⟩)
 | some o =>
  have e2:=KX a o hk;rw [e] at e2;obtain rfl:=Option.some.inj e2;exact .inr ⟨_,us.toArray,_,hk,rfl,rfl,rfl,by rw [List.size_toArray];exact h1,by simpa using jcm h2⟩
theorem j2u(KX:K.In h)(ar:∀ a∈A,jbx h A a){a:Addr}{vs:List Value}(ha:a∈A)(e:h.get? a=some { cls:=.type "tuple",data:=.seq vs.toArray }):(∀ u∈vs,OkU A u)/\SqT K (jaj K h A) a (vs.map toV):=by
 obtain ⟨us,h1,h2,h3⟩:=ar a ha;have hu:us=vs:=by
  rcases h3 with q | q
  ·rw [e] at q;exact absurd (Value.type.inj (jhw q).1) (by decide)
  ·rw [e] at q;exact (jhw q).2.symm
 subst hu;refine ⟨h2,?_⟩;cases hk:K.lookup a with
 | none=>exact .inl (.inr ⟨_,by rw [jia ha hk e,jn4]⟩)
 | some o =>
  have e2:=KX a o hk;rw [e] at e2;obtain rfl:=Option.some.inj e2;exact .inr ⟨_,us.toArray,_,hk,rfl,rfl,by rw [List.size_toArray];exact h1,by simpa using jcm h2⟩
mutual
theorem j04{Pm:Params}(KX:K.In h)(ar:∀ a∈A,jbx h A a):∀ (d:WData) (v:Value),Well Pm h v d->plW d=true->OkU A v->Dw K (jaj K h A) (toV v) d
 | .none,_,x,_,_=>by
  cases x;exact .non
 | .bool b,_,x,_,_=>by
  cases x;exact .bl b
 | .int i,_,x,_,_=>by
  cases x;exact .int i
 | .str s,_,x,_,_=>by
  cases x;exact .str s
 | .bytes b,_,x,_,_=>by
  cases x;have z:=Dw.byt (K:=K) (H:=jaj K h A) b.toArray
  exact z
 | .list ds,_,x,p,hu=>by
  obtain ⟨a,vs,rfl,ho,hall⟩:=jlc x;obtain ⟨h2,hs⟩:=j2v KX ar hu ho;exact .lst hs (jkd KX ar ds _ hall p h2)
 | .tuple ds,_,x,p,hu=>by
  obtain ⟨a,vs,rfl,ho,hall⟩:=ji_ x;obtain ⟨h2,hs⟩:=j2u KX ar hu ho;exact .tup hs (jkd KX ar ds _ hall p h2)
 | .float _,_,_,p,_=>Bool.noConfusion (show false=true from p)
 | .dict _,_,_,p,_=>Bool.noConfusion (show false=true from p)
 | .bytearray _,_,_,p,_=>Bool.noConfusion (show false=true from p)
 | .set _,_,_,p,_=>Bool.noConfusion (show false=true from p)
 | .frozenset _,_,_,p,_=>Bool.noConfusion (show false=true from p)
 | .obj _ _,_,_,p,_=>Bool.noConfusion (show false=true from p)
theorem jkd{Pm:Params}(KX:K.In h)(ar:∀ a∈A,jbx h A a):∀ (ds:List WData) (vs:List Value),WellAll Pm h vs ds->jdk ds=true->(∀ u∈vs,OkU A u)->jcl K (jaj K h A) (vs.map toV) ds
 | [],_,x,_,_=>by
  cases x;exact .nil
 | d::ds,_,x,p,hu=>by
  obtain ⟨v,vs,rfl,x1,x2⟩:=jld x;have q:plW d=true/\jdk ds=true:=Bool.and_eq_true_iff.mp p
  exact .cons (j04 KX ar d v x1 q.1 (hu _ (List.mem_cons_self ..))) (jkd KX ar ds vs x2 q.2 λu m=>hu u (List.mem_cons_of_mem _ m))
end
end
theorem js0{P:Program}{w:World}{K:PySem.W.Frag}{mg mb:Str->Option Value}{CX:CXT}{k:Nat}{fa:Addr}{fd:FuncData}{ps:List Str}{sp:Sp}{s₁:Shared}{vals:List Value}{ds:List WData}{R:PySem.W.WRecords}{cl:Str->Option Addr}{d0:WData}
  (KX:K.In s₁.heap) (hns:s₁.heap.Ns mainGlobals mg) (hb:s₁.heap.Ns builtinsNs mb) (hbb:∀ x:Str,x≠"__name__"->mb x=bootBuiltins x) (hlim:s₁.heap.NoLimit) (hg:s₁.gens = #[])
  (hwl:WellAll w.params s₁.heap vals ds) (hpl:jdk ds=true) (hwt:∀ d∈ds,d.weight<=1048576) (hr:xu k callerA)
  (F:∀ base:Heap,K.In base->base.Ns mainGlobals mg->xh P w K mg base CX k fa fd ps sp) (hbind:∀ (s:Shared) (us:List Value),us.length=ps.length->BindsTo s fd ⟨us,[]⟩ (ps.zip us)) (hlen:ds.length=ps.length)
  (hsp:∀ (H:Hp) (xs:List V),jmj H->jcl K H xs ds->sp xs H (λv H'=>Dw K H' v d0) λ_ _ _=>False)
  (hCX:∀ H e s',CX [] H s₁ (λ_ _ _=>False) e s'->False) :
  codeAny (model P w) callerA (.call (.ref fa) ⟨vals,[]⟩) (λr s'=>∃ u as,r = .ok (.ret u)/\ReadsW R cl s'.heap u d0 as/\OldK s₁.heap s'.heap/\s'.os=s₁.os/\AllBare s'.gens) s₁:=by
 obtain ⟨A,ho,ar⟩:=jgq ds vals hwl hpl hwt;have hO:jmj (jaj K s₁.heap A):=jux ar
 have hok:HOk P w (jaj K s₁.heap A) s₁.heap:=jzg ar;have hS:=jkd KX ar ds vals hwl hpl ho
 have hV:=jcm ho;have hK:∀ b u,jaj K s₁.heap A b=some u->K.lookup b=none:=λb u q=>(jh_ ar q).1
 have noA:∀ {b:Addr} {o:Obj} {es:Array DictEntry} {ep:Nat},s₁.heap.get? b=some o->o.data = .dict es ep->jaj K s₁.heap A b=none:=λ{b o es ep} e d=>by
  cases q:jaj K s₁.heap A b with
  | none=>rfl
  | some u =>
   obtain ⟨_,vs,_,_,⟨e2,_⟩ | ⟨e2,_⟩⟩:=jh_ ar q
   ·rw [e2] at e;cases e;have d':Data.seq vs.toArray _=Data.dict es ep:=d
    cases d'
   ·rw [e2] at e;cases e;have d':Data.seq vs.toArray _=Data.dict es ep:=d
    cases d'
 generalize jaj K s₁.heap A=H at hO hok hS hK noA;have base_of:∀ {b:Addr} {o:Obj},s₁.heap.get? b=some o->H b=none->(jgl s₁.heap H).get? b=some o:=λe n=>jwq e n
 have nsK:∀ {b:Addr} {m:Str->Option Value},s₁.heap.Ns b m->(jgl s₁.heap H).Ns b m:=λ{b m} ⟨o,es,ep,e,d,r⟩=>⟨o,es,ep,base_of e (noA e d),d,r⟩
 have nK:∀ b o,K.lookup b=some o->H b=none:=λb o e=>by
  cases q:H b with
  | none=>rfl
  | some u =>
   rw [hK b u q] at e;cases e
 have hKb:K.In (jgl s₁.heap H):=λb o e=>base_of (KX b o e) (nK b o e);have hM:Mod K mg (jgl s₁.heap H):=⟨hKb,nsK hns,⟨mb,nsK hb,hbb⟩,let ⟨mc,h1,h2⟩:=hlim;⟨mc,nsK h1,h2⟩⟩
 have e0:ji9 P w K mg (jgl s₁.heap H) callerA [] s₁ H:=⟨rfl,hM,λb o e=>jyy e,Nat.le_of_eq (juh _ _),trivial,λb hb=>absurd (show b∈([]:List Addr) from hb) (by simp),hok,.of_eq hg⟩
 have hl:vals.length=ps.length:=by rw [jcv hwl];exact hlen
 refine codeAny_mono ((F _ hKb (nsK hns)).run callerA [] s₁ H ⟨vals,[]⟩ vals (vals.map toV) _ _ hr e0 (hbind s₁ vals hl) hV (hsp H _ hO hS)) λr s' x=>?_;cases r with
 | error e=>exact (hCX H e s' x).elim
 | ok fl =>
  cases fl with
  | next=>exact False.elim x
  | brk=>exact False.elim x
  | cont=>exact False.elim x
  | ret u =>
   obtain ⟨v,H',os,bare,un,hok',r',q⟩:=x;have kept:∀ b o,s₁.heap.get? b=some o->s'.heap.get? b=some o:=λb o e=>by
    cases q2:H b with
    | none=>exact un.keep b o e q2 (by intro z;exact absurd (show b∈([]:List Addr) from z) (by simp)) (by simp)
    | some u2 =>
     rcases hO b with z | ⟨ob,u3,z⟩
     ·rw [q2] at z;cases z
     ·have z2:=un.frzs b ob _ z;obtain ⟨e1,_⟩:=hok b _ z;obtain ⟨e2,_⟩:=hok' b _ z2;rw [e] at e1;cases e1;exact e2
   have KX':K.In s'.heap:=λb o e=>kept b o (KX b o e);obtain ⟨as,hrd⟩:=Dw.reads (R:=R) (cl:=cl) hok' KX' d0 v u q r';exact ⟨u,as,rfl,hrd,OldK.of_keep kept,os,bare⟩
theorem jk1{ds:List WData}(h:WData.layableAll ds=true):∀ d∈ds,d.weight<=1048576:=λd hd =>
 (PySem.W.layableW_iff.mp (List.all_eq_true.mp h d hd)).2.2
theorem jkc:∀ (cs:List Codec) (a:Codec.denoteAll cs),(Codec.encAll cs a).length=cs.length
 | [],_=>rfl
 | c::cs,a=>by
  show (Codec.encAll cs a.2).length + 1=cs.length + 1;rw [jkc cs a.2]
theorem jsl{r:OpenSpec}{k:Nat}{q:Program}{loose:List Str}{XP:(Str->Option Value)->Heap->Prop}{YP:World->Heap->Prop}{d:DefRec}{K:Params->PySem.W.Frag}{CX:World->CXT}{ps:List Str}{sp:World->Sp}
  (hwell:r.wellSaid=true) (hdf:d.params.defaults=[]) (hlen:r.args.length=ps.length) (hr:xu k callerA)
  (hY:∀ (w:World) (h:Heap),YP w h->(K w.params).In h)
  (F:∀ (w:World) (mg:Str->Option Value) (fa:Addr) (h:Heap),YP w h->(K w.params).In h->h.Ns mainGlobals mg->mg d.name=some (.ref fa)->
   ∃ fd:FuncData,(∀ (s:Shared) (us:List Value),us.length=ps.length->BindsTo s fd ⟨us,[]⟩ (ps.zip us))/\
    ∀ base:Heap,(K w.params).In base->base.Ns mainGlobals mg->xh r.prog w (K w.params) mg base (CX w) k fa fd ps (sp w))
  (hsp:∀ (w:World) (H:Hp) (xs:List V) (a:Codec.denoteAll r.args),jmj H->Codec.withinAll r.args a=true->Codec.app r.args r.asked a=true->jcl (K w.params) H xs (Codec.encAll r.args a)->
   sp w xs H (λv H'=>Dw (K w.params) H' v (r.ret.enc (Codec.app r.args r.f a))) λ_ _ _=>False)
  (hCX:∀ (w:World) (H:Hp) (s:Shared) (e:Value) (s':Shared),CX w [] H s (λ_ _ _=>False) e s'->False) :
  PySem.W.WalkOS q loose XP YP r d [] (λf vs=>PySem.call f vs):=by
 intro w s_0 s₁ mg mb G Y fa o pm cd doc dV kV ho hd hcd hD hmg hg args vals as hpre hlay hrd hwl hlo;obtain ⟨a,e1,e2⟩:=PySem.W.os_pre_some hpre;obtain ⟨e3,hwi⟩:=Codec.encAll_of_decAll r.args args a e1;subst e3;have KX:=hY w _ Y
 obtain ⟨fd,hb,hF⟩:=F w mg fa _ Y KX G.T.g hmg;refine PySem.W.enter_call (codeAny_mono (js0 (R:=[]) (cl:=classAt s_0.heap) (d0:=r.ret.enc (Codec.app r.args r.f a)) KX G.T.g G.T.b G.T.builtins G.T.nolimit hg hwl (jlr _ _) (jk1 hlay) hr hF hb (by rw [jkc];exact hlen)
  (λH xs hO hS=>hsp w H xs a hO hwi e2 hS) λH e s'=>hCX w H s₁ e s') λr' s' hq=>?_)
 obtain ⟨u,as',rfl,h1,h2,h3,h4⟩:=hq;exact ⟨.inl ⟨u,_,as',rfl,λ_=>rfl,h1,(OpenSpec.post_iff hwell hwi _ _).mpr rfl,λz=>Bool.noConfusion (show false=true from z)⟩,h2,h3,h4⟩
end L2
end
section
set_option maxRecDepth 100000
set_option maxHeartbeats 4000000
namespace Prg
open PySem L2
open Vanbka (Bytes)
theorem jph{l:List Int}(h:∀ z∈l,0<=z/\z<=255):vb (VanbkaNeutral.text l)=l.map V.int:=by
 unfold vb VanbkaNeutral.text;rw [List.map_map];refine List.map_congr_left λz hz=>?_;have:=h z hz
 show V.int (((UInt8.ofNat z.toNat).toNat:Nat):Int)=V.int z;have e:(UInt8.ofNat z.toNat).toNat=z.toNat:=by
  rw [UInt8.toNat_ofNat'];exact Nat.mod_eq_of_lt (by omega)
 rw [e]
 congr 1
 omega
theorem jom{l:List Int}(h:∀ z∈l,0<=z/\z<=255):NeutralIO.bytes l=true:=by
 unfold NeutralIO.bytes;rw [List.all_eq_true];intro z hz;have:=h z hz
 simp only [Bool.and_eq_true,decide_eq_true_eq];omega
theorem yl{P:Program}{w:World}{K:PySem.W.Frag}{mg:Str->Option Value}{base:Heap}{k:Nat}{x:Str}{ps:List Str}{st:PySem.Stmt}{sp:Sp}(Kn:jr K mg x ps st)(ok:∀ f fd,Fun K x x st f fd->xh P w K mg base (CXF P w) k f fd ps sp):Has P w K mg base k x ps sp:=by
 obtain ⟨f,fd,F,b,kp,m⟩:=Kn;exact ⟨f,fd,ok f fd F,b,kp,m⟩
section
variable{P:Program}{w:World}{K:PySem.W.Frag}{mg:Str->Option Value}{h:Heap}{f:Addr}{od an:Option Addr}{sl:Array (Option Value)}{oc kV dc pm cd ct:Value}
theorem ji1{x:Str}{ps:List Str}{st:PySem.Stmt}(X:K.In h)(G:h.Ns mainGlobals mg)
  (hb:∀ (kV doc pm:Value) (an:Option Addr) (cdv ct:Value) (us:List Value),us.length=ps.length->bindArgs (PySem.W.fnOf x x (wm st) (z0 st) (ji st) .none kV doc pm an cdv ct) ⟨us,[]⟩=pure (ps.zip us))
  (a:PySem.W.nsIn K mainGlobals x=some (some (.ref f))) (l:K.lookup f=some ⟨oc,od,.func (PySem.W.fnOf x x (wm st) (z0 st) (ji st) .none kV dc pm an cd ct),sl⟩) (c:PySem.W.codeIn K cd x=true) (k:PySem.W.keepIn K (.ref f)=true):jr K mg x ps st:=by
 have F:=jfp (st:=st) l c k;exact ⟨f,_,F,F.binds hb,k,PySem.W.mg_of X G a⟩
theorem j14{x:Str}{i:Int}{t:PySem.Tok}(X:K.In h)(G:h.Ns mainGlobals mg)(a:PySem.W.nsIn K mainGlobals x=some (some (.int i t))):CI mg x i:=⟨t,PySem.W.mg_of X G a⟩
theorem j13{x z:Str}{t:PySem.Tok}(X:K.In h)(G:h.Ns mainGlobals mg)(a:PySem.W.nsIn K mainGlobals x=some (some (.str z t))):CS mg x z:=⟨t,PySem.W.mg_of X G a⟩
theorem joh{C:Addr}(pg:PySem.W.plainGet K C Str.empty=true)(hd:PySem.W.hasDictIn K C=true)(po:PySem.W.plainOver K C=true)(sa:PySem.W.findIn K (.ref C) "__setattr__"=some (some (.builtin "object.__setattr__"))):Cls K C:=⟨pg,hd,po,sa⟩
def jnl:V->Value->Bool
 | .int i,.int j _=>i == j
 | .str x,.str y _=>x == y
 | .ref a,.ref b=>a == b
 | _,_=>false
theorem jpz{x:V}{u:Value}(h:jnl x u=true):xj x u:=by
 cases x <;> cases u <;> simp only [jnl,Bool.false_eq_true,beq_iff_eq] at h
 ·subst h;exact ⟨_,rfl⟩
 ·subst h;exact ⟨_,rfl⟩
 ·subst h;rfl
def jja:List V->List Value->Bool
 | [],[]=>true
 | x::xs,u::us=>jnl x u && jja xs us
 | _,_=>false
theorem jii:∀ {xs:List V} {us:List Value},jja xs us=true->q_ xs us
 | [],[],_=>.nil
 | x::xs,u::us,h=>by
  have h:(jnl x u && jja xs us)=true:=h;rw [Bool.and_eq_true] at h;exact .cons (jpz h.1) (jii h.2)
theorem jy3{x:Str}{a:Addr}{its:Array Value}{n:Nat}{vs:List V}(X:K.In h)(G:h.Ns mainGlobals mg)(e:PySem.W.nsIn K mainGlobals x=some (some (.ref a)))(l:K.lookup a=some ⟨.type "tuple",od,.seq its n,sl⟩)(hv:jja vs its.toList=true)(hs:its.size<=1000):jfa K mg x vs :=
 ⟨a,PySem.W.mg_of X G e,λH=>.inr ⟨_,its,n,l,rfl,rfl,Nat.le_trans hs (by decide),jii hv⟩⟩
theorem z_{a:Addr}{its:Array Value}{n:Nat}{vs:List V}(l:K.lookup a=some ⟨.type "tuple",od,.seq its n,sl⟩)(hv:jja vs its.toList=true)(hs:its.size<=1000):∀ H,SqT K H a vs :=
 λH=>.inr ⟨_,its,n,l,rfl,rfl,Nat.le_trans hs (by decide),jii hv⟩
def jhn(w:World):List DictEntry->List (Key×V)->Prop
 | [],[]=>True
 | e::es,kv::kvs=>(w_ kv.1 e.key=true/\e.hash=ji2 w kv.1/\jnl kv.2 e.val=true)/\jhn w es kvs
 | _,_=>False
theorem jp9{w:World}:∀ {es:List DictEntry} {kvs:List (Key×V)},jhn w es kvs->Paired (λ(e:DictEntry) (kv:Key×V)=>w_ kv.1 e.key=true/\e.hash=ji2 w kv.1/\xj kv.2 e.val) es kvs
 | [],[],_=>.nil
 | e::es,kv::kvs,h=>.cons ⟨h.1.1,h.1.2.1,jpz h.1.2.2⟩ (jp9 h.2)
theorem jea{a:Addr}{es:Array DictEntry}{ep:Nat}{kvs:List (Key×V)}(l:K.lookup a=some ⟨.type "dict",none,.dict es ep,#[]⟩)(ha:(a == sysModules)=false)(hv:jhn w es.toList kvs):jck w K a kvs :=
 ⟨ha,_,es,ep,l,⟨rfl,rfl,rfl⟩,rfl,jp9 hv⟩
theorem two_mk{a a1 a2 a3 a4 a5:Addr}{ep:Nat}{n1 n2 n3 n4 n5:Nat}{o1 o2 o3 o4 o5:Option Addr}{s1 s2 s3 s4 s5:Array (Option Value)}{u1 u2 u3 u4 u5 x1 x2 x3 x4 x5 y1 y2 y3 y4 y5:PySem.Tok}(X:K.In h)(G:h.Ns mainGlobals mg)(e:PySem.W.nsIn K mainGlobals "TWO_BYTE_SIGNS"=some (some (.ref a)))(ha:(a == sysModules)=false)
  (l:K.lookup a=some ⟨.type "dict",none,.dict #[⟨-3471720369269462519,.ref a1,.str "==" u1⟩,⟨1934246103329546215,.ref a2,.str "!=" u2⟩,⟨5124875052475701045,.ref a3,.str "<=" u3⟩,⟨-5908778216009708212,.ref a4,.str ">=" u4⟩,⟨3070702662433416457,.ref a5,.str "++" u5⟩] ep,#[]⟩)
  (l1:K.lookup a1=some ⟨.type "tuple",o1,.seq #[.int 61 x1,.int 61 y1] n1,s1⟩) (l2:K.lookup a2=some ⟨.type "tuple",o2,.seq #[.int 33 x2,.int 61 y2] n2,s2⟩) (l3:K.lookup a3=some ⟨.type "tuple",o3,.seq #[.int 60 x3,.int 61 y3] n3,s3⟩) (l4:K.lookup a4=some ⟨.type "tuple",o4,.seq #[.int 62 x4,.int 61 y4] n4,s4⟩) (l5:K.lookup a5=some ⟨.type "tuple",o5,.seq #[.int 43 x5,.int 43 y5] n5,s5⟩):KDT P w K mg "TWO_BYTE_SIGNS" twoV:=by
 refine ⟨a,PySem.W.mg_of X G e,ha,_,_,ep,[([.inl 61,.inl 61],a1,.str "==" u1),([.inl 33,.inl 61],a2,.str "!=" u2),([.inl 60,.inl 61],a3,.str "<=" u3),([.inl 62,.inl 61],a4,.str ">=" u4),([.inl 43,.inl 43],a5,.str "++" u5)],l,⟨rfl,rfl,rfl⟩,rfl,?_,(by show ([[.inl 61,.inl 61],[.inl 33,.inl 61],[.inl 60,.inl 61],[.inl 62,.inl 61],[.inl 43,.inl 43]]:List (List Key)).Nodup;decide),?_⟩
 ·have hh:∀ i j:Int,tupleKeyHash (yn P w) [Sum.inl i,Sum.inl j]=reduceHash (Builtin.Tuple.tupleHashOf [hashInt i,hashInt j]):=λ_ _=>rfl;have e1:reduceHash (Builtin.Tuple.tupleHashOf [hashInt 61,hashInt 61]) = -3471720369269462519:=by decide +kernel
  have e2:reduceHash (Builtin.Tuple.tupleHashOf [hashInt 33,hashInt 61])=1934246103329546215:=by decide +kernel
  have e3:reduceHash (Builtin.Tuple.tupleHashOf [hashInt 60,hashInt 61])=5124875052475701045:=by decide +kernel
  have e4:reduceHash (Builtin.Tuple.tupleHashOf [hashInt 62,hashInt 61]) = -5908778216009708212:=by decide +kernel
  have e5:reduceHash (Builtin.Tuple.tupleHashOf [hashInt 43,hashInt 43])=3070702662433416457:=by decide +kernel
  show _=[⟨tupleKeyHash (yn P w) [Sum.inl 61,Sum.inl 61],.ref a1,.str "==" u1⟩,⟨tupleKeyHash (yn P w) [Sum.inl 33,Sum.inl 61],.ref a2,.str "!=" u2⟩,⟨tupleKeyHash (yn P w) [Sum.inl 60,Sum.inl 61],.ref a3,.str "<=" u3⟩,⟨tupleKeyHash (yn P w) [Sum.inl 62,Sum.inl 61],.ref a4,.str ">=" u4⟩,(⟨tupleKeyHash (yn P w) [Sum.inl 43,Sum.inl 43],.ref a5,.str "++" u5⟩:DictEntry)]
  rw [hh,hh,hh,hh,hh,e1,e2,e3,e4,e5]
 ·have it:∀ {i j:Int} {x y:PySem.Tok},ItemsAre (yn P w) [Sum.inl i,Sum.inl j] [.int i x,.int j y]:=λ{i j x y}=>.cons (jhk i x) (.cons (jhk j y) .nil);exact .cons ⟨rfl,⟨_,rfl⟩,_,_,_,l1,rfl,rfl,it⟩ (.cons ⟨rfl,⟨_,rfl⟩,_,_,_,l2,rfl,rfl,it⟩ (.cons ⟨rfl,⟨_,rfl⟩,_,_,_,l3,rfl,rfl,it⟩ (.cons ⟨rfl,⟨_,rfl⟩,_,_,_,l4,rfl,rfl,it⟩ (.cons ⟨rfl,⟨_,rfl⟩,_,_,_,l5,rfl,rfl,it⟩ .nil))))
theorem jxm{x:Str}{a:Addr}{es:Array DictEntry}{ep:Nat}{kvs:List (Key×V)}(X:K.In h)(G:h.Ns mainGlobals mg)(e:PySem.W.nsIn K mainGlobals x=some (some (.ref a)))(l:K.lookup a=some ⟨.type "dict",none,.dict es ep,#[]⟩)(ha:(a == sysModules)=false)(hv:jhn w es.toList kvs):KD w K mg x kvs:=⟨a,PySem.W.mg_of X G e,jea l ha hv⟩
theorem jxt{C fI:Addr}{dd od2:Option Addr}{cdt:ClassData}{sl sl2:Array (Option Value)}{oc2:Value}{es:Array DictEntry}{ep:Nat}{fs:List Str}(l:K.lookup C=some ⟨.type "type",dd,.cls cdt,sl⟩)(l2:K.lookup cdt.ns=some ⟨oc2,od2,.dict es ep,sl2⟩)
  (q:(match sl.toList with
   | [_,_,_,_,some (.builtin nw),_]=>cdt.mro == .ref C::jka && cdt.hasDict && !cdt.hasDel && nw == "Exception.__new__" && (es.toList.all jj1 && nsFind es "__init__" == some (.ref fI) && (nsFind es "__setattr__" == none && (nsFind es "__getattribute__" == none && (nsFind es "__getattr__" == none && fs.all λf=>nsFind es f == none))))
   | _=>false)=true) (ty:PySem.W.typeIn K (.ref fI)=some (.type "function")):jb8 K C fI fs=true:=by
 unfold jb8;rw [l];show (match sl.toList with
  | [_,_,_,_,some (.builtin nw),_]=>cdt.mro == .ref C::jka && cdt.hasDict && !cdt.hasDel && nw == "Exception.__new__" && (match K.lookup cdt.ns with
   | some ⟨_,_,.dict es _,_⟩=>es.toList.all jj1 && nsFind es "__init__" == some (.ref fI) && (nsFind es "__setattr__" == none && (nsFind es "__getattribute__" == none && (nsFind es "__getattr__" == none && fs.all λf=>nsFind es f == none)))
   | _=>false) && PySem.W.typeIn K (.ref fI) == some (.type "function")
  | _=>false)=true
 rw [l2,ty];split at q
 ·rename_i c0 c1 c2 c3 nw c5 hs;show (_ && (some (Value.type "function") == some (Value.type "function")))=true
  have:(some (Value.type "function") == some (Value.type "function"))=true:=by decide
  rw [this,Bool.and_true];exact q
 ·cases q
end
section
variable{P:Program}{w:World}{K:PySem.W.Frag}{mg:Str->Option Value}{h:Heap}{C f:Addr}{od an:Option Addr}{sl:Array (Option Value)}{oc kV dc pm cd ct:Value}
theorem ju9(X:K.In h)(G:h.Ns mainGlobals mg)(a:PySem.W.nsIn K mainGlobals "Token"=some (some (.ref C)))(cl:Cls K C)(n1:PySem.W.findIn K (.ref C) "kind"=some none)(n2:PySem.W.findIn K (.ref C) "place"=some none)(n3:PySem.W.findIn K (.ref C) "end"=some none)(n4:PySem.W.findIn K (.ref C) "value"=some none)
  (mk:PySem.W.makesIn K C=true) (i:PySem.W.findIn K (.ref C) "__init__"=some (some (.ref f))) (fn:PySem.W.isFn K (.ref f)=true) (kc:PySem.W.keepIn K (.ref C)=true)
  (l:K.lookup f=some ⟨oc,od,.func (PySem.W.fnOf "__init__" "Token.__init__" (wm jbh) (z0 jbh) (ji jbh) .none kV dc pm an cd ct),sl⟩) (c:PySem.W.codeIn K cd "Token.__init__"=true) (k:PySem.W.keepIn K (.ref f)=true):∃ tI tdI,z5 K mg C tI tdI:=by
 have F:=jfp (st:=jbh) l c k;refine ⟨f,_,⟨cl,λx hx=>?_,PySem.W.mg_of X G a⟩,⟨mk,i,fn,kc⟩,F,F.binds (ps:=["self", "kind", "place", "end", "value"]) λ_ _ _ _ _ _ us hl=>match us,hl with | [_,_,_,_,_],_=>rfl⟩;simp only [List.mem_cons,List.not_mem_nil,or_false] at hx;rcases hx with rfl | rfl | rfl | rfl
 ·exact n1
 ·exact n2
 ·exact n3
 ·exact n4
theorem jwt(X:K.In h)(G:h.Ns mainGlobals mg)(a:PySem.W.nsIn K mainGlobals "Fault"=some (some (.ref C)))(kc:PySem.W.keepIn K (.ref C)=true)(x:jb8 K C f ["number", "told"]=true)
  (l:K.lookup f=some ⟨oc,od,.func (PySem.W.fnOf "__init__" "Fault.__init__" (wm jae) (z0 jae) (ji jae) .none kV dc pm an cd ct),sl⟩) (c:PySem.W.codeIn K cd "Fault.__init__"=true) (k:PySem.W.keepIn K (.ref f)=true):∃ fI fdI,vt K mg C fI fdI:=by
 have F:=jfp (st:=jae) l c k;exact ⟨f,_,x,F,F.binds (ps:=["self", "number", "told"]) λ_ _ _ _ _ _ us hl=>match us,hl with | [_,_,_],_=>rfl,PySem.W.mg_of X G a,kc⟩
end
section
variable{P:Program}{w:World}{K:PySem.W.Frag}{mg:Str->Option Value}{h:Heap}{f:Addr}{od an:Option Addr}{sl:Array (Option Value)}{oc kV dc pm cd ct:Value}
def jdh(K:PySem.W.Frag)(C:Addr)(m qual:Str)(ps:List Str)(st:PySem.Stmt):Prop:=∃ f fd,Fun K m qual st f fd/\zk K fd ps []/\jla K C m f
theorem jl2{C:Addr}{m qual:Str}{ps:List Str}{st:PySem.Stmt}
  (hb:∀ (kV doc pm:Value) (an:Option Addr) (cdv ct:Value) (us:List Value),us.length=ps.length->bindArgs (PySem.W.fnOf m qual (wm st) (z0 st) (ji st) .none kV doc pm an cdv ct) ⟨us,[]⟩=pure (ps.zip us))
  (a:PySem.W.findIn K (.ref C) m=some (some (.ref f))) (i:PySem.W.isFn K (.ref f)=true) (l:K.lookup f=some ⟨oc,od,.func (PySem.W.fnOf m qual (wm st) (z0 st) (ji st) .none kV dc pm an cd ct),sl⟩) (c:PySem.W.codeIn K cd qual=true) (k:PySem.W.keepIn K (.ref f)=true):jdh K C m qual ps st:=by
 have F:=jfp (st:=st) l c k;exact ⟨f,_,F,F.binds hb,a,i,k⟩
theorem jh7{P:Program}{w:World}{K:PySem.W.Frag}{mg:Str->Option Value}{base:Heap}{C:Addr}{k:Nat}{m qual:Str}{ps:List Str}{st:PySem.Stmt}{sp:Sp}(Kn:jdh K C m qual ps st)(ok:∀ f fd,Fun K m qual st f fd->xh P w K mg base (CXF P w) k f fd ps sp):jax P w K mg base C k m ps sp:=by
 obtain ⟨f,fd,F,b,M⟩:=Kn;exact ⟨f,fd,ok f fd F,b,M⟩
theorem jl5(rows:List (Str×Nat))(z:Str):ze (rows.map λp=>((Sum.inr p.1:Key),V.int (p.2:Int))) (.inr z)=(rows.lookup z).map λ(m:Nat)=>V.int (m:Int):=by
 induction rows with
 | nil=>rfl
 | cons r rows ih =>
  rw [List.map_cons,List.lookup_cons];by_cases e:z=r.1
  ·subst e;rw [beq_self_eq_true,jaz rfl];rfl
  ·have n:¬ (Sum.inr r.1:Key)=Sum.inr z:=λy=>by injection y with y;exact e y.symm
   rw [beq_eq_false_iff_ne.mpr e,zr n,ih]
theorem jwx{a:Addr}{es:Array DictEntry}{ep:Nat}(X:K.In h)(G:h.Ns mainGlobals mg)(e:PySem.W.nsIn K mainGlobals "BUILT_IN"=some (some (.ref a)))(l:K.lookup a=some ⟨.type "dict",none,.dict es ep,#[]⟩)(ha:(a == sysModules)=false)
  (hv:jhn w es.toList (vi.map λp=>((Sum.inr p.1:Key),V.int (p.2:Int)))):jft w K mg:=⟨a,_,PySem.W.mg_of X G e,jea l ha hv,λz=>jl5 vi z⟩
end
section
variable{P:Program}{w:World}{K:PySem.W.Frag}{mg:Str->Option Value}{h:Heap}{C f:Addr}{od an:Option Addr}{sl:Array (Option Value)}{oc kV dc pm cd ct:Value}
theorem jxu(X:K.In h)(G:h.Ns mainGlobals mg)(a:PySem.W.nsIn K mainGlobals "Tree"=some (some (.ref C)))(cl:Cls K C)(n1:PySem.W.findIn K (.ref C) "kind"=some none)(n2:PySem.W.findIn K (.ref C) "leaves"=some none)(n3:PySem.W.findIn K (.ref C) "parts"=some none)(n4:PySem.W.findIn K (.ref C) "blocks"=some none)(n5:PySem.W.findIn K (.ref C) "depth"=some none)(n6:PySem.W.findIn K (.ref C) "place"=some none)(n7:PySem.W.findIn K (.ref C) "end"=some none)
  (mk:PySem.W.makesIn K C=true) (i:PySem.W.findIn K (.ref C) "__init__"=some (some (.ref f))) (fn:PySem.W.isFn K (.ref f)=true) (kc:PySem.W.keepIn K (.ref C)=true)
  (l:K.lookup f=some ⟨oc,od,.func (PySem.W.fnOf "__init__" "Tree.__init__" (wm ja5) (z0 ja5) (ji ja5) .none kV dc pm an cd ct),sl⟩) (c:PySem.W.codeIn K cd "Tree.__init__"=true) (k:PySem.W.keepIn K (.ref f)=true):∃ tI tdI,jkg K mg C tI tdI:=by
 have F:=jfp (st:=ja5) l c k;refine ⟨f,_,⟨cl,λx hx=>?_,PySem.W.mg_of X G a⟩,⟨mk,i,fn,kc⟩,F,F.binds (ps:=["self", "kind", "leaves", "parts", "blocks"]) λ_ _ _ _ _ _ us hl=>match us,hl with | [_,_,_,_,_],_=>rfl⟩;simp only [List.mem_cons,List.not_mem_nil,or_false] at hx;rcases hx with rfl | rfl | rfl | rfl | rfl | rfl | rfl
 ·exact n1
 ·exact n2
 ·exact n3
 ·exact n4
 ·exact n5
 ·exact n6
 ·exact n7
theorem jtk(X:K.In h)(G:h.Ns mainGlobals mg)(a:PySem.W.nsIn K mainGlobals "Reader"=some (some (.ref C)))(cl:Cls K C)(n1:PySem.W.findIn K (.ref C) "tokens"=some none)(n2:PySem.W.findIn K (.ref C) "at"=some none)
  (mk:PySem.W.makesIn K C=true) (i:PySem.W.findIn K (.ref C) "__init__"=some (some (.ref f))) (fn:PySem.W.isFn K (.ref f)=true) (kc:PySem.W.keepIn K (.ref C)=true)
  (l:K.lookup f=some ⟨oc,od,.func (PySem.W.fnOf "__init__" "Reader.__init__" (wm vq) (z0 vq) (ji vq) .none kV dc pm an cd ct),sl⟩) (c:PySem.W.codeIn K cd "Reader.__init__"=true) (k:PySem.W.keepIn K (.ref f)=true) :
  zu K mg "Reader" C ["tokens", "at"]/\∃ rI rdI,Mk K C rI/\Fun K "__init__" "Reader.__init__" vq rI rdI/\zk K rdI ["self", "tokens"] []:=by
 have F:=jfp (st:=vq) l c k;refine ⟨⟨cl,λx hx=>?_,PySem.W.mg_of X G a⟩,f,_,⟨mk,i,fn,kc⟩,F,F.binds (ps:=["self", "tokens"]) λ_ _ _ _ _ _ us hl=>match us,hl with | [_,_],_=>rfl⟩;simp only [List.mem_cons,List.not_mem_nil,or_false] at hx;rcases hx with rfl | rfl
 ·exact n1
 ·exact n2
end
def jg4:List (Str×Int×Int×Int):=[("or",1,1,2),("and",2,2,3),("==",4,5,5),("!=",4,5,5),("<",4,5,5),("<=",4,5,5),(">",4,5,5),(">=",4,5,5),("++",5,5,6),("+",6,6,7),("-",6,6,7),("*",7,7,8),("/",7,7,8),("percent",7,7,8)]
theorem js3(o:Vanbka.Op):jg4.lookup (opK o)=some ((o.strength:Int),(o.left:Int),(o.right:Int)):=by cases o <;> decide
theorem jvc(z:Str):vc.lookup z=(jg4.lookup z).map (·.1):=by
 have gen:∀ l:List (Str×Int×Int×Int),(l.map λr=>(r.1,r.2.1)).lookup z=(l.lookup z).map (·.1):=by
  intro l;induction l with
  | nil=>rfl
  | cons r l ih =>
   rw [List.map_cons,List.lookup_cons,List.lookup_cons];cases z == r.1 with
   | true=>rfl
   | false=>exact ih
 exact gen jg4
section
variable{P:Program}{w:World}{K:PySem.W.Frag}{mg:Str->Option Value}{h:Heap}
theorem jn8(rows:List (Str×(Int×Int×Int)×Addr))(hr:∀ r∈rows,∀ H,SqT K H r.2.2 [.int r.2.1.1,.int r.2.1.2.1,.int r.2.1.2.2])(z:Str):match (rows.map λr=>(r.1,r.2.1)).lookup z with
  | none=>ze (rows.map λr=>((Sum.inr r.1:Key),V.ref r.2.2)) (.inr z)=none
  | some i=>∃ t,ze (rows.map λr=>((Sum.inr r.1:Key),V.ref r.2.2)) (.inr z)=some (.ref t)/\∀ H,SqT K H t [.int i.1,.int i.2.1,.int i.2.2]:=by
 induction rows with
 | nil=>exact rfl
 | cons r rows ih =>
  rw [List.map_cons,List.map_cons,List.lookup_cons];by_cases e:z=r.1
  ·subst e;rw [beq_self_eq_true];exact ⟨r.2.2,jaz rfl,hr r (.head _)⟩
  ·rw [beq_eq_false_iff_ne.mpr e];have n:¬ (Sum.inr r.1:Key)=Sum.inr z:=λy=>by injection y with y;exact e y.symm
   have:=ih λr' h'=>hr r' (List.mem_cons_of_mem _ h');dsimp only;rw [zr n];exact this
abbrev jqd(w:World)(K:PySem.W.Frag)(mg:Str->Option Value):Prop:=∃ a kvs,mg "SIDES"=some (.ref a)/\jck w K a kvs/\∀ o:Vanbka.Op,∃ t,ze kvs (.inr (opK o))=some (.ref t)/\∀ H,SqT K H t [.int (o.strength:Nat),.int (o.left:Nat),.int (o.right:Nat)]
theorem jy8{a:Addr}{es:Array DictEntry}{ep:Nat}(X:K.In h)(G:h.Ns mainGlobals mg)(rows:List (Str×(Int×Int×Int)×Addr))(hx:(rows.map λr=>(r.1,r.2.1))=jg4)(e:PySem.W.nsIn K mainGlobals "SIDES"=some (some (.ref a)))(l:K.lookup a=some ⟨.type "dict",none,.dict es ep,#[]⟩)(ha:(a == sysModules)=false)
  (hv:jhn w es.toList (rows.map λr=>((Sum.inr r.1:Key),V.ref r.2.2))) (hr:∀ r∈rows,∀ H,SqT K H r.2.2 [.int r.2.1.1,.int r.2.1.2.1,.int r.2.1.2.2]):jfs w K mg/\jqd w K mg:=by
 refine ⟨⟨a,_,PySem.W.mg_of X G e,jea l ha hv,λz=>?_⟩,⟨a,_,PySem.W.mg_of X G e,jea l ha hv,λo=>?_⟩⟩
 ·have:=jn8 rows hr z;rw [hx] at this;rw [jvc];cases e:jg4.lookup z with
  | none=>rw [e] at this;exact this
  | some i =>
   rw [e] at this;obtain ⟨t,h1,h2⟩:=this;exact ⟨t,_,_,h1,h2⟩
 ·have:=jn8 rows hr (opK o);rw [hx,js3] at this;exact this
def jxf(K:PySem.W.Frag):List (Str×(Int×Int×Int)×Addr)->Prop
 | []=>True
 | r::l=>(∀ H,SqT K H r.2.2 [.int r.2.1.1,.int r.2.1.2.1,.int r.2.1.2.2])/\jxf K l
theorem jlo:∀ {rows:List (Str×(Int×Int×Int)×Addr)},jxf K rows->∀ r∈rows,∀ H,SqT K H r.2.2 [.int r.2.1.1,.int r.2.1.2.1,.int r.2.1.2.2]
 | [],_,r,hr=>by cases hr
 | q::l,h,r,hr=>by
  rcases List.mem_cons.mp hr with z | z
  ·subst z;exact h.1
  ·exact jlo h.2 r z
theorem j0j{a:Addr}{es:Array DictEntry}{ep:Nat}(X:K.In h)(G:h.Ns mainGlobals mg)(e:PySem.W.nsIn K mainGlobals "OTHER_STRENGTHS"=some (some (.ref a)))(l:K.lookup a=some ⟨.type "dict",none,.dict es ep,#[]⟩)(ha:(a == sysModules)=false)
  (hv:jhn w es.toList (jnu.map λp=>((Sum.inr p.1:Key),V.int (p.2:Int)))):jsf w K mg:=⟨a,_,PySem.W.mg_of X G e,jea l ha hv,λz=>jl5 jnu z⟩
theorem j02{a t1 t2 t3:Addr}{es:Array DictEntry}{ep:Nat}(X:K.In h)(G:h.Ns mainGlobals mg)(e:PySem.W.nsIn K mainGlobals "ESCAPES"=some (some (.ref a)))(l:K.lookup a=some ⟨.type "dict",none,.dict es ep,#[]⟩)(ha:(a == sysModules)=false)
  (hv:jhn w es.toList [(.inl 92,.ref t1),(.inl 34,.ref t2),(.inl 10,.ref t3)]) (h1:∀ H,SqT K H t1 [.int 92,.int 92]) (h2:∀ H,SqT K H t2 [.int 92,.int 34]) (h3:∀ H,SqT K H t3 [.int 92,.int 110]):jsh w K mg:=by
 refine ⟨a,_,PySem.W.mg_of X G e,jea l ha hv,λc=>?_⟩;have key:∀ n:Nat,¬ c.toNat=n->¬ (Sum.inl (n:Int):Key)=Sum.inl (c.toNat:Int):=λn hn y=>by injection y with y;exact hn (by omega)
 have cn:∀ (d:UInt8),¬ c=d->¬ c.toNat=d.toNat:=λd hn y=>hn (UInt8.toNat_inj.mp y);unfold jn9;by_cases e1:c=92
 ·subst e1;exact ⟨t1,jaz rfl,h1⟩
 rw [if_neg (by simpa using e1)];by_cases e2:c=34
 ·subst e2;exact ⟨t2,(zr (key 92 (cn 92 e1))).trans (jaz rfl),h2⟩
 rw [if_neg (by simpa using e2)];by_cases e3:c=10
 ·subst e3;exact ⟨t3,(zr (key 92 (cn 92 e1))).trans ((zr (key 34 (cn 34 e2))).trans (jaz rfl)),h3⟩
 rw [if_neg (by simpa using e3)];exact (zr (key 92 (cn 92 e1))).trans ((zr (key 34 (cn 34 e2))).trans ((zr (key 10 (cn 10 e3))).trans rfl))
end
structure jxr(P:Program)(w:World)(K:PySem.W.Frag)(mg:Str->Option Value)(D:Ad):Prop where
 kDigit:jr K mg "is_digit" ["byte"] jiq
 kWordB:jr K mg "is_word_byte" ["byte"] je2
 kPass:jr K mg "pass_over" ["text", "place"] jg8
 kBytes:jr K mg "check_bytes" ["text"] je4
 kNum:jr K mg "cut_number" ["text", "place"] jf8
 kWord:jr K mg "cut_word" ["text", "place"] jir
 kSpell:jr K mg "spell_lower" ["word"] jey
 kQuoted:jr K mg "cut_quoted" ["text", "place"] jf7
 kSign:jr K mg "cut_sign" ["text", "place"] jis
 kTok:jr K mg "cut_token" ["text", "place"] jg_
 kToks:jr K mg "cut_tokens" ["text"] jf6
 kRToks:jr K mg "read_tokens" ["text"] jez
 kLong:jr K mg "is_too_long" ["text"] jio
 c_LINE_FEED:CI mg "LINE_FEED" 10
 c_BLANK:CI mg "BLANK" 32
 c_LAST_ALLOWED:CI mg "LAST_ALLOWED" 126
 c_QUOTE:CI mg "QUOTE" 34
 c_HASH:CI mg "HASH" 35
 c_ZERO:CI mg "ZERO" 48
 c_NINE:CI mg "NINE" 57
 c_UNDERSCORE:CI mg "UNDERSCORE" 95
 c_BACKSLASH:CI mg "BACKSLASH" 92
 c_LONGEST_WORD:CI mg "LONGEST_WORD" 16
 c_LONGEST_NUMBER:CI mg "LONGEST_NUMBER" 30
 c_LOWER_A:CI mg "LOWER_A" 97
 c_FORBIDDEN_BYTE:CI mg "FORBIDDEN_BYTE" 1
 c_WRONG_TOKEN:CI mg "WRONG_TOKEN" 2
 c_LONGEST_TEXT:CI mg "LONGEST_TEXT" 600
 c_TOO_LONG:CI mg "TOO_LONG" (-1)
 c_LL:CS mg "LOWER_LETTERS" jd_
 n_len:mg "len"=none
 n_tuple:mg "tuple"=none
 n_enumerate:mg "enumerate"=none
 tRes:jfa K mg "RESERVED" jqx
 dEsc:KD w K mg "ESCAPED" jk6
 dOne:KD w K mg "ONE_BYTE_SIGNS" jkx
 dTwo:KDT P w K mg "TWO_BYTE_SIGNS" twoV
 oFault:∃ fI fdI,vt K mg D.CF fI fdI
 oToken:∃ tI tdI,z5 K mg D.CT tI tdI
 kExpr:jr K mg "read_expression" ["reader"] jer
 kJoined:jr K mg "read_joined" ["reader", "strength"] jc4
 kSigned:jr K mg "read_signed" ["reader"] jc1
 kReached:jr K mg "read_reached" ["reader"] jb_
 kReach:jr K mg "read_reach" ["reader", "left"] jdu
 kListed:jr K mg "read_listed" ["reader", "closing"] jc3
 kSimple:jr K mg "read_simple" ["reader"] jc0
 kBrack:jr K mg "read_bracketed" ["reader"] jbj
 kRecord:jr K mg "read_record" ["reader"] jc2
 kFn:jr K mg "read_function" ["reader"] jbv
 kBuilt:jr K mg "read_built_in" ["reader"] jca
 kBlock:jr K mg "read_block" ["reader"] jdv
 kStmts:jr K mg "read_statements" ["reader", "closing"] jay
 kStmt:jr K mg "read_statement" ["reader"] jbi
 kBind:jr K mg "read_binding" ["reader"] jcb
 kShow:jr K mg "read_showing" ["reader"] jb9
 kIf:jr K mg "read_if" ["reader"] jhz
 kWhile:jr K mg "read_while" ["reader"] jdt
 kFor:jr K mg "read_for" ["reader"] jf5
 kSlider:jr K mg "read_slider" ["reader"] jcz
 kChoice:jr K mg "read_choice" ["reader"] jc5
 kGreat:jr K mg "greatest_depth" ["trees"] jes
 kJoins:jr K mg "joins_at" ["kind", "strength"] jip
 kWhole:jr K mg "read_whole" ["reader"] jf4
 kLeaves:jr K mg "read_leaves" ["reader", "kind"] je0
 kProg:jr K mg "read_program" ["tokens"] jei
 kGood:jr K mg "read_good" ["text"] jg7
 kBr:jr K mg "check_brackets" ["tokens"] jcp
 kDepth:jr K mg "check_depth" ["program"] je3
 kEnd:jr K mg "end_token" ["text"] jg9
 mLook:jdh K D.CR "look" "Reader.look" ["self"] jqu
 mBehind:jdh K D.CR "look_behind" "Reader.look_behind" ["self"] je1
 mHere:jdh K D.CR "here" "Reader.here" ["self"] jqw
 mMove:jdh K D.CR "move_on" "Reader.move_on" ["self"] jks
 mTake:jdh K D.CR "take" "Reader.take" ["self", "kind"] jqt
 mLast:jdh K D.CR "behind_last" "Reader.behind_last" ["self"] je5
 c_DEEP_BRACKET:CI mg "DEEP_BRACKET" 3
 c_NO_PROGRAM:CI mg "NO_PROGRAM" 4
 c_DEEP_PROGRAM:CI mg "DEEP_PROGRAM" 5
 c_DEEPEST_BRACKET:CI mg "DEEPEST_BRACKET" 24
 c_DEEPEST_PROGRAM:CI mg "DEEPEST_PROGRAM" 40
 c_OR_LINE:CI mg "OR_LINE" 1
 c_NOT_LINE:CI mg "NOT_LINE" 3
 c_COMPARED_LINE:CI mg "COMPARED_LINE" 4
 c_SIGNED_LINE:CI mg "SIGNED_LINE" 8
 n_max:mg "max"=none
 tShow:jfa K mg "SHOWING" (jdr.map V.str)
 tOpen:jfa K mg "OPENING" (jjs.map V.str)
 tClose:jfa K mg "CLOSING" (jhp.map V.str)
 dBuilt:jft w K mg
 oTree:∃ nI ndI,jkg K mg D.CN nI ndI
 oReader:zu K mg "Reader" D.CR ["tokens", "at"]/\∃ rI rdI,Mk K D.CR rI/\Fun K "__init__" "Reader.__init__" vq rI rdI/\zk K rdI ["self", "tokens"] []
 kSpellS:jr K mg "spell" ["signs"] jjm
 kJoin:jr K mg "join_pieces" ["pieces", "gap"] jqv
 kWNumber:jr K mg "write_number" ["number"] jin
 kWQuoted:jr K mg "write_quoted" ["said"] jim
 kStrength:jr K mg "strength_of" ["kind"] jg6
 kWSign:jr K mg "write_sign" ["kind"] jni
 kWProgram:jr K mg "write_program" ["statements"] jep
 kWListed:jr K mg "write_listed" ["parts"] jef
 kWBlock:jr K mg "write_block" ["statements"] jfj
 kWRecord:jr K mg "write_record" ["tree"] jf2
 kWFunction:jr K mg "write_function" ["tree"] jds
 kWReach:jr K mg "write_reach" ["tree"] jhx
 kWChosen:jr K mg "write_chosen" ["tree"] jf3
 kWBetween:jr K mg "write_between" ["tree"] jeq
 kWSimple:jr K mg "write_simple" ["tree"] jf1
 kWBare:jr K mg "write_bare" ["tree"] jjl
 kWExpr:jr K mg "write_expression" ["tree", "wanted"] jjk
 kWBlocks:jr K mg "write_blocks" ["tree"] jeh
 kWSlider:jr K mg "write_slider" ["tree"] jee
 kWChoice:jr K mg "write_choice" ["tree"] jeg
 kWStatement:jr K mg "write_statement" ["tree"] jcy
 c_ANY:CI mg "ANY" 0
 c_CHOSEN:CI mg "CHOSEN" 1
 c_DENIED:CI mg "DENIED" 4
 c_REACHED:CI mg "REACHED" 9
 c_PERCENT:CI mg "PERCENT" 37
 c_GREATEST_STRENGTH:CI mg "GREATEST_STRENGTH" 10
 n_list:mg "list"=none
 n_zip:mg "zip"=none
 n_ord:mg "ord"=none
 n_str:mg "str"=none
 dSides2:jfs w K mg/\jqd w K mg
 dOth:jsf w K mg
 dEscs:jsh w K mg
 kTBytes:jr K mg "tell_bytes" ["said"] jkr
 kCall:jr K mg "splice" ["k", "n", "text_a", "text_b"] jhy
 c_NOT_GOOD:CI mg "NOT_GOOD" (-2)
 c_NO_SUCH_STATEMENTS:CI mg "NO_SUCH_STATEMENTS" (-3)
 c_LONG_FORM:CI mg "LONG_FORM" (-4)
section
variable{P:Program}{w:World}{K:PySem.W.Frag}{mg:Str->Option Value}{h:Heap}{D:Ad}{base:Heap}
theorem j01(A:jxr P w K mg D){f:Addr}{fd:FuncData}(Fa:Fun K "splice" "splice" jhy f fd):xh P w K mg base (CXF P w) 507 f fd ["k", "n", "text_a", "text_b"] (jmy K jbg):=by
 obtain ⟨fI,fdI,TF⟩:=A.oFault;obtain ⟨tI,tdI,U⟩:=A.oToken;have digit:Has P w K mg base 1 "is_digit" ["byte"] jfh:=yl A.kDigit λf fd F=>jv8 F A.c_ZERO A.c_NINE
 obtain ⟨gD,gdD,okD,bD,kD,mD⟩:=id digit;have wordB:Has P w K mg base 2 "is_word_byte" ["byte"] jhu:=yl A.kWordB λf fd F=>jvy F okD bD kD mD A.c_UNDERSCORE
 obtain ⟨gW,gdW,okW,bW,kW,mW⟩:=id wordB;have pass:Has P w K mg base 1 "pass_over" ["text", "place"] (jmw K):=yl A.kPass λf fd F=>jyo F A.n_len A.c_LINE_FEED A.c_HASH A.c_BLANK
 have bytes:Has P w K mg base 3 "check_bytes" ["text"] (jkq K D.CF):=yl A.kBytes λf fd F=>jv_ F TF A.n_enumerate A.c_LINE_FEED A.c_BLANK A.c_LAST_ALLOWED A.c_FORBIDDEN_BYTE;have num:Has P w K mg base 3 "cut_number" ["text", "place"] (jad K D.CF D.CT λc=>Vanbka.digit c=true):=yl A.kNum λf fd F=>j0o F TF U okD bD kD mD A.n_len A.c_ZERO A.c_LONGEST_NUMBER A.c_WRONG_TOKEN
 have spell:Has P w K mg base 1 "spell_lower" ["word"] (jkn K):=yl A.kSpell λf fd F=>jv3 F A.n_len A.c_LOWER_A A.c_LL;obtain ⟨gS,gdS,okS,bS,kS,mS⟩:=id spell;have word:Has P w K mg base 3 "cut_word" ["text", "place"] (jad K D.CF D.CT λc=>Vanbka.letter c=true):=yl A.kWord λf fd F=>jyh F TF U okW bW kW mW okS bS kS mS A.n_len A.tRes A.c_LONGEST_WORD A.c_WRONG_TOKEN
 have quoted:Has P w K mg base 3 "cut_quoted" ["text", "place"] (jad K D.CF D.CT λc=>c=34):=yl A.kQuoted λf fd F=>jt0 F TF U A.n_len A.dEsc A.c_QUOTE A.c_LINE_FEED A.c_BACKSLASH A.c_WRONG_TOKEN;have sign:Has P w K mg base 3 "cut_sign" ["text", "place"] (jad K D.CF D.CT λc=>Vanbka.letter c=false/\Vanbka.digit c=false/\c≠34):=yl A.kSign λf fd F=>jyl F TF U A.n_tuple A.dTwo A.dOne A.c_WRONG_TOKEN
 have tok:Has P w K mg base 4 "cut_token" ["text", "place"] (jad K D.CF D.CT λ_=>True):=yl A.kTok λf fd F=>j0n F digit wordB num word quoted sign A.c_QUOTE;have toks:Has P w K mg base 5 "cut_tokens" ["text"] (jil K D.CF D.CT):=yl A.kToks λf fd F=>jyi F U pass tok A.n_len
 have rtoks:Has P w K mg base 6 "read_tokens" ["text"] (jko K D.CF D.CT):=yl A.kRToks λf fd F=>jv4 F bytes toks;have long:Has P w K mg base 1 "is_too_long" ["text"] (jmx K):=yl A.kLong λf fd F=>jyr F A.n_len A.c_LONGEST_TEXT
 obtain ⟨nI,ndI,TN⟩:=A.oTree;obtain ⟨cR,rI,rdI,mkR,FR,bR⟩:=A.oReader;have Rd:jak K mg D.CR:=⟨cR⟩
 have look:jax P w K mg base D.CR 1 "look" ["self"] (jfe D.CT D.CR):=jh7 A.mLook λf fd F=>jyq F U Rd;have behind:jax P w K mg base D.CR 1 "look_behind" ["self"] (jf0 D.CT D.CR):=jh7 A.mBehind λf fd F=>jt2 F U Rd
 have here:jax P w K mg base D.CR 1 "here" ["self"] (jg1 D.CT D.CR):=jh7 A.mHere λf fd F=>jyu F U Rd;have last:jax P w K mg base D.CR 1 "behind_last" ["self"] (jjf D.CT D.CR):=jh7 A.mLast λf fd F=>jys F U Rd
 have move:jax P w K mg base D.CR 2 "move_on" ["self"] (jg0 D.CT D.CR):=jh7 A.mMove λf fd F=>jyp F Rd look;have take:jax P w K mg base D.CR 3 "take" ["self", "kind"] (jal D.CF D.CT D.CR):=jh7 A.mTake λf fd F=>jyj F TF U Rd look here A.c_NO_PROGRAM
 have great:Has P w K mg base 1 "greatest_depth" ["trees"] (jfg K D.CN):=yl A.kGreat λf fd F=>jv7 F TN.c A.n_max;have B:z6 P w K mg base D:=⟨A.oFault,Rd,⟨nI,ndI,TN,j1s TN great A.n_max⟩,look,behind,here,move,take,A.c_NO_PROGRAM,A.n_len,A.c_OR_LINE,A.c_NOT_LINE,A.c_COMPARED_LINE,A.c_SIGNED_LINE,last⟩
 have T:jw3 K mg:=⟨A.kExpr,A.kJoined,A.kSigned,A.kReached,A.kReach,A.kListed,A.kSimple,A.kBrack,A.kRecord,A.kFn,A.kBuilt,A.kBlock,A.kStmts,A.kStmt,A.kBind,A.kShow,A.kIf,A.kWhile,A.kFor,A.kSlider,A.kChoice⟩
 have joins:Has P w K mg base 1 "joins_at" ["kind", "strength"] jff:=yl A.kJoins λf fd F=>jv6 F A.dSides2.1;have whole:Has P w K mg base 4 "read_whole" ["reader"] (jhv D):=yl A.kWhole λf fd F=>jvz F B
 have names:Has P w K mg base 4 "read_leaves" ["reader", "kind"] (jbz D "NAME" Vanbka.name Vanbka.namesMore):=yl A.kLeaves λf fd F=>jlw jrs F B;have quots:Has P w K mg base 4 "read_leaves" ["reader", "kind"] (jbz D "QUOTED" Vanbka.quoted Vanbka.quotedMore):=yl A.kLeaves λf fd F=>jlw jn3 F B
 have R:=reads T B joins whole names quots A.dBuilt A.tShow;have prog:Has P w K mg base 505 "read_program" ["tokens"] (jmv D):=yl A.kProg λf fd F=>jyn F (rI:=rI) (rdI:=rdI) ⟨cR,mkR,j1r FR Rd,bR⟩ R
 have brs:Has P w K mg base 3 "check_brackets" ["tokens"] (jfz D):=yl A.kBr λf fd F=>jox F TF U A.c_DEEP_BRACKET A.c_DEEPEST_BRACKET A.tOpen A.tClose;have depth:Has P w K mg base 3 "check_depth" ["program"] (jkp D):=yl A.kDepth λf fd F=>jv9 F TF great A.c_DEEP_PROGRAM A.c_DEEPEST_PROGRAM
 have fin:Has P w K mg base 3 "end_token" ["text"] (jqq K D.CT):=yl A.kEnd λf fd F=>j0q F U A.n_len;have good:Has P w K mg base 506 "read_good" ["text"] (jg2 K D):=yl A.kGood λf fd F=>jyv F rtoks fin brs prog depth
 have spS:Has P w K mg base 1 "spell" ["signs"] zy:=yl A.kSpellS λf fd F=>jtv F A.n_ord;have WB:wx P w K mg base D:=⟨TN.c,spS,yl A.kJoin λf fd F=>jyt F spS A.n_enumerate,yl A.kWNumber λf fd F=>jq7 F spS A.n_str,yl A.kWQuoted λf fd F=>jq6 F spS A.dEscs,yl A.kStrength λf fd F=>jow F A.dSides2.1 A.dOth A.c_GREATEST_STRENGTH,yl A.kWSign λf fd F=>jvx F spS A.c_PERCENT,A.c_ANY,A.c_CHOSEN,A.c_DENIED,A.c_REACHED,A.dSides2.1,A.dSides2.2,A.n_len,A.n_list,A.n_zip⟩
 have WK:ju0 K mg:=⟨A.kWListed,A.kWBlock,A.kWRecord,A.kWFunction,A.kWReach,A.kWChosen,A.kWBetween,A.kWSimple,A.kWBare,A.kWExpr,A.kWBlocks,A.kWSlider,A.kWChoice,A.kWStatement⟩
 have WR:=jsj WK WB 40;have GP:=joy A.kWProgram WB WR
 have tb:Has P w K mg base 1 "tell_bytes" ["said"] jmu:=yl A.kTBytes λf fd F=>jv1 F A.n_len;exact jtu Fa TF long good GP tb A.n_len A.c_TOO_LONG A.c_NOT_GOOD A.c_NO_SUCH_STATEMENTS A.c_LONG_FORM
theorem j12{fa:Addr}(hfa:mg "splice"=some (.ref fa))(A:jxr P w K mg D) :
  ∃ fd:FuncData,(∀ (s:Shared) (us:List Value),us.length=(["k", "n", "text_a", "text_b"]:List Str).length->BindsTo s fd ⟨us,[]⟩ ((["k", "n", "text_a", "text_b"]:List Str).zip us))/\∀ base:Heap,K.In base->base.Ns mainGlobals mg->xh P w K mg base (CXF P w) 507 fa fd ["k", "n", "text_a", "text_b"] (jmy K jbg):=by
 obtain ⟨f,fd,F,b,kp,m⟩:=A.kCall;have e:=hfa.symm.trans m
 cases e;refine ⟨fd,?_,λbase _ _=>j01 (base:=base) A F⟩;obtain ⟨oc,od,kV,doc,pm,an,cdv,ct,osl,rfl,lk,hcd⟩:=F.ex;exact λs us hu=>match us,hu with | [_,_,_,_],_=>.of_eq rfl
end
theorem jzd{k n:Int}{l m:List Int}(hl:∀ z∈l,0<=z/\z<=255)(hm:∀ z∈m,0<=z/\z<=255):told (jbg k n (VanbkaNeutral.text l) (VanbkaNeutral.text m))=PyVanbka.splice k n l m:=by
 have e:VanbkaNeutral.callOf [[7,k,n],l,m]=if NeutralIO.bytes l && NeutralIO.bytes m then some (.splice k n (VanbkaNeutral.text l) (VanbkaNeutral.text m)) else none:=rfl
 unfold PyVanbka.splice VanbkaNeutral.step;rw [e,jom hl,jom hm];rfl
open PySem.W in
theorem j1f{q:Program}{loose:List Str}{XP:(Str->Option Value)->Heap->Prop}{YP:World->Heap->Prop}{d:DefRec}{K:Params->PySem.W.Frag}(hdf:d.params.defaults=[])
  (hY:∀ (w:World) (h:Heap),YP w h->(K w.params).In h)
  (F:∀ (w:World) (mg:Str->Option Value) (fa:Addr) (h:Heap),YP w h->(K w.params).In h->h.Ns mainGlobals mg->mg d.name=some (.ref fa)->
   ∃ fd:FuncData,(∀ (s:Shared) (us:List Value),us.length=(["k", "n", "text_a", "text_b"]:List Str).length->BindsTo s fd ⟨us,[]⟩ ((["k", "n", "text_a", "text_b"]:List Str).zip us))/\
    ∀ base:Heap,(K w.params).In base->base.Ns mainGlobals mg->xh PySem.Challenge.rw_celltexts_s08_splice.prog w (K w.params) mg base (CXF PySem.Challenge.rw_celltexts_s08_splice.prog w) 507 fa fd ["k", "n", "text_a", "text_b"] (jmy (K w.params) jbg)) :
  PySem.W.WalkOS q loose XP YP PySem.Challenge.rw_celltexts_s08_splice d [] (λf vs=>PySem.call f vs):=by
 refine jsl (r:=PySem.Challenge.rw_celltexts_s08_splice) (k:=507) (CX:=λw=>CXF PySem.Challenge.rw_celltexts_s08_splice.prog w) (ps:=["k", "n", "text_a", "text_b"]) (sp:=λw=>jmy (K w.params) jbg) (by decide +kernel) hdf rfl ⟨rfl,by decide,by decide⟩ hY F ?_ ?_
 ·intro w H xs a hO hwi hask hx;cases hx with
  | cons h0 hx =>
   cases hx with
   | cons h1 hx =>
    cases hx with
    | cons h2 hx =>
     cases hx with
     | cons h3 hx =>
      cases hx;cases h0;cases h1;cases h2 with
      | lst hs0 ha0 =>
       cases h3 with
       | lst hs1 ha1 =>
        have e:=L2.jk2 a.2.2.1 _ ha0;subst e;have e:=L2.jk2 a.2.2.2.1 _ ha1
        subst e;have q:(Codec.inInt (-1000000000000000000) 1000000000000000000 a.1 && (Codec.inInt (-1000000000000000000) 1000000000000000000 a.2.1 && ((Codec.inLen 0 2000 a.2.2.1 && a.2.2.1.all (Codec.inInt 0 255)) && ((Codec.inLen 0 2000 a.2.2.2.1 && a.2.2.2.1.all (Codec.inInt 0 255)) && true))))=true:=hwi
        simp only [Bool.and_eq_true] at q;have rg:∀ {l:List Int},l.all (Codec.inInt 0 255)=true->∀ z∈l,0<=z/\z<=255:=λhl z hz=>by
         have:=List.all_eq_true.mp hl z hz;simpa [Codec.inInt] using this
        refine ⟨_,_,_,VanbkaNeutral.text a.2.2.1,_,VanbkaNeutral.text a.2.2.2.1,rfl,by rw [jph (rg q.2.2.1.2)];exact hs0,by rw [jph (rg q.2.2.2.1.2)];exact hs1,λl H' hl=>?_⟩;rw [jzd (rg q.2.2.1.2) (rg q.2.2.2.1.2)] at hl;exact .lst (SqL.of hl) (L2.jp8 _)
 ·rintro w H s e s' ⟨x,T,C,dx,H',_,_,_,_,_,_,_,_,_,_,z⟩;exact z
end Prg
end
namespace PySem.W.Fast
def tw10010700050011394503:=0
def tw10015652986952012525:=0
def tw1005803430517441582:=0
def tw1006499124841069350:=0
def tw10078806460477072107:=0
def tw10108021841387191045:=0
def tw10126333461250179797:=0
def tw10132994123288177984:=0
def tw10178436010607123684:=0
def tw10242606239938858777:=0
def tw10337492347136102960:=0
def tw1033782508729819637:=0
def tw10367348607343693192:=0
def tw10377964147274173817:=0
def tw10397589805583471697:=0
def tw10416414264258281806:=0
def tw10433244673569628885:=0
def tw10447421277682333403:=0
def tw10505343978159162128:=0
def tw10515742611755132938:=0
def tw10612593045529582042:=0
def tw10641173172196008965:=0
def tw10662940804993403322:=0
def tw10687100191322850389:=0
def tw10725320307949172760:=0
def tw107256103428153845:=0
def tw10782705932732478122:=0
def tw10891675740301552105:=0
def tw10919621926239204308:=0
def tw10925967570595813024:=0
def tw10993606836160753010:=0
def tw11015624918150215528:=0
def tw11049820997398143544:=0
def tw11106913286572089658:=0
def tw11188349310107541312:=0
def tw11194165864240288129:=0
def tw11205417485286816606:=0
def tw11327034138436383022:=0
def tw11411832100344677984:=0
def tw11421739616018523398:=0
def tw11426903788242795:=0
def tw11566565050063053170:=0
def tw11590200519127362315:=0
def tw11611553607112495748:=0
def tw11638985430898753042:=0
def tw116575557527824171:=0
def tw11717397864423420185:=0
def tw11742805998876915176:=0
def tw11810401446875613098:=0
def tw11837183026189402227:=0
def tw11885332784296958048:=0
def tw11933530493621069402:=0
def tw11960269357437099696:=0
def tw11981256809916319188:=0
def tw12090944889713014032:=0
def tw12095362926716515024:=0
def tw1210009036448056399:=0
def tw12192348749794709931:=0
def tw12194999643904597550:=0
def tw12243204036016841928:=0
def tw12244172699070131924:=0
def tw12285211192489739890:=0
def tw12326864344282791448:=0
def tw12344394381972700533:=0
def tw123554976492791258:=0
def tw12406267591601831497:=0
def tw12434057688905034807:=0
def tw12452912886208022040:=0
def tw12467531135195817493:=0
def tw12482791349152686140:=0
def tw12485236284213037673:=0
def tw12551661378787595573:=0
def tw12566032073081323787:=0
def tw12568325604143454571:=0
def tw12585007852943556457:=0
def tw12636901484479992847:=0
def tw12663978414186758109:=0
def tw12666657121458173528:=0
def tw12678109094021038483:=0
def tw12683740228189899458:=0
def tw12684369464598526485:=0
def tw12715641929087741046:=0
def tw1274867559674033468:=0
def tw12775440766252797958:=0
def tw12783742106480742400:=0
def tw12898760320304016247:=0
def tw12940952196074400397:=0
def tw12956011528419828584:=0
def tw12970402824187323956:=0
def tw12977529683793090567:=0
def tw12989642807519984551:=0
def tw129990079455756553:=0
def tw13002194062598311586:=0
def tw13024085456911301747:=0
def tw13050393749411448201:=0
def tw1307777478762442993:=0
def tw13090463006276743554:=0
def tw13094428716617405907:=0
def tw13102089397630869485:=0
def tw13126290378810419888:=0
def tw13142765271646470437:=0
def tw13183148597358899230:=0
def tw13297786364740371347:=0
def tw13347698111168940599:=0
def tw13405714365599880426:=0
def tw13420964287815018470:=0
def tw13459928666612092898:=0
def tw13467095498802907679:=0
def tw13468331044467324340:=0
def tw13486458993199360281:=0
def tw13521893285145649289:=0
def tw13546296520449084007:=0
def tw13559320219687793044:=0
def tw13584176681069613010:=0
def tw13588715772944048805:=0
def tw13598275768539508254:=0
def tw13604313738315415201:=0
def tw13616064691491889390:=0
def tw13627821804285443277:=0
def tw13637725382051369312:=0
def tw13695888419803893289:=0
def tw13790004860697851123:=0
def tw13793787753432127670:=0
def tw13850879121971865582:=0
def tw13905389433598748692:=0
def tw13930334275414717520:=0
def tw13977374018626697634:=0
def tw14001157030926119670:=0
def tw14003010688751725318:=0
def tw14099526598077057595:=0
def tw14110762420505958009:=0
def tw14111506319059318801:=0
def tw14112620167304464593:=0
def tw14127427135599969530:=0
def tw14174330536882203541:=0
def tw14190843389209631191:=0
def tw14198311003199900294:=0
def tw14256582775641450933:=0
def tw14277267736322055550:=0
def tw14352858155271927623:=0
def tw14461746723424928899:=0
def tw14465539732349242532:=0
def tw14505281687614106271:=0
def tw14613850589001643088:=0
def tw14651144411651970677:=0
def tw14653192460982082668:=0
def tw1466362584514099407:=0
def tw14768118312681365264:=0
def tw14777638201005459559:=0
def tw14869083797392450251:=0
def tw14909654154718511553:=0
def tw14913707709043775086:=0
def tw14950974844168929653:=0
def tw14954876010292404236:=0
def tw1495827133722770308:=0
def tw14960922177329491501:=0
def tw15032132361322608710:=0
def tw15035803243542206322:=0
def tw15067888528640725508:=0
def tw15084025369955576808:=0
def tw15121074542956840588:=0
def tw15128370075759818913:=0
def tw1514038261604529276:=0
def tw15149075770044334173:=0
def tw15154308225607241100:=0
def tw15188799553975035729:=0
def tw15190254998273053743:=0
def tw15209415659564220526:=0
def tw15211566227183280034:=0
def tw15215178055450623941:=0
def tw15277679747291695255:=0
def tw15345636683797278980:=0
def tw15379092414327661140:=0
def tw15389578207457795092:=0
def tw1541105301548121354:=0
def tw15416636402153498821:=0
def tw15467330501717059674:=0
def tw15498227500630225259:=0
def tw15526608294049872249:=0
def tw15539614245381409327:=0
def tw15568105240043974999:=0
def tw15569591208069868002:=0
def tw1558335653209858723:=0
def tw15597710372497050728:=0
def tw15600552502501243420:=0
def tw15603578614100738890:=0
def tw15641233213686457954:=0
def tw15641749863160063095:=0
def tw15661367452846729165:=0
def tw15692555633176315085:=0
def tw15698769548946235971:=0
def tw15744409073788141092:=0
def tw15764682038794532324:=0
def tw15779980546931320320:=0
def tw15809215652561105762:=0
def tw15868634497117423383:=0
def tw15895597328879455264:=0
def tw15908023374716581552:=0
def tw15939555072338119020:=0
def tw1595385237730882323:=0
def tw15958321839695298321:=0
def tw15991329452037664468:=0
def tw16025755250868191002:=0
def tw16041898931421994989:=0
def tw1605316086206938387:=0
def tw16118880485149801339:=0
def tw161214295597585845:=0
def tw16170246807493206746:=0
def tw16171128958617413591:=0
def tw16172983090666207276:=0
def tw16217230599533516130:=0
def tw16219890109356761114:=0
def tw1628614117368735217:=0
def tw16296688387431673571:=0
def tw16302992384855461079:=0
def tw16335010044561574409:=0
def tw16345318611503861468:=0
def tw16370066374274971237:=0
def tw16399885671129349003:=0
def tw1644303012861740697:=0
def tw16460829268224021380:=0
def tw16491689512597069275:=0
def tw16516480900896222531:=0
def tw16517928233738887952:=0
def tw16535965860905486992:=0
def tw16600526213038346744:=0
def tw16612879823988965900:=0
def tw16629525302093632281:=0
def tw16640215708485219838:=0
def tw16713243924368357347:=0
def tw16716794202444256687:=0
def tw16752778212188545309:=0
def tw16768479726684025306:=0
def tw16794792200468548334:=0
def tw16803503660573154770:=0
def tw16841542424515091120:=0
def tw16866560541546260437:=0
def tw1693993847654756371:=0
def tw16980267970013281469:=0
def tw17054573132814535180:=0
def tw17193125935344721701:=0
def tw17273458860188290457:=0
def tw17287220246729823842:=0
def tw17329404785637575590:=0
def tw17337070531305380351:=0
def tw17344659863482333313:=0
def tw17377068167439107284:=0
def tw17379817180114541639:=0
def tw17389497425263670240:=0
def tw17406152486750103280:=0
def tw17428394507747386522:=0
def tw17474094442244050398:=0
def tw17567251248014469405:=0
def tw1756888762719402909:=0
def tw17577082568489312213:=0
def tw17602962154674740541:=0
def tw17624443057454259778:=0
def tw17635642484441553661:=0
def tw17639472928297385874:=0
def tw17671143327944657157:=0
def tw17698388932149838823:=0
def tw17720805962991329622:=0
def tw17744065976171785900:=0
def tw17833112937837869127:=0
def tw17876022213860305746:=0
def tw17889049152087715817:=0
def tw17904143231639857192:=0
def tw17965480749134702349:=0
def tw18027304096734122454:=0
def tw18140372399781434625:=0
def tw18154821261236868979:=0
def tw18190567328817610486:=0
def tw1821929553528818047:=0
def tw18271284101709324401:=0
def tw1831075583462670614:=0
def tw18318720070113110216:=0
def tw18357641215700325694:=0
def tw183683108730257961:=0
def tw18386896119999446654:=0
def tw18419438636048048227:=0
def tw18430041905817223461:=0
def tw1856122196697644522:=0
def tw1879063456319701436:=0
def tw1889396871197030830:=0
def tw1909140707425155789:=0
def tw1913644644243441177:=0
def tw1975277113854186583:=0
def tw1996813482187092366:=0
def tw2085980822481058592:=0
def tw2091391299985990672:=0
def tw2107944796121411519:=0
def tw2114371666969248475:=0
def tw2119056221410908677:=0
def tw2134976648303633743:=0
def tw2194986119238547059:=0
def tw2232738603400158019:=0
def tw2325468332107391613:=0
def tw2339603977069685427:=0
def tw2339852939028012824:=0
def tw2373405980499241922:=0
def tw2401188019058911656:=0
def tw2406071323239759909:=0
def tw242699632792556271:=0
def tw2455837836234803805:=0
def tw2466618405053100310:=0
def tw2544402138973236840:=0
def tw2546776747728457987:=0
def tw2552513597158493280:=0
def tw2567500473565315047:=0
def tw2581359342369524500:=0
def tw2592539887855398014:=0
def tw2629518258808541891:=0
def tw2640761209575053384:=0
def tw2648044615450252499:=0
def tw2682492888916070772:=0
def tw268995301074107937:=0
def tw2715988986925689884:=0
def tw2739082900090847361:=0
def tw2739440063455111939:=0
def tw2758700230536002463:=0
def tw2801748296164250308:=0
def tw2802202167968412113:=0
def tw2853057454421430209:=0
def tw2864337681158297179:=0
def tw2915406590366629320:=0
def tw2946120306957336590:=0
def tw2968872386384381662:=0
def tw3041649734350309677:=0
def tw3097397779077190225:=0
def tw3189416015472131453:=0
def tw3238189006308181424:=0
def tw3291888543202455223:=0
def tw3293459364900725:=0
def tw3308853723731445097:=0
def tw3367004046579286547:=0
def tw3375583317622932412:=0
def tw3392039816289558762:=0
def tw3394513735598614927:=0
def tw3424603104874424332:=0
def tw3508213440045343393:=0
def tw3537714264967259615:=0
def tw3590286900028125716:=0
def tw3598550785217201570:=0
def tw3604570509234610604:=0
def tw3621116438675015161:=0
def tw3628686084918186196:=0
def tw3671546753266660461:=0
def tw3698147089874307340:=0
def tw3730440428071683344:=0
def tw3740009431074528183:=0
def tw3859005396801255301:=0
def tw3860582045339957300:=0
def tw3933556740597881425:=0
def tw3970972728417658249:=0
def tw4010630263764859966:=0
def tw4043782970216020480:=0
def tw4088083895336005278:=0
def tw4129419819009623020:=0
def tw421351684452551399:=0
def tw4214717320929026449:=0
def tw4252807364744590626:=0
def tw427630882644926350:=0
def tw4301656380357491924:=0
def tw4309377267998738771:=0
def tw4328219460288330568:=0
def tw4338737793867932322:=0
def tw436149156054323751:=0
def tw440066407358863404:=0
def tw4456458932249303648:=0
def tw4480970668919050192:=0
def tw4484496486119311863:=0
def tw4484501176195451149:=0
def tw4500326057428115539:=0
def tw4500468597921102748:=0
def tw4506387395149097838:=0
def tw4523144990744060092:=0
def tw4538640072970370800:=0
def tw4558875365661442514:=0
def tw4562408104071789103:=0
def tw4630128993275784046:=0
def tw4650483782712162076:=0
def tw4656622422794284260:=0
def tw4663848745668553801:=0
def tw4675554761440459616:=0
def tw4718204224052198343:=0
def tw4759427972585645459:=0
def tw479645927300220403:=0
def tw4802219722670504530:=0
def tw4804265801850475977:=0
def tw4815601478498173229:=0
def tw4872301189822177361:=0
def tw48901843810196242:=0
def tw4916706676046711277:=0
def tw4967703984547138113:=0
def tw5030701400211382705:=0
def tw5055775382378475415:=0
def tw506190824502381403:=0
def tw506224443822874066:=0
def tw5071647980653375615:=0
def tw507233937395556034:=0
def tw5080779817706031956:=0
def tw5139687036616670900:=0
def tw5141531764276512780:=0
def tw5150117715807118034:=0
def tw5170354006059229211:=0
def tw5216842610447207762:=0
def tw5224924268253479423:=0
def tw5232051349791502650:=0
def tw528463482152755168:=0
def tw5289455112477307839:=0
def tw5368918607886044111:=0
def tw5388570412720308310:=0
def tw5431860701745128059:=0
def tw5512212082550903516:=0
def tw5514024393663178249:=0
def tw5524272074609222500:=0
def tw5524907083019462625:=0
def tw5530455574289970697:=0
def tw5592923905971315095:=0
def tw5599923240525828868:=0
def tw5601149251847202758:=0
def tw5632763246753819158:=0
def tw564576121778154746:=0
def tw5651588306944570874:=0
def tw5664891219230231866:=0
def tw5692654652738055296:=0
def tw5708132173412164716:=0
def tw5725471055335222713:=0
def tw5729376274148419465:=0
def tw5753313616498321762:=0
def tw5760263740113698999:=0
def tw5783338636068779966:=0
def tw5790659497649569134:=0
def tw5802219269556625323:=0
def tw5822691969143587216:=0
def tw5833410720298714660:=0
def tw5864549102765443509:=0
def tw5892941999305314397:=0
def tw5947955114718979520:=0
def tw5979429999174622732:=0
def tw5987272719760533644:=0
def tw599154080825874291:=0
def tw6011311419987589398:=0
def tw6031348623544102989:=0
def tw6035692559064437249:=0
def tw6044939192681146692:=0
def tw6046675991330168812:=0
def tw6093726160880091821:=0
def tw6102569083619571524:=0
def tw613586854351823940:=0
def tw6138238606178886324:=0
def tw6178877357963691347:=0
def tw6187168819339967736:=0
def tw6214979489416490653:=0
def tw6273599995532827332:=0
def tw6277544708404962405:=0
def tw6325641839041836122:=0
def tw6338236507010858706:=0
def tw6347854711769811828:=0
def tw6382219383988453218:=0
def tw6445137629423685820:=0
def tw6504861657146660260:=0
def tw656233951216375881:=0
def tw6604514257981719131:=0
def tw6614395215471694165:=0
def tw6722379577721240654:=0
def tw6738949930970464841:=0
def tw6793253358296646625:=0
def tw6807392864225365272:=0
def tw6841291480031947723:=0
def tw6885246487854842733:=0
def tw6891118466339279276:=0
def tw6916958430368798440:=0
def tw6938907887131687035:=0
def tw6968451595980364060:=0
def tw697215478021612520:=0
def tw7035604475774920107:=0
def tw7102330392832467039:=0
def tw7106366148482800984:=0
def tw7120437593776325867:=0
def tw7146299245507265623:=0
def tw717775926191941430:=0
def tw7187133140403251384:=0
def tw7215064427021802155:=0
def tw7292447646838781627:=0
def tw7296207945157655684:=0
def tw7303578394066621005:=0
def tw7352551464970210486:=0
def tw7379512380276730819:=0
def tw7414569135710250663:=0
def tw7452643196097109450:=0
def tw7464172006349538078:=0
def tw7481157261916606285:=0
def tw7530633352216673533:=0
def tw7585321565823670677:=0
def tw7661806960021856085:=0
def tw7710565452507927028:=0
def tw7733803534553624957:=0
def tw779358872353063263:=0
def tw7839961729033263694:=0
def tw7914051514801741566:=0
def tw7957224867294061847:=0
def tw7991493009612203598:=0
def tw8013037382731599065:=0
def tw8020534535918783320:=0
def tw8066036684130409622:=0
def tw8069481346278559803:=0
def tw8070773761411860690:=0
def tw8099208367989221698:=0
def tw8125691478462938045:=0
def tw813261082718994325:=0
def tw8143531756637176011:=0
def tw8205110977996776859:=0
def tw820840636367751869:=0
def tw8238777022545150880:=0
def tw8263698065411105502:=0
def tw8385753653059850103:=0
def tw8408774713346019071:=0
def tw8413950392266692725:=0
def tw8430872498723728063:=0
def tw8432682717041757745:=0
def tw8493237894415383351:=0
def tw8560746564142381105:=0
def tw8564046645053432274:=0
def tw8581846476997068292:=0
def tw8665171180770723154:=0
def tw8682526826810555548:=0
def tw8699238673641990280:=0
def tw8714347681495709770:=0
def tw8749938144469919458:=0
def tw8755945302132474822:=0
def tw8779057315340081898:=0
def tw8824014000532096893:=0
def tw8882614017143429068:=0
def tw8882939385120892989:=0
def tw8901317812164343910:=0
def tw8915240831007831488:=0
def tw8944603598948561098:=0
def tw8973457447106326581:=0
def tw9013394536748776161:=0
def tw9028361696480514085:=0
def tw906157725205318697:=0
def tw9112493552571513187:=0
def tw9178633524497291248:=0
def tw9179472487294135806:=0
def tw919998365357286902:=0
def tw9212251558141657419:=0
def tw9222994322331756602:=0
def tw9228339435431138894:=0
def tw9253760314519727474:=0
def tw9352630600421975445:=0
def tw9399872310815586392:=0
def tw9423951130120994717:=0
def tw9449891663726140772:=0
def tw9454273522804526732:=0
def tw9454342950646697461:=0
def tw9467392981165902760:=0
def tw9480614541415097094:=0
def tw9516733563056659171:=0
def tw952780988263658395:=0
def tw9547811463979901041:=0
def tw9549568730914318393:=0
def tw9578175817300416917:=0
def tw9621749316437862046:=0
def tw9639854992845015413:=0
def tw9662832546127206840:=0
def tw9669231164882414145:=0
def tw9692508697884048950:=0
def tw9751002165161093628:=0
def tw9751551757261758345:=0
def tw9761583391474671652:=0
def tw9799579943830859009:=0
def tw984249689818889901:=0
def tw984554848919770858:=0
def tw9865454094277459191:=0
def tw9878074386920675912:=0
def tw9887152795026313768:=0
def tw9932102520096932739:=0
def tw3092318371856201279:=0
def tw3712689641080755184:=0
def tw3868711135446728576:=0
def tw8834446758711238211:=0
def tw15090322485785912123:=0
def tw8110123073978215774:=0
def tw9914613532912894069:=0
def tw17937244108809382272:=0
def tw8868278846859197685:=0
def tw5472522443337291882:=0
def tw1232768955566754225:=0
def tw3965942033939216794:=0
def tw12987967402675687048:=0
def tw7726857784462787135:=0
def tw18423587811680463365:=0
def tw6720516404841411526:=0
def tw831727802767020416:=0
def tw11295557639555315808:=0
def tw4812791176539348878:=0
def tw2508891616520736122:=0
def tw3794160816125878388:=0
def tw15902272458895585477:=0
def tw1553823083888610298:=0
def tw15956663207727133616:=0
def tw18111766491156155434:=0
def tw7350945475625034597:=0
def tw12195501451988874588:=0
def tw2049726469917421752:=0
def tw17372748172087010959:=0
def tw4351756726467331225:=0
def tw18036678333294648933:=0
def tw2178058293419400060:=0
def tw17854111559023030899:=0
def tw2185361864471398428:=0
def tw11874351418845727381:=0
def tw5661628111104984020:=0
def tw894521513409633991:=0
def tw8622424585820139465:=0
def tw14187671503128396128:=0
def tw834914248504763767:=0
def tw2879559769617933604:=0
def tw9357157121710022582:=0
def tw7180334853254680562:=0
def tw1674711886787849325:=0
def tw476055338934956779:=0
def tw3735121756819035862:=0
def tw18244824026941760946:=0
def tw6285804966338597995:=0
def tw17567407454745745397:=0
def tw7109773071064873015:=0
def tw16409327959327655951:=0
def tw13421781283526015027:=0
def tw3133998713453148954:=0
def tw9235181696530289707:=0
def tw14531583196669666355:=0
def tw15202535859095468962:=0
def tw14003830090936543224:=0
def tw152480738275898737:=0
def tw10487386173041396502:=0
def tw9078008543542325517:=0
def tw1696656551213123949:=0
def tw262150537840954709:=0
def tw15481621134913993021:=0
def tw4846549552388945393:=0
def tw15473943731288824579:=0
def tw2000417945974244165:=0
def tw3099731164796443701:=0
def tw18177249696649137494:=0
def tw15169309490246893888:=0
def tw13015453118229834041:=0
def tw5763460831130642255:=0
def tw12871441716441089027:=0
def tw13566320141028398528:=0
def tw7881112416454939267:=0
def tw2065237292764814550:=0
def tw9365214310293309364:=0
def tw11143644980445424770:=0
def tw9574350195326659164:=0
def tw17232376418985892684:=0
def tw8222269535839543053:=0
def tw2032972202418556628:=0
def tw775661005912385751:=0
def tw11150652966682332579:=0
def tw11340822257942609440:=0
def tw8453351412182089219:=0
def tw9122436212613367341:=0
def tw16085934037459894209:=0
def tw7434080706657479133:=0
def tw3356976690171312269:=0
def tw4180387945281585967:=0
def tw13848010676677636365:=0
def tw6542961920110088311:=0
def tw9094114975217851590:=0
def tw8550088202735999314:=0
def tw1867746398710693745:=0
def tw15825349674588946432:=0
def tw9401004564434472025:=0
def tw15508527639502670888:=0
def tw15893906888192937865:=0
def tw7321597880081265915:=0
def tw4326817417488649021:=0
def tw9362850187757454310:=0
def tw706911453606669470:=0
def tw2172651872949675061:=0
def tw18281747302807561995:=0
def tw5660498683865376839:=0
def tw8848214564718888588:=0
def tw2265477030322189888:=0
def tw13024172965729103027:=0
def tw12358979121512190940:=0
def tw3293156397241339755:=0
def tw10698803200750359351:=0
def tw18322278433247669915:=0
def tw13653544674147863171:=0
def tw11386276359038918541:=0
def tw9309409528367550869:=0
def tw16340141950811244233:=0
def tw5767297066026608238:=0
def tw17711640191517233936:=0
def tw11215078058555556690:=0
def tw10645649738079222064:=0
def tw8256043959226728355:=0
def tw9402232640963041640:=0
def tw15429988573685448785:=0
def tw16389047086385548542:=0
def tw8836157555921201597:=0
def tw12157486318104036801:=0
def tw15768469211485294211:=0
def tw6755448441341891465:=0
end PySem.W.Fast
open PySem PySem.W PyProof.Rows
theorem d3_{a b c:Type}{x:a}{y:b}{z:c}{R:Prop}(r:R):(x=x/\y=y/\z=z)/\R:=⟨⟨rfl,rfl,rfl⟩,r⟩
set_option maxRecDepth 100000 in
set_option maxHeartbeats 0 in
theorem PySem.Challenge.cw_celltexts_s08_splice_holds : PySem.Challenge.rw_celltexts_s08_splice.Holds := by
 w_on;k_headS;(case hw=>exact ⟨[.int 0,.int 0,.list [],.list []],by decide +kernel,by decide +kernel⟩)
 k_fillS
 refine Prg.j1f rfl (λw h Y=>PySem.W.kIn_of Y) ?F
 case F =>
  intro w mg fa h Y KX G hmg;refine' Prg.j12 (D:=⟨31,350,142,77⟩) hmg ⟨?kDigit,?kWordB,?kPass,?kBytes,?kNum,?kWord,?kSpell,?kQuoted,?kSign,?kTok,?kToks,?kRToks,?kLong,?c_LINE_FEED,?c_BLANK,?c_LAST_ALLOWED,?c_QUOTE,?c_HASH,?c_ZERO,?c_NINE,?c_UNDERSCORE,?c_BACKSLASH,?c_LONGEST_WORD,?c_LONGEST_NUMBER,?c_LOWER_A,?c_FORBIDDEN_BYTE,?c_WRONG_TOKEN,?c_LONGEST_TEXT,?c_TOO_LONG,?c_LL,?n_len,?n_tuple,?n_enumerate,?tRes,?dEsc,?dOne,?dTwo,?oFault,?oToken,?kExpr,?kJoined,?kSigned,?kReached,?kReach,?kListed,?kSimple,?kBrack,?kRecord,?kFn,?kBuilt,?kBlock,?kStmts,?kStmt,?kBind,?kShow,?kIf,?kWhile,?kFor,?kSlider,?kChoice,?kGreat,?kJoins,?kWhole,?kLeaves,?kProg,?kGood,?kBr,?kDepth,?kEnd,?mLook,?mBehind,?mHere,?mMove,?mTake,?mLast,?c_DEEP_BRACKET,?c_NO_PROGRAM,?c_DEEP_PROGRAM,?c_DEEPEST_BRACKET,?c_DEEPEST_PROGRAM,?c_OR_LINE,?c_NOT_LINE,?c_COMPARED_LINE,?c_SIGNED_LINE,?n_max,?tShow,?tOpen,?tClose,?dBuilt,?oTree,?oReader,?kSpellS,?kJoin,?kWNumber,?kWQuoted,?kStrength,?kWSign,?kWProgram,?kWListed,?kWBlock,?kWRecord,?kWFunction,?kWReach,?kWChosen,?kWBetween,?kWSimple,?kWBare,?kWExpr,?kWBlocks,?kWSlider,?kWChoice,?kWStatement,?c_ANY,?c_CHOSEN,?c_DENIED,?c_REACHED,?c_PERCENT,?c_GREATEST_STRENGTH,?n_list,?n_zip,?n_ord,?n_str,?dSides2,?dOth,?dEscs,?kTBytes,?kCall,?c_NOT_GOOD,?c_NO_SUCH_STATEMENTS,?c_LONG_FORM⟩
  case kDigit | kWordB | kBytes | kSpell | kToks | kRToks | kLong | kExpr | kSigned | kReached | kSimple | kBrack | kRecord | kFn | kBuilt | kBlock | kStmt | kBind | kShow | kIf | kWhile | kFor | kSlider | kChoice | kGreat | kWhole | kProg | kGood | kBr | kDepth | kEnd | kSpellS | kWNumber | kWQuoted | kStrength | kWSign | kWProgram | kWListed | kWBlock | kWRecord | kWFunction | kWReach | kWChosen | kWBetween | kWSimple | kWBare | kWBlocks | kWSlider | kWChoice | kWStatement | kTBytes=>refine' Prg.ji1 KX G (λ_ _ _ _ _ _ us hl=>match us,hl with | [_],_=>rfl) ?a ?l ?c ?k;(case a=>k_is);(case l=>k_is);(case c=>k_is);(case k=>k_is)
  case kPass | kNum | kWord | kQuoted | kSign | kTok | kJoined | kReach | kListed | kStmts | kJoins | kLeaves | kJoin | kWExpr=>refine' Prg.ji1 KX G (λ_ _ _ _ _ _ us hl=>match us,hl with | [_,_],_=>rfl) ?a ?l ?c ?k;(case a=>k_is);(case l=>k_is);(case c=>k_is);(case k=>k_is)
  case c_LINE_FEED | c_BLANK | c_LAST_ALLOWED | c_QUOTE | c_HASH | c_ZERO | c_NINE | c_UNDERSCORE | c_BACKSLASH | c_LONGEST_WORD | c_LONGEST_NUMBER | c_LOWER_A | c_FORBIDDEN_BYTE | c_WRONG_TOKEN | c_LONGEST_TEXT | c_TOO_LONG | c_DEEP_BRACKET | c_NO_PROGRAM | c_DEEP_PROGRAM | c_DEEPEST_BRACKET | c_DEEPEST_PROGRAM | c_OR_LINE | c_NOT_LINE | c_COMPARED_LINE | c_SIGNED_LINE | c_ANY | c_CHOSEN | c_DENIED | c_REACHED | c_PERCENT | c_GREATEST_STRENGTH | c_NOT_GOOD | c_NO_SUCH_STATEMENTS | c_LONG_FORM=>refine' Prg.j14 KX G ?a;(case a=>k_is)
  case c_LL=>refine' Prg.j13 KX G ?a;(case a=>k_is)
  case n_len | n_tuple | n_enumerate | n_max | n_list | n_zip | n_ord | n_str=>refine' PySem.W.mg_none_of KX G ?a;(case a=>k_is)
  case tRes | tShow | tOpen | tClose=>refine' Prg.jy3 KX G ?e ?l ?hv ?hs;(case e=>k_is);(case l=>k_is);(case hv=>decide +kernel);(case hs=>decide +kernel)
  case dEsc=>refine' Prg.jxm KX G ?e ?l ?ha ?hv;(case e=>k_is);(case l=>k_is);(case ha=>rfl);(case hv=>exact (d3_ (d3_ (d3_ trivial))))
  case dOne=>refine' Prg.jxm KX G ?e ?l ?ha ?hv;(case e=>k_is);(case l=>k_is);(case ha=>rfl);(case hv=>exact (d3_ (d3_ (d3_ (d3_ (d3_ (d3_ (d3_ (d3_ (d3_ (d3_ (d3_ (d3_ (d3_ (d3_ (d3_ (d3_ (d3_ (d3_ (d3_ trivial))))))))))))))))))))
  case dTwo=>refine' Prg.two_mk KX G ?e ?ha ?l ?l1 ?l2 ?l3 ?l4 ?l5;(case e=>k_is);(case l=>k_is);(case ha=>rfl);(case l1=>k_is);(case l2=>k_is);(case l3=>k_is);(case l4=>k_is);(case l5=>k_is)
  case oFault=>refine' Prg.jwt (C:=31) (f:=28) KX G ?a ?kc ?x ?l ?c ?k;(case a=>k_is);(case kc=>k_is);(case l=>k_is);(case c=>k_is);(case k=>k_is);(case x=>refine' Prg.jxt ?l ?l2 ?zq ?ty;(case l=>k_is);(case l2=>k_is);(case zq=>rfl);(case ty=>k_is))
  case oToken=>refine' Prg.ju9 (C:=350) KX G ?a ?cl ?n1 ?n2 ?n3 ?n4 ?mk ?i ?fn ?kc ?l ?c ?k;(case a=>k_is);(case n1=>k_is);(case n2=>k_is);(case n3=>k_is);(case n4=>k_is);(case mk=>k_is);(case i=>k_is);(case fn=>k_is);(case kc=>k_is);(case l=>k_is);(case c=>k_is);(case k=>k_is);(case cl=>refine' Prg.joh (C:=350) ?pg ?hd ?po ?sa;(case pg=>k_is);(case hd=>k_is);(case po=>k_is);(case sa=>k_is))
  case mLook | mBehind | mHere | mMove | mLast=>refine' Prg.jl2 (C:=142) (λ_ _ _ _ _ _ us hl=>match us,hl with | [_],_=>rfl) ?a ?i ?l ?c ?k;(case a=>k_is);(case i=>k_is);(case l=>k_is);(case c=>k_is);(case k=>k_is)
  case mTake=>refine' Prg.jl2 (C:=142) (λ_ _ _ _ _ _ us hl=>match us,hl with | [_,_],_=>rfl) ?a ?i ?l ?c ?k;(case a=>k_is);(case i=>k_is);(case l=>k_is);(case c=>k_is);(case k=>k_is)
  case dBuilt=>refine' Prg.jwx KX G ?e ?l ?ha ?hv;(case e=>k_is);(case l=>k_is);(case ha=>rfl);(case hv=>exact (d3_ (d3_ (d3_ (d3_ (d3_ (d3_ (d3_ trivial))))))))
  case oTree=>refine' Prg.jxu (C:=77) KX G ?a ?cl ?n1 ?n2 ?n3 ?n4 ?n5 ?n6 ?n7 ?mk ?i ?fn ?kc ?l ?c ?k;(case a=>k_is);(case n1=>k_is);(case n2=>k_is);(case n3=>k_is);(case n4=>k_is);(case n5=>k_is);(case n6=>k_is);(case n7=>k_is);(case mk=>k_is);(case i=>k_is);(case fn=>k_is);(case kc=>k_is);(case l=>k_is);(case c=>k_is);(case k=>k_is);(case cl=>refine' Prg.joh (C:=77) ?pg ?hd ?po ?sa;(case pg=>k_is);(case hd=>k_is);(case po=>k_is);(case sa=>k_is))
  case oReader=>refine' Prg.jtk (C:=142) KX G ?a ?cl ?n1 ?n2 ?mk ?i ?fn ?kc ?l ?c ?k;(case a=>k_is);(case n1=>k_is);(case n2=>k_is);(case mk=>k_is);(case i=>k_is);(case fn=>k_is);(case kc=>k_is);(case l=>k_is);(case c=>k_is);(case k=>k_is);(case cl=>refine' Prg.joh (C:=142) ?pg ?hd ?po ?sa;(case pg=>k_is);(case hd=>k_is);(case po=>k_is);(case sa=>k_is))
  case dSides2=>refine' Prg.jy8 KX G [("or",(1,1,2),36),("and",(2,2,3),37),("==",(4,5,5),38),("!=",(4,5,5),39),("<",(4,5,5),40),("<=",(4,5,5),41),(">",(4,5,5),42),(">=",(4,5,5),43),("++",(5,5,6),44),("+",(6,6,7),45),("-",(6,6,7),46),("*",(7,7,8),47),("/",(7,7,8),48),("percent",(7,7,8),49)] rfl ?e ?l ?ha ?hv ?hr;(case e=>k_is);(case l=>k_is);(case ha=>rfl);(case hv=>exact (d3_ (d3_ (d3_ (d3_ (d3_ (d3_ (d3_ (d3_ (d3_ (d3_ (d3_ (d3_ (d3_ (d3_ trivial)))))))))))))));(case hr=>refine' Prg.jlo (And.intro ?r0 (And.intro ?r1 (And.intro ?r2 (And.intro ?r3 (And.intro ?r4 (And.intro ?r5 (And.intro ?r6 (And.intro ?r7 (And.intro ?r8 (And.intro ?r9 (And.intro ?r10 (And.intro ?r11 (And.intro ?r12 (And.intro ?r13 trivial))))))))))))));(case r0=>refine' Prg.z_ (vs:=[.int 1,.int 1,.int 2]) ?l ?hv ?hs;(case l=>k_is);(case hv=>decide +kernel);(case hs=>decide +kernel));(case r1=>refine' Prg.z_ (vs:=[.int 2,.int 2,.int 3]) ?l ?hv ?hs;(case l=>k_is);(case hv=>decide +kernel);(case hs=>decide +kernel));(case r2=>refine' Prg.z_ (vs:=[.int 4,.int 5,.int 5]) ?l ?hv ?hs;(case l=>k_is);(case hv=>decide +kernel);(case hs=>decide +kernel));(case r3=>refine' Prg.z_ (vs:=[.int 4,.int 5,.int 5]) ?l ?hv ?hs;(case l=>k_is);(case hv=>decide +kernel);(case hs=>decide +kernel));(case r4=>refine' Prg.z_ (vs:=[.int 4,.int 5,.int 5]) ?l ?hv ?hs;(case l=>k_is);(case hv=>decide +kernel);(case hs=>decide +kernel));(case r5=>refine' Prg.z_ (vs:=[.int 4,.int 5,.int 5]) ?l ?hv ?hs;(case l=>k_is);(case hv=>decide +kernel);(case hs=>decide +kernel));(case r6=>refine' Prg.z_ (vs:=[.int 4,.int 5,.int 5]) ?l ?hv ?hs;(case l=>k_is);(case hv=>decide +kernel);(case hs=>decide +kernel));(case r7=>refine' Prg.z_ (vs:=[.int 4,.int 5,.int 5]) ?l ?hv ?hs;(case l=>k_is);(case hv=>decide +kernel);(case hs=>decide +kernel));(case r8=>refine' Prg.z_ (vs:=[.int 5,.int 5,.int 6]) ?l ?hv ?hs;(case l=>k_is);(case hv=>decide +kernel);(case hs=>decide +kernel));(case r9=>refine' Prg.z_ (vs:=[.int 6,.int 6,.int 7]) ?l ?hv ?hs;(case l=>k_is);(case hv=>decide +kernel);(case hs=>decide +kernel));(case r10=>refine' Prg.z_ (vs:=[.int 6,.int 6,.int 7]) ?l ?hv ?hs;(case l=>k_is);(case hv=>decide +kernel);(case hs=>decide +kernel));(case r11=>refine' Prg.z_ (vs:=[.int 7,.int 7,.int 8]) ?l ?hv ?hs;(case l=>k_is);(case hv=>decide +kernel);(case hs=>decide +kernel));(case r12=>refine' Prg.z_ (vs:=[.int 7,.int 7,.int 8]) ?l ?hv ?hs;(case l=>k_is);(case hv=>decide +kernel);(case hs=>decide +kernel));(case r13=>refine' Prg.z_ (vs:=[.int 7,.int 7,.int 8]) ?l ?hv ?hs;(case l=>k_is);(case hv=>decide +kernel);(case hs=>decide +kernel)))
  case dOth=>refine' Prg.j0j KX G ?e ?l ?ha ?hv;(case e=>k_is);(case l=>k_is);(case ha=>rfl);(case hv=>exact (d3_ (d3_ (d3_ (d3_ (d3_ (d3_ trivial)))))))
  case dEscs=>refine' Prg.j02 (t1:=475) (t2:=476) (t3:=477) KX G ?e ?l ?ha ?hv ?h1 ?h2 ?h3;(case e=>k_is);(case l=>k_is);(case ha=>rfl);(case hv=>exact (d3_ (d3_ (d3_ trivial))));(case h1=>refine' Prg.z_ (vs:=[.int 92,.int 92]) ?l ?hv ?hs;(case l=>k_is);(case hv=>decide +kernel);(case hs=>decide +kernel));(case h2=>refine' Prg.z_ (vs:=[.int 92,.int 34]) ?l ?hv ?hs;(case l=>k_is);(case hv=>decide +kernel);(case hs=>decide +kernel));(case h3=>refine' Prg.z_ (vs:=[.int 92,.int 110]) ?l ?hv ?hs;(case l=>k_is);(case hv=>decide +kernel);(case hs=>decide +kernel))
  case kCall=>refine' Prg.ji1 KX G (λ_ _ _ _ _ _ us hl=>match us,hl with | [_,_,_,_],_=>rfl) ?a ?l ?c ?k;(case a=>k_is);(case l=>k_is);(case c=>k_is);(case k=>k_is)
