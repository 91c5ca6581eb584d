import PyProof.Rows.All
import Wide.All
import OpenK.AllK
import Wide.FinOn
import Lean
import PyProof.EqAt
import PyProof.EqKinds
import PyProof.TupleCall
import PySem.Challenge.RW_cupweb_k04_steps_by_lesser_squares
import KE.KStar
set_option Elab.async false
set_option linter.all false
set_option maxRecDepth 100000
namespace L2
open PySem PySem.Spec PyProof.Rows
abbrev Key:=Sum Int Str
def keyIs:Key→Value→Bool
  | .inl k,v=>Value.isInt k v
  | .inr x,v=>Value.isStrOf x v
def keyH (w:World):Key→Int
  | .inl k=>hashInt k
  | .inr x=>hashStr w x
theorem keyIs_shape:∀ {k:Key} {v:Value},keyIs k v=true→(∃ i t,k=Sum.inl i∧v=Value.int i t)∨(∃ x t,k=Sum.inr x∧v=Value.str x t)
  | .inl i,v,h=>by
    obtain ⟨t,e⟩:=Value.isInt_shape (k:=i) (v:=v) h
    exact .inl ⟨i,t,rfl,e⟩
  | .inr x,v,h=>by
    obtain ⟨t,e⟩:=Value.isStrOf_shape (x:=x) (v:=v) h
    exact .inr ⟨x,t,rfl,e⟩
theorem key_ll (a b:Int):decide ((Sum.inl a:Key)=Sum.inl b)=(a == b):=by
  by_cases e:a=b
  · subst e; simp
  · have h:¬ (Sum.inl a:Key)=Sum.inl b:=fun q=>e (Sum.inl.inj q)
    rw [decide_eq_false h]
    exact (beq_eq_false_iff_ne.mpr e).symm
theorem key_rr (a b:Str):decide ((Sum.inr a:Key)=Sum.inr b)=decide (a=b):=by
  by_cases e:a=b
  · subst e; simp
  · have h:¬ (Sum.inr a:Key)=Sum.inr b:=fun q=>e (Sum.inr.inj q)
    rw [decide_eq_false h,decide_eq_false e]
theorem key_lr (a:Int) (b:Str):decide ((Sum.inl a:Key)=Sum.inr b)=false:=decide_eq_false (fun q=>nomatch q)
theorem key_rl (a:Str) (b:Int):decide ((Sum.inr a:Key)=Sum.inl b)=false:=decide_eq_false (fun q=>nomatch q)
def mixKind (prog:Program) (w:World):PySem.KeyKind prog w Key where
  is:=keyIs
  hash:=keyH w
  inj := fun v a b ha hb=>by
    rcases keyIs_shape ha with ⟨i,t,rfl,rfl⟩ | ⟨x,t,rfl,rfl⟩
    · rcases keyIs_shape hb with ⟨j,u,rfl,e⟩ | ⟨y,u,rfl,e⟩
      · injection e with e1 _; rw [e1]
      · exact nomatch e
    · rcases keyIs_shape hb with ⟨j,u,rfl,e⟩ | ⟨y,u,rfl,e⟩
      · exact nomatch e
      · injection e with e1 _; rw [e1]
  byValue:=fun k v h=>by
    rcases keyIs_shape h with ⟨i,t,rfl,rfl⟩ | ⟨x,t,rfl,rfl⟩ <;> rfl
  pyHash:=fun hv h=>by
    rcases keyIs_shape hv with ⟨i,t,rfl,rfl⟩ | ⟨x,t,rfl,rfl⟩
    · exact wpAny_pyHash_int h
    · exact wpAny_pyHash_str h
  eqBool:=fun hu hv h=>by
    rcases keyIs_shape hu with ⟨i,t,rfl,rfl⟩ | ⟨x,t,rfl,rfl⟩
    · rcases keyIs_shape hv with ⟨j,u,rfl,rfl⟩ | ⟨y,u,rfl,rfl⟩
      · rw [key_ll] at h; exact wpAny_eqBool_int h
      · rw [key_lr] at h; exact SeqAt.EqAt.int_str i t y u _ _ _ _ h
    · rcases keyIs_shape hv with ⟨j,u,rfl,rfl⟩ | ⟨y,u,rfl,rfl⟩
      · rw [key_rl] at h; exact SeqAt.EqAt.str_int x t j u _ _ _ _ h
      · rw [key_rr] at h; exact wpAny_eqBool_str h
  «strs»:=fun k x t v h=>by
    rcases keyIs_shape h with ⟨i,u,rfl,e⟩ | ⟨y,u,rfl,e⟩
    · exact nomatch e
    · injection e with e1 _
      subst e1
      cases v <;> rfl
end L2
namespace L2
open PySem PySem.Spec PyProof.Rows
inductive V where
  | non | bl (b:Bool) | int (i:Int) | str (x:Str) | byt (b:Array UInt8) | flt (b:UInt64) | ref (a:Addr) | ty (n:String)
  deriving DecidableEq
def RelV:V→Value→Prop
  | .non,u=>u=Value.none
  | .bl b,u=>u=Value.bool b
  | .int i,u=>∃ t,u=Value.int i t
  | .str x,u=>∃ t,u=Value.str x t
  | .byt b,u=>∃ t,u=Value.bytes b t
  | .flt b,u=>∃ t,u=Value.float b t
  | .ref a,u=>u=Value.ref a
  | .ty n,u=>u=Value.type n
abbrev Vals:List V→List Value→Prop:=Paired RelV
theorem Vals.length {xs:List V} {us:List Value} (r:Vals xs us):xs.length=us.length:=Paired.length r
theorem Vals.get:∀ {xs:List V} {us:List Value} {i:Nat} {x:V},Vals xs us→xs[i]?=some x→∃ u,us[i]?=some u∧RelV x u
  | _,_,_,_,.nil,e=>by simp at e
  | _,_,0,_,.cons r _,e=>by simp at e; subst e; exact ⟨_,rfl,r⟩
  | _,_,i + 1,x,.cons _ t,e=>by
    obtain ⟨u,h1,h2⟩:=Vals.get (i:=i) (x:=x) t (by simpa using e)
    exact ⟨u,by simpa using h1,h2⟩
theorem Vals.set {x:V} {u:Value} (r:RelV x u):∀ {xs:List V} {us:List Value} (i:Nat),Vals xs us→Vals (xs.set i x) (us.set i u)
  | _,_,_,.nil=>.nil
  | _,_,0,.cons _ t=>.cons r t
  | _,_,i + 1,.cons q t=>.cons q (Vals.set r i t)
theorem Vals.append:∀ {xs ys:List V} {us ws:List Value},Vals xs us→Vals ys ws→Vals (xs ++ ys) (us ++ ws)
  | _,_,_,_,.nil,s=>s
  | _,_,_,_,.cons r t,s=>.cons r (Vals.append t s)
theorem Vals.take:∀ {xs:List V} {us:List Value} (n:Nat),Vals xs us→Vals (xs.take n) (us.take n)
  | _,_,0,_=>.nil
  | _,_,_ + 1,.nil=>.nil
  | _,_,n + 1,.cons r t=>.cons r (Vals.take n t)
theorem Vals.drop:∀ {xs:List V} {us:List Value} (n:Nat),Vals xs us→Vals (xs.drop n) (us.drop n)
  | _,_,0,r=>r
  | _,_,_ + 1,.nil=>.nil
  | _,_,n + 1,.cons _ t=>Vals.drop n t
def RelO:Option V→Option Value→Prop
  | some v,some u=>RelV v u
  | none,none=>True
  | _,_=>False
def KV {κ:Type}:List (κ × V)→List (κ × Value)→Prop:=Paired fun (p:κ × V) (q:κ × Value)=>p.1=q.1∧RelV p.2 q.2
def kV:Key→V
  | .inl i=>.int i
  | .inr x=>.str x
inductive HO where
  | lst (xs:List V)
  | tup (xs:List V)
  | dK (kvs:List (Key × V)) | dT (kvs:List (List Key × V))
  | set (S:Int→Bool) (n:Nat)
  | ins (C dx:Addr) (fs:List (Str × V))
  | own (x:Addr)
  | xd (fs:List (Str × V))
  | met (f x:Addr)
  | rng (lo hi:Int)
  | frz (o:Obj) (u:HO)
  | tbl (ps:Array Value)
  | ext (φ:Heap→Prop)
abbrev Hp:=Addr→Option HO
def upd (H:Hp) (a:Addr) (o:HO):Hp:=fun b=>if b=a then some o else H b
theorem upd_same {H:Hp} {a:Addr} {o:HO}:upd H a o a=some o:=by unfold upd; rw [if_pos rfl]
theorem upd_ne {H:Hp} {a b:Addr} {o:HO} (h:b≠a):upd H a o b=H b:=by unfold upd; rw [if_neg h]
theorem ne_of {H:Hp} {a b:Addr} {o u:HO} (h:H a=some o) (h':H b=some u) (d:o≠u):a≠b:=by
  intro e; subst e; rw [h] at h'; exact d (Option.some.inj h')
theorem ne_of_none {H:Hp} {a b:Addr} {o:HO} (h:H a=some o) (h':H b=none):a≠b:=by
  intro e; subst e; rw [h] at h'; cases h'
section
variable (P:Program) (w:World)
def ObjOk (H:Hp) (h:Heap) (a:Addr):HO→Prop
  | .lst xs=>xs.length≤sizeLine∧∃ (its:List Value) (n:Nat),Vals xs its∧h.get? a=some { cls:=.type "list",data:=.seq its.toArray n }
  | .tup xs=>xs.length≤sizeLine∧∃ its:List Value,Vals xs its∧IsTup h a its.toArray
  | .dK kvs=>kvs.length≤sizeLine∧(a == sysModules)=false∧∃ vs,KV kvs vs∧h.DictOf (mixKind P w) a vs
  | .dT kvs=>kvs.length≤sizeLine∧(a == sysModules)=false∧∃ xs:List (List Key × Addr × Value),
      Paired (fun (p:List Key × V) (q:List Key × Addr × Value)=>p.1=q.1∧H q.2.1=some (.tup (p.1.map kV))∧RelV p.2 q.2.2) kvs xs ∧
      ∃ o es ep,h.get? a=some o∧o.ExactDict∧o.data=.dict es ep∧es.toList=xs.map (entryOfKey (tupleKind (mixKind P w)))∧(xs.map (·.1)).Nodup
  | .set S n=>h.SetOf (intKind P w) a S n
  | .ins C dx fs=>H dx=some (.own a)∧fs.length≤1000∧dx≠a∧h.get? a=some (PySem.W.instObj C dx) ∧
      ∃ mA,h.Ns1 dx mA∧(∀ f,RelO (fs.lookup f) (mA f))∧PySem.Within mA (fs.map (·.1))
  | .own _=>∃ o,h.get? a=some o
  | .xd fs=>∃ mA,h.Ns1 a mA∧∀ f,RelO (fs.lookup f) (mA f)
  | .rng lo hi=>∃ t u v,h.get? a=some { cls:=.type "range",data:=.fields #[.int lo t,.int hi u,.int 1 v] }
  | .frz o u=>h.get? a=some o∧ObjOk H h a u
  | .tbl ps=>h.get? a=some { cls:=.none,data:=.fields ps }
  | .met f x=>h.get? a=some (PySem.W.methodObj (.ref f) (.ref x))
  | .ext φ=>φ h∧(∃ o,h.get? a=some o)∧∀ h1 h2:Heap,φ h1→(∀ o,h1.get? a=some o→h2.get? a=some o)→φ h2
def HOk (H:Hp) (h:Heap):Prop:=∀ a o,H a=some o→ObjOk P w H h a o
end
section
variable {P:Program} {w:World} {H H':Hp} {h h':Heap} {a:Addr} {o:HO}
theorem ObjOk.lt (x:ObjOk P w H h a o):a < h.objs.size:=by
  cases o with
  | lst xs=>obtain ⟨_,_,_,_,e⟩:=x; exact Heap.lt_size e
  | tup xs=>obtain ⟨_,_,_,p⟩:=x; exact p.lt
  | dK kvs=>obtain ⟨_,_,_,_,o,_,_,e,_⟩:=x; exact Heap.lt_size e
  | dT kvs=>obtain ⟨_,_,_,_,o,_,_,e,_⟩:=x; exact Heap.lt_size e
  | set S n=>obtain ⟨o,_,_,_,e,_⟩:=x; exact Heap.lt_size e
  | ins C dx fs=>obtain ⟨_,_,_,e,_⟩:=x; exact Heap.lt_size e
  | own y=>obtain ⟨_,e⟩:=x; exact Heap.lt_size e
  | xd fs=>obtain ⟨_,⟨_,_,_,e,_⟩,_⟩:=x; exact Heap.lt_size e
  | rng lo hi=>obtain ⟨_,_,_,e⟩:=x; exact Heap.lt_size e
  | frz ob u=>obtain ⟨e,_⟩:=x; exact Heap.lt_size e
  | tbl ps=>exact Heap.lt_size (show h.get? a=some _ from x)
  | met f y=>exact Heap.lt_size (show h.get? a=some _ from x)
  | ext φ=>obtain ⟨_,⟨_,e⟩,_⟩:=x; exact Heap.lt_size e
theorem Paired.mapP {α β:Type} {F G:α→β→Prop}:∀ {l₁:List α} {l₂:List β},Paired F l₁ l₂→(∀ a b,F a b→G a b)→Paired G l₁ l₂
  | _,_,.nil,_=>.nil
  | _,_,.cons r t,f=>.cons (f _ _ r) (Paired.mapP t f)
theorem ObjOk.stay (x:ObjOk P w H h a o) (k:∀ b u,(b=a∨H b=some (.own a))→h.get? b=some u→h'.get? b=some u)
    (ho:∀ b,H b=some (.own a)→H' b=some (.own a)) (ht:∀ b xs,H b=some (.tup xs)→H' b=some (.tup xs)):ObjOk P w H' h' a o:=by
  induction o with
  | lst xs=>obtain ⟨z,its,n,r,e⟩:=x; exact ⟨z,its,n,r,k _ _ (.inl rfl) e⟩
  | tup xs=>obtain ⟨z,its,r,ob,e,c⟩:=x; exact ⟨z,its,r,ob,k _ _ (.inl rfl) e,c⟩
  | dK kvs=>obtain ⟨z,y,vs,r,ob,es,ep,e,c⟩:=x; exact ⟨z,y,vs,r,ob,es,ep,k _ _ (.inl rfl) e,c⟩
  | dT kvs =>
    obtain ⟨z,y,xs,r,ob,es,ep,e,c⟩:=x
    exact ⟨z,y,xs,Paired.mapP r fun p q z=>⟨z.1,ht _ _ z.2.1,z.2.2⟩,ob,es,ep,k _ _ (.inl rfl) e,c⟩
  | set S n=>obtain ⟨ob,es,ep,t,e,c⟩:=x; exact ⟨ob,es,ep,t,k _ _ (.inl rfl) e,c⟩
  | ins C dx fs =>
    obtain ⟨d,z,ne,e,mA,⟨od,es,ep,e2,c⟩,r⟩:=x
    exact ⟨ho _ d,z,ne,k _ _ (.inl rfl) e,mA,⟨od,es,ep,k _ _ (.inr d) e2,c⟩,r⟩
  | own y=>obtain ⟨ob,e⟩:=x; exact ⟨ob,k _ _ (.inl rfl) e⟩
  | xd fs=>obtain ⟨mA,⟨od,es,ep,e,c⟩,r⟩:=x; exact ⟨mA,⟨od,es,ep,k _ _ (.inl rfl) e,c⟩,r⟩
  | rng lo hi=>obtain ⟨t,u,v,e⟩:=x; exact ⟨t,u,v,k _ _ (.inl rfl) e⟩
  | frz ob u ih=>obtain ⟨e,q⟩:=x; exact ⟨k _ _ (.inl rfl) e,ih q⟩
  | tbl ps =>
    have e:h.get? a=some { cls:=.none,data:=.fields ps }:=x
    show h'.get? a=some { cls:=.none,data:=.fields ps }
    exact k a _ (.inl rfl) e
  | met f y =>
    have e:h.get? a=some (PySem.W.methodObj (.ref f) (.ref y)):=x
    show h'.get? a=some (PySem.W.methodObj (.ref f) (.ref y))
    exact k a _ (.inl rfl) e
  | ext φ=>obtain ⟨p,⟨o,e⟩,st⟩:=x; exact ⟨st _ _ p fun o q=>k _ _ (.inl rfl) q,⟨o,k _ _ (.inl rfl) e⟩,st⟩
theorem HOk.lt (x:HOk P w H h) (e:H a=some o):a < h.objs.size:=(x a o e).lt
theorem HOk.fresh (x:HOk P w H h) (e:h.objs.size≤a):H a=none:=by
  cases q:H a with
  | none=>rfl
  | some u=>exact absurd (Nat.lt_of_lt_of_le (x.lt q) e) (Nat.lt_irrefl _)
theorem HOk.kept (x:HOk P w H h) (k:∀ b u,h.get? b=some u→h'.get? b=some u):HOk P w H h':=fun a o e =>
  (x a o e).stay (fun b u _ q=>k b u q) (fun _ q=>q) fun _ _ q=>q
theorem HOk.laid (x:HOk P w H h) (k:∀ b u,h.get? b=some u→h'.get? b=some u) (hp:h.objs.size≤a) (new:ObjOk P w (upd H a o) h' a o):HOk P w (upd H a o) h':=fun b u e=>by
  have hn:=x.fresh hp
  by_cases hb:b=a
  · subst hb; rw [upd_same] at e; cases e; exact new
  · rw [upd_ne hb] at e
    exact (x b u e).stay (fun c v _ q=>k c v q) (fun c q=>by rw [upd_ne (ne_of_none q hn)]; exact q) fun c xs q=>by rw [upd_ne (ne_of_none q hn)]; exact q
end
def Rd (H:Hp) (a:Addr) (u:HO):Prop:=H a=some u∨∃ o,H a=some (.frz o u)
theorem Rd.ok {P:Program} {w:World} {H:Hp} {h:Heap} {a:Addr} {u:HO} (r:Rd H a u) (x:HOk P w H h):ObjOk P w H h a u:=by
  rcases r with r | ⟨o,r⟩
  · exact x a u r
  · obtain ⟨_,q⟩:=x a _ r
    exact q
def Mut:Option HO→Prop
  | some (.lst _)=>True
  | some (.dK _)=>True
  | some (.dT _)=>True
  | some (.set _ _)=>True
  | some (.ins _ _ _)=>True
  | some (.ext _)=>True
  | _=>False
section
variable {P:Program} {w:World} {H:Hp} {h h':Heap} {x e:Addr} {o':HO}
theorem HOk.write (ok:HOk P w H h) (mu:Mut (H x)) (he:e=x∨H e=some (.own x)) (k:∀ b u,b≠e→h.get? b=some u→h'.get? b=some u) (heo:∃ u,h'.get? e=some u)
    (new:ObjOk P w (upd H x o') h' x o'):HOk P w (upd H x o') h':=fun b u q=>by
  have nown:∀ c y,H c=some (.own y)→c≠x:=fun c y r z=>by subst z; rw [r] at mu; exact mu
  have ntup:∀ c xs,H c=some (.tup xs)→c≠x:=fun c xs r z=>by subst z; rw [r] at mu; exact mu
  by_cases hb:b=x
  · subst hb; rw [upd_same] at q; cases q; exact new
  · rw [upd_ne hb] at q
    by_cases hbe:b=e
    · have q':H b=some (.own x):=by
        rcases he with z | z
        · exact absurd (hbe.trans z) hb
        · rw [hbe]; exact z
      rw [q] at q'; cases q'
      obtain ⟨v,hv⟩:=heo
      exact ⟨v,by rw [hbe]; exact hv⟩
    · refine (ok b u q).stay (fun c v hc r=>k c v ?_ r) (fun c r=>by rw [upd_ne (nown c b r)]; exact r) fun c xs r=>by rw [upd_ne (ntup c xs r)]; exact r
      rcases hc with rfl | hc
      · exact hbe
      · rintro rfl
        rcases he with z | z
        · exact nown c b hc z
        · rw [hc] at z; cases z; exact hb rfl
end
structure Un (fs ex:List Addr) (H H':Hp) (h h':Heap):Prop where
  keep:∀ b o,h.get? b=some o→H b=none→b ∉ fs→b ∉ ex→h'.get? b=some o
  slot:∀ b o,h.get? b=some o→H b=none→b∈fs→b ∉ ex→∃ sl,h'.get? b=some { o with slots:=sl }
  free:∀ b o,h.get? b=some o→H b=none→b ∉ ex→H' b=none
  there:∀ b o,h.get? b=some o→b ∉ ex→∃ o',h'.get? b=some o'
  tups:∀ b xs,H b=some (.tup xs)→H' b=some (.tup xs)
  frzs:∀ b o u,H b=some (.frz o u)→H' b=some (.frz o u)
  tbls:∀ b ps,H b=some (.tbl ps)→∃ more,H' b=some (.tbl (ps ++ more))
section
variable {fs fs' ex ex':List Addr} {H H1 H2:Hp} {h h1 h2 h':Heap} {a x e:Addr} {o:HO}
theorem Un.any (u:Un fs ex H H1 h h1) {b:Addr} {ob:Obj} (q:h.get? b=some ob) (n:H b=none) (hx:b ∉ ex):∃ sl,h1.get? b=some { ob with slots:=sl }:=by
  by_cases hb:b∈fs
  · exact u.slot b ob q n hb hx
  · exact ⟨ob.slots,u.keep b ob q n hb hx⟩
theorem Un.kept (k:∀ b u,h.get? b=some u→h'.get? b=some u):Un fs ex H H h h' :=
  ⟨fun b ob q _ _ _=>k b ob q,fun b ob q _ _ _=>⟨ob.slots,k b ob q⟩,fun _ _ _ n _=>n,fun b ob q _=>⟨ob,k b ob q⟩,fun _ _ q=>q,fun _ _ _ q=>q,fun _ ps q=>⟨#[],by rw [q]; simp⟩⟩
theorem Un.refl:Un fs ex H H h h:=Un.kept fun _ _ q=>q
theorem Un.laid (k:∀ b u,h.get? b=some u→h'.get? b=some u) (hp:h.objs.size≤a) (hn:H a=none):Un fs ex H (upd H a o) h h' where
  keep:=fun b u q _ _ _=>k b u q
  slot:=fun b u q _ _ _=>⟨u.slots,k b u q⟩
  free:=fun b u q n _=>by rw [upd_ne (Nat.ne_of_lt (Nat.lt_of_lt_of_le (Heap.lt_size q) hp))]; exact n
  there:=fun b u q _=>⟨u,k b u q⟩
  tups:=fun b xs q=>by rw [upd_ne (ne_of_none q hn)]; exact q
  frzs:=fun b u xs q=>by rw [upd_ne (ne_of_none q hn)]; exact q
  tbls:=fun b ps q=>⟨#[],by rw [upd_ne (ne_of_none q hn),q]; simp⟩
theorem Un.write (mu:Mut (H x)) (he:e=x∨H e=some (.own x)) (k:∀ b u,b≠e→h.get? b=some u→h'.get? b=some u) (heo:∃ u,h'.get? e=some u):Un fs ex H (upd H x o) h h':=by
  have hx:∀ b,H b=none→b≠x:=fun b n z=>by subst z; rw [n] at mu; exact mu
  have hb:∀ b,H b=none→b≠e:=fun b n z=>by
    subst z
    rcases he with r | r
    · exact hx b n r
    · rw [n] at r; cases r
  have hm:∀ b u,H b=some u→¬ Mut (some u)→b≠x:=fun b u q nm z=>by subst z; rw [q] at mu; exact nm mu
  refine ⟨fun b u q n _ _=>k b u (hb b n) q,fun b u q n _ _=>⟨u.slots,k b u (hb b n) q⟩,fun b u q n _=>by rw [upd_ne (hx b n)]; exact n,fun b u q _=>?_,
    fun b xs q=>by rw [upd_ne (hm b _ q fun z=>z)]; exact q,fun b u xs q=>by rw [upd_ne (hm b _ q fun z=>z)]; exact q,fun b ps q=>⟨#[],by rw [upd_ne (hm b _ q fun z=>z),q]; simp⟩⟩
  by_cases hbe:b=e
  · subst hbe; exact heo
  · exact ⟨u,k b u hbe q⟩
end
def trk (h:Heap) (H:Hp):List Addr:=(List.range h.objs.size).filter fun a=>(H a).isSome
def hidT (h:Heap) (H:Hp):Heap:=PySem.W.hideAll h (trk h H)
theorem hidT_size (h:Heap) (H:Hp):(hidT h H).objs.size=h.objs.size:=PySem.W.hideAll_size _ _
theorem hidT_get {h:Heap} {H:Hp} {b:Addr} {o:Obj} (e:h.get? b=some o) (n:H b=none):(hidT h H).get? b=some o :=
  PySem.W.hideAll_get _ e fun hm=>by
    have q:(H b).isSome=true:=(List.mem_filter.mp hm).2
    rw [n] at q; simp at q
theorem of_hidT {h:Heap} {H:Hp} {b:Addr} {o:Obj} (e:(hidT h H).get? b=some o):h.get? b=some o∧H b=none:=by
  have e':h.get? b=some o:=PySem.W.of_hideAll (trk h H) e
  refine ⟨e',?_⟩
  cases q:H b with
  | none=>rfl
  | some x =>
    have hm:b∈trk h H:=List.mem_filter.mpr ⟨List.mem_range.mpr (Heap.lt_size e'),by simp [q]⟩
    have z:(hidT h H).get? b=none:=PySem.W.hideAll_none (trk h H) hm
    rw [z] at e; cases e
def allNews (g h:Heap) (L:Addr):List (Addr × Obj):=(List.range h.objs.size).filterMap fun a=>if a=L∨(g.get? a).isSome=true then none else (h.get? a).map fun o=>(a,o)
def rest (g h:Heap) (L d:Addr):List (Addr × Obj):=(allNews g h L).filter fun p=>decide (p.1≠d)
end L2
namespace L2
open PySem PySem.Spec PyProof.Rows
structure Mod (K:PySem.W.Frag) (mg:Str→Option Value) (base:Heap):Prop where
  kin:K.In base
  glob:base.Ns mainGlobals mg
  blt:∃ mb,base.Ns builtinsNs mb∧∀ x:Str,x ≠ "__name__" → mb x=bootBuiltins x
  nolimit:base.NoLimit
structure Cx where
  prog:Program
  w:World
  K:PySem.W.Frag
  mg:Str→Option Value
  base:Heap
  A:Around
  N:List Str
  s₀:Shared
  H₀:Hp
  env:Env
  outer:List Env
  stack:List Env
  ex:List Addr
  fn:Str→Bool
  calm:Bool
  pn:List (Addr × Obj)
  xe:Value→Shared→Prop
def frs (l:List Env):List Addr:=l.filterMap (·.frame)
abbrev Cx.fs (X:Cx):List Addr:=frs X.outer
def Vis (sc:Scope) (x:Str):Prop:=sc.names.lookup x=some .local∨sc.names.lookup x=some .cell∨sc.names.lookup x=some .free
def Loc (sc:Scope) (x:Str):Prop:=sc.names.lookup x=some .local∨sc.names.lookup x=some .cell
def Look (env:Env) (h:Heap) (m:Str→Option Value) (x:Str) (u:Value):Prop :=
  (env.kindOf x=some .local∧m x=some u)∨((env.kindOf x=some .cell∨env.kindOf x=some .free)∧∃ c,env.cells.lookup x=some c∧h.IsCell c (some u))
structure Cx.Ok (X:Cx):Prop where
  mod:Mod X.K X.mg X.base
  kind:X.env.scope.kind=.function
  glob:X.env.globals=mainGlobals
  blt:X.env.builtins=builtinsNs
  above:X.s₀.heap.objs.size≤X.env.locals
  inj:∀ x y c,X.env.cells.lookup x=some c→X.env.cells.lookup y=some c→x=y
  has:∀ x,(X.env.kindOf x=some .cell∨X.env.kindOf x=some .free)→∃ c,X.env.cells.lookup x=some c
  cab:∀ x c,X.fn x=true→X.env.cells.lookup x=some c→X.s₀.heap.objs.size≤c
  hd:X.calm=true→X.A.handled=none
  frames:X.A.frames=some X.stack
  stk:X.stack=X.outer∨(X.stack=X.env :: X.outer∧X.env.frame=some X.env.locals)
  exf:∀ b∈X.ex,b≠X.env.locals∧∀ x c,X.env.cells.lookup x=some c→c≠b
  bs:∀ b o,X.base.get? b=some o→X.s₀.heap.get? b=some o∧X.H₀ b=none
  bsz:X.base.objs.size≤X.s₀.heap.objs.size
  noex:∀ b o,X.base.get? b=some o→b ∉ X.ex
  exfs:∀ b∈X.ex,b ∉ X.fs
  funs:X.s₀.heap.FunFrames X.base X.outer
  frf:∀ b∈X.fs,X.H₀ b=none
structure Inv (X:Cx) (pins:List (Addr × Obj)) (σ:List (Option V)) (H:Hp) (s:Shared):Prop where
  ok:X.Ok
  os:s.os=X.s₀.os
  bare:AllBare s.gens
  base:Un X.fs X.ex X.H₀ H X.s₀.heap s.heap
  loc:∃ m,s.heap.Ns X.env.locals m∧∀ (i:Nat) (x:Str) (v:V),X.N[i]?=some x→σ[i]?=some (some v)→Vis X.env.scope x→∃ u,RelV v u∧Look X.env s.heap m x u
  cell:∀ x c,X.env.cells.lookup x=some c→∃ v,s.heap.IsCell c v
  free:H X.env.locals=none
  freeC:∀ x c,X.env.cells.lookup x=some c→H c=none
  pin:∀ p∈X.pn ++ pins,s.heap.get? p.1=some p.2∧H p.1=none∧p.1≠X.env.locals∧p.1 ∉ X.fs∧∀ v,p.2.data≠.cell v
  hok:HOk X.prog X.w H s.heap
  len:σ.length=X.N.length
section
variable {X:Cx} {pins:List (Addr × Obj)} {σ:List (Option V)} {H H':Hp} {s:Shared} {h':Heap}
theorem Cx.Ok.nofr (ok:X.Ok) {b:Addr} {o:Obj} (e:X.base.get? b=some o):b ∉ X.fs:=fun hb=>by
  have:=(ok.funs.mem hb).1
  rw [e] at this; cases this
theorem Inv.bs (I:Inv X pins σ H s):∀ b o,X.base.get? b=some o→s.heap.get? b=some o∧H b=none:=fun b o e =>
  ⟨I.base.keep b o (I.ok.bs b o e).1 (I.ok.bs b o e).2 (I.ok.nofr e) (I.ok.noex b o e),I.base.free b o (I.ok.bs b o e).1 (I.ok.bs b o e).2 (I.ok.noex b o e)⟩
theorem Inv.bk (I:Inv X pins σ H s):∀ b o,X.base.get? b=some o→s.heap.get? b=some o:=fun b o e=>(I.bs b o e).1
theorem Inv.mod (I:Inv X pins σ H s):Mod X.K X.mg X.base:=I.ok.mod
theorem Inv.kIn (I:Inv X pins σ H s):X.K.In s.heap:=I.ok.mod.kin.keeps I.bk
theorem Inv.fr (I:Inv X pins σ H s):∃ m,Fr X.base X.env.locals s.heap m :=
  let ⟨m,hn,_⟩:=I.loc
  ⟨m,hn,I.bk,Nat.le_trans I.ok.bsz I.ok.above⟩
theorem Inv.lt (I:Inv X pins σ H s):X.env.locals < s.heap.objs.size:=let ⟨_,hn,_⟩:=I.loc; hn.lt
theorem Inv.sz (I:Inv X pins σ H s):X.s₀.heap.objs.size≤s.heap.objs.size:=Nat.le_trans I.ok.above (Nat.le_of_lt I.lt)
theorem Inv.nofs (I:Inv X pins σ H s) {a:Addr} (h:s.heap.objs.size≤a):a ∉ X.fs:=fun hb=>by
  obtain ⟨_,o,ho,_⟩:=I.ok.funs.mem hb
  exact absurd (Nat.lt_of_lt_of_le (Heap.lt_size ho) (Nat.le_trans I.sz h)) (Nat.lt_irrefl _)
theorem Inv.cne (I:Inv X pins σ H s):∀ x c,X.env.cells.lookup x=some c→c≠X.env.locals:=fun x c e z=>by
  obtain ⟨v,o,ho,hd⟩:=I.cell x c e
  obtain ⟨m,⟨o',es,ep,ho',hd',_⟩,_⟩:=I.loc
  rw [z,ho'] at ho; cases ho; rw [hd'] at hd; cases hd
theorem Inv.funs (I:Inv X pins σ H s):s.heap.FunFrames X.base X.outer:=by
  have all:∀ (l:List Env),(∀ b∈frs l,b∈X.fs)→X.s₀.heap.FunFrames X.base l→s.heap.FunFrames X.base l:=by
    intro l
    induction l with
    | nil=>intro _ _; trivial
    | cons env r ih =>
      intro hs hl
      obtain ⟨hk,⟨L,o,hf,hn,ho,hd⟩,hr⟩:=hl
      have hL:L∈X.fs:=hs L (by unfold frs; rw [List.filterMap_cons,hf]; exact List.mem_cons_self)
      obtain ⟨sl,e⟩:=I.base.slot L o ho (I.ok.frf L hL) hL fun z=>I.ok.exfs L z hL
      exact ⟨hk,⟨L,_,hf,hn,e,hd⟩,ih (fun b hb=>hs b (by unfold frs; rw [List.filterMap_cons,hf]; exact List.mem_cons_of_mem _ hb)) hr⟩
  exact all X.outer (fun _ hb=>hb) I.ok.funs
theorem Inv.stack (I:Inv X pins σ H s):s.heap.FunFrames X.base X.stack:=by
  rcases I.ok.stk with e | ⟨e,hf⟩
  · rw [e]; exact I.funs
  · rw [e]
    obtain ⟨m,hn,_⟩:=I.loc
    refine .cons (by rw [I.ok.kind]; decide) hf hn ?_ I.funs
    exact Heap.get?_none_of_le (Nat.le_trans I.ok.bsz I.ok.above)
theorem Inv.stkSub (I:Inv X pins σ H s):∀ b∈frs X.stack,b∈X.env.locals :: X.fs:=fun b hb=>by
  rcases I.ok.stk with e | ⟨e,hf⟩
  · rw [e] at hb; exact List.mem_cons_of_mem _ hb
  · rw [e] at hb
    unfold frs at hb
    rw [List.filterMap_cons,hf] at hb
    exact hb
theorem Inv.stkFree (I:Inv X pins σ H s):∀ b∈frs X.stack,H b=none:=fun b hb=>by
  rcases List.mem_cons.mp (I.stkSub b hb) with e | hb
  · rw [e]; exact I.free
  · obtain ⟨_,o,ho,_⟩:=I.ok.funs.mem hb
    exact I.base.free b o ho (I.ok.frf b hb) fun z=>I.ok.exfs b z hb
theorem Inv.step {g':Array GenState} {t':Nat} {d':Drawn} {ch:List Addr} (I:Inv X pins σ H s)
    (hch:∀ b∈ch,(b∈X.ex∨X.s₀.heap.objs.size≤b)∧b≠X.env.locals∧(∀ x c,X.env.cells.lookup x=some c→c≠b)∧∀ p∈X.pn ++ pins,p.1≠b)
    (keep:∀ b o,b≠X.env.locals→b ∉ X.fs→b ∉ ch→s.heap.get? b=some o→H b=none→h'.get? b=some o)
    (slot:∀ b o,b≠X.env.locals→b∈X.fs→b ∉ ch→s.heap.get? b=some o→H b=none→∃ sl,h'.get? b=some { o with slots:=sl }) (free:∀ b o,b ∉ ch→s.heap.get? b=some o→H b=none→H' b=none)
    (there:∀ b o,b ∉ ch→s.heap.get? b=some o→∃ o',h'.get? b=some o')
    (tups:∀ b xs,H b=some (.tup xs)→H' b=some (.tup xs)) (frzs:∀ b o u,H b=some (.frz o u)→H' b=some (.frz o u)) (tbls:∀ b ps,H b=some (.tbl ps)→∃ more,H' b=some (.tbl (ps ++ more)))
    (ns:∀ m,s.heap.Ns X.env.locals m→h'.Ns X.env.locals m) (hok:HOk X.prog X.w H' h') (hg:AllBare g') :
    Inv X pins σ H' { s with heap:=h',gens:=g',drawn:=d',toks:=t' }:=by
  have neL:∀ b o,X.s₀.heap.get? b=some o→b≠X.env.locals:=fun b o e=>Nat.ne_of_lt (Nat.lt_of_lt_of_le (Heap.lt_size e) I.ok.above)
  have neC:∀ b o,X.s₀.heap.get? b=some o→b ∉ X.ex→b ∉ ch:=fun b o e hx hb=>by
    rcases (hch b hb).1 with z | z
    · exact hx z
    · exact absurd (Nat.lt_of_lt_of_le (Heap.lt_size e) z) (Nat.lt_irrefl _)
  have cellK:∀ x c,X.env.cells.lookup x=some c→∀ v,s.heap.IsCell c v→h'.IsCell c v:=fun x c e v ⟨o,ho,hd⟩=>by
    have nch:c ∉ ch:=fun z=>(hch c z).2.2.1 x c e rfl
    by_cases hc:c∈X.fs
    · obtain ⟨sl,q⟩:=slot c o (I.cne x c e) hc nch ho (I.freeC x c e)
      exact ⟨_,q,hd⟩
    · exact ⟨o,keep c o (I.cne x c e) hc nch ho (I.freeC x c e),hd⟩
  refine ⟨I.ok,I.os,hg,⟨fun b o e n hb hx=>?_,fun b o e n hb hx=>?_,fun b o e n hx=>?_,fun b o e hx=>?_,fun b xs e=>tups b xs (I.base.tups b xs e),fun b o xs e=>frzs b o xs (I.base.frzs b o xs e),fun b ps e=>?_⟩,?_,fun x c e=>?_,?_,fun x c e=>?_,fun p hp=>?_,hok,I.len⟩
  · exact keep b o (neL b o e) hb (neC b o e hx) (I.base.keep b o e n hb hx) (I.base.free b o e n hx)
  · obtain ⟨sl,e1⟩:=I.base.slot b o e n hb hx
    obtain ⟨sl',e2⟩:=slot b _ (neL b o e) hb (neC b o e hx) e1 (I.base.free b o e n hx)
    exact ⟨sl',e2⟩
  · obtain ⟨o',e1⟩:=I.base.there b o e hx
    exact free b o' (neC b o e hx) e1 (I.base.free b o e n hx)
  · obtain ⟨o',e1⟩:=I.base.there b o e hx
    exact there b o' (neC b o e hx) e1
  · obtain ⟨m1,e1⟩:=I.base.tbls b ps e
    obtain ⟨m2,e2⟩:=tbls b _ e1
    exact ⟨m1 ++ m2,by rw [e2,Array.append_assoc]⟩
  · obtain ⟨m,hn,hl⟩:=I.loc
    refine ⟨m,ns m hn,fun i x v e1 e2 e3=>?_⟩
    obtain ⟨u,r,l⟩:=hl i x v e1 e2 e3
    refine ⟨u,r,?_⟩
    rcases l with l | ⟨k,c,e,z⟩
    · exact .inl l
    · exact .inr ⟨k,c,e,cellK x c e _ z⟩
  · obtain ⟨v,z⟩:=I.cell x c e
    exact ⟨v,cellK x c e v z⟩
  · obtain ⟨m,⟨o,_,_,ho,_⟩,_⟩:=I.loc
    exact free _ o (fun z=>(hch _ z).2.1 rfl) ho I.free
  · obtain ⟨v,o,ho,hd⟩:=I.cell x c e
    exact free c o (fun z=>(hch c z).2.2.1 x c e rfl) ho (I.freeC x c e)
  · obtain ⟨e,n,ne,nf,d⟩:=I.pin p hp
    have nch:p.1 ∉ ch:=fun z=>(hch p.1 z).2.2.2 p hp rfl
    exact ⟨keep p.1 p.2 ne nf nch e n,free p.1 p.2 nch e n,ne,nf,d⟩
theorem Inv.un {t':Nat} (I:Inv X pins σ H s) (u:Un X.fs [] H H' s.heap h') (hok:HOk X.prog X.w H' h'):Inv X pins σ H' { s with heap:=h',toks:=t' }:=by
  obtain ⟨m,⟨o,es,ep,ho,r⟩,_⟩:=id I.loc
  obtain ⟨sl,hL⟩:=u.any ho I.free (by simp)
  exact I.step (g':=s.gens) (d':=s.drawn) (ch:=[]) (fun _ z=>nomatch z) (fun b o _ hb _ e n=>u.keep b o e n hb (by simp)) (fun b o _ hb _ e n=>u.slot b o e n hb (by simp)) (fun b o _ e n=>u.free b o e n (by simp)) (fun b o _ e=>u.there b o e (by simp)) u.tups u.frzs u.tbls (fun m' hm=>by
    obtain ⟨o',es',ep',ho',r'⟩:=hm
    rw [ho] at ho'; cases ho'
    exact ⟨_,es',ep',hL,r'⟩) hok I.bare
theorem Inv.call {g':Array GenState} {t':Nat} {d':Drawn} {ch:List Addr} (I:Inv X pins σ H s) (u:Un (frs X.stack) ch H H' s.heap h') (hok:HOk X.prog X.w H' h') (hg:AllBare g')
    (hch:∀ b∈ch,(b∈X.ex∨X.s₀.heap.objs.size≤b)∧b≠X.env.locals∧(∀ x c,X.env.cells.lookup x=some c→c≠b)∧∀ p∈X.pn ++ pins,p.1≠b) :
    Inv X pins σ H' { s with heap:=h',gens:=g',drawn:=d',toks:=t' }:=by
  obtain ⟨m,⟨o,es,ep,ho,r⟩,_⟩:=id I.loc
  obtain ⟨sl,hL⟩:=u.any ho I.free fun z=>(hch _ z).2.1 rfl
  exact I.step (ch:=ch) hch (fun b o hL hb hc e n=>u.keep b o e n (fun z=>(List.mem_cons.mp (I.stkSub b z)).elim hL hb) hc) (fun b o _ _ hc e n=>u.any e n hc) (fun b o hc e n=>u.free b o e n hc) (fun b o hc e=>u.there b o e hc) u.tups u.frzs u.tbls (fun m' hm=>by
    obtain ⟨o',es',ep',ho',r'⟩:=hm
    rw [ho] at ho'; cases ho'
    exact ⟨_,es',ep',hL,r'⟩) hok hg
theorem Inv.turned {t':Nat} {it:Addr} (I:Inv X pins σ H s) (k:∀ b o,b≠it→s.heap.get? b=some o→h'.get? b=some o) (hn:H it=none) (hL:it≠X.env.locals)
    (h1:it∈X.ex∨X.s₀.heap.objs.size≤it) (h2:∀ x c,X.env.cells.lookup x=some c→c≠it) (h3:∀ p∈X.pn ++ pins,p.1≠it):Inv X pins σ H { s with heap:=h',toks:=t' }:=by
  have nit:∀ b u,H b=some u→b≠it:=fun b u e z=>by rw [z,hn] at e; cases e
  refine I.step (g':=s.gens) (d':=s.drawn) (ch:=[it]) (fun b hb=>?_) (fun b o _ _ hc e _=>k b o (fun z=>hc (by simp [z])) e) (fun b o _ _ hc e _=>⟨o.slots,k b o (fun z=>hc (by simp [z])) e⟩) (fun _ _ _ _ n=>n)
    (fun b o hc e=>⟨o,k b o (fun z=>hc (by simp [z])) e⟩) (fun _ _ e=>e) (fun _ _ _ e=>e) (fun b ps e=>⟨#[],by rw [e]; simp⟩) (fun m hm=>?_) (fun b u e=>?_) I.bare
  · have e:b=it:=by simpa using hb
    subst e
    exact ⟨h1,hL,h2,h3⟩
  · obtain ⟨o,es,ep,ho,r⟩:=hm
    exact ⟨o,es,ep,k _ o (Ne.symm hL) ho,r⟩
  · refine (I.hok b u e).stay (fun c v hc q=>k c v ?_ q) (fun _ q=>q) fun _ _ q=>q
    rcases hc with z | z
    · rw [z]; exact nit b u e
    · exact nit c _ z
theorem Inv.tok (I:Inv X pins σ H s) (t:Nat):Inv X pins σ H { s with toks:=t }:=I.un (h':=s.heap) (t':=t) Un.refl I.hok
theorem Inv.kept {t':Nat} (I:Inv X pins σ H s) (k:∀ b u,s.heap.get? b=some u→h'.get? b=some u):Inv X pins σ H { s with heap:=h',toks:=t' }:=I.un (Un.kept k) (I.hok.kept k)
theorem Inv.laid {a:Addr} {o:HO} {t':Nat} (I:Inv X pins σ H s) (k:∀ b u,s.heap.get? b=some u→h'.get? b=some u) (hp:s.heap.objs.size≤a) (new:ObjOk X.prog X.w (upd H a o) h' a o) :
    Inv X pins σ (upd H a o) { s with heap:=h',toks:=t' }:=I.un (Un.laid k hp (I.hok.fresh hp)) (I.hok.laid k hp new)
theorem Inv.write {x e:Addr} {o:HO} {t':Nat} (I:Inv X pins σ H s) (mu:Mut (H x)) (he:e=x∨H e=some (.own x)) (k:∀ b u,b≠e→s.heap.get? b=some u→h'.get? b=some u) (heo:∃ u,h'.get? e=some u)
    (new:ObjOk X.prog X.w (upd H x o) h' x o):Inv X pins σ (upd H x o) { s with heap:=h',toks:=t' }:=I.un (Un.write mu he k heo) (I.hok.write mu he k heo new)
theorem Inv.weak {σ':List (Option V)} (I:Inv X pins σ H s) (hl:σ'.length=σ.length) (w:∀ (i:Nat) v,σ'[i]?=some (some v)→σ[i]?=some (some v)):Inv X pins σ' H s :=
  ⟨I.ok,I.os,I.bare,I.base,let ⟨m,hn,hl'⟩:=I.loc; ⟨m,hn,fun i x v e1 e2 e3=>hl' i x v e1 (w i v e2) e3⟩,I.cell,I.free,I.freeC,I.pin,I.hok,hl.trans I.len⟩
theorem Inv.pins_of {pins':List (Addr × Obj)} (I:Inv X pins σ H s) (h:∀ p∈pins',s.heap.get? p.1=some p.2∧H p.1=none∧p.1≠X.env.locals∧p.1 ∉ X.fs∧∀ v,p.2.data≠.cell v):Inv X pins' σ H s :=
  ⟨I.ok,I.os,I.bare,I.base,I.loc,I.cell,I.free,I.freeC,fun p hp=>(List.mem_append.mp hp).elim (fun z=>I.pin p (List.mem_append_left _ z)) (h p),I.hok,I.len⟩
theorem nodup_ix {N:List Str} (hN:N.Nodup) {i j:Nat} {x:Str} (a:N[i]?=some x) (b:N[j]?=some x):i=j:=by
  obtain ⟨h1,e1⟩:=List.getElem?_eq_some_iff.mp a
  obtain ⟨h2,e2⟩:=List.getElem?_eq_some_iff.mp b
  exact (List.getElem_inj hN).mp (e1.trans e2.symm)
theorem store_ok2 {M:Model} {A:Around} {E:Value→Shared→Prop} {i:Nat} {x:Str} {v:V} {u:Value} {Q:Unit→Shared→Prop} (I:Inv X pins σ H s) (hN:X.N.Nodup) (hi:X.N[i]?=some x) (hx:Loc X.env.scope x) (r:RelV v u)
    (h:∀ s',Inv X pins (σ.set i (some v)) H s'→(∃ a,Heap.SameBut a s.heap s'.heap∧(a=X.env.locals∨X.env.cells.lookup x=some a))→Q () s') (hf:X.fn x=true∨X.env.scope.names.lookup x=some .local:=by first | exact .inl rfl | exact .inr rfl | assumption):wpAny M A (storeName X.env x u) Q E s:=by
  obtain ⟨m,hn,hl⟩:=id I.loc
  have hcls:(X.env.scope.kind == .class || (X.env.scope.kind == .module && X.env.locals != X.env.globals))=false:=by rw [I.ok.kind]; rfl
  have hiσ:i < σ.length:=by rw [I.len]; exact (List.getElem?_eq_some_iff.mp hi).1
  have cne:=I.cne
  have tracked:∀ {a:Addr} {h':Heap},(∃ o,s.heap.get? a=some o∧H a=none)→Heap.SameBut a s.heap h'→HOk X.prog X.w H h':=fun {a h'} ha hs b ob e=>by
    obtain ⟨_,_,hfree⟩:=ha
    refine (I.hok b ob e).stay (fun c w' hc q=>(hs.2 c ?_).trans q) (fun _ q=>q) fun _ _ q=>q
    rintro rfl
    rcases hc with rfl | hc
    · rw [hfree] at e; cases e
    · rw [hfree] at hc; cases hc
  rcases hx with hk | hk
  · refine wpAny_storeName_local hk hn (fun h' hn' hs=>?_) hcls
    obtain ⟨oL,_,_,hoL,_⟩:=id hn
    refine h _ ⟨I.ok,I.os,I.bare,⟨fun b o e n hb hx=>?_,fun b o e n hb hx=>?_,I.base.free,fun b o e hx=>?_,I.base.tups,I.base.frzs,I.base.tbls⟩,⟨_,hn',fun j y v' e1 e2 e3=>?_⟩,fun y c e=>?_,I.free,I.freeC,fun p hp=>?_,tracked ⟨oL,hoL,I.free⟩ hs,by simpa using I.len⟩ ⟨_,hs,.inl rfl⟩
    · exact (hs.2 b (Nat.ne_of_lt (Nat.lt_of_lt_of_le (Heap.lt_size e) I.ok.above))).trans (I.base.keep b o e n hb hx)
    · obtain ⟨sl,e1⟩:=I.base.slot b o e n hb hx
      exact ⟨sl,(hs.2 b (Nat.ne_of_lt (Nat.lt_of_lt_of_le (Heap.lt_size e) I.ok.above))).trans e1⟩
    · obtain ⟨o',e1⟩:=I.base.there b o e hx
      exact ⟨o',(hs.2 b (Nat.ne_of_lt (Nat.lt_of_lt_of_le (Heap.lt_size e) I.ok.above))).trans e1⟩
    · by_cases hj:j=i
      · subst hj
        rw [hi] at e1; cases e1
        rw [List.getElem?_set_self hiσ] at e2
        cases e2
        exact ⟨u,r,.inl ⟨hk,by simp⟩⟩
      · rw [List.getElem?_set_ne (Ne.symm hj)] at e2
        obtain ⟨u',r',q⟩:=hl j y v' e1 e2 e3
        refine ⟨u',r',?_⟩
        rcases q with ⟨k,e⟩ | ⟨k,c,e,z⟩
        · refine .inl ⟨k,?_⟩
          have:y≠x:=fun e=>hj (nodup_ix hN e1 (e ▸ hi))
          simp [this,e]
        · exact .inr ⟨k,c,e,z.sameBut hs (cne y c e)⟩
    · obtain ⟨w',z⟩:=I.cell y c e
      exact ⟨w',z.sameBut hs (cne y c e)⟩
    · obtain ⟨e,n,ne,nf,d⟩:=I.pin p hp
      exact ⟨(hs.2 p.1 ne).trans e,n,ne,nf,d⟩
  · have hfn:X.fn x=true:=by
      rcases hf with z | z
      · exact z
      · rw [z] at hk; cases hk
    obtain ⟨c,hc⟩:=I.ok.has x (.inl hk)
    obtain ⟨w',z⟩:=I.cell x c hc
    refine wpAny_storeName_cell I.ok.kind hk hc z (fun h' hc' hs=>?_)
    obtain ⟨oc,hoc,hocd⟩:=id z
    refine h { s with heap:=h' } ⟨I.ok,I.os,I.bare,⟨fun b o e n hb hx=>?_,fun b o e n hb hx=>?_,I.base.free,fun b o e hx=>?_,I.base.tups,I.base.frzs,I.base.tbls⟩,⟨m,hn.sameBut hs (Ne.symm (cne x c hc)),fun j y v' e1 e2 e3=>?_⟩,fun y c' e=>?_,I.free,I.freeC,fun p hp=>?_,tracked ⟨oc,hoc,I.freeC x c hc⟩ hs,by simpa using I.len⟩ ⟨c,hs,.inr hc⟩
    · exact (hs.2 b (Nat.ne_of_lt (Nat.lt_of_lt_of_le (Heap.lt_size e) (I.ok.cab x c hfn hc)))).trans (I.base.keep b o e n hb hx)
    · obtain ⟨sl,e1⟩:=I.base.slot b o e n hb hx
      exact ⟨sl,(hs.2 b (Nat.ne_of_lt (Nat.lt_of_lt_of_le (Heap.lt_size e) (I.ok.cab x c hfn hc)))).trans e1⟩
    · obtain ⟨o',e1⟩:=I.base.there b o e hx
      exact ⟨o',(hs.2 b (Nat.ne_of_lt (Nat.lt_of_lt_of_le (Heap.lt_size e) (I.ok.cab x c hfn hc)))).trans e1⟩
    · by_cases hj:j=i
      · subst hj
        rw [hi] at e1; cases e1
        rw [List.getElem?_set_self hiσ] at e2
        cases e2
        exact ⟨u,r,.inr ⟨.inl hk,c,hc,hc'⟩⟩
      · rw [List.getElem?_set_ne (Ne.symm hj)] at e2
        obtain ⟨u',r',q⟩:=hl j y v' e1 e2 e3
        refine ⟨u',r',?_⟩
        rcases q with q | ⟨k,c',e,z'⟩
        · exact .inl q
        · refine .inr ⟨k,c',e,z'.sameBut hs ?_⟩
          rintro rfl
          exact hj (nodup_ix hN e1 (I.ok.inj _ _ _ e hc ▸ hi))
    · by_cases hcc:c'=c
      · subst hcc; exact ⟨_,hc'⟩
      · obtain ⟨w2,z2⟩:=I.cell y c' e
        exact ⟨w2,z2.sameBut hs hcc⟩
    · obtain ⟨e,n,ne,nf,d⟩:=I.pin p hp
      refine ⟨(hs.2 p.1 ?_).trans e,n,ne,nf,d⟩
      intro q
      rw [q,hoc] at e
      have q':oc=p.2:=Option.some.inj e
      exact d w' (by rw [← q']; exact hocd)
theorem store_ok {M:Model} {A:Around} {E:Value→Shared→Prop} {i:Nat} {x:Str} {v:V} {u:Value} {Q:Unit→Shared→Prop} (I:Inv X pins σ H s) (hN:X.N.Nodup) (hi:X.N[i]?=some x) (hx:Loc X.env.scope x) (r:RelV v u)
    (h:∀ s',Inv X pins (σ.set i (some v)) H s'→Q () s') (hf:X.fn x=true∨X.env.scope.names.lookup x=some .local:=by first | exact .inl rfl | exact .inr rfl | assumption):wpAny M A (storeName X.env x u) Q E s :=
  store_ok2 I hN hi hx r (fun s' I' _=>h s' I') hf
theorem Inv.call' {s':Shared} {ch:List Addr} (I:Inv X pins σ H s) (ho:s'.os=s.os) (u:Un (frs X.stack) ch H H' s.heap s'.heap) (hok:HOk X.prog X.w H' s'.heap) (hg:AllBare s'.gens)
    (hch:∀ b∈ch,(b∈X.ex∨X.s₀.heap.objs.size≤b)∧b≠X.env.locals∧(∀ x c,X.env.cells.lookup x=some c→c≠b)∧∀ p∈X.pn ++ pins,p.1≠b):Inv X pins σ H' s':=by
  obtain ⟨h',g',d',t',o'⟩:=s'
  have e:o'=s.os:=ho
  subst e
  exact I.call (g':=g') (t':=t') (d':=d') u hok hg hch
end
abbrev XK:=Value→Option Addr→Hp→Prop
abbrev St:=List (Option V)
abbrev VK:=V→Hp→Prop
abbrev TE:=St→Hp→VK→Prop
abbrev TT:=St→Hp→(Bool→Hp→Prop)→Prop
abbrev TA:=St→Hp→(List V→Hp→Prop)→Prop
structure Ends where
  nx:St→Hp→Prop
  rt:VK
  bk:St→Hp→Prop:=fun _ _=>False
  ct:St→Hp→Prop:=fun _ _=>False
abbrev TS:=Ends→St→Hp→Prop
def EP (X:Cx) (pins:List (Addr × Obj)) (σ:St) (Q:VK) (u:Value) (s':Shared):Prop:=∃ v H',Inv X pins σ H' s'∧RelV v u∧Q v H'
def TP (X:Cx) (pins:List (Addr × Obj)) (σ:St) (Q:Bool→Hp→Prop) (b:Bool) (s':Shared):Prop:=∃ H',Inv X pins σ H' s'∧Q b H'
def AP (X:Cx) (pins:List (Addr × Obj)) (σ:St) (Q:List V→Hp→Prop) (us:List Value) (s':Shared):Prop:=∃ vs H',Inv X pins σ H' s'∧Vals vs us∧Q vs H'
def SP (X:Cx) (pins:List (Addr × Obj)) (D:Ends) (f:Flow) (s':Shared):Prop :=
  match f with
  | .next=>∃ σ' H',Inv X pins σ' H' s'∧D.nx σ' H'
  | .brk=>∃ σ' H',Inv X pins σ' H' s'∧D.bk σ' H'
  | .cont=>∃ σ' H',Inv X pins σ' H' s'∧D.ct σ' H'
  | .ret u=>∃ v σ' H',Inv X pins σ' H' s'∧RelV v u∧D.rt v H'
def PE (X:Cx) (e:Expr) (t:TE):Prop :=
  ∀ (pins:List (Addr × Obj)) (s:Shared) (σ:St) (H:Hp) (Q:VK),Inv X pins σ H s→t σ H Q→wpAny (model X.prog X.w) X.A (eval e X.env) (EP X pins σ Q) X.xe s
def PT (X:Cx) (e:Expr) (t:TT):Prop :=
  ∀ (pins:List (Addr × Obj)) (s:Shared) (σ:St) (H:Hp) (Q:Bool→Hp→Prop),Inv X pins σ H s→t σ H Q→wpAny (model X.prog X.w) X.A (isTrue e X.env (eval e X.env)) (TP X pins σ Q) X.xe s
def PW (X:Cx) (e:Expr) (t:TT):Prop :=
  ∀ (whole:Sem Value) (pins:List (Addr × Obj)) (s:Shared) (σ:St) (H:Hp) (Q:Bool→Hp→Prop),Inv X pins σ H s→t σ H Q→wpAny (model X.prog X.w) X.A (isTrue e X.env whole) (TP X pins σ Q) X.xe s
theorem PW.pt {X:Cx} {e:Expr} {t:TT} (h:PW X e t):PT X e t:=h _
def PA (X:Cx) (es:List Expr) (t:TA):Prop :=
  ∀ (pos:Pos) (pins:List (Addr × Obj)) (s:Shared) (σ:St) (H:Hp) (Q:List V→Hp→Prop),Inv X pins σ H s→t σ H Q→wpAny (model X.prog X.w) X.A (spliced (backTo pos (starEach es X.env))) (AP X pins σ Q) X.xe s
def PS (X:Cx) (st:Stmt) (t:TS):Prop :=
  ∀ (pins:List (Addr × Obj)) (s:Shared) (σ:St) (H:Hp) (D:Ends),Inv X pins σ H s→t D σ H→wpAny (model X.prog X.w) X.A (exec st X.env) (SP X pins D) X.xe s
def PSs (X:Cx) (st:List Stmt) (t:TS):Prop :=
  ∀ (pins:List (Addr × Obj)) (s:Shared) (σ:St) (H:Hp) (D:Ends),Inv X pins σ H s→t D σ H→wpAny (model X.prog X.w) X.A (execs st X.env) (SP X pins D) X.xe s
theorem thn {α:Type} {t:Sem α} {Q Q':α→Shared→Prop} {M:Model} {A:Around} {E:Value→Shared→Prop} {s:Shared} (h:wpAny M A t Q E s) (hQ:∀ a s,Q a s→Q' a s):wpAny M A t Q' E s:=wpAny_mono h hQ fun _ _ x=>x
end L2
namespace L2
open PySem PySem.Spec PyProof.Rows
section
variable {X:Cx}
theorem bin {a b:Expr} {ta tb:TE} (ha:PE X a ta) (hb:PE X b tb) {pins:List (Addr × Obj)} {s:Shared} {σ:St} {H:Hp} {R:V→V→Hp→Prop} (I:Inv X pins σ H s) (h:ta σ H fun x H1=>tb σ H1 fun y H2=>R x y H2)
    {α:Type} {Q:α→Shared→Prop} {f:Value→Value→Sem α}
    (hf:∀ v u s2 x y H2,Inv X pins σ H2 s2→RelV x v→RelV y u→R x y H2→wpAny (model X.prog X.w) X.A (f v u) Q X.xe s2) :
    wpAny (model X.prog X.w) X.A (eval a X.env) (fun v s₁=>wpAny (model X.prog X.w) X.A (eval b X.env) (fun u s₂=>wpAny (model X.prog X.w) X.A (f v u) Q X.xe s₂) X.xe s₁) X.xe s:=by
  refine thn (ha pins s σ H _ I h) fun v s1 ⟨x,H1,I1,r1,q1⟩=>?_
  refine thn (hb pins s1 σ H1 _ I1 q1) fun u s2 ⟨y,H2,I2,r2,q2⟩=>?_
  exact hf v u s2 x y H2 I2 r1 r2 q2
def tVar (i:Nat):TE:=fun σ H Q=>∃ v,σ[i]?=some (some v)∧Q v H
def tC (v:V):TE:=fun _ H Q=>Q v H
theorem pe_var {i:Nat} {x:Str} {pos:Pos} (hN:X.N[i]?=some x) (hv:Vis X.env.scope x) (hd:(x == ("__debug__" : Str))=false:=by decide) (hcd:(x == ("__classdict__" : Str))=false:=by decide):PE X (.Name x pos) (tVar i):=by
  intro pins s σ H Q I h
  obtain ⟨v,e,h⟩:=h
  obtain ⟨m,hn,hl⟩:=I.loc
  obtain ⟨u,r,l⟩:=hl i x v hN e hv
  have fin:EP X pins σ Q u s:=⟨v,H,I,r,h⟩
  rcases l with ⟨hk,hm⟩ | ⟨hk,c,hc,hcell⟩
  · exact wpAny_Name (wpAny_loadName_local I.ok.kind hk hn hm fin) hd
  · rcases hk with hk | hk
    · exact wpAny_Name (wpAny_loadName_cell I.ok.kind hk hc hcell fin) hd
    · exact wpAny_Name (wpAny_loadName_free I.ok.kind hk hc hcell fin hcd) hd
theorem pe_int {i j pos}:PE X (.Constant (.int i) j pos) (tC (.int i)):=fun _ _ _ H _ I h=>wpAny_Constant_int ⟨.int i,H,I.tok _,⟨_,rfl⟩,h⟩
theorem pe_bl {b j pos}:PE X (.Constant (.bool b) j pos) (tC (.bl b)):=fun _ _ _ H _ I h=>Constant_bool ⟨.bl b,H,I,rfl,h⟩
theorem pe_non {j pos}:PE X (.Constant .none j pos) (tC .non):=fun _ _ _ H _ I h=>Constant_none ⟨.non,H,I,rfl,h⟩
def Gl (X:Cx) (x:Str):Prop:=X.env.kindOf x=some .globalImplicit
theorem ld_glob {E:Value→Shared→Prop} {pins:List (Addr × Obj)} {s:Shared} {σ:St} {H:Hp} {x:Str} {u:Value} {pos:Pos} {Q:Value→Shared→Prop} (I:Inv X pins σ H s) (hg:Gl X x) (hm:X.mg x=some u) (h:Q u s)
    (hd:(x == ("__debug__" : Str))=false:=by decide):wpAny (model X.prog X.w) X.A (eval (.Name x pos) X.env) Q E s :=
  Calls.Name_function_global I.ok.kind hg (Calls.loadGlobal_global (by rw [I.ok.glob]; exact I.mod.glob.keeps I.bk) hm h) hd
theorem ld_blt {E:Value→Shared→Prop} {pins:List (Addr × Obj)} {s:Shared} {σ:St} {H:Hp} {x:Str} {u:Value} {pos:Pos} {Q:Value→Shared→Prop} (I:Inv X pins σ H s) (hg:Gl X x) (hm:X.mg x=none) (hv:bootBuiltins x=some u) (h:Q u s)
    (hn:x ≠ "__name__" := by decide) (hd:(x == ("__debug__" : Str))=false:=by decide):wpAny (model X.prog X.w) X.A (eval (.Name x pos) X.env) Q E s:=by
  obtain ⟨mb,h1,h2⟩:=I.mod.blt
  exact Calls.Name_function_global I.ok.kind hg (Calls.loadGlobal_builtin (by rw [I.ok.glob]; exact I.mod.glob.keeps I.bk) hm (by rw [I.ok.blt]; exact h1.keeps I.bk) ((h2 x hn).trans hv) h) hd
theorem pe_bltn {x:Str} {v:V} {u:Value} {pos:Pos} (hg:Gl X x) (hm:X.mg x=none) (hv:bootBuiltins x=some u) (r:RelV v u) (hn:x ≠ "__name__" := by decide) (hd:(x == ("__debug__" : Str))=false:=by decide):PE X (.Name x pos) (tC v) :=
  fun _ _ _ H _ I h=>ld_blt I hg hm hv ⟨v,H,I,r,h⟩ hn hd
variable {a b:Expr} {ta tb:TE} {pos:Pos}
variable {tA tB':TT} {rest:List Expr}
def tAnd (t u:TT):TT:=fun σ H Q=>t σ H fun c H1=>if c=true then u σ H1 Q else Q false H1
def tOr (t u:TT):TT:=fun σ H Q=>t σ H fun c H1=>if c=true then Q true H1 else u σ H1 Q
def tNot (t:TT):TT:=fun σ H Q=>t σ H fun c H1=>Q (!c) H1
theorem pw_and1 (ha:PT X a tA):PW X (.BoolOp .And [a] pos) tA:=by
  intro wh pins s σ H Q I h
  refine isTrue_and (thn (ha pins s σ H Q I h) fun c s1 e=>?_)
  cases c with
  | true=>exact isTrue_and_nil e
  | false=>exact e
theorem pw_or1 (ha:PT X a tA):PW X (.BoolOp .Or [a] pos) tA:=by
  intro wh pins s σ H Q I h
  refine isTrue_or (thn (ha pins s σ H Q I h) fun c s1 e=>?_)
  cases c with
  | false=>exact isTrue_or_nil e
  | true=>exact e
theorem pw_and (ha:PT X a tA) (hb:PW X (.BoolOp .And (b :: rest) pos) tB'):PW X (.BoolOp .And (a :: b :: rest) pos) (tAnd tA tB'):=by
  intro wh pins s σ H Q I h
  refine isTrue_and (thn (ha pins s σ H _ I h) fun c s1 ⟨H1,I1,q1⟩=>?_)
  cases c with
  | true=>exact hb wh pins s1 σ H1 Q I1 q1
  | false=>exact ⟨H1,I1,q1⟩
theorem pw_or (ha:PT X a tA) (hb:PW X (.BoolOp .Or (b :: rest) pos) tB'):PW X (.BoolOp .Or (a :: b :: rest) pos) (tOr tA tB'):=by
  intro wh pins s σ H Q I h
  refine isTrue_or (thn (ha pins s σ H _ I h) fun c s1 ⟨H1,I1,q1⟩=>?_)
  cases c with
  | true=>exact ⟨H1,I1,q1⟩
  | false=>exact hb wh pins s1 σ H1 Q I1 q1
theorem pt_not (ha:PT X a tA):PT X (.UnaryOp .Not a pos) (tNot tA):=by
  intro pins s σ H Q I h
  exact isTrue_not (ha pins s σ H (fun c H1=>Q (!c) H1) I h)
def tAndV (ta tb:TE):TE:=fun σ H Q=>ta σ H fun x H1=>∃ c,x=.bl c∧if c=true then tb σ H1 Q else Q (.bl false) H1
def tNotV (ta:TE):TE:=fun σ H Q=>ta σ H fun x H1=>∃ c,x=.bl c∧Q (.bl (!c)) H1
theorem pe_one {op} {t:TE} (h:PE X a t):PE X (.BoolOp op [a] pos) t:=fun pins s σ H Q I hw=>BoolOp_one (h pins s σ H Q I hw)
theorem pe_and (ha:PE X a ta) (hb:PE X (.BoolOp .And (b :: rest) pos) tb):PE X (.BoolOp .And (a :: b :: rest) pos) (tAndV ta tb):=by
  intro pins s σ H Q I h
  refine BoolOp_and (thn (ha pins s σ H _ I h) fun v s1 ⟨x,H1,I1,r1,q1⟩=>?_)
  obtain ⟨c,rfl,q1⟩:=q1
  cases r1
  refine wpAny_truthy_bool ?_
  cases c with
  | true=>exact hb pins s1 σ H1 Q I1 q1
  | false=>exact ⟨.bl false,H1,I1,rfl,q1⟩
theorem pe_not (ha:PE X a ta):PE X (.UnaryOp .Not a pos) (tNotV ta):=by
  intro pins s σ H Q I h
  refine UnaryOp_ (thn (ha pins s σ H _ I h) fun v s1 ⟨x,H1,I1,r1,q1⟩=>?_)
  obtain ⟨c,rfl,q1⟩:=q1
  cases r1
  exact not_of (wpAny_truthy_bool ⟨.bl (!c),H1,I1,rfl,q1⟩)
def tIf (t:TT) (ta tb:TE):TE:=fun σ H Q=>t σ H fun c H1=>if c=true then ta σ H1 Q else tb σ H1 Q
theorem pe_ifExp {c:Expr} (hc:PT X c tA) (ha:PE X a ta) (hb:PE X b tb):PE X (.IfExp c a b pos) (tIf tA ta tb):=by
  intro pins s σ H Q I h
  refine wpAny_IfExp (thn (hc pins s σ H _ I h) fun d s1 ⟨H1,I1,q1⟩=>?_)
  cases d with
  | true=>exact ha pins s1 σ H1 Q I1 q1
  | false=>exact hb pins s1 σ H1 Q I1 q1
end
end L2
namespace L2
open PySem PySem.Spec PyProof.Rows
def SqL (K:PySem.W.Frag) (H:Hp) (a:Addr) (xs:List V):Prop :=
  Rd H a (.lst xs) ∨
    ∃ (o:Obj) (its:Array Value) (n:Nat),K.lookup a=some o∧o.cls=.type "list" ∧ o.dict=none∧o.data=.seq its n∧its.size≤sizeLine∧Vals xs its.toList
def SqT (K:PySem.W.Frag) (H:Hp) (a:Addr) (xs:List V):Prop :=
  Rd H a (.tup xs) ∨
    ∃ (o:Obj) (its:Array Value) (n:Nat),K.lookup a=some o∧o.cls=.type "tuple" ∧ o.data=.seq its n∧its.size≤sizeLine∧Vals xs its.toList
def absV:Value→Option V
  | .none=>some .non
  | .bool b=>some (.bl b)
  | .int i _=>some (.int i)
  | .str x _=>some (.str x)
  | .bytes b _=>some (.byt b)
  | .float b _=>some (.flt b)
  | .ref a=>some (.ref a)
  | .type n=>some (.ty n)
  | _=>none
theorem RelV.abs {x:V} {u:Value} (r:RelV x u):absV u=some x:=by
  cases x with
  | non=>cases r; rfl
  | bl _=>cases r; rfl
  | int _=>obtain ⟨t,rfl⟩:=r; rfl
  | str _=>obtain ⟨t,rfl⟩:=r; rfl
  | byt _=>obtain ⟨t,rfl⟩:=r; rfl
  | flt _=>obtain ⟨t,rfl⟩:=r; rfl
  | ref _=>cases r; rfl
  | ty _=>cases r; rfl
theorem RelV.inj {x y:V} {u:Value} (r:RelV x u) (q:RelV y u):x=y:=Option.some.inj (r.abs.symm.trans q.abs)
theorem Vals.inj:∀ {xs ys:List V} {us:List Value},Vals xs us→Vals ys us→xs=ys
  | _,_,_,.nil,.nil=>rfl
  | _,_,_,.cons r t,.cons r' t'=>by rw [r.inj r',Vals.inj t t']
section
variable {X:Cx} {pins:List (Addr × Obj)} {σ:St} {H:Hp} {s:Shared} {a:Addr} {xs ys:List V}
theorem SqL.of {K:PySem.W.Frag} (h:H a=some (.lst xs)):SqL K H a xs:=.inl (.inl h)
theorem SqT.of {K:PySem.W.Frag} (h:H a=some (.tup xs)):SqT K H a xs:=.inl (.inl h)
theorem Inv.list (I:Inv X pins σ H s) (h:SqL X.K H a xs):∃ its:List Value,Vals xs its∧PlainL s.heap a its.toArray∧xs.length≤sizeLine:=by
  rcases h with h | ⟨o,its,n,hk,hc,hd,hs,hz,r⟩
  · obtain ⟨z,its,n,r,e⟩:=h.ok I.hok
    exact ⟨its,r,⟨_,n,e,rfl,rfl,rfl⟩,z⟩
  · refine ⟨its.toList,r,⟨o,n,I.kIn a o hk,hc,hd,by simpa using hs⟩,?_⟩
    have e:=r.length
    simp only [Array.length_toList] at e
    omega
theorem Inv.tuple (I:Inv X pins σ H s) (h:SqT X.K H a xs):∃ its:List Value,Vals xs its∧IsTup s.heap a its.toArray∧xs.length≤sizeLine:=by
  rcases h with h | ⟨o,its,n,hk,hc,hs,hz,r⟩
  · obtain ⟨z,its,r,p⟩:=h.ok I.hok
    exact ⟨its,r,p,z⟩
  · refine ⟨its.toList,r,⟨o,I.kIn a o hk,hc,n,by simpa using hs⟩,?_⟩
    have e:=r.length
    simp only [Array.length_toList] at e
    omega
theorem Inv.list_inj (I:Inv X pins σ H s) (h:SqL X.K H a xs) (h':SqL X.K H a ys):xs=ys:=by
  obtain ⟨its,r,⟨o,n,e,_,_,d⟩,_⟩:=I.list h
  obtain ⟨its',r',⟨o',n',e',_,_,d'⟩,_⟩:=I.list h'
  rw [e] at e'; cases e'
  rw [d] at d'
  injection d' with d1 _
  have:its=its':=by simpa using congrArg Array.toList d1
  subst this
  exact r.inj r'
end
abbrev Cx.wish (X:Cx) (E:Value→Shared→Prop):Cx:={ X with xe:=E }
abbrev Cx.nox (X:Cx):Cx:=X.wish fun _ _=>False
theorem Cx.Ok.wish {X:Cx} (ok:X.Ok) (E:Value→Shared→Prop):(X.wish E).Ok :=
  ⟨ok.mod,ok.kind,ok.glob,ok.blt,ok.above,ok.inj,ok.has,ok.cab,ok.hd,ok.frames,ok.stk,ok.exf,ok.bs,ok.bsz,ok.noex,ok.exfs,ok.funs,ok.frf⟩
theorem Cx.Ok.unwish {X:Cx} {E:Value→Shared→Prop} (ok:(X.wish E).Ok):X.Ok :=
  ⟨ok.mod,ok.kind,ok.glob,ok.blt,ok.above,ok.inj,ok.has,ok.cab,ok.hd,ok.frames,ok.stk,ok.exf,ok.bs,ok.bsz,ok.noex,ok.exfs,ok.funs,ok.frf⟩
section
variable {X:Cx} {pins:List (Addr × Obj)} {σ:St} {H:Hp} {s:Shared} {E:Value→Shared→Prop}
theorem Inv.wish (I:Inv X pins σ H s) (E:Value→Shared→Prop):Inv (X.wish E) pins σ H s:=⟨I.ok.wish E,I.os,I.bare,I.base,I.loc,I.cell,I.free,I.freeC,I.pin,I.hok,I.len⟩
theorem Inv.unwish (I:Inv (X.wish E) pins σ H s):Inv X pins σ H s:=⟨I.ok.unwish,I.os,I.bare,I.base,I.loc,I.cell,I.free,I.freeC,I.pin,I.hok,I.len⟩
theorem SP.unwish {D:Ends} {f:Flow} {s':Shared} (h:SP (X.wish E) pins D f s'):SP X pins D f s':=by
  cases f with
  | next=>obtain ⟨σ',H',I,q⟩:=h; exact ⟨σ',H',I.unwish,q⟩
  | brk=>obtain ⟨σ',H',I,q⟩:=h; exact ⟨σ',H',I.unwish,q⟩
  | cont=>obtain ⟨σ',H',I,q⟩:=h; exact ⟨σ',H',I.unwish,q⟩
  | ret u=>obtain ⟨v,σ',H',I,r,q⟩:=h; exact ⟨v,σ',H',I.unwish,r,q⟩
theorem PSs.nox {st:List Stmt} {t:TS} (h:PSs X.nox st t):PSs X st t:=fun pins s σ H D I hw =>
  wpAny_mono (h pins s σ H D (I.wish _) hw) (fun _ _ q=>q.unwish) fun _ _ z=>False.elim z
end
section
variable {X:Cx} {st:Stmt} {rest:List Stmt} {t u:TS} {e:Expr} {te:TE} {pos:Pos}
def tNext:TS:=fun D σ H=>D.nx σ H
def tSeq (t u:TS):TS:=fun D σ H=>t { D with nx:=u D } σ H
theorem pss_nil:PSs X [] tNext:=fun _ _ σ H _ I h=>wpAny_execs_nil ⟨σ,H,I,h⟩
theorem pss_cons (h1:PS X st t) (h2:PSs X rest u):PSs X (st :: rest) (tSeq t u):=by
  intro pins s σ H D I h
  refine wpAny_execs_cons (thn (h1 pins s σ H { D with nx:=u D } I h) fun f s1 q=>?_)
  cases f with
  | next =>
    obtain ⟨σ',H',I',q⟩:=q
    exact h2 pins s1 σ' H' D I' q
  | ret v=>exact q
  | brk=>exact q
  | cont=>exact q
theorem pss_one (h1:PS X st t):PSs X [st] t:=by
  intro pins s σ H D I h
  refine wpAny_execs_cons (thn (h1 pins s σ H D I h) fun f s1 q=>?_)
  cases f with
  | next=>exact wpAny_execs_nil q
  | ret v=>exact q
  | brk=>exact q
  | cont=>exact q
def tCont:TS:=fun D σ H=>D.ct σ H
theorem ps_continue:PS X (.Continue pos) tCont:=fun _ _ σ H _ I h=>wpAny_Continue ⟨σ,H,I,h⟩
theorem Inv.quiet {pins:List (Addr × Obj)} {σ:St} {H:Hp} {s:Shared} (I:Inv X pins σ H s):interactive X.env=false:=by simp [interactive,I.ok.kind]
def tDrop (te:TE):TS:=fun D σ H=>te σ H fun _ H1=>D.nx σ H1
theorem ps_expr (he:PE X e te) (hs:swapsWith e none pos.line X.env=pure false:=by rfl):PS X (.Expr e pos) (tDrop te):=by
  intro pins s σ H D I h
  exact wpAny_Expr_any (thn (he pins s σ H _ I h) fun v s1 ⟨x,H1,I1,r1,q1⟩=>⟨σ,H1,I1,q1⟩) I.quiet hs
def tRet (te:TE):TS:=fun D σ H=>te σ H D.rt
theorem ps_ret (he:PE X e te):PS X (.Return (some e) pos) (tRet te):=by
  intro pins s σ H D I h
  exact wpAny_Return_some (thn (he pins s σ H _ I h) fun v s1 ⟨x,H1,I1,r1,q1⟩=>⟨x,σ,H1,I1,r1,q1⟩)
def tRetN:TS:=fun D _ H=>D.rt .non H
theorem ps_retN:PS X (.Return none pos) tRetN:=fun _ _ σ H _ I h=>wpAny_Return_none ⟨.non,σ,H,I,rfl,h⟩
def tIfS (c:TT) (t u:TS):TS:=fun D σ H=>c σ H fun b H1=>if b=true then t D σ H1 else u D σ H1
theorem ps_if {c:Expr} {a b:List Stmt} {tc:TT} (hc:PT X c tc) (ha:PSs X a t) (hb:PSs X b u):PS X (.If c a b pos) (tIfS tc t u):=by
  intro pins s σ H D I h
  refine wpAny_If (thn (hc pins s σ H _ I h) fun d s1 ⟨H1,I1,q1⟩=>?_)
  cases d with
  | true=>exact ha pins s1 σ H1 D I1 q1
  | false=>exact hb pins s1 σ H1 D I1 q1
end
abbrev TG:=V→St→Hp→(St→Hp→Prop)→Prop
abbrev TGs:=List V→St→Hp→(St→Hp→Prop)→Prop
def PG (X:Cx) (target:Expr) (t:TG):Prop :=
  ∀ (pins:List (Addr × Obj)) (s:Shared) (σ:St) (H:Hp) (v:V) (u:Value) (Q:St→Hp→Prop),Inv X pins σ H s→RelV v u→t v σ H Q →
    wpAny (model X.prog X.w) X.A (assign target X.env u) (fun _ s'=>∃ σ' H',Inv X pins σ' H' s'∧Q σ' H') X.xe s
def PGs (X:Cx) (ts:List Expr) (t:TGs):Prop :=
  ∀ (pins:List (Addr × Obj)) (s:Shared) (σ:St) (H:Hp) (vs:List V) (us:List Value) (Q:St→Hp→Prop),Inv X pins σ H s→Vals vs us→t vs σ H Q →
    wpAny (model X.prog X.w) X.A (assignInOrder ((assignEach ts X.env).map (·.2)) us) (fun _ s'=>∃ σ' H',Inv X pins σ' H' s'∧Q σ' H') X.xe s
abbrev TSet:=V→V→V→Hp→(Hp→Prop)→Prop
def PSet (X:Cx) (t:TSet):Prop :=
  ∀ (pins:List (Addr × Obj)) (s:Shared) (σ:St) (H:Hp) (o i v:V) (ov iv u:Value) (Q:Hp→Prop),Inv X pins σ H s→RelV o ov→RelV i iv→RelV v u→t o i v H Q →
    wpAny (model X.prog X.w) X.A (setItem ov iv u) (fun _ s'=>∃ H',Inv X pins σ H' s'∧Q H') X.xe s
abbrev TIp:=V→V→Hp→VK→Prop
def PIp (X:Cx) (op:Operator) (t:TIp):Prop :=
  ∀ (pins:List (Addr × Obj)) (s:Shared) (σ:St) (H:Hp) (x y:V) (v u:Value) (Q:VK),Inv X pins σ H s→RelV x v→RelV y u→t x y H Q →
    wpAny (model X.prog X.w) X.A (inplaceOp op v u) (EP X pins σ Q) X.xe s
section
variable {X:Cx} {pos:Pos}
def gName (i:Nat):TG:=fun v σ H Q=>Q (σ.set i (some v)) H
theorem pg_name {i:Nat} {x:Str} (hN:X.N.Nodup) (hi:X.N[i]?=some x) (hx:Loc X.env.scope x) (hf:X.fn x=true∨X.env.scope.names.lookup x=some .local:=by first | exact .inl rfl | exact .inr rfl | assumption):PG X (.Name x pos) (gName i):=by
  intro pins s σ H v u Q I r h
  exact wpAny_assign_Name (store_ok I hN hi hx r (fun s' I'=>⟨_,H,I',h⟩) hf)
def gNil:TGs:=fun vs σ H Q=>vs=[]∧Q σ H
def gCons (t:TG) (u:TGs):TGs:=fun vs σ H Q=>∃ v r,vs=v :: r∧t v σ H fun σ' H'=>u r σ' H' Q
theorem pgs_nil:PGs X [] gNil:=by
  intro pins s σ H vs us Q I r h
  obtain ⟨e,h⟩:=h
  subst e
  cases r
  exact assignInOrder_nil ⟨σ,H,I,h⟩
theorem pgs_cons {e:Expr} {es:List Expr} {t:TG} {u:TGs} (h1:PG X e t) (h2:PGs X es u)
    (hs:(assignEach (e :: es) X.env).map (·.2)=assign e X.env :: (assignEach es X.env).map (·.2):=by rfl):PGs X (e :: es) (gCons t u):=by
  intro pins s σ H vs us Q I r h
  obtain ⟨v,vr,e1,h⟩:=h
  subst e1
  cases r with
  | cons r rr =>
    rw [hs]
    refine assignInOrder_cons (thn (h1 pins s σ H _ _ _ I r h) fun _ s1 ⟨σ1,H1,I1,q1⟩=>?_)
    exact h2 pins s1 σ1 H1 _ _ Q I1 rr q1
def gTup (K:PySem.W.Frag) (n:Nat) (t:TGs):TG:=fun v σ H Q=>∃ a xs,v=.ref a∧SqT K H a xs∧xs.length=n∧t xs σ H Q
theorem pg_tup {es:List Expr} {k:Nat} {t:TGs} {n:Nat} (hc:X.calm=true) (h:PGs X es t)
    (hn:(assignEach es X.env).length=n:=by rfl) (hst:(assignEach es X.env).findIdx? (·.1)=none:=by rfl):PG X (.Tuple es k pos) (gTup X.K n t):=by
  intro pins s σ H v u Q I r hw
  obtain ⟨a,xs,e1,hq,hl,hw⟩:=hw
  subst e1
  cases r
  obtain ⟨its,rv,ht,hz⟩:=I.tuple hq
  refine assign_Tuple_tuple (I.ok.hd hc) ht (by simp [hn,← hl,rv.length]) hst fun h' hx=>?_
  have I1:Inv X pins σ H { s with heap:=h' }:=I.kept (t':=s.toks) fun b o e=>hx b o (Nat.ne_of_lt (Heap.lt_size e)) e
  exact h pins _ σ H xs _ Q I1 (by simpa using rv) hw
def gSub (to ti:TE) (t:TSet):TG:=fun v σ H Q=>to σ H fun o H1=>ti σ H1 fun i H2=>t o i v H2 fun H3=>Q σ H3
theorem pg_sub {o i:Expr} {to ti:TE} {t:TSet} (ho:PE X o to) (hi:PE X i ti) (hs:PSet X t)
    (ha:∀ v,assign (.Subscript o i pos) X.env v=(do
      let ov ← holding [v] (eval o X.env)
      let iv ← holding [v,ov] (eval i X.env)
      standAt pos
      holding [v,ov,iv] (setItem ov iv v)
      release [v,ov,iv] []):=by intro _; rfl):PG X (.Subscript o i pos) (gSub to ti t):=by
  intro pins s σ H v u Q I r h
  rw [ha]
  refine wpAny_bind (wpAny_holding (thn (ho pins s σ H _ I h) fun ov s1 ⟨x,H1,I1,r1,q1⟩=>?_))
  refine wpAny_bind (wpAny_holding (thn (hi pins s1 σ H1 _ I1 q1) fun iv s2 ⟨y,H2,I2,r2,q2⟩=>?_))
  refine wpAny_bind (wpAny_standAt (wpAny_bind (wpAny_holding (thn (hs pins s2 σ H2 x y v ov iv u _ I2 r1 r2 r q2) fun _ s3 ⟨H3,I3,q3⟩=>?_))))
  exact wpAny_release ⟨σ,H3,I3,q3⟩
def tAsg (te:TE) (g:TG):TS:=fun D σ H=>te σ H fun x H1=>g x σ H1 D.nx
theorem ps_asg {tg e:Expr} {te:TE} {g:TG} (he:PE X e te) (hg:PG X tg g) (hs:swapsWithSole [tg] e pos.line X.env=pure false:=by rfl) (hw:swappedStores [tg] e X.env=pure none:=by rfl)
    (h1:(assignEach [tg] X.env).map (·.2)=[assign tg X.env]:=by rfl):PS X (.Assign [tg] e pos) (tAsg te g):=by
  intro pins s σ H D I h
  refine wpAny_Assign_stores (thn (he pins s σ H _ I h) fun v s1 ⟨x,H1,I1,r1,q1⟩=>?_) hs hw
  rw [h1]
  exact thn (hg pins s1 σ H1 x v _ I1 r1 q1) fun _ s2 q=>q
theorem ps_set {i:Nat} {x:Str} {e:Expr} {te:TE} {pos':Pos} (hN:X.N.Nodup) (hi:X.N[i]?=some x) (hx:Loc X.env.scope x) (he:PE X e te) (hs:swapsWith e (some (.Name x pos')) pos.line X.env=pure false:=by rfl) (hf:X.fn x=true∨X.env.scope.names.lookup x=some .local:=by first | exact .inl rfl | exact .inr rfl | assumption) :
    PS X (.Assign [.Name x pos'] e pos) (tAsg te (gName i)):=by
  intro pins s σ H D I h
  refine wpAny_Assign_Name (thn (he pins s σ H _ I h) fun v s1 ⟨y,H1,I1,r1,q1⟩=>?_) hs
  exact store_ok I1 hN hi hx r1 (fun s2 I2=>⟨_,H1,I2,q1⟩) hf
def tAug (i:Nat) (te:TE) (ti:TIp):TS:=fun D σ H=>∃ x,σ[i]?=some (some x)∧te σ H fun y H1=>ti x y H1 fun z H2=>D.nx (σ.set i (some z)) H2
theorem ps_aug {i:Nat} {x:Str} {e:Expr} {te:TE} {op:Operator} {ti:TIp} {pos':Pos} (hN:X.N.Nodup) (hi:X.N[i]?=some x) (hx:Loc X.env.scope x) (he:PE X e te) (ho:PIp X op ti) (hf:X.fn x=true∨X.env.scope.names.lookup x=some .local:=by first | exact .inl rfl | exact .inr rfl | assumption) :
    PS X (.AugAssign (.Name x pos') op e pos) (tAug i te ti):=by
  intro pins s σ H D I h
  obtain ⟨v,e1,h⟩:=h
  obtain ⟨m,hn,hl⟩:=I.loc
  have vis:Vis X.env.scope x:=by rcases hx with k | k; exact .inl k; exact .inr (.inl k)
  obtain ⟨u,r,l⟩:=hl i x v hi e1 vis
  refine wpAny_AugAssign_Name ?_
  have go:wpAny (model X.prog X.w) X.A (eval e X.env) (fun w s₂=>wpAny (model X.prog X.w) X.A (inplaceOp op u w) (fun r s₃=>wpAny (model X.prog X.w) X.A (storeName X.env x r) (fun _=>SP X pins D .next) X.xe s₃) X.xe s₂) X.xe s:=by
    refine thn (he pins s σ H _ I h) fun w s1 ⟨y,H1,I1,r1,q1⟩=>?_
    refine thn (ho pins s1 σ H1 v y u w _ I1 r r1 q1) fun z s2 ⟨zv,H2,I2,r2,q2⟩=>?_
    exact store_ok I2 hN hi hx r2 (fun s3 I3=>⟨_,H2,I3,q2⟩) hf
  rcases l with ⟨hk,hm⟩ | ⟨hk,c,hc,hcell⟩
  · exact wpAny_loadName_local I.ok.kind hk hn hm go
  · rcases hk with hk | hk
    · exact wpAny_loadName_cell I.ok.kind hk hc hcell go
    · rcases hx with k | k
      · have:X.env.scope.names.lookup x=some .free:=hk
        rw [k] at this; cases this
      · have:X.env.scope.names.lookup x=some .free:=hk
        rw [k] at this; cases this
def tAugS (to ti te:TE) (tget:V→V→Hp→VK→Prop) (tip:TIp) (tset:TSet):TS:=fun D σ H=>to σ H fun o H1=>ti σ H1 fun i H2=>tget o i H2 fun x H3=>te σ H3 fun y H4=>tip x y H4 fun z H5=>tset o i z H5 fun H6=>D.nx σ H6
def PGet (X:Cx) (t:V→V→Hp→VK→Prop):Prop :=
  ∀ (pins:List (Addr × Obj)) (s:Shared) (σ:St) (H:Hp) (o i:V) (ov iv:Value) (Q:VK),Inv X pins σ H s→RelV o ov→RelV i iv→t o i H Q →
    wpAny (model X.prog X.w) X.A (getItem ov iv) (EP X pins σ Q) X.xe s
theorem ps_augS {o i e:Expr} {to ti te:TE} {tget:V→V→Hp→VK→Prop} {tip:TIp} {tset:TSet} {op:Operator} {tpos:Pos} (ho:PE X o to) (hi:PE X i ti) (hg:PGet X tget) (he:PE X e te) (hp:PIp X op tip) (hs:PSet X tset)
    (ha:∀ ov iv new,augStore i ov iv new=(do holding [new,ov,iv] (setItem ov iv new); release [new,ov,iv] []; pure .next):=by intros; rfl):PS X (.AugAssign (.Subscript o i tpos) op e pos) (tAugS to ti te tget tip tset):=by
  intro pins s σ H D I h
  refine wpAny_AugAssign_SubscriptAny (thn (ho pins s σ H _ I h) fun ov s1 ⟨x1,H1,I1,r1,q1⟩=>?_) ha
  refine thn (hi pins s1 σ H1 _ I1 q1) fun iv s2 ⟨x2,H2,I2,r2,q2⟩=>?_
  refine thn (hg pins s2 σ H2 x1 x2 ov iv _ I2 r1 r2 q2) fun old s3 ⟨x3,H3,I3,r3,q3⟩=>?_
  refine thn (he pins s3 σ H3 _ I3 q3) fun v s4 ⟨x4,H4,I4,r4,q4⟩=>?_
  refine thn (hp pins s4 σ H4 x3 x4 old v _ I4 r3 r4 q4) fun new s5 ⟨x5,H5,I5,r5,q5⟩=>?_
  exact thn (hs pins s5 σ H5 x1 x2 x5 ov iv new _ I5 r1 r2 r5 q5) fun _ s6 ⟨H6,I6,q6⟩=>⟨σ,H6,I6,q6⟩
def ipI (f:Int→Int→Int):TIp:=fun x y H Q=>∃ i j,x=.int i∧y=.int j∧Q (.int (f i j)) H
theorem ip_add:PIp X .Add (ipI fun i j=>i + j):=by
  intro pins s σ H x y v u Q I r1 r2 h
  obtain ⟨i,j,e1,e2,q⟩:=h
  subst e1; subst e2
  obtain ⟨t,rfl⟩:=r1
  obtain ⟨t',rfl⟩:=r2
  exact iadd_int ⟨.int _,H,I.tok _,⟨_,rfl⟩,q⟩
end
section
variable {X:Cx} {pos:Pos}
def tWhile (c:TT) (tb:TS):TS:=fun D σ H=>∃ W:Nat→St→Hp→Prop,(∃ m,W m σ H)∧∀ m σ H,W m σ H →
  c σ H fun b H1=>if b=true then ∃ N:St→Hp→Prop,(∀ σ' H',N σ' H'→∃ m',m' < m∧W m' σ' H')∧tb { D with nx:=N,ct:=N,bk:=D.nx } σ H1 else D.nx σ H1
theorem ps_while {c:Expr} {body:List Stmt} {tc:TT} {tb:TS} (hp:PassesOwn (model X.prog X.w) X.A X.env X.xe) (hc:PT X c tc) (hb:PSs X body tb):PS X (.While c body [] pos) (tWhile tc tb):=by
  intro pins s σ H D I h
  obtain ⟨W,⟨m0,w0⟩,turn⟩:=h
  refine wpAny_While (codeAny_whileLoop (fun n s'=>∃ σ' H',Inv X pins σ' H' s'∧W n σ' H') ?_ m0 ⟨σ,H,I,w0⟩)
  rintro n s1 ⟨σ1,H1,I1,w1⟩
  refine wpAny_passesOwn hp (thn (hc pins s1 σ1 H1 _ I1 (turn n σ1 H1 w1)) fun b s2 ⟨H2,I2,q2⟩=>?_)
  cases b with
  | true =>
    obtain ⟨N,hN,q2⟩:=q2
    rw [if_pos rfl]
    refine wpAny_passesOwn hp (thn (hb pins s2 σ1 H2 _ I2 q2) fun f s3 q3=>?_)
    cases f with
    | next =>
      obtain ⟨σ3,H3,I3,n3⟩:=q3
      obtain ⟨m',hm,w3⟩:=hN σ3 H3 n3
      exact ⟨m',hm,σ3,H3,I3,w3⟩
    | cont =>
      obtain ⟨σ3,H3,I3,n3⟩:=q3
      obtain ⟨m',hm,w3⟩:=hN σ3 H3 n3
      exact ⟨m',hm,σ3,H3,I3,w3⟩
    | brk=>exact q3
    | ret v=>exact q3
  | false =>
    rw [if_neg Bool.false_ne_true]
    exact wpAny_execs_nil ⟨σ1,H2,I2,q2⟩
end
structure It where
  go:Nat→Hp→Prop
  yld:Nat→Hp→V→Hp→Prop
  stop:Nat→Hp→Prop
def FpOk (X:Cx) (pins:List (Addr × Obj)) (H:Hp) (b:Addr):Prop :=
  H b=none∧b≠X.env.locals∧b ∉ X.fs∧(b∈X.ex∨X.s₀.heap.objs.size≤b)∧(∀ x c,X.env.cells.lookup x=some c→c≠b)∧∀ p∈X.pn ++ pins,p.1≠b
theorem Inv.fpOk {X:Cx} {pins:List (Addr × Obj)} {σ:St} {H H':Hp} {s:Shared} {b:Addr} (I:Inv X pins σ H s) (hb:s.heap.objs.size≤b) (hn:H' b=none):FpOk X pins H' b:=by
  refine ⟨hn,Nat.ne_of_gt (Nat.lt_of_lt_of_le I.lt hb),I.nofs hb,.inr (Nat.le_trans I.sz hb),fun x c e z=>?_,fun p hp z=>?_⟩
  · obtain ⟨v,q⟩:=I.cell x c e
    exact absurd (Nat.lt_of_lt_of_le q.lt (by rw [z]; exact hb)) (Nat.lt_irrefl _)
  · exact absurd (Nat.lt_of_lt_of_le (Heap.lt_size (I.pin p hp).1) (by rw [z]; exact hb)) (Nat.lt_irrefl _)
structure Turn (P:Program) (w:World) (K:PySem.W.Frag) (tg:Expr) (J:It) (fp:List Addr) (it:Addr) (tn:Nat→Heap→Prop):Prop where
  mem:it∈fp
  obj:∀ i h,tn i h→∀ b∈fp,∃ o,h.get? b=some o∧∀ v,o.data≠.cell v
  keep:∀ i h h',tn i h→(∀ b∈fp,∀ o,h.get? b=some o→h'.get? b=some o)→tn i h'
  item:∀ (X:Cx),X.prog=P→X.w=w→X.K=K→X.calm=true→∀ (i:Nat) (pins:List (Addr × Obj)) (s:Shared) (σ:St) (H:Hp) (E:Value→Shared→Prop),Inv X pins σ H s→(∀ b∈fp,FpOk X pins H b)→tn i s.heap→J.go i H →
    wpAny (model P w) X.A (pyNext (.ref it)) (fun r s1=>∃ u,r=some u ∧
      wpAny (model P w) X.A (letOwnedTupleGo tg (.ref it) u) (fun _ s2=>∃ x H',Inv X pins σ H' s2∧RelV x u∧J.yld i H x H'∧tn (i + 1) s2.heap∧∀ b∈fp,H' b=none) E s1) E s
  done:∀ (X:Cx),X.prog=P→X.w=w→X.K=K→X.calm=true→∀ (i:Nat) (pins:List (Addr × Obj)) (s:Shared) (σ:St) (H:Hp) (E:Value→Shared→Prop),Inv X pins σ H s→(∀ b∈fp,FpOk X pins H b)→tn i s.heap→J.stop i H →
    wpAny (model P w) X.A (pyNext (.ref it)) (fun r s1=>r=none∧Inv X pins σ H s1) E s
  self:∀ (A:Around) (i:Nat) (s:Shared) (Q:Value→Shared→Prop) (E:Value→Shared→Prop),tn i s.heap→Q (.ref it) s→wpAny (model P w) A (pyIter (.ref it)) Q E s
abbrev TI:=St→Hp→(It→Hp→Prop)→Prop
def PIE (X:Cx) (pins:List (Addr × Obj)) (σ:St) (tg:Expr) (R:It→Hp→Prop) (itv:Value) (s2:Shared):Prop :=
  ∃ (it:Addr) (fp:List Addr) (tn:Nat→Heap→Prop) (J:It) (H':Hp),itv=.ref it∧Inv X pins σ H' s2∧Turn X.prog X.w X.K tg J fp it tn∧tn 0 s2.heap∧(∀ b∈fp,FpOk X pins H' b)∧R J H'
def PI (X:Cx) (tg iter:Expr) (wi:TI):Prop :=
  ∀ (pins:List (Addr × Obj)) (s:Shared) (σ:St) (H:Hp) (R:It→Hp→Prop),Inv X pins σ H s→wi σ H R →
    wpAny (model X.prog X.w) X.A (eval iter X.env) (fun v s1=>wpAny (model X.prog X.w) X.A (pyIter v) (PIE X pins σ tg R) X.xe s1) X.xe s
theorem go_of {M:Model} {A:Around} {E:Value→Shared→Prop} {s:Shared} {tg:Expr} {it:Addr} {u:Value} {o:Obj} {n:String} {vs:Array Value} {Q:Unit→Shared→Prop} (ho:s.heap.get? it=some o) (hc:o.cls=.type n) (hd:o.data=.fields vs)
    (hn:["enumerate","zip","dict_itemiterator","dict_reverseitemiterator","odict_iterator","itertools.zip_longest","itertools.pairwise"].contains n=false) (hQ:Q () s):wpAny M A (letOwnedTupleGo tg (.ref it) u) Q E s:=by
  unfold letOwnedTupleGo
  cases tg <;> first
    | exact wpAny_pure hQ
    | (cases u <;> first
        | exact wpAny_pure hQ
        | (refine wpAny_bind (wpAny_load ho ?_)
           rw [hc,hd]
           show wpAny M A (if (["enumerate","zip","dict_itemiterator","dict_reverseitemiterator","odict_iterator","itertools.zip_longest","itertools.pairwise"].contains n && vs[0]? == some (rawInt _))=true then _ else _) Q E s
           rw [if_neg (by intro h; rw [hn,Bool.false_and] at h; cases h)]
           exact wpAny_pure hQ))
def Itl (K:PySem.W.Frag) (a:Addr):It :=
  ⟨fun i H=>∃ xs x,SqL K H a xs∧xs[i]?=some x,fun i H x H'=>H'=H∧∀ xs,SqL K H a xs→xs[i]?=some x,fun i H=>∃ xs,SqL K H a xs∧xs.length≤i⟩
def Itr (lo:Int) (n:Nat):It:=⟨fun i _=>i < n,fun i H x H'=>H'=H∧x=.int (lo + i),fun i _=>n≤i⟩
theorem turn_list {P:Program} {w:World} {K:PySem.W.Frag} {tg:Expr} (a it:Addr):Turn P w K tg (Itl K a) [it] it (fun i h=>h.IsListIter it a i) where
  mem:=by simp
  obj:=fun i h st b hb=>by
    have e:b=it:=by simpa using hb
    subst e
    obtain ⟨o,e,c,d⟩:=st
    exact ⟨o,e,fun v z=>by rw [d] at z; cases z⟩
  keep:=fun i h h' st k=>st.at fun o e=>k it (by simp) o e
  item:=by
    intro X hP hw hK hc i pins s σ H E I hf st hg
    subst hP hw hK
    obtain ⟨xs,x,hq,hx⟩:=hg
    obtain ⟨its,rv,p,hz⟩:=I.list hq
    obtain ⟨u,hu,ru⟩:=rv.get hx
    obtain ⟨f0,f1,f2,f3,f4,f5⟩:=hf it (by simp)
    refine wpAny_pyNext_list_item st p.isList (x:=u) (by simpa using hu) fun h' st' sb=>?_
    have I1:Inv X pins σ H { s with heap:=h' }:=I.turned (t':=s.toks) (fun b o hb e=>(sb.2 b hb).trans e) f0 f1 f3 f4 f5
    obtain ⟨o,e,c,d⟩:=id st'
    exact ⟨u,rfl,go_of (s:={ s with heap:=h' }) e c d (by decide) ⟨x,H,I1,ru,⟨rfl,fun ys hy=>by rw [I.list_inj hy hq]; exact hx⟩,st',fun b hb=>(hf b hb).1⟩⟩
  done:=by
    intro X hP hw hK hc i pins s σ H E I hf st hg
    subst hP hw hK
    obtain ⟨xs,hq,hx⟩:=hg
    obtain ⟨its,rv,p,hz⟩:=I.list hq
    obtain ⟨f0,f1,f2,f3,f4,f5⟩:=hf it (by simp)
    have hl:=rv.length
    exact wpAny_pyNext_list_end (I.ok.hd hc) st p.isList (by simp; omega) fun h' eb=>⟨rfl,I.turned (t':=s.toks) (fun b o hb e=>eb b o hb e) f0 f1 f3 f4 f5⟩
  self:=fun _ _ _ _ _ st h=>wpAny_pyIter_listiter st h
theorem turn_range {P:Program} {w:World} {K:PySem.W.Frag} {tg:Expr} (it:Addr) (lo:Int) (n:Nat):Turn P w K tg (Itr lo n) [it] it (fun i h=>IsRangeIter h it (lo + (i:Nat) * 1) ((n:Int) - (i:Nat)) 1) where
  mem:=by simp
  obj := fun i h st b hb=>by
    have e:b=it:=by simpa using hb
    subst e
    exact ⟨_,st,fun v z=>by
      have z':Data.fields _=Data.cell v:=z
      cases z'⟩
  keep:=fun i h h' st k=>k it (by simp) _ st
  item:=by
    intro X hP hw hK hc i pins s σ H E I hf st hg
    subst hP hw hK
    obtain ⟨f0,f1,f2,f3,f4,f5⟩:=hf it (by simp)
    have W:=Walks.range (prog:=X.prog) (w:=X.w) (I.ok.hd hc) it lo 1 n
    refine W.item i s _ _ hg st fun v h' tk hv st' kk=>?_
    obtain ⟨t,rfl⟩:=hv
    have I1:Inv X pins σ H { s with heap:=h',toks:=tk }:=I.turned (fun b o hb e=>kk b o (by simpa using hb) e) f0 f1 f3 f4 f5
    refine ⟨_,rfl,go_of (s:={ s with heap:=h',toks:=tk }) (n := "range_iterator") st' rfl rfl (by decide) ⟨.int (lo + i),H,I1,⟨t,?_⟩,⟨rfl,rfl⟩,st',fun b hb=>(hf b hb).1⟩⟩
    rw [Int.mul_one]
  done:=by
    intro X hP hw hK hc i pins s σ H E I hf st hg
    subst hP hw hK
    obtain ⟨f0,f1,f2,f3,f4,f5⟩:=hf it (by simp)
    exact wpAny_pyNext_range_end (I.ok.hd hc) st (by have:n≤i:=hg; omega) fun h' eb=>⟨rfl,I.turned (t':=s.toks) (fun b o hb e=>eb b o hb e) f0 f1 f3 f4 f5⟩
  self:=fun _ _ _ _ _ st h=>wpAny_pyIter_rangeiter st h
end L2
namespace L2
open PySem PySem.Spec PyProof.Rows
section
variable {X:Cx} {tg:Expr}
def iList (K:PySem.W.Frag) (tl:TE):TI:=fun σ H R=>tl σ H fun x H1=>∃ a,x=.ref a∧(∃ xs,SqL K H1 a xs)∧R (Itl K a) H1
theorem pi_list {l:Expr} {tl:TE} (hl:PE X l tl):PI X tg l (iList X.K tl):=by
  intro pins s σ H R I h
  refine thn (hl pins s σ H _ I h) fun v s1 ⟨x,H1,I1,r1,q1⟩=>?_
  obtain ⟨a,e,⟨xs,hq⟩,q⟩:=q1
  subst e
  cases r1
  obtain ⟨its,rv,p,hz⟩:=I1.list hq
  refine wpAny_pyIter_list p.isList ?_
  refine ⟨s1.heap.objs.size,[s1.heap.objs.size],_,_,H1,rfl,I1.kept (t':=s1.toks) fun b o e=>Heap.get?_push_of_some _ e,turn_list a _,⟨_,Heap.get?_push_size _ rfl,rfl,rfl⟩,fun b hb=>?_,q⟩
  have e:b=s1.heap.objs.size:=by simpa using hb
  subst e
  exact I1.fpOk (Nat.le_refl _) (I1.hok.fresh (Nat.le_refl _))
theorem range_it {pins:List (Addr × Obj)} {σ:St} {H:Hp} {s:Shared} {R:It→Hp→Prop} {E:Value→Shared→Prop} {lo hi:Int} {t u v:Tok} {tk:Nat} (I:Inv X pins σ H s) (h1:-(2 ^ 62)≤lo) (h2:lo < 2 ^ 62) (h3:-(2 ^ 62)≤hi) (h4:hi < 2 ^ 62)
    (q:R (Itr lo (hi - lo).toNat) H):wpAny (model X.prog X.w) X.A (pyIter (.ref s.heap.objs.size)) (PIE X pins σ tg R) E { s with heap:=s.heap.push { cls:=.type "range",data:=.fields #[.int lo t,.int hi u,.int 1 v] },toks:=tk }:=by
  refine wpAny_pyIter_range (IsRange.new ..) (small_one h1 h2 h3 h4) ?_
  have I1:Inv X pins σ H { s with heap:=s.heap.push { cls:=.type "range",data:=.fields #[.int lo t,.int hi u,.int 1 v] },toks:=tk }:=I.kept fun b o e=>Heap.get?_push_of_some _ e
  refine ⟨(s.heap.push { cls:=.type "range",data:=.fields #[.int lo t,.int hi u,.int 1 v] }).objs.size,[(s.heap.push { cls:=.type "range",data:=.fields #[.int lo t,.int hi u,.int 1 v] }).objs.size],_,_,H,rfl,
    I1.kept (t':=tk) fun b o e=>Heap.get?_push_of_some _ e,turn_range _ lo (hi - lo).toNat,?_,fun b hb=>?_,q⟩
  · have e1:lo + ((0:Nat):Int) * 1=lo:=by simp
    have e2:(((hi - lo).toNat:Nat):Int) - ((0:Nat):Int)=Builtin.Range.rangeSize lo hi 1:=by rw [rangeSize_one]; split <;> omega
    show IsRangeIter _ _ (lo + ((0:Nat):Int) * 1) ((((hi - lo).toNat:Nat):Int) - ((0:Nat):Int)) 1
    rw [e1,e2]
    exact Heap.get?_push_size _ rfl
  · have e:b=(s.heap.push { cls:=.type "range",data:=.fields #[.int lo t,.int hi u,.int 1 v] }).objs.size:=by simpa using hb
    subst e
    exact I1.fpOk (Nat.le_refl _) (I1.hok.fresh (Nat.le_refl _))
def iRng1 (ta:TA):TI:=fun σ H R=>ta σ H fun vs H1=>∃ j:Int,vs=[.int j]∧-(2 ^ 62)≤j∧j < 2 ^ 62∧R (Itr 0 j.toNat) H1
def iRng2 (ta:TA):TI:=fun σ H R=>ta σ H fun vs H1=>∃ i j:Int,vs=[.int i,.int j]∧(-(2 ^ 62)≤i∧i < 2 ^ 62∧-(2 ^ 62)≤j∧j < 2 ^ 62)∧R (Itr i (j - i).toNat) H1
theorem pi_range1 {a:Expr} {ta:TA} {p pos:Pos} (hg:Gl X "range") (hm:X.mg "range" = none) (ha:PA X [a] ta) (hs:starEach [a] X.env=[(false,eval a X.env)]:=by rfl):PI X tg (.Call (.Name "range" p) [a] [] pos) (iRng1 ta):=by
  intro pins s σ H R I h
  refine Call_ (ld_blt I hg hm boot_range (PyProof.Rows.callWith_type1 (thn (ha pos pins s σ H _ I h) fun us s1 ⟨vs,H1,I1,r1,q1⟩=>?_) hs rfl))
  obtain ⟨j,e,q1,q2,q⟩:=q1
  subst e
  cases r1 with
  | cons r rr =>
    cases rr
    obtain ⟨t,rfl⟩:=r
    exact call_range_1 (range_it I1 (by omega) (by omega) q1 q2 (by simpa using q))
theorem pi_range2 {a b:Expr} {ta:TA} {p pos:Pos} (hg:Gl X "range") (hm:X.mg "range" = none) (ha:PA X [a,b] ta) (hs:starEach [a,b] X.env=[(false,eval a X.env),(false,eval b X.env)]:=by rfl) (hs2:starEach [b] X.env=[(false,eval b X.env)]:=by rfl) :
    PI X tg (.Call (.Name "range" p) [a,b] [] pos) (iRng2 ta):=by
  intro pins s σ H R I h
  refine Call_ (ld_blt I hg hm boot_range (PyProof.Rows.callWith_type1 (thn (ha pos pins s σ H _ I h) fun us s1 ⟨vs,H1,I1,r1,q1⟩=>?_) (by rw [hs,hs2]) (by rw [hs2]; rfl)))
  obtain ⟨i,j,e,⟨q1,q2,q3,q4⟩,q⟩:=q1
  subst e
  cases r1 with
  | cons r rr =>
    cases rr with
    | cons r' rr =>
      cases rr
      obtain ⟨t,rfl⟩:=r
      obtain ⟨t',rfl⟩:=r'
      exact call_range_2 (range_it I1 q1 q2 q3 q4 q)
def tFor (wi:TI) (g:TG) (tb:TS):TS:=fun D σ H=>wi σ H fun J H1=>∃ W:Nat→Nat→St→Hp→Prop,(∃ m,W 0 m σ H1)∧∀ i m σ H,W i m σ H →
  (J.stop i H∧D.nx σ H)∨(J.go i H∧∃ N:St→Hp→Prop,(∀ σ' H',N σ' H'→∃ m',m' < m∧W (i + 1) m' σ' H')∧∀ x H',J.yld i H x H'→g x σ H' fun σ2 H2=>tb { D with nx:=N,ct:=N,bk:=D.nx } σ2 H2)
def pinsAt (fp:List Addr) (h:Heap):List (Addr × Obj):=fp.filterMap fun b=>(h.get? b).map fun o=>(b,o)
theorem mem_pinsAt {fp:List Addr} {h:Heap} {b:Addr} {o:Obj} (hb:b∈fp) (e:h.get? b=some o):(b,o)∈pinsAt fp h:=List.mem_filterMap.mpr ⟨b,hb,by rw [e]; rfl⟩
theorem of_pinsAt {fp:List Addr} {h:Heap} {p:Addr × Obj} (hp:p∈pinsAt fp h):p.1∈fp∧h.get? p.1=some p.2:=by
  obtain ⟨b,hb,e⟩:=List.mem_filterMap.mp hp
  cases q:h.get? b with
  | none=>rw [q] at e; cases e
  | some o =>
    rw [q] at e
    have e':(b,o)=p:=Option.some.inj e
    subst e'
    exact ⟨hb,q⟩
theorem Inv.pinned {pins:List (Addr × Obj)} {σ:St} {H:Hp} {s:Shared} {fp:List Addr} (I:Inv X pins σ H s) (hf:∀ b∈fp,FpOk X pins H b) (ho:∀ b∈fp,∃ o,s.heap.get? b=some o∧∀ v,o.data≠.cell v):Inv X (pins ++ pinsAt fp s.heap) σ H s :=
  I.pins_of fun p hp=>(List.mem_append.mp hp).elim (fun z=>I.pin p (List.mem_append_right _ z)) fun z=>by
    obtain ⟨hb,e⟩:=of_pinsAt z
    obtain ⟨f0,f1,f2,_⟩:=hf p.1 hb
    obtain ⟨o,e',d⟩:=ho p.1 hb
    rw [e] at e'; cases e'
    exact ⟨e,f0,f1,f2,d⟩
theorem Inv.unpinned {pins pl:List (Addr × Obj)} {σ:St} {H:Hp} {s:Shared} (I:Inv X (pins ++ pl) σ H s):Inv X pins σ H s:=I.pins_of fun p hp=>I.pin p (List.mem_append_right _ (List.mem_append_left _ hp))
theorem ps_for {iter:Expr} {body:List Stmt} {wi:TI} {g:TG} {tb:TS} {pos:Pos} (hp:PassesOwn (model X.prog X.w) X.A X.env X.xe) (hc:X.calm=true) (hi:PI X tg iter wi) (hg:PG X tg g) (hb:PSs X body tb)
    (hs:∀ x,foldedSetIterable iter X.env x=pure x:=by intro _; rfl):PS X (.For tg iter body [] pos) (tFor wi g tb):=by
  intro pins s σ H D I h
  refine wpAny_For (thn (hi pins s σ H _ I h) fun v s1 h1=>thn h1 fun itv s2 h2=>?_) hs
  obtain ⟨it,fp,tn,J,H2,e,I2,T,st2,f2,W,⟨m0,w0⟩,turn⟩:=h2
  subst e
  have stat:∀ {H':Hp},(∀ b∈fp,H' b=none)→∀ b∈fp,FpOk X pins H' b:=fun hn b hb=>⟨hn b hb,(f2 b hb).2⟩
  refine codeAny_forLoop_any (fun n s'=>∃ i σ' H',Inv X pins σ' H' s'∧tn i s'.heap∧(∀ b∈fp,H' b=none)∧W i n σ' H') ?_ m0 ⟨0,σ,H2,I2,st2,fun b hb=>(f2 b hb).1,w0⟩
  rintro n s3 ⟨i,σ3,H3,I3,st3,fr3,w3⟩
  rcases turn i n σ3 H3 w3 with ⟨stop,qn⟩ | ⟨go,N,hN,step⟩
  · refine wpAny_passesOwn hp (thn (T.done X rfl rfl rfl hc i pins s3 σ3 H3 X.xe I3 (stat fr3) st3 stop) fun r s4 ⟨hr,I4⟩=>?_)
    subst hr
    exact wpAny_execs_nil ⟨σ3,H3,I4,qn⟩
  · refine wpAny_passesOwn hp (thn (T.item X rfl rfl rfl hc i pins s3 σ3 H3 X.xe I3 (stat fr3) st3 go) fun r s4 ⟨u,hr,h4⟩=>?_)
    subst hr
    refine wpAny_passesOwn hp (thn h4 fun _ s5 ⟨x,H5,I5,r5,y5,st5,fr5⟩=>?_)
    have I5':=I5.pinned (stat fr5) (T.obj _ _ st5)
    refine wpAny_passesOwn hp (thn (hg _ s5 σ3 H5 x u _ I5' r5 (step x H5 y5)) fun _ s6 ⟨σ6,H6,I6,q6⟩=>?_)
    refine wpAny_passesOwn hp (thn (hb _ s6 σ6 H6 _ I6 q6) fun f s7 q7=>?_)
    have again:∀ {σ7:St} {H7:Hp},Inv X (pins ++ pinsAt fp s5.heap) σ7 H7 s7→N σ7 H7→∃ m,m < n∧∃ i σ' H',Inv X pins σ' H' s7∧tn i s7.heap∧(∀ b∈fp,H' b=none)∧W i m σ' H':=fun {σ7 H7} I7 n7=>by
      obtain ⟨m',hm,w7⟩:=hN σ7 H7 n7
      refine ⟨m',hm,i + 1,σ7,H7,I7.unpinned,T.keep _ _ _ st5 fun b hb o e=>(I7.pin (b,o) (List.mem_append_right _ (List.mem_append_right _ (mem_pinsAt hb e)))).1,fun b hb=>?_,w7⟩
      obtain ⟨o,e,d⟩:=T.obj _ _ st5 b hb
      exact (I7.pin (b,o) (List.mem_append_right _ (List.mem_append_right _ (mem_pinsAt hb e)))).2.1
    cases f with
    | next=>obtain ⟨σ7,H7,I7,n7⟩:=q7; exact again I7 n7
    | cont=>obtain ⟨σ7,H7,I7,n7⟩:=q7; exact again I7 n7
    | brk=>obtain ⟨σ7,H7,I7,q7⟩:=q7; exact ⟨σ7,H7,I7.unpinned,q7⟩
    | ret v=>obtain ⟨x7,σ7,H7,I7,r7,q7⟩:=q7; exact ⟨x7,σ7,H7,I7.unpinned,r7,q7⟩
end
theorem for_list {K:PySem.W.Frag} {a:Addr} {xs:List V} {g:TG} {tb:TS} {D:Ends} {σ:St} {H:Hp} (Pv:Nat→St→Hp→Prop) (h0:Pv 0 σ H) (hl:∀ i σ H,i≤xs.length→Pv i σ H→SqL K H a xs)
    (hs:∀ i x σ H,xs[i]?=some x→Pv i σ H→g x σ H fun σ2 H2=>tb { D with nx:=Pv (i + 1),ct:=Pv (i + 1),bk:=D.nx } σ2 H2) (hd:∀ σ H,Pv xs.length σ H→D.nx σ H) :
    ∃ W:Nat→Nat→St→Hp→Prop,(∃ m,W 0 m σ H)∧∀ i m σ H,W i m σ H →
      ((Itl K a).stop i H∧D.nx σ H)∨((Itl K a).go i H∧∃ N:St→Hp→Prop,(∀ σ' H',N σ' H'→∃ m',m' < m∧W (i + 1) m' σ' H')∧∀ x H',(Itl K a).yld i H x H'→g x σ H' fun σ2 H2=>tb { D with nx:=N,ct:=N,bk:=D.nx } σ2 H2):=by
  refine ⟨fun i m σ H=>m=xs.length - i∧i≤xs.length∧Pv i σ H,⟨xs.length,by simp,Nat.zero_le _,h0⟩,?_⟩
  rintro i m σ H ⟨rfl,hi,p⟩
  have q:=hl i σ H hi p
  by_cases hlt:i < xs.length
  · refine .inr ⟨⟨xs,xs[i],q,by simp [hlt]⟩,Pv (i + 1),fun σ' H' p'=>⟨xs.length - (i + 1),by omega,rfl,hlt,p'⟩,fun x H' y=>?_⟩
    obtain ⟨e,y⟩:=y
    subst e
    exact hs i x σ _ (y xs q) p
  · have e:i=xs.length:=by omega
    subst e
    exact .inl ⟨⟨xs,q,Nat.le_refl _⟩,hd σ H p⟩
theorem for_range {lo:Int} {n:Nat} {g:TG} {tb:TS} {D:Ends} {σ:St} {H:Hp} (Pv:Nat→St→Hp→Prop) (h0:Pv 0 σ H)
    (hs:∀ i σ H,i < n→Pv i σ H→g (.int (lo + i)) σ H fun σ2 H2=>tb { D with nx:=Pv (i + 1),ct:=Pv (i + 1),bk:=D.nx } σ2 H2) (hd:∀ σ H,Pv n σ H→D.nx σ H) :
    ∃ W:Nat→Nat→St→Hp→Prop,(∃ m,W 0 m σ H)∧∀ i m σ H,W i m σ H →
      ((Itr lo n).stop i H∧D.nx σ H)∨((Itr lo n).go i H∧∃ N:St→Hp→Prop,(∀ σ' H',N σ' H'→∃ m',m' < m∧W (i + 1) m' σ' H')∧∀ x H',(Itr lo n).yld i H x H'→g x σ H' fun σ2 H2=>tb { D with nx:=N,ct:=N,bk:=D.nx } σ2 H2):=by
  refine ⟨fun i m σ H=>m=n - i∧i≤n∧Pv i σ H,⟨n,by simp,Nat.zero_le _,h0⟩,?_⟩
  rintro i m σ H ⟨rfl,hi,p⟩
  by_cases hlt:i < n
  · refine .inr ⟨hlt,Pv (i + 1),fun σ' H' p'=>⟨n - (i + 1),by omega,rfl,hlt,p'⟩,fun x H' y=>?_⟩
    obtain ⟨e,y⟩:=y
    subst e y
    exact hs i σ _ hlt p
  · have e:i=n:=by omega
    subst e
    exact .inl ⟨Nat.le_refl _,hd σ H p⟩
end L2
namespace L2
open PySem PySem.Spec PyProof.Rows
abbrev R2:=V→V→Hp→VK→Prop
def OpR (X:Cx) (f:Value→Value→Sem Value) (r:R2):Prop :=
  ∀ (pins:List (Addr × Obj)) (s:Shared) (σ:St) (H:Hp) (x y:V) (v u:Value) (Q:VK),Inv X pins σ H s→RelV x v→RelV y u→r x y H Q →
    wpAny (model X.prog X.w) X.A (f v u) (EP X pins σ Q) X.xe s
def UnR (X:Cx) (f:Value→Sem Value) (r:V→Hp→VK→Prop):Prop :=
  ∀ (pins:List (Addr × Obj)) (s:Shared) (σ:St) (H:Hp) (x:V) (v:Value) (Q:VK),Inv X pins σ H s→RelV x v→r x H Q →
    wpAny (model X.prog X.w) X.A (f v) (EP X pins σ Q) X.xe s
def CallR (X:Cx) (f:Value) (r:List V→Hp→VK→Prop):Prop :=
  ∀ (pins:List (Addr × Obj)) (s:Shared) (σ:St) (H:Hp) (xs:List V) (us:List Value) (Q:VK),Inv X pins σ H s→Vals xs us→r xs H Q →
    wpAny (model X.prog X.w) X.A (call f us) (EP X pins σ Q) X.xe s
def TruR (X:Cx) (r:V→Hp→(Bool→Hp→Prop)→Prop):Prop :=
  ∀ (pins:List (Addr × Obj)) (s:Shared) (σ:St) (H:Hp) (x:V) (v:Value) (Q:Bool→Hp→Prop),Inv X pins σ H s→RelV x v→r x H Q →
    wpAny (model X.prog X.w) X.A (truthy v) (TP X pins σ Q) X.xe s
def tOp (r:R2) (ta tb:TE):TE:=fun σ H Q=>ta σ H fun x H1=>tb σ H1 fun y H2=>r x y H2 Q
def tUn (r:V→Hp→VK→Prop) (ta:TE):TE:=fun σ H Q=>ta σ H fun x H1=>r x H1 Q
def rI (C:Int→Int→Prop) (g:Int→Int→V):R2:=fun x y H Q=>∃ i j,x=.int i∧y=.int j∧C i j∧Q (g i j) H
def rI0 (g:Int→Int→V):R2:=fun x y H Q=>∃ i j,x=.int i∧y=.int j∧Q (g i j) H
def rU (g:Int→V):V→Hp→VK→Prop:=fun x H Q=>∃ i,x=.int i∧Q (g i) H
section
variable {X:Cx} {a b c:Expr} {ta tb tc:TE} {pos:Pos}
theorem binT (ha:PE X a ta) (hb:PE X b tb) {pins:List (Addr × Obj)} {s:Shared} {σ:St} {H:Hp} {R:V→V→Hp→Prop} (I:Inv X pins σ H s)
    (h:ta σ H fun x H1=>tb σ H1 fun y H2=>R x y H2) {Q:Value→Shared→Prop} {f:Value→Value→Sem Value}
    (hf:∀ v u s2 x y H2,Inv X pins σ H2 s2→RelV x v→RelV y u→R x y H2→wpAny (model X.prog X.w) X.A (f v u) Q X.xe s2) :
    wpAny (model X.prog X.w) X.A (eval a X.env) (fun v s₁=>wpAny (model X.prog X.w) X.A (eval b X.env) (fun u s₂=>wpAny (model X.prog X.w) X.A (f v u) Q X.xe s₂) X.xe s₁) X.xe s:=by
  refine thn (ha pins s σ H _ I h) fun v s1 ⟨x,H1,I1,r1,q1⟩=>?_
  refine thn (hb pins s1 σ H1 _ I1 q1) fun u s2 ⟨y,H2,I2,r2,q2⟩=>?_
  exact hf v u s2 x y H2 I2 r1 r2 q2
theorem pe_op {op:Operator} {r:R2} (ho:OpR X (binaryOp op) r) (ha:PE X a ta) (hb:PE X b tb):PE X (.BinOp a op b pos) (tOp r ta tb):=by
  intro pins s σ H Q I h
  exact wpAny_BinOp (binT ha hb I h fun v u s2 x y H2 I2 rx ry q=>ho pins s2 σ H2 x y v u Q I2 rx ry q)
theorem pe_un {op:UnaryOp} {r:V→Hp→VK→Prop} (ho:UnR X (unaryOp op) r) (ha:PE X a ta):PE X (.UnaryOp op a pos) (tUn r ta):=by
  intro pins s σ H Q I h
  exact UnaryOp_ (thn (ha pins s σ H _ I h) fun v s1 ⟨x,H1,I1,r1,q1⟩=>ho pins s1 σ H1 x v Q I1 r1 q1)
theorem opI {f:Value→Value→Sem Value} {C:Int→Int→Prop} {g:Int→Int→Int}
    (rule:∀ (i j:Int) (t u:Tok) (s:Shared) (Q:Value→Shared→Prop) (E:Value→Shared→Prop),C i j→Q (.int (g i j) s.toks) { s with toks:=s.toks + 1 }→wpAny (model X.prog X.w) X.A (f (.int i t) (.int j u)) Q E s) :
    OpR X f (rI C fun i j=>.int (g i j)):=by
  intro pins s σ H x y v u Q I rx ry h
  obtain ⟨i,j,rfl,rfl,hc,q⟩:=h
  obtain ⟨t,rfl⟩:=rx
  obtain ⟨t',rfl⟩:=ry
  exact rule i j t t' s _ _ hc ⟨.int (g i j),H,I.tok _,⟨_,rfl⟩,q⟩
theorem opI0 {f:Value→Value→Sem Value} {g:Int→Int→Int}
    (rule:∀ (i j:Int) (t u:Tok) (s:Shared) (Q:Value→Shared→Prop) (E:Value→Shared→Prop),Q (.int (g i j) s.toks) { s with toks:=s.toks + 1 }→wpAny (model X.prog X.w) X.A (f (.int i t) (.int j u)) Q E s) :
    OpR X f (rI0 fun i j=>.int (g i j)):=by
  intro pins s σ H x y v u Q I rx ry h
  obtain ⟨i,j,rfl,rfl,q⟩:=h
  obtain ⟨t,rfl⟩:=rx
  obtain ⟨t',rfl⟩:=ry
  exact rule i j t t' s _ _ ⟨.int (g i j),H,I.tok _,⟨_,rfl⟩,q⟩
theorem opB0 {f:Value→Value→Sem Value} {g:Int→Int→Bool}
    (rule:∀ (i j:Int) (t u:Tok) (s:Shared) (Q:Value→Shared→Prop) (E:Value→Shared→Prop),Q (.bool (g i j)) s→wpAny (model X.prog X.w) X.A (f (.int i t) (.int j u)) Q E s) :
    OpR X f (rI0 fun i j=>.bl (g i j)):=by
  intro pins s σ H x y v u Q I rx ry h
  obtain ⟨i,j,rfl,rfl,q⟩:=h
  obtain ⟨t,rfl⟩:=rx
  obtain ⟨t',rfl⟩:=ry
  exact rule i j t t' s _ _ ⟨.bl (g i j),H,I,rfl,q⟩
def CPow (i j:Int):Prop:=0≤j∧j≤1000000∧i.natAbs < 2 ^ 64
theorem op_add:OpR X (binaryOp .Add) (rI0 fun i j=>.int (i + j)):=opI0 fun _ _ _ _ _ _ _ q=>add_int q
theorem op_sub:OpR X (binaryOp .Sub) (rI0 fun i j=>.int (i - j)):=opI0 fun _ _ _ _ _ _ _ q=>sub_int q
theorem op_modN:OpR X (binaryOp .Mod) (rI (fun _ j=>j≠0) fun i j=>.int (i.fmod j)):=opI fun _ _ _ _ _ _ _ hc q=>mod_int' hc q
theorem op_pow:OpR X (binaryOp .Pow) (rI CPow fun i j=>.int (i ^ j.toNat)):=opI fun _ _ _ _ _ _ _ hc q=>pow_int_small hc.1 hc.2.1 hc.2.2 q
theorem unI {f:Value→Sem Value} {g:Int→Int}
    (rule:∀ (i:Int) (t:Tok) (s:Shared) (Q:Value→Shared→Prop) (E:Value→Shared→Prop),Q (.int (g i) s.toks) { s with toks:=s.toks + 1 }→wpAny (model X.prog X.w) X.A (f (.int i t)) Q E s) :
    UnR X f (rU fun i=>.int (g i)):=by
  intro pins s σ H x v Q I rx h
  obtain ⟨i,rfl,q⟩:=h
  obtain ⟨t,rfl⟩:=rx
  exact rule i t s _ _ ⟨.int (g i),H,I.tok _,⟨_,rfl⟩,q⟩
theorem un_neg:UnR X (unaryOp .USub) (rU fun i=>.int (-i)):=unI fun _ _ _ _ _ q=>neg_int q
end
def scal:V→V→Bool
  | .non,.non=>true | .non,.int _=>true | .int _,.non=>true | .non,.bl _=>true | .bl _,.non=>true | .non,.str _=>true | .str _,.non=>true
  | .int _,.int _=>true | .bl _,.bl _=>true | .str _,.str _=>true | .byt _,.byt _=>true
  | .int _,.str _=>true | .str _,.int _=>true | .bl _,.str _=>true | .str _,.bl _=>true
  | _,_=>false
def rEq:R2:=fun x y H Q=>scal x y=true∧Q (.bl (decide (x=y))) H
def rNe:R2:=fun x y H Q=>scal x y=true∧Q (.bl (!decide (x=y))) H
theorem dec_int {i j:Int}:decide (V.int i=V.int j)=(i == j):=by
  rw [Bool.eq_iff_iff]
  simp
theorem dec_bl {i j:Bool}:decide (V.bl i=V.bl j)=(i == j):=by
  rw [Bool.eq_iff_iff]
  simp
theorem dec_str {i j:Str}:decide (V.str i=V.str j)=(i == j):=by
  rw [Bool.eq_iff_iff]
  simp
theorem dec_byt {i j:Array UInt8}:decide (V.byt i=V.byt j)=(i.toList == j.toList):=by
  rw [Bool.eq_iff_iff]
  cases i
  cases j
  simp
section
variable {X:Cx} {a b c:Expr} {ta tb tc:TE} {pos:Pos}
theorem fin_bl {pins:List (Addr × Obj)} {σ:St} {H:Hp} {s:Shared} {Q:VK} {k k':Bool} (I:Inv X pins σ H s) (q:Q (.bl k) H) (e:k=k'):EP X pins σ Q (.bool k') s:=by
  subst e
  exact ⟨.bl k,H,I,rfl,q⟩
theorem op_eq:OpR X (compareOp .Eq) rEq:=by
  intro pins s σ H x y v u Q I rx ry h
  obtain ⟨hs,q⟩:=h
  cases x with
  | non =>
    cases rx
    cases y with
    | non=>cases ry; exact PySem.EqNone.eq_none_none (fin_bl I q (by simp))
    | bl j=>cases ry; exact PySem.EqNone.eq_none_bool (fin_bl I q (by simp))
    | int j=>obtain ⟨t',rfl⟩:=ry; exact PySem.EqNone.eq_none_int (fin_bl I q (by simp))
    | str j=>obtain ⟨t',rfl⟩:=ry; exact PySem.EqNone.eq_none_str (fin_bl I q (by simp))
    | _=>exact absurd (show false=true from hs) Bool.false_ne_true
  | bl i =>
    cases rx
    cases y with
    | non=>cases ry; exact PySem.EqNone.eq_bool_none (fin_bl I q (by simp))
    | bl j=>cases ry; exact eq_bool (fin_bl I q dec_bl)
    | str j=>obtain ⟨t',rfl⟩:=ry; exact PySem.EqMixed.eq_bool_str (fin_bl I q (by simp))
    | _=>exact absurd (show false=true from hs) Bool.false_ne_true
  | int i =>
    obtain ⟨t,rfl⟩:=rx
    cases y with
    | non=>cases ry; exact PySem.EqNone.eq_int_none (fin_bl I q (by simp))
    | int j=>obtain ⟨t',rfl⟩:=ry; exact eq_int (fin_bl I q dec_int)
    | str j=>obtain ⟨t',rfl⟩:=ry; exact PySem.EqMixed.eq_int_str (fin_bl I q (by simp))
    | _=>exact absurd (show false=true from hs) Bool.false_ne_true
  | str i =>
    obtain ⟨t,rfl⟩:=rx
    cases y with
    | non=>cases ry; exact PySem.EqNone.eq_str_none (fin_bl I q (by simp))
    | bl j=>cases ry; exact PySem.EqMixed.eq_str_bool (fin_bl I q (by simp))
    | int j=>obtain ⟨t',rfl⟩:=ry; exact PySem.EqMixed.eq_str_int (fin_bl I q (by simp))
    | str j=>obtain ⟨t',rfl⟩:=ry; exact eq_str (fin_bl I q dec_str)
    | _=>exact absurd (show false=true from hs) Bool.false_ne_true
  | byt i =>
    obtain ⟨t,rfl⟩:=rx
    cases y with
    | byt j=>obtain ⟨t',rfl⟩:=ry; exact PySem.W.eq_bytes (fin_bl I q dec_byt)
    | _=>exact absurd (show false=true from hs) Bool.false_ne_true
  | _=>cases y <;> exact absurd (show false=true from hs) Bool.false_ne_true
theorem op_ne:OpR X (compareOp .NotEq) rNe:=by
  intro pins s σ H x y v u Q I rx ry h
  obtain ⟨hs,q⟩:=h
  cases x with
  | non =>
    cases rx
    cases y with
    | non=>cases ry; exact PySem.EqNone.ne_none_none (fin_bl I q (by simp))
    | bl j=>cases ry; exact PySem.EqNone.ne_none_bool (fin_bl I q (by simp))
    | int j=>obtain ⟨t',rfl⟩:=ry; exact PySem.EqNone.ne_none_int (fin_bl I q (by simp))
    | str j=>obtain ⟨t',rfl⟩:=ry; exact PySem.EqNone.ne_none_str (fin_bl I q (by simp))
    | _=>exact absurd (show false=true from hs) Bool.false_ne_true
  | bl i =>
    cases rx
    cases y with
    | non=>cases ry; exact PySem.EqNone.ne_bool_none (fin_bl I q (by simp))
    | bl j=>cases ry; exact ne_bool (fin_bl I q (congrArg not dec_bl))
    | str j=>obtain ⟨t',rfl⟩:=ry; exact PySem.EqMixed.ne_bool_str (fin_bl I q (by simp))
    | _=>exact absurd (show false=true from hs) Bool.false_ne_true
  | int i =>
    obtain ⟨t,rfl⟩:=rx
    cases y with
    | non=>cases ry; exact PySem.EqNone.ne_int_none (fin_bl I q (by simp))
    | int j=>obtain ⟨t',rfl⟩:=ry; exact ne_int (fin_bl I q (congrArg not dec_int))
    | str j=>obtain ⟨t',rfl⟩:=ry; exact PySem.EqMixed.ne_int_str (fin_bl I q (by simp))
    | _=>exact absurd (show false=true from hs) Bool.false_ne_true
  | str i =>
    obtain ⟨t,rfl⟩:=rx
    cases y with
    | non=>cases ry; exact PySem.EqNone.ne_str_none (fin_bl I q (by simp))
    | bl j=>cases ry; exact PySem.EqMixed.ne_str_bool (fin_bl I q (by simp))
    | int j=>obtain ⟨t',rfl⟩:=ry; exact PySem.EqMixed.ne_str_int (fin_bl I q (by simp))
    | str j=>obtain ⟨t',rfl⟩:=ry; exact ne_str (fin_bl I q (congrArg not dec_str))
    | _=>exact absurd (show false=true from hs) Bool.false_ne_true
  | byt i =>
    obtain ⟨t,rfl⟩:=rx
    cases y with
    | byt j=>obtain ⟨t',rfl⟩:=ry; exact PySem.W.ne_bytes (fin_bl I q (congrArg not dec_byt))
    | _=>exact absurd (show false=true from hs) Bool.false_ne_true
  | _=>cases y <;> exact absurd (show false=true from hs) Bool.false_ne_true
theorem op_lt:OpR X (compareOp .Lt) (rI0 fun i j=>.bl (decide (i < j))):=opB0 fun _ _ _ _ _ _ _ q=>lt_int q
theorem op_gt:OpR X (compareOp .Gt) (rI0 fun i j=>.bl (decide (j < i))):=opB0 fun _ _ _ _ _ _ _ q=>gt_int q
theorem op_ge:OpR X (compareOp .GtE) (rI0 fun i j=>.bl (decide (j≤i))):=opB0 fun _ _ _ _ _ _ _ q=>ge_int q
theorem op_isN:OpR X (compareOp .Is) (fun x y H Q=>y=.non∧Q (.bl (decide (x=.non))) H):=by
  intro pins s σ H x y v u Q I rx ry h
  obtain ⟨rfl,q⟩:=h
  cases ry
  refine is_none_gen (fin_bl I q ?_)
  cases x <;> first
    | (cases rx; rfl)
    | (obtain ⟨t,rfl⟩:=rx; rfl)
theorem nomark (b:Expr) {op:CmpOp} (h:op≠.In:=by decide) (h2:op≠.NotIn:=by decide):behindInMarks op b=false:=by
  have e1:(op == CmpOp.In)=false:=by cases op <;> first | rfl | exact absurd rfl h
  have e2:(op == CmpOp.NotIn)=false:=by cases op <;> first | rfl | exact absurd rfl h2
  cases b <;> simp [behindInMarks,e1,e2]
theorem pe_cmpR {op:CmpOp} {r:R2} (ho:OpR X (compareOp op) r) (ha:PE X a ta) (hb:PE X b tb) (hm:behindInMarks op b=false):PE X (.Compare a [op] [b] pos) (tOp r ta tb):=by
  intro pins s σ H Q I h
  exact wpAny_Compare1 (binT ha hb I h fun v u s2 x y H2 I2 rx ry q=>ho pins s2 σ H2 x y v u Q I2 rx ry q) hm
def tTest (t:TE):TT:=fun σ H Q=>t σ H fun x H'=>∃ k,x=.bl k∧Q k H'
theorem pt_cmpR {op:CmpOp} {r:R2} (ho:OpR X (compareOp op) r) (ha:PE X a ta) (hb:PE X b tb) (hm:behindInMarks op b=false):PT X (.Compare a [op] [b] pos) (tTest (tOp r ta tb)):=by
  intro pins s σ H Q I h
  refine wpAny_isTrue_Compare1 (thn (ha pins s σ H _ I h) fun v s1 ⟨x,H1,I1,r1,q1⟩=>thn (hb pins s1 σ H1 _ I1 q1) fun u s2 ⟨y,H2,I2,r2,q2⟩ =>
    thn (ho pins s2 σ H2 x y v u _ I2 r1 r2 q2) fun c s3 ⟨z,H3,I3,r3,k,e,q3⟩=>?_) hm
  subst e
  cases r3
  exact wpAny_truthy_bool ⟨H3,I3,q3⟩
def TruV (K:PySem.W.Frag) (x:V) (H:Hp) (k:Bool):Prop :=
  match x with
  | .non=>k=false
  | .bl b=>k=b
  | .int i=>k=(i != 0)
  | .str y=>y.length≤sizeLine∧k=((y.length:Int) != 0)
  | .byt y=>y.size≤sizeLine∧k=((y.size:Int) != 0)
  | .ref p=>(∃ xs,SqL K H p xs∧k=!xs.isEmpty)∨(∃ xs,SqT K H p xs∧k=!xs.isEmpty)∨∃ kvs,H p=some (.dK kvs)∧k=!kvs.isEmpty
  | _=>False
theorem isEmpty_kv {κ:Type} {kvs:List (κ × V)} {vs:List (κ × Value)} (r:KV kvs vs):(!vs.isEmpty)=!kvs.isEmpty:=by
  cases r <;> rfl
theorem isEmpty_of {xs:List V} {its:List Value} (r:Vals xs its):(!its.toArray.isEmpty)=!xs.isEmpty:=by
  cases r <;> simp
theorem line63:(sizeLine:Nat) < 2 ^ 63:=by rw [sizeLine_eq]; decide
theorem tru_ok:TruR X (fun x H Q=>∃ k,TruV X.K x H k∧Q k H):=by
  intro pins s σ H x v Q I rx h
  obtain ⟨k,e,q⟩:=h
  have hl:=line63
  have hs:sizeLine=16777216:=sizeLine_eq
  cases x with
  | non =>
    cases rx
    have e':k=false:=e
    subst e'
    exact truthy_none ⟨H,I,q⟩
  | bl b =>
    cases rx
    have e':k=b:=e
    subst e'
    exact wpAny_truthy_bool ⟨H,I,q⟩
  | int i =>
    obtain ⟨t,rfl⟩:=rx
    have e':k=(i != 0):=e
    subst e'
    exact PySem.P.truthy_int ⟨H,I,q⟩
  | str y =>
    obtain ⟨t,rfl⟩:=rx
    obtain ⟨hy,e'⟩:y.length≤sizeLine∧k=((y.length:Int) != 0):=e
    subst e'
    exact PySem.P.truthy_str (by omega) ⟨H,I.tok _,q⟩
  | byt y =>
    obtain ⟨t,rfl⟩:=rx
    obtain ⟨hy,e'⟩:y.size≤sizeLine∧k=((y.size:Int) != 0):=e
    subst e'
    exact PySem.W.truthy_bytes (by omega) ⟨H,I.tok _,q⟩
  | ref p =>
    cases rx
    have e':(∃ xs,SqL X.K H p xs∧k=!xs.isEmpty)∨(∃ xs,SqT X.K H p xs∧k=!xs.isEmpty)∨∃ kvs,H p=some (.dK kvs)∧k=!kvs.isEmpty:=e
    rcases e' with ⟨xs,hx,e'⟩ | ⟨xs,hx,e'⟩ | ⟨kvs,hx,e'⟩
    · subst e'
      obtain ⟨its,r,pl,hz⟩:=I.list hx
      have hlen:=r.length
      exact wpAny_truthy_list pl.isList (by simp only [List.size_toArray]; omega) ⟨H,I.tok _,by rw [isEmpty_of r]; exact q⟩
    · subst e'
      obtain ⟨its,r,pl,hz⟩:=I.tuple hx
      have hlen:=r.length
      exact truthy_tuple pl (by simp only [List.size_toArray]; omega) ⟨H,I.tok _,by rw [isEmpty_of r]; exact q⟩
    · subst e'
      obtain ⟨hz,hS,vs,r,m⟩:kvs.length≤sizeLine∧(p == sysModules)=false∧∃ vs,KV kvs vs∧s.heap.DictOf (mixKind X.prog X.w) p vs:=I.hok p _ hx
      have hlen:kvs.length=vs.length:=Paired.length r
      exact wpAny_truthy_dict hS m (by omega) ⟨H,I.tok _,by rw [isEmpty_kv r]; exact q⟩
  | _=>exact (show False from e).elim
theorem pt_truth (ha:PE X a ta) (he:∀ whole,isTrue a X.env whole=(do let v ← whole; standAt a.pos; holding [v] (truthy v))) :
    PT X a (fun σ H Q=>ta σ H fun x H'=>∃ k,TruV X.K x H' k∧Q k H'):=by
  intro pins s σ H Q I h
  exact isTrue_plain (thn (ha pins s σ H _ I h) fun v s1 ⟨x,H1,I1,r1,q1⟩=>tru_ok pins s1 σ H1 x v Q I1 r1 q1) (he _)
theorem vals1 {x:V} {us:List Value} (r:Vals [x] us):∃ u,us=[u]∧RelV x u:=by
  cases r with
  | cons r1 r2=>cases r2; exact ⟨_,rfl,r1⟩
theorem vals2 {x y:V} {us:List Value} (r:Vals [x,y] us):∃ u w',us=[u,w']∧RelV x u∧RelV y w':=by
  cases r with
  | cons r1 r2 =>
    cases r2 with
    | cons r3 r4=>cases r4; exact ⟨_,_,rfl,r1,r3⟩
theorem call_abs:CallR X (.builtin "abs") (fun xs H Q=>∃ i,xs=[.int i]∧Q (.int (if i < 0 then -i else i)) H):=by
  intro pins s σ H xs us Q I r h
  obtain ⟨i,rfl,q⟩:=h
  obtain ⟨u,rfl,t,rfl⟩:=vals1 r
  exact call_abs_int fun u tk=>⟨.int (if i < 0 then -i else i),H,I.tok _,⟨_,rfl⟩,q⟩
theorem call_min2 (hc:X.calm=true):CallR X (.builtin "min") (fun xs H Q=>∃ i j,xs=[.int i,.int j]∧Q (.int (if j < i then j else i)) H):=by
  intro pins s σ H xs us Q I r h
  obtain ⟨i,j,rfl,q⟩:=h
  obtain ⟨u,w',rfl,⟨t,rfl⟩,⟨t',rfl⟩⟩:=vals2 r
  refine min_two_ints (I.ok.hd hc) fun h' tk k=>⟨_,H,I.kept k,?_,q⟩
  by_cases hj:j < i
  · rw [if_pos hj,if_pos hj]; exact ⟨_,rfl⟩
  · rw [if_neg hj,if_neg hj]; exact ⟨_,rfl⟩
end
end L2
namespace L2
open PySem PySem.Spec PyProof.Rows
structure ObjM (h:Heap) (x dx C:Addr) (mA:Str→Option Value):Prop where
  obj:h.get? x=some (PySem.W.instObj C dx)
  ns:h.Ns1 dx mA
  ne:dx≠x
theorem lookIn_ns {h:Heap} {dx:Addr} {mA:Str→Option Value} (n:h.Ns1 dx mA):∃ od,h.get? dx=some od∧∀ name,PySem.W.lookIn name od=some (mA name):=by
  obtain ⟨o,es,ep,ho,hd,hk,_,hm⟩:=n
  refine ⟨o,ho,fun name=>?_⟩
  have e:=hm name
  unfold nsFind findBy at e
  rw [← Array.find?_toList] at e
  unfold PySem.W.lookIn
  rw [hd]
  dsimp only
  split
  · rename_i y q
    rw [q] at e
    exact congrArg some e
  · rename_i q
    rw [q] at e
    have a:es.toList.any (·.refKey)=false:=by
      rw [List.any_eq_false]
      intro y hy
      obtain ⟨z,t,hkey⟩:=hk y (Array.mem_toList_iff.mp hy)
      simp [DictEntry.refKey,hkey]
    have a':¬ es.toList.any (·.refKey)=true:=by rw [a]; exact Bool.false_ne_true
    rw [if_neg a']
    exact congrArg some e
theorem ObjM.look {h:Heap} {x dx C:Addr} {mA:Str→Option Value} (I:ObjM h x dx C mA):∃ od,PySem.W.InstAt h x (PySem.W.instObj C dx) C (some od)∧∀ name,PySem.W.lookIn name od=some (mA name) :=
  let ⟨od,ho,hl⟩:=lookIn_ns I.ns
  ⟨od,⟨I.obj,rfl,rfl,ho⟩,hl⟩
section
variable {prog:Program} {w:World} {A:Around} {E:Value→Shared→Prop} {s:Shared} {K:PySem.W.Frag} {x dx C f:Addr} {mA:Str→Option Value} {name:Str} {v:Value}
theorem get_map {expr:Bool} {Q:Value→Shared→Prop} (X:K.In s.heap) (I:ObjM s.heap x dx C mA) (hg:PySem.W.plainGet K C name=true) (hh:PySem.W.hasDictIn K C=true)
    (ha:PySem.W.findIn K (.ref C) name=some none) (hv:mA name=some v) (hv':PySem.W.handedIn v=true) (h:Q v { s with toks:=s.toks + 1 }) :
    wpAny (model prog w) A (getAttr (.ref x) name expr) Q E s:=by
  obtain ⟨od,J,hl⟩:=I.look
  exact PySem.W.get_value X J (PySem.W.plainGet_of hg).1 (PySem.W.findObj_own hh ha rfl (by rw [hl,hv])) hv' h
theorem get_meth {pl:Sem Bool} {Q:Value × List Value→Shared→Prop} (X:K.In s.heap) (I:ObjM s.heap x dx C mA) (hg:PySem.W.plainGet K C name=true)
    (hf:PySem.W.findIn K (.ref C) name=some (some (.ref f))) (ht:PySem.W.isFn K (.ref f)=true) (hv:mA name=none) (h:Q (.ref f,[.ref x]) s) :
    wpAny (model prog w) A (getMethod (.ref x) name pl) Q E s:=by
  obtain ⟨od,J,hl⟩:=I.look
  exact PySem.W.method_fn X J (PySem.W.plainGet_of hg).1 (PySem.W.plainGet_of hg).2 hf (beq_iff_eq.mp ht) (by show (PySem.W.lookIn name od).map (·.isSome)=some false; rw [hl,hv]; rfl) h
theorem set_map {ns:List Str} {Q:Unit→Shared→Prop} (X:K.In s.heap) (I:ObjM s.heap x dx C mA)
    (hs:PySem.W.findIn K (.ref C) "__setattr__" = some (some (.builtin "object.__setattr__"))) (hp:PySem.W.plainOver K C=true) (ht:PySem.W.takerIn K C name=some none) (hh:PySem.W.hasDictIn K C=true)
    (hw:PySem.Within mA ns) (hsz:ns.length≤sizeLine)
    (h:∀ h',ObjM h' x dx C (fun y=>if y=name then some v else mA y)→Heap.SameBut dx s.heap h'→Q () { s with heap:=h',toks:=s.toks + 2 }) :
    wpAny (model prog w) A (setAttr (.ref x) name v) Q E s:=by
  obtain ⟨od,J,hl⟩:=I.look
  refine PySem.W.set_plain X J hs (PySem.W.osa_open (s:={ s with toks:=s.toks + 1 }) (r:=none) X J hp ht fun b=>?_)
  obtain ⟨cd,hc,hd'⟩:=PySem.W.any_some hh
  have hx:s.heap.get? x=some ⟨.ref C,some dx,.plain,#[]⟩:=I.obj
  refine wpAny_bind (wpAny_pure (wpAny_bind (wpAny_bind (wpAny_loadPart hx (wpAny_bind (PySem.W.Looks.here (s:={ s with toks:=s.toks + 1 }) (PySem.W.looks_clsIn X hc) ?_))))))
  rw [hd']
  refine wpAny_pure (a:=some dx) (wpAny_bind (wpAny_pure (wpAny_bind ?_)))
  refine wpAny_nsSet1 (s:={ s with toks:=s.toks + 1 }) I.ns fun h' hn2 hs2=>?_
  obtain ⟨oD,esD,epD,hoD,hdD,hcD⟩:=hn2.count (PySem.Within.cons name v hw)
  refine wpAny_bind (wpAny_lookBehind hoD (by rw [hdD]; exact pastItsLine_dict (Nat.le_trans hcD (by rw [List.length_cons]; omega))) ?_)
  exact wpAny_pure (h _ ⟨(hs2.2 _ (Ne.symm I.ne)).trans I.obj,hn2,I.ne⟩ hs2)
theorem make_map {R:Result→Shared→Prop} {vs:List Value} {kw:List (Str × Value)} (X:K.In s.heap) (hm:PySem.W.makesIn K C=true)
    (hi:PySem.W.findIn K (.ref C) "__init__" = some (some (.ref f))) (hf:PySem.W.typeIn K (.ref f)=some (.type "function"))
    (h:codeAny (model prog w) (A.under (.builtin "type.__call__" ⟨.ref C :: vs,kw⟩)) (.call (.ref f) ⟨.ref (s.heap.objs.size + 1) :: vs,kw⟩) (PySem.W.InitBack (s.heap.objs.size + 1) R)
      { s with heap:=(s.heap.push PySem.W.emptyDict).push (PySem.W.instObj C s.heap.objs.size) }) :
    codeAny (model prog w) A (.call (.ref C) ⟨vs,kw⟩) R s:=by
  obtain ⟨hh,g,d,t,os⟩:=s
  exact PySem.W.make_core (PySem.W.makes_of X hm) (PySem.W.looks_findIn X hi) (fun self=>PySem.W.bind_fn X self hf) (.inl rfl) h
end
def putF (f:Str) (v:V):List (Str × V)→List (Str × V)
  | []=>[(f,v)]
  | (g,x) :: r=>if g=f then (g,v) :: r else (g,x) :: putF f v r
theorem lookup_putF (f g:Str) (v:V):∀ fs:List (Str × V),(putF f v fs).lookup g=if g=f then some v else fs.lookup g
  | []=>by
    show List.lookup g [(f,v)]=_
    by_cases h:g=f
    · have hb:(g == f)=true:=beq_iff_eq.mpr h
      simp only [List.lookup,hb,if_pos h]
    · have hb:(g == f)=false:=beq_eq_false_iff_ne.mpr h
      simp only [List.lookup,hb,if_neg h]
  | (k, x) :: r=>by
    have ih:=lookup_putF f g v r
    rw [show putF f v ((k,x) :: r)=(if k=f then (k,v) :: r else (k,x) :: putF f v r) from rfl]
    by_cases hk:k=f
    · rw [if_pos hk]
      by_cases h:g=k
      · have hb:(g == k)=true:=beq_iff_eq.mpr h
        simp only [List.lookup,hb,if_pos (h.trans hk)]
      · have hb:(g == k)=false:=beq_eq_false_iff_ne.mpr h
        simp only [List.lookup,hb,if_neg (fun e:g=f=>h (e.trans hk.symm))]
    · rw [if_neg hk]
      by_cases h:g=k
      · have hb:(g == k)=true:=beq_iff_eq.mpr h
        simp only [List.lookup,hb,if_neg (fun e:g=f=>hk (h.symm.trans e))]
      · have hb:(g == k)=false:=beq_eq_false_iff_ne.mpr h
        simp only [List.lookup,hb]
        exact ih
theorem keys_putF (f:Str) (v:V):∀ fs:List (Str × V),f∈(putF f v fs).map (·.1)∧∀ g,g∈fs.map (·.1)→g∈(putF f v fs).map (·.1)
  | []=>⟨by simp [putF],fun g h=>by simp at h⟩
  | (k, x) :: r=>by
    obtain ⟨i1,i2⟩:=keys_putF f v r
    rw [show putF f v ((k,x) :: r)=(if k=f then (k,v) :: r else (k,x) :: putF f v r) from rfl]
    by_cases hk:k=f
    · rw [if_pos hk]
      subst hk
      exact ⟨by simp,fun g h=>by simpa using h⟩
    · rw [if_neg hk]
      refine ⟨?_,fun g h=>?_⟩
      · rw [List.map_cons]
        exact List.mem_cons_of_mem _ i1
      · rw [List.map_cons] at h ⊢
        rcases List.mem_cons.mp h with e | e
        · exact List.mem_cons.mpr (.inl e)
        · exact List.mem_cons_of_mem _ (i2 g e)
theorem length_putF (f:Str) (v:V):∀ fs:List (Str × V),(putF f v fs).length≤fs.length + 1
  | []=>by simp [putF]
  | (k,x) :: r=>by
    have ih:=length_putF f v r
    rw [show putF f v ((k,x) :: r)=(if k=f then (k,v) :: r else (k,x) :: putF f v r) from rfl]
    by_cases hk:k=f
    · rw [if_pos hk,List.length_cons,List.length_cons]; omega
    · rw [if_neg hk,List.length_cons,List.length_cons]; omega
theorem RelO.some_of {v:V} {o:Option Value} (r:RelO (some v) o):∃ u,o=some u∧RelV v u:=by
  cases o with
  | none=>exact (show False from r).elim
  | some u=>exact ⟨u,rfl,r⟩
theorem RelO.none_of {o:Option Value} (r:RelO none o):o=none:=by
  cases o with
  | none=>rfl
  | some u=>exact (show False from r).elim
theorem handed_of {v:V} {u:Value} (r:RelV v u):PySem.W.handedIn u=true:=by
  cases v with
  | non=>cases (show u=Value.none from r); rfl
  | bl b=>cases (show u=Value.bool b from r); rfl
  | int i=>obtain ⟨t,e⟩:=(show ∃ t,u=Value.int i t from r); cases e; rfl
  | str x=>obtain ⟨t,e⟩:=(show ∃ t,u=Value.str x t from r); cases e; rfl
  | byt b=>obtain ⟨t,e⟩:=(show ∃ t,u=Value.bytes b t from r); cases e; rfl
  | flt b=>obtain ⟨t,e⟩:=(show ∃ t,u=Value.float b t from r); cases e; rfl
  | ref a=>cases (show u=Value.ref a from r); rfl
  | ty n=>cases (show u=Value.type n from r); rfl
section
variable {P:Program} {w:World} {H H':Hp} {h h':Heap} {a C dx:Addr} {fs fs':List (Str × V)}
theorem ins_get (hok:HOk P w H h) (e:H a=some (.ins C dx fs)):∃ mA,ObjM h a dx C mA∧(∀ f,RelO (fs.lookup f) (mA f))∧PySem.Within mA (fs.map (·.1))∧fs.length≤1000∧H dx=some (.own a):=by
  obtain ⟨d,z,ne,ob,mA,n,r,q⟩:=(show ObjOk P w H h a (.ins C dx fs) from hok a _ e)
  exact ⟨mA,⟨ob,n,ne⟩,r,q,z,d⟩
end
structure Cls (K:PySem.W.Frag) (C:Addr):Prop where
  pg:PySem.W.plainGet K C Str.empty=true
  hd:PySem.W.hasDictIn K C=true
  po:PySem.W.plainOver K C=true
  sa:PySem.W.findIn K (.ref C) "__setattr__" = some (some (.builtin "object.__setattr__"))
theorem Cls.get {K:PySem.W.Frag} {C:Addr} (c:Cls K C) (f:Str):PySem.W.plainGet K C f=true:=c.pg
def NoAttr (K:PySem.W.Frag) (C:Addr) (f:Str):Prop:=PySem.W.findIn K (.ref C) f=some none
theorem NoAttr.taker {K:PySem.W.Frag} {C:Addr} {f:Str} (n:NoAttr K C f):PySem.W.takerIn K C f=some none:=by
  unfold PySem.W.takerIn
  rw [show PySem.W.findIn K (.ref C) f=some none from n]
  rfl
structure Meth (K:PySem.W.Frag) (C:Addr) (m:Str) (f:Addr):Prop where
  at_:PySem.W.findIn K (.ref C) m=some (some (.ref f))
  fn:PySem.W.isFn K (.ref f)=true
  kp:PySem.W.keepIn K (.ref f)=true
section
variable {X:Cx} {pins:List (Addr × Obj)} {σ:St} {H:Hp} {s:Shared} {a C dx:Addr} {fs:List (Str × V)} {f:Str} {v:V} {A:Around} {E:Value→Shared→Prop}
theorem getattr_ok {b:Bool} {Q:Value→Shared→Prop} (I:Inv X pins σ H s) (e:H a=some (.ins C dx fs)) (c:Cls X.K C) (n:NoAttr X.K C f) (l:fs.lookup f=some v)
    (h:∀ u s',Inv X pins σ H s'→RelV v u→Q u s'):wpAny (model X.prog X.w) A (getAttr (.ref a) f b) Q E s:=by
  obtain ⟨mA,O,r,_,_,_⟩:=ins_get I.hok e
  obtain ⟨u,hu,ru⟩:=RelO.some_of (v:=v) (o:=mA f) (by rw [← l]; exact r f)
  exact get_map I.kIn O (c.get f) c.hd n hu (handed_of ru) (h u _ (I.tok _) ru)
theorem getmeth_ok {m:Str} {g:Addr} {pl:Sem Bool} {Q:Value × List Value→Shared→Prop} (I:Inv X pins σ H s) (e:H a=some (.ins C dx fs)) (c:Cls X.K C) (k:Meth X.K C m g) (l:fs.lookup m=none)
    (h:Q (.ref g,[.ref a]) s):wpAny (model X.prog X.w) A (getMethod (.ref a) m pl) Q E s:=by
  obtain ⟨mA,O,r,_,_,_⟩:=ins_get I.hok e
  have hn:mA m=none:=RelO.none_of (by rw [← l]; exact r m)
  exact get_meth I.kIn O (c.get m) k.at_ k.fn hn h
theorem setattr_ok {y:V} {u:Value} {Q:Unit→Shared→Prop} (I:Inv X pins σ H s) (e:H a=some (.ins C dx fs)) (c:Cls X.K C) (n:NoAttr X.K C f) (hl:fs.length < 1000) (ry:RelV y u)
    (h:∀ s',Inv X pins σ (upd H a (.ins C dx (putF f y fs))) s'→Q () s'):wpAny (model X.prog X.w) A (setAttr (.ref a) f u) Q E s:=by
  obtain ⟨mA,O,r,wi,_,ho⟩:=ins_get I.hok e
  have hz:(fs.map (·.1)).length≤sizeLine:=by rw [List.length_map,sizeLine_eq]; omega
  refine set_map I.kIn O c.sa c.po n.taker c.hd wi hz fun h' O' sb=>h _ ?_
  have hd:∃ o,h'.get? dx=some o:=let ⟨o,_,_,e',_⟩:=O'.ns; ⟨o,e'⟩
  refine I.write (x:=a) (e:=dx) (by rw [e]; exact True.intro) (.inr ho) (fun b q hb z=>(sb.2 b hb).trans z) hd ?_
  refine ⟨by rw [upd_ne O.ne]; exact ho,?_,O.ne,O'.obj,_,O'.ns,fun g=>?_,fun g hg=>?_⟩
  · have:=length_putF f y fs; omega
  · show RelO ((putF f y fs).lookup g) (if g=f then some u else mA g)
    rw [lookup_putF]
    by_cases q:g=f
    · rw [if_pos q,if_pos q]; exact ry
    · rw [if_neg q,if_neg q]; exact r g
  · by_cases q:g=f
    · rw [q]; exact (keys_putF f y fs).1
    · refine (keys_putF f y fs).2 g (wi g fun z=>hg ?_)
      show (if g=f then some u else mA g)=none
      rw [if_neg q]; exact z
theorem Inv.made (I:Inv X pins σ H s):Inv X pins σ (upd (upd H s.heap.objs.size (.own (s.heap.objs.size + 1))) (s.heap.objs.size + 1) (.ins C s.heap.objs.size []))
    { s with heap:=(s.heap.push PySem.W.emptyDict).push (PySem.W.instObj C s.heap.objs.size) }:=by
  have e1:(s.heap.push PySem.W.emptyDict).get? s.heap.objs.size=some PySem.W.emptyDict:=Heap.get?_push_size s.heap rfl
  have e2:((s.heap.push PySem.W.emptyDict).push (PySem.W.instObj C s.heap.objs.size)).get? (s.heap.objs.size + 1)=some (PySem.W.instObj C s.heap.objs.size):=by
    have:=Heap.get?_push_size (s.heap.push PySem.W.emptyDict) (o:=PySem.W.instObj C s.heap.objs.size) rfl
    rwa [Heap.size_push] at this
  have e3:(s.heap.push PySem.W.emptyDict).Ns s.heap.objs.size (fun _=>none):=⟨PySem.W.emptyDict,#[],_,e1,rfl,(fun e he=>absurd he (by simp)),fun _=>rfl⟩
  have I1:=I.laid (a:=s.heap.objs.size) (o:=.own (s.heap.objs.size + 1)) (h':=s.heap.push PySem.W.emptyDict) (t':=s.toks) (fun b u q=>Heap.get?_push_of_some _ q) (Nat.le_refl _) ⟨_,e1⟩
  refine I1.laid (a:=s.heap.objs.size + 1) (o:=.ins C s.heap.objs.size []) (t':=s.toks) (fun b u q=>Heap.get?_push_of_some _ q) (Nat.le_of_eq (Heap.size_push _ _)) ?_
  have ne:s.heap.objs.size≠s.heap.objs.size + 1:=Nat.ne_of_lt (Nat.lt_succ_self _)
  refine ⟨by rw [upd_ne ne,upd_same],Nat.zero_le _,ne,e2,fun _=>none,(Heap.Ns1.of_empty e3).at fun o q=>Heap.get?_push_of_some _ q,fun _=>True.intro,fun y hy=>absurd rfl hy⟩
theorem attr_of {prog:Program} {w:World} {env:Env} {e:Expr} {f:Str} {pos:Pos} {s:Shared} {Q:Value→Shared→Prop} (hb:attributeBase e f env (eval e env)=eval e env)
    (h:wpAny (model prog w) A (eval e env) (fun o s₁=>wpAny (model prog w) A (getAttr o f true) Q E s₁) E s):wpAny (model prog w) A (eval (.Attribute e f pos) env) Q E s :=
  Attribute_any_ h (by rw [arm_eval_Attribute,hb])
end
def tFld (K:PySem.W.Frag) (ta:TE) (f:Str):TE:=fun σ H Q=>ta σ H fun x H1=>∃ a C dx fs v,x=.ref a∧H1 a=some (.ins C dx fs)∧Cls K C∧NoAttr K C f∧fs.lookup f=some v∧Q v H1
def sFld (K:PySem.W.Frag) (ta tv:TE) (f:Str):TS:=fun D σ H=>tv σ H fun y H1=>ta σ H1 fun x H2=>∃ a C dx fs,x=.ref a∧H2 a=some (.ins C dx fs)∧Cls K C∧NoAttr K C f∧fs.length < 1000 ∧
  D.nx σ (upd H2 a (.ins C dx (putF f y fs)))
section
variable {X:Cx} {o e value:Expr} {f:Str} {pos pos' tpos:Pos} {ta tv:TE}
theorem pe_fld (he:PE X e ta) (hb:attributeBase e f X.env (eval e X.env)=eval e X.env):PE X (.Attribute e f pos) (tFld X.K ta f):=by
  intro pins s σ H Q I h
  refine attr_of hb (thn (he pins s σ H _ I h) fun u s1 ⟨x,H1,I1,rx,a,C,dx,fs,v,ex,ea,c,n,l,q⟩=>?_)
  subst ex
  obtain rfl:u=Value.ref a:=rx
  exact getattr_ok I1 ea c n l fun u' s2 I2 ru=>⟨v,H1,I2,ru,q⟩
theorem ps_fld (ha:PE X o ta) (hv:PE X value tv) (hs:swapsWith value (some (.Attribute o f pos')) pos.line X.env=pure false):PS X (.Assign [.Attribute o f pos'] value pos) (sFld X.K ta tv f):=by
  intro pins s σ H D I h
  refine plainObj_wpAny_Assign_Attribute (thn (hv pins s σ H _ I h) fun u s1 ⟨y,H1,I1,ry,q⟩=>thn (ha pins s1 σ H1 _ I1 q) fun ov s2 ⟨x,H2,I2,rx,a,C,dx,fs,ex,ea,c,n,l,q2⟩=>?_) hs
  subst ex
  obtain rfl:ov=Value.ref a:=rx
  exact setattr_ok I2 ea c n l ry fun s3 I3=>⟨σ,_,I3,q2⟩
theorem methcall_of {pl:Sem Bool} {m:Str} {apos:Pos} {args:List Expr} {pins:List (Addr × Obj)} {s:Shared} {σ:St} {H:Hp} {Q:Value→Shared→Prop} {te:TE} (he:PE X e te) (I:Inv X pins σ H s)
    (h:te σ H fun x H1=>∃ a C dx fs g,x=.ref a∧H1 a=some (.ins C dx fs)∧Cls X.K C∧Meth X.K C m g∧fs.lookup m=none ∧
      ∀ s1,Inv X pins σ H1 s1→wpAny (model X.prog X.w) X.A (callWith pos (.ref g) [.ref a] (backTo pos (starEach args X.env)) (backToKw pos (keywordEach [] X.env))) Q X.xe s1)
    (ht:eval (.Call (.Attribute e m apos) args [] pos) X.env=(do
      let ov ← eval e X.env
      standAt apos.atName
      let (f,first) ← holding [ov] (getMethod ov m pl)
      callWith pos f first (backTo pos (starEach args X.env)) (backToKw pos (keywordEach [] X.env)))) :
    wpAny (model X.prog X.w) X.A (eval (.Call (.Attribute e m apos) args [] pos) X.env) Q X.xe s:=by
  refine PySem.W.methodCall_KW (pl:=pl) (thn (he pins s σ H _ I h) fun u s1 ⟨x,H1,I1,rx,a,C,dx,fs,g,ex,ea,c,k,l,q⟩=>?_) ht
  subst ex
  obtain rfl:u=Value.ref a:=rx
  exact getmeth_ok I1 ea c k l (q s1 I1)
end
section
variable {X:Cx} {pins:List (Addr × Obj)} {σ:St} {H:Hp} {s:Shared} {A:Around} {E:Value→Shared→Prop} {Q:Value→Shared→Prop} {c:Value} {b:Bool}
end
end L2
namespace L2
open PySem PySem.Spec PyProof.Rows
structure Room (k:Nat) (A:Around):Prop where
  hd:A.handled=none
  dp:A.depth + 3 * k + 5 < recursionLimit
  un:A.units + 16 * k + 200 < cLine
theorem Room.mono {j k:Nat} {A:Around} (r:Room k A) (h:j≤k):Room j A:=⟨r.hd,by have:=r.dp; omega,by have:=r.un; omega⟩
theorem Room.deeper {k:Nat} {A:Around} (r:Room (k + 1) A) (env:Env):Room k (A.deeper env) :=
  ⟨r.hd,by have:=r.dp; show A.depth + 1 + 3 * k + 5 < _; omega,by have:=r.un; show A.units + 3 + 16 * k + 200 < _; omega⟩
theorem make_depth {A:Around} {C:Addr} {us:List Value} {kw:List (Str × Value)}:(A.under (.builtin "type.__call__" ⟨.ref C :: us,kw⟩)).depth=A.depth + 1:=by
  first | rfl | simp [Around.under,Code.weight,Code.isCreation,Code.isGuard,Code.isCaller,Code.frames,Code.isFrame,guardIds]
theorem make_units {A:Around} {C:Addr} {us:List Value} {kw:List (Str × Value)}:(A.under (.builtin "type.__call__" ⟨.ref C :: us,kw⟩)).units=A.units + 1:=by
  first | rfl | simp [Around.under,Code.cUnits,Code.frames,Code.isFrame]
theorem Room.make {k:Nat} {A:Around} (r:Room (k + 1) A) (C:Addr) (us:List Value) (kw:List (Str × Value)):Room k (A.under (.builtin "type.__call__" ⟨.ref C :: us,kw⟩)) :=
  ⟨r.hd,by have:=r.dp; rw [make_depth]; omega,by have:=r.un; rw [make_units]; omega⟩
theorem Room.depth {k:Nat} {A:Around} (r:Room k A):A.depth < recursionLimit:=by have:=r.dp; omega
def tNil:TA:=fun _ H Q=>Q [] H
def tCons (ta:TE) (tr:TA):TA:=fun σ H Q=>ta σ H fun x H1=>tr σ H1 fun xs H2=>Q (x :: xs) H2
section
variable {X:Cx} {e:Expr} {es:List Expr} {te:TE} {t:TA} {pos:Pos}
theorem pa_nil:PA X [] tNil:=fun _ _ _ _ H Q I h=>Calls.spliced_nil ⟨[],H,I,.nil,h⟩
theorem pa_cons (ha:PE X e te) (hr:PA X es t) (hs:starEach (e :: es) X.env=(false,eval e X.env) :: starEach es X.env:=by rfl):PA X (e :: es) (tCons te t):=by
  intro pos pins s σ H Q I h
  rw [hs]
  show wpAny _ _ (spliced ((false,eval e X.env) :: backTo pos (starEach es X.env))) _ _ s
  refine Calls.spliced_cons (thn (ha pins s σ H _ I h) fun u s1 ⟨x,H1,I1,r1,q1⟩=>?_)
  exact thn (hr pos pins s1 σ H1 _ I1 q1) fun us s2 ⟨xs,H2,I2,r2,q2⟩=>⟨x :: xs,H2,I2,.cons r1 r2,q2⟩
def tTup (t:TA):TE:=fun σ H Q=>t σ H fun xs H1=>xs.length≤sizeLine∧∀ p,H1 p=none→Q (.ref p) (upd H1 p (.tup xs))
def tLst (t:TA):TE:=fun σ H Q=>t σ H fun xs H1=>xs.length≤sizeLine∧∀ p,H1 p=none→Q (.ref p) (upd H1 p (.lst xs))
theorem pe_tup {x1} (h:PA X es t):PE X (.Tuple es x1 pos) (tTup t):=by
  intro pins s σ H Q I hq
  refine wpAny_Tuple_spliced (thn (h pos pins s σ H _ I hq) fun us s1 ⟨xs,H1,I1,r,z,q⟩=>⟨by rw [← r.length]; exact z,?_⟩)
  have hf:H1 s1.heap.objs.size=none:=I1.hok.fresh (Nat.le_refl _)
  refine ⟨.ref s1.heap.objs.size,upd H1 s1.heap.objs.size (.tup xs),I1.laid (t':=s1.toks) (fun b u e=>Heap.get?_push_of_some _ e) (Nat.le_refl _) ?_,rfl,q _ hf⟩
  exact ⟨z,us,r,⟨_,Heap.get?_push_size _ rfl,rfl,_,rfl⟩⟩
theorem pe_lst (h:PA X es t):PE X (.List es pos) (tLst t):=by
  intro pins s σ H Q I hq
  refine wpAny_List_spliced (thn (h pos pins s σ H _ I hq) fun us s1 ⟨xs,H1,I1,r,z,q⟩=>⟨by rw [← r.length]; exact z,?_⟩)
  have hf:H1 s1.heap.objs.size=none:=I1.hok.fresh (Nat.le_refl _)
  refine ⟨.ref s1.heap.objs.size,upd H1 s1.heap.objs.size (.lst xs),I1.laid (t':=s1.toks) (fun b u e=>Heap.get?_push_of_some _ e) (Nat.le_refl _) ?_,rfl,q _ hf⟩
  exact ⟨z,us,0,r,Heap.get?_push_size _ rfl⟩
end
abbrev Sp:=List V→Hp→VK→XK→Prop
abbrev CXT:=List Env→Hp→Shared→XK→Value→Shared→Prop
structure Env0 (P:Program) (w:World) (K:PySem.W.Frag) (mg:Str→Option Value) (base:Heap) (A:Around) (outer:List Env) (s:Shared) (H:Hp):Prop where
  frames:A.frames=some outer
  mod:Mod K mg base
  bs:∀ b o,base.get? b=some o→s.heap.get? b=some o∧H b=none
  bsz:base.objs.size≤s.heap.objs.size
  funs:s.heap.FunFrames base outer
  frf:∀ b∈frs outer,H b=none
  hok:HOk P w H s.heap
  bare:AllBare s.gens
def CE (outer:List Env) (P:Program) (w:World) (H:Hp) (s:Shared) (Q:VK) (u:Value) (s':Shared):Prop :=
  ∃ v H',s'.os=s.os∧AllBare s'.gens∧Un (frs outer) [] H H' s.heap s'.heap∧HOk P w H' s'.heap∧RelV v u∧Q v H'
def CR (CX:CXT) (outer:List Env) (P:Program) (w:World) (H:Hp) (s:Shared) (Q:VK) (E:XK) (r:Result) (s':Shared):Prop :=
  match r with
  | .ok (.ret u)=>CE outer P w H s Q u s'
  | .ok _=>False
  | .error e=>CX outer H s E e s'
structure FnOk (P:Program) (w:World) (K:PySem.W.Frag) (mg:Str→Option Value) (base:Heap) (CX:CXT) (k:Nat) (f:Addr) (fd:FuncData) (ps:List Str) (sp:Sp):Prop where
  len:∀ vs H Q E,sp vs H Q E→vs.length=ps.length
  run:∀ (A:Around) (outer:List Env) (s:Shared) (H:Hp) (args:Args) (us:List Value) (vs:List V) (Q:VK) (E:XK),Room k A→Env0 P w K mg base A outer s H→BindsTo s fd args (ps.zip us)→Vals vs us→sp vs H Q E →
    codeAny (model P w) A (.call (.ref f) args) (CR CX outer P w H s Q E) s
theorem FnOk.mono {P:Program} {w:World} {K:PySem.W.Frag} {mg:Str→Option Value} {base:Heap} {CX:CXT} {j k:Nat} {f:Addr} {fd:FuncData} {ps:List Str} {sp:Sp} (F:FnOk P w K mg base CX j f fd ps sp) (h:j≤k) :
    FnOk P w K mg base CX k f fd ps sp:=⟨F.len,fun A outer s H args us vs Q E hr=>F.run A outer s H args us vs Q E (hr.mono h)⟩
theorem Env0.make {P:Program} {w:World} {K:PySem.W.Frag} {mg:Str→Option Value} {base:Heap} {A:Around} {outer:List Env} {s:Shared} {H:Hp} (e:Env0 P w K mg base A outer s H) (C:Addr) (us:List Value) (kw:List (Str × Value)) :
    Env0 P w K mg base (A.under (.builtin "type.__call__" ⟨.ref C :: us,kw⟩)) outer s H:=⟨by first | exact e.frames | (simpa [Around.under,Code.envs,Code.isFrame,pushEnvs] using e.frames),e.mod,e.bs,e.bsz,e.funs,e.frf,e.hok,e.bare⟩
section
variable {X:Cx} {pins:List (Addr × Obj)} {σ:St} {H:Hp} {s s':Shared}
theorem Inv.env0 (I:Inv X pins σ H s):Env0 X.prog X.w X.K X.mg X.base X.A X.stack s H :=
  ⟨I.ok.frames,I.ok.mod,I.bs,Nat.le_trans I.ok.bsz I.sz,I.stack,I.stkFree,I.hok,I.bare⟩
theorem Inv.after {Q:VK} {u:Value} (I:Inv X pins σ H s) (h:CE X.stack X.prog X.w H s Q u s'):EP X pins σ Q u s':=by
  obtain ⟨v,H',os,bare,un,hok,r,q⟩:=h
  obtain ⟨hh,g,d,t,os'⟩:=s'
  obtain rfl:os'=s.os:=os
  exact ⟨v,H',I.call (h':=hh) (g':=g) (d':=d) (t':=t) (ch:=[]) un hok bare (fun b z=>absurd z (by simp)),r,q⟩
end
def tCall (sp:Sp) (dvs:List V) (E:XK) (t:TA):TE:=fun σ H Q=>t σ H fun vs H1=>sp (vs ++ dvs) H1 Q E
def tMeth (C:Addr) (m:Str) (sp:Sp) (dvs:List V) (E:XK) (ta:TE) (t:TA):TE:=fun σ H Q=>ta σ H fun x H1=>∃ a dx fs,x=.ref a∧H1 a=some (.ins C dx fs)∧fs.lookup m=none ∧
  t σ H1 fun vs H2=>sp (x :: (vs ++ dvs)) H2 Q E
def tMake (C:Addr) (sp:Sp) (dvs:List V) (E:XK) (t:TA):TE:=fun σ H Q=>t σ H fun vs H1=>∀ x dx,H1 x=none→H1 dx=none→dx≠x →
  sp (.ref x :: (vs ++ dvs)) (upd (upd H1 dx (.own x)) x (.ins C dx [])) (fun v H2=>v=.non∧Q (.ref x) H2) E
def Binds (K:PySem.W.Frag) (fd:FuncData) (ps:List Str) (ds:List Value):Prop :=
  ∀ (s:Shared) (us:List Value),K.In s.heap→(us ++ ds).length=ps.length→BindsTo s fd ⟨us,[]⟩ (ps.zip (us ++ ds))
theorem Binds.all {K:PySem.W.Frag} {fd:FuncData} {ps:List Str} (h:∀ us:List Value,us.length=ps.length→bindArgs fd ⟨us,[]⟩=pure (ps.zip us)):Binds K fd ps []:=fun s us _ hl=>by
  rw [List.append_nil] at hl ⊢
  exact .of_eq (h us hl)
def Passes (CX:CXT) (X:Cx) (E:XK):Prop:=∀ (pins:List (Addr × Obj)) (σ:St) (H:Hp) (s:Shared) (e:Value) (s':Shared),Inv X pins σ H s→CX X.stack H s E e s'→X.xe e s'
section
variable {X:Cx} {CX:CXT} {k:Nat} {f C:Addr} {fd:FuncData} {ps:List Str} {sp:Sp} {dvs:List V} {ds:List Value} {E:XK} {x m:Str} {p pos apos:Pos} {e o:Expr} {es:List Expr} {ta:TE} {t:TA}
theorem run_fn {pins:List (Addr × Obj)} {σ:St} {H:Hp} {s:Shared} {Q:VK} {us:List Value} {vs:List V} (F:FnOk X.prog X.w X.K X.mg X.base CX k f fd ps sp) (hr:Room k X.A) (hb:Binds X.K fd ps ds) (hd:Vals dvs ds) (hx:Passes CX X E)
    (I:Inv X pins σ H s) (r:Vals vs us) (h:sp (vs ++ dvs) H Q E):wpAny (model X.prog X.w) X.A (call (.ref f) us) (EP X pins σ Q) X.xe s:=by
  have r2:Vals (vs ++ dvs) (us ++ ds):=r.append hd
  have hl:(us ++ ds).length=ps.length:=by rw [← r2.length]; exact F.len _ _ _ _ h
  refine wpAny_call (codeAny_mono (F.run X.A X.stack s H ⟨us,[]⟩ (us ++ ds) (vs ++ dvs) Q E hr I.env0 (hb s us I.kIn hl) r2 h) fun r s' hq=>?_)
  cases r with
  | error e=>exact hx pins σ H s e s' I hq
  | ok fl =>
    cases fl with
    | ret u=>exact I.after hq
    | next=>exact False.elim hq
    | brk=>exact False.elim hq
    | cont=>exact False.elim hq
theorem pe_call (F:FnOk X.prog X.w X.K X.mg X.base CX k f fd ps sp) (hr:Room k X.A) (hg:Gl X x) (hm:X.mg x=some (.ref f)) (hk:PySem.W.keepIn X.K (.ref f)=true) (hb:Binds X.K fd ps ds) (hd:Vals dvs ds) (hx:Passes CX X E)
    (ha:PA X (e :: es) t) (hdb:(x == ("__debug__" : Str))=false:=by decide) (he:starEach (e :: es) X.env=(false,eval e X.env) :: starEach es X.env:=by rfl) (hpl:(backTo pos (starEach es X.env)).any (·.1)=false:=by rfl) :
    PE X (.Call (.Name x p) (e :: es) [] pos) (tCall sp dvs E t):=by
  intro pins s σ H Q I h
  refine wpAny_Call_Name_kw (ld_glob I hg hm ?_ hdb)
  refine PySem.W.callWith_K (h₀:=X.base) I.ok.mod.kin hk (thn (ha pos pins s σ H _ I h) fun us s1 ⟨vs,H1,I1,r,q⟩=>⟨I1.kIn,?_⟩) he hpl
  exact run_fn F hr hb hd hx I1 r q
theorem pe_meth {pl:Sem Bool} (he:PE X o ta) (c:Cls X.K C) (hm:Meth X.K C m f) (F:FnOk X.prog X.w X.K X.mg X.base CX k f fd ps sp) (hr:Room k X.A) (hb:Binds X.K fd ps ds) (hd:Vals dvs ds) (hx:Passes CX X E) (ha:PA X (e :: es) t)
    (hst:starEach (e :: es) X.env=(false,eval e X.env) :: starEach es X.env:=by rfl) (hpl:(backTo pos (starEach es X.env)).any (·.1)=false:=by rfl)
    (ht:eval (.Call (.Attribute o m apos) (e :: es) [] pos) X.env=(do
      let ov ← eval o X.env
      standAt apos.atName
      let (f,first) ← holding [ov] (getMethod ov m pl)
      callWith pos f first (backTo pos (starEach (e :: es) X.env)) (backToKw pos (keywordEach [] X.env))):=by rfl) :
    PE X (.Call (.Attribute o m apos) (e :: es) [] pos) (tMeth C m sp dvs E ta t):=by
  intro pins s σ H Q I h
  refine PySem.W.methodCall_KW (pl:=pl) (thn (he pins s σ H _ I h) fun u s1 ⟨x,H1,I1,rx,a,dx,fs,ex,ea,l,q⟩=>?_) ht
  subst ex
  obtain rfl:u=Value.ref a:=rx
  refine getmeth_ok I1 ea c hm l ?_
  refine PySem.W.callWith_K (first:=[.ref a]) (h₀:=X.base) I.ok.mod.kin hm.kp (thn (ha pos pins s1 σ H1 _ I1 q) fun us s2 ⟨vs,H2,I2,r,q2⟩=>⟨I2.kIn,?_⟩) hst hpl
  exact run_fn (us:=.ref a :: us) (vs:=.ref a :: vs) F hr hb hd hx I2 (.cons rfl r) q2
structure Mk (K:PySem.W.Frag) (C f:Addr):Prop where
  makes:PySem.W.makesIn K C=true
  init:PySem.W.findIn K (.ref C) "__init__" = some (some (.ref f))
  fn:PySem.W.isFn K (.ref f)=true
  kp:PySem.W.keepIn K (.ref C)=true
theorem run_make {pins:List (Addr × Obj)} {σ:St} {H:Hp} {s:Shared} {Q:VK} {us:List Value} {vs:List V} (M:Mk X.K C f) (F:FnOk X.prog X.w X.K X.mg X.base CX k f fd ps sp) (hr:Room (k + 1) X.A) (hb:Binds X.K fd ps ds) (hd:Vals dvs ds)
    (hx:Passes CX X E) (I:Inv X pins σ H s) (r:Vals vs us)
    (h:∀ x dx,H x=none→H dx=none→dx≠x→sp (.ref x :: (vs ++ dvs)) (upd (upd H dx (.own x)) x (.ins C dx [])) (fun v H2=>v=.non∧Q (.ref x) H2) E) :
    wpAny (model X.prog X.w) X.A (call (.ref C) us) (EP X pins σ Q) X.xe s:=by
  have hq:=h (s.heap.objs.size + 1) s.heap.objs.size (I.hok.fresh (Nat.le_succ _)) (I.hok.fresh (Nat.le_refl _)) (Nat.ne_of_lt (Nat.lt_succ_self _))
  have I2:=Inv.made (C:=C) I
  have r2:Vals (V.ref (s.heap.objs.size + 1) :: (vs ++ dvs)) (Value.ref (s.heap.objs.size + 1) :: (us ++ ds)):=.cons rfl (r.append hd)
  have hl:(Value.ref (s.heap.objs.size + 1) :: us ++ ds).length=ps.length:=by
    have e:=r2.length
    rw [F.len _ _ _ _ hq] at e
    exact e.symm
  refine wpAny_call (make_map (f:=f) I.kIn M.makes M.init (beq_iff_eq.mp M.fn) (codeAny_mono (F.run _ X.stack _ _ ⟨Value.ref (s.heap.objs.size + 1) :: us,[]⟩ (Value.ref (s.heap.objs.size + 1) :: (us ++ ds)) _ _ E (hr.make C us [])
    (I2.env0.make C us []) (hb _ (Value.ref (s.heap.objs.size + 1) :: us) I2.kIn hl) r2 hq) fun r s' hq'=>?_))
  cases r with
  | error e=>exact hx pins σ _ _ e s' I2 hq'
  | ok fl =>
    cases fl with
    | ret u =>
      obtain ⟨v,H',I3,rv,ev,q3⟩:=I2.after hq'
      subst ev
      exact ⟨rv,⟨V.ref (s.heap.objs.size + 1),H',I3,rfl,q3⟩⟩
    | next=>exact False.elim hq'
    | brk=>exact False.elim hq'
    | cont=>exact False.elim hq'
theorem pe_make (M:Mk X.K C f) (F:FnOk X.prog X.w X.K X.mg X.base CX k f fd ps sp) (hr:Room (k + 1) X.A) (hg:Gl X x) (hm:X.mg x=some (.ref C)) (hb:Binds X.K fd ps ds) (hd:Vals dvs ds) (hx:Passes CX X E)
    (ha:PA X (e :: es) t) (hdb:(x == ("__debug__" : Str))=false:=by decide) (he:starEach (e :: es) X.env=(false,eval e X.env) :: starEach es X.env:=by rfl) (hpl:(backTo pos (starEach es X.env)).any (·.1)=false:=by rfl) :
    PE X (.Call (.Name x p) (e :: es) [] pos) (tMake C sp dvs E t):=by
  intro pins s σ H Q I h
  refine wpAny_Call_Name_kw (ld_glob I hg hm ?_ hdb)
  refine PySem.W.callWith_K (h₀:=X.base) I.ok.mod.kin M.kp (thn (ha pos pins s σ H _ I h) fun us s1 ⟨vs,H1,I1,r,q⟩=>⟨I1.kIn,?_⟩) he hpl
  exact run_make M F hr hb hd hx I1 r q
end
section
variable {X:Cx} {CX:CXT} {k:Nat} {f C:Addr} {fd:FuncData} {ps ks:List Str} {sp:Sp} {E:XK} {x m:Str} {p pos apos kpos:Pos} {e o:Expr} {es:List Expr} {kws:List Keyword} {te ta:TE} {t tk:TA} {nm:Option Str}
variable {g:List Value→List Value→List Value} {gV:List V→List V→List V}
end
structure FnScope (N P:List Str) (sc:Scope):Prop where
  kind:sc.kind=.function
  co:sc.isCoroutine=false
  gen:sc.isGenerator=false
  nd:N.Nodup
  pre:N.take P.length=P
  par:∀ x∈P,sc.names.lookup x=some .local∨sc.names.lookup x=some .cell
  nofree:∀ y∈sc.names,y.2≠.free
theorem bindL_out {kindOf:Str→Option NameKind} {x:Str}:∀ {binds:List (Str × Value)} {m:Str→Option Value},(∀ v,(x,v) ∉ binds)→bindL kindOf binds m x=m x
  | [],_,_=>rfl
  | (n,v) :: r,m,h=>by
    unfold bindL
    rw [bindL_out fun w hw=>h w (List.mem_cons_of_mem _ hw)]
    split
    · have:x≠n:=by rintro rfl; exact h v List.mem_cons_self
      simp [this]
    · rfl
theorem bindC_out {kindOf:Str→Option NameKind} {x:Str}:∀ {binds:List (Str × Value)} {m:Str→Option Value},(∀ v,(x,v) ∉ binds)→bindC kindOf binds m x=m x
  | [],_,_=>rfl
  | (n,v) :: r,m,h=>by
    unfold bindC
    rw [bindC_out fun w hw=>h w (List.mem_cons_of_mem _ hw)]
    split
    · rfl
    · have:x≠n:=by rintro rfl; exact h v List.mem_cons_self
      simp [this]
theorem bindL_get {kindOf:Str→Option NameKind} {x:Str} {v:Value}:∀ {P:List Str} {vs:List Value} {i:Nat} {m:Str→Option Value},P.Nodup→P[i]?=some x→vs[i]?=some v→kindOf x=some .local →
    bindL kindOf (P.zip vs) m x=some v
  | [],_,_,_,_,h,_,_=>by simp at h
  | _ :: _,[],_,_,_,_,h,_=>by simp at h
  | p :: P,w :: vs,0,m,nd,h1,h2,hk=>by
    simp at h1 h2; subst h1; subst h2
    show bindL kindOf ((p,w) :: P.zip vs) m p=_
    unfold bindL
    rw [bindL_out fun v hv=>(List.nodup_cons.mp nd).1 (List.of_mem_zip hv).1,if_pos hk]
    simp
  | p :: P,w :: vs,i + 1,m,nd,h1,h2,hk=>by
    show bindL kindOf ((p,w) :: P.zip vs) m x=_
    unfold bindL
    exact bindL_get (i:=i) (List.nodup_cons.mp nd).2 (by simpa using h1) (by simpa using h2) hk
theorem bindC_get {kindOf:Str→Option NameKind} {x:Str} {v:Value}:∀ {P:List Str} {vs:List Value} {i:Nat} {m:Str→Option Value},P.Nodup→P[i]?=some x→vs[i]?=some v→kindOf x≠some .local →
    bindC kindOf (P.zip vs) m x=some v
  | [],_,_,_,_,h,_,_=>by simp at h
  | _ :: _,[],_,_,_,_,h,_=>by simp at h
  | p :: P,w :: vs,0,m,nd,h1,h2,hk=>by
    simp at h1 h2; subst h1; subst h2
    show bindC kindOf ((p,w) :: P.zip vs) m p=_
    unfold bindC
    rw [bindC_out fun v hv=>(List.nodup_cons.mp nd).1 (List.of_mem_zip hv).1,if_neg hk]
    simp
  | p :: P,w :: vs,i + 1,m,nd,h1,h2,hk=>by
    show bindC kindOf ((p,w) :: P.zip vs) m x=_
    unfold bindC
    exact bindC_get (i:=i) (List.nodup_cons.mp nd).2 (by simpa using h1) (by simpa using h2) hk
def start (N:List Str) (vs:List V):St:=vs.map some ++ List.replicate (N.length - vs.length) none
def cxOf (CX:CXT) (P:Program) (w:World) (K:PySem.W.Frag) (mg:Str→Option Value) (base:Heap) (N:List Str) (qual:Str) (scope:Scope) (f:Addr) (cd:Value) (A:Around) (outer:List Env) (s:Shared) (H:Hp) (E:XK):Cx where
  prog:=P
  w:=w
  K:=K
  mg:=mg
  base:=base
  A:=A.deeper (envOfC qual scope s.heap.objs.size f cd)
  N:=N
  s₀:=s
  H₀:=H
  env:=envOfC qual scope s.heap.objs.size f cd
  outer:=outer
  stack:=envOfC qual scope s.heap.objs.size f cd :: outer
  ex:=[]
  calm:=true
  fn:=fun _=>true
  pn:=[]
  xe:=fun e s'=>wpAny (model P w) (A.deeper (envOfC qual scope s.heap.objs.size f cd)) (leaving (envOfC qual scope s.heap.objs.size f cd) e) (fun _ s''=>CX outer H s E e s'') (fun e' s''=>CX outer H s E e' s'') s'
theorem cell_has {sc:Scope} {n:Nat} {x:Str} (h:sc.names.lookup x=some .cell):∃ c,(cellsFrom n sc.names []).lookup x=some c:=by
  have q:=PySem.W.cellsFrom_some sc.names n [] (.inl h)
  exact Option.isSome_iff_exists.mp q
theorem inv_start {CX:CXT} {P:Program} {w:World} {K:PySem.W.Frag} {mg:Str→Option Value} {base:Heap} {N ps:List Str} {qual:Str} {scope:Scope} {f:Addr} {cd:Value} {A:Around} {outer:List Env} {s s1:Shared} {H:Hp} {E:XK} {us:List Value} {vs:List V}
    (S:FnScope N ps scope) (hd:A.handled=none) (e0:Env0 P w K mg base A outer s H) (hl:vs.length=ps.length) (r:Vals vs us)
    (x:InCallC s s.heap.objs.size (bindL (envOfC qual scope s.heap.objs.size f cd).kindOf (ps.zip us) fun _=>none) (cellsFrom (s.heap.objs.size + 1) scope.names []) (bindC (envOfC qual scope s.heap.objs.size f cd).kindOf (ps.zip us) fun _=>none) s1) :
    Inv (cxOf CX P w K mg base N qual scope f cd A outer s H E) [] (start N vs) H s1:=by
  have hpl:ps.length≤N.length:=by have:=congrArg List.length S.pre; rw [List.length_take] at this; omega
  obtain ⟨h1,tk,rfl,hk⟩:=x.done
  have noA:∀ b:Addr,b ∉ (cxOf CX P w K mg base N qual scope f cd A outer s H E).ex:=fun b z=>absurd (show b∈([]:List Addr) from z) (by simp)
  refine ⟨⟨e0.mod,S.kind,rfl,rfl,Nat.le_refl _,fun y z c h1 h2=>?_,fun y hy=>?_,fun y c _ h=>?_,fun _=>hd,Around.frames_deeper e0.frames,.inr ⟨rfl,rfl⟩,fun b z=>absurd z (noA b),e0.bs,e0.bsz,fun b _ _=>noA b,fun b z=>absurd z (noA b),e0.funs,e0.frf⟩,
    rfl,e0.bare,Un.kept hk,⟨_,x.toInCall.ns,fun i y v h1 h2 h3=>?_⟩,fun y c h=>⟨_,x.cell y c h⟩,e0.hok.fresh (Nat.le_refl _),fun y c h=>?_,fun p hp=>absurd (show p∈([]:List (Addr × Obj)) from hp) (by simp),e0.hok.kept hk,?_⟩
  · exact name_of_addr x.apart (PySem.mem_of_lookup h1) (PySem.mem_of_lookup h2)
  · have hy:scope.names.lookup y=some .cell∨scope.names.lookup y=some .free:=hy
    rcases hy with hy | hy
    · exact cell_has hy
    · exact absurd rfl (S.nofree _ (PySem.mem_of_lookup hy))
  · exact Nat.le_of_lt (x.above y c (PySem.mem_of_lookup h))
  · have hi:i < vs.length:=by
      unfold start at h2
      by_cases hi:i < vs.length
      · exact hi
      · rw [List.getElem?_append_right (by simpa using hi)] at h2
        rw [List.getElem?_replicate] at h2
        split at h2 <;> cases h2
    have ha:vs[i]?=some v:=by
      unfold start at h2
      rw [List.getElem?_append_left (by simpa using hi),List.getElem?_map] at h2
      cases e:vs[i]? with
      | none=>rw [e] at h2; cases h2
      | some a=>rw [e] at h2; cases h2; rfl
    obtain ⟨u,hu,rv⟩:=r.get ha
    have hp:ps[i]?=some y:=by
      rw [← S.pre,List.getElem?_take_of_lt (by omega)]; exact h1
    have ndP:ps.Nodup:=by rw [← S.pre]; exact S.nd.sublist (List.take_sublist _ _)
    refine ⟨u,rv,?_⟩
    rcases S.par y (List.mem_of_getElem? hp) with k | k
    · exact .inl ⟨k,bindL_get ndP hp hu k⟩
    · obtain ⟨c,e⟩:=cell_has (n:=s.heap.objs.size + 1) k
      refine .inr ⟨.inl k,c,e,?_⟩
      have q:=x.cell y c e
      rw [bindC_get ndP hp hu (by show scope.names.lookup y≠_; rw [k]; decide)] at q
      exact q
  · exact e0.hok.fresh (Nat.le_of_lt (x.above y c (PySem.mem_of_lookup h)))
  · unfold start
    show _=N.length
    rw [List.length_append,List.length_map,List.length_replicate]
    omega
theorem fn_of {CX:CXT} {P:Program} {w:World} {K:PySem.W.Frag} {mg:Str→Option Value} {base:Heap} {k:Nat} {f:Addr} {name qual:Str} {params:Arguments} {body:List Stmt} {scope:Scope} {dV kV doc pm cdv ct oc:Value} {an od:Option Addr}
    {osl:Array (Option Value)} {N ps:List Str} {sp:Sp} (lk:K.lookup f=some ⟨oc,od,.func (PySem.W.fnOf name qual params body scope dV kV doc pm an cdv ct),osl⟩) (hcd:PySem.W.codeIn K cdv qual=true) (S:FnScope N ps scope)
    (len:∀ vs H Q E,sp vs H Q E→vs.length=ps.length)
    (hbody:∀ (A:Around) (outer:List Env) (s:Shared) (H:Hp) (vs:List V) (Q:VK) (E:XK),Room k (A.deeper (envOfC qual scope s.heap.objs.size f cdv))→sp vs H Q E →
      ∃ t,PSs (cxOf CX P w K mg base N qual scope f cdv A outer s H E) body t∧t { nx:=fun _ H'=>Q .non H',rt:=Q } (start N vs) H) :
    FnOk P w K mg base CX (k + 1) f (PySem.W.fnOf name qual params body scope dV kV doc pm an cdv ct) ps sp:=by
  refine ⟨len,fun A outer s H args us vs Q E hr e0 hb r hsp=>?_⟩
  have hl:=len _ _ _ _ hsp
  have KX:K.In s.heap:=e0.mod.kin.keeps fun b o e=>(e0.bs b o e).1
  have lim:s.heap.NoLimit:=e0.mod.nolimit.keeps fun b o e=>(e0.bs b o e).1
  have hkind:∀ y∈ps.zip us,scope.names.lookup y.1=some .local∨(scope.names.lookup y.1=some .cell∧((cellsFrom (s.heap.objs.size + 1) scope.names []).lookup y.1).isSome=true):=fun ⟨n,v⟩ hy=>by
    rcases S.par n (List.of_mem_zip hy).1 with q | q
    · exact .inl q
    · exact .inr ⟨q,PySem.W.cellsFrom_some _ _ _ (.inl q)⟩
  refine codeAny_call_function hr.depth (KX _ _ lk) rfl S.co S.gen rfl (PySem.W.codeRec_of KX hcd) (hb _ _ _ _ ?_)
  refine wpAny_newFunctionEnv_cells S.kind hkind fun env he s1 x=>?_
  subst he
  refine ⟨lim.keeps x.toInCall.keep,codeAny_func ?_⟩
  obtain ⟨t,ht,hq⟩:=hbody A outer s H vs Q E (hr.deeper _) hsp
  have I:Inv (cxOf CX P w K mg base N qual scope f cdv A outer s H E) [] (start N vs) H s1:=inv_start S hr.hd e0 hl r x
  refine wpAny_mono (ht [] s1 (start N vs) H _ I hq) (fun fl s' hs=>?_) fun e s' hs=>hs
  have fin:∀ {σ':St} {H':Hp} {v:V} {u:Value},Inv (cxOf CX P w K mg base N qual scope f cdv A outer s H E) [] σ' H' s'→RelV v u→Q v H'→CE outer P w H s Q u s' :=
    fun {σ' H' v u} J rv q=>⟨v,H',J.os,J.bare,J.base,J.hok,rv,q⟩
  cases fl with
  | ret u =>
    obtain ⟨v,σ',H',J,rv,q⟩:=hs
    exact fin J rv q
  | next =>
    obtain ⟨σ',H',J,q⟩:=hs
    exact fin (v:=V.non) (u:=Value.none) J rfl q
  | brk =>
    obtain ⟨_,_,_,q⟩:=hs
    exact False.elim q
  | cont =>
    obtain ⟨_,_,_,q⟩:=hs
    exact False.elim q
end L2
namespace L2
open PySem PySem.Spec PyProof.Rows
section
variable {X:Cx} {x:Str} {p pos:Pos} {e:Expr} {es:List Expr} {t:TA} {id T:String} {r:List V→Hp→VK→Prop}
def tCB (r:List V→Hp→VK→Prop) (t:TA):TE:=fun σ H Q=>t σ H fun vs H1=>r vs H1 Q
theorem pe_callB (hc:CallR X (.builtin id) r) (hg:Gl X x) (hm:X.mg x=none) (hv:bootBuiltins x=some (.builtin id)) (ha:PA X (e :: es) t) (hn:x ≠ "__name__" := by decide) (hdb:(x == ("__debug__" : Str))=false:=by decide)
    (he:starEach (e :: es) X.env=(false,eval e X.env) :: starEach es X.env:=by rfl) (hpl:(backTo pos (starEach es X.env)).any (·.1)=false:=by rfl):PE X (.Call (.Name x p) (e :: es) [] pos) (tCB r t):=by
  intro pins s σ H Q I h
  refine wpAny_Call_Name_kw (ld_blt I hg hm hv ?_ hn hdb)
  exact PyProof.Rows.callWith_builtin1 (thn (ha pos pins s σ H _ I h) fun us s1 ⟨vs,H1,I1,r1,q1⟩=>hc pins s1 σ H1 vs us Q I1 r1 q1) he hpl
theorem pe_callTy (hc:CallR X (.type T) r) (hg:Gl X x) (hm:X.mg x=none) (hv:bootBuiltins x=some (.type T)) (ha:PA X (e :: es) t) (hn:x ≠ "__name__" := by decide) (hdb:(x == ("__debug__" : Str))=false:=by decide)
    (he:starEach (e :: es) X.env=(false,eval e X.env) :: starEach es X.env:=by rfl) (hpl:(backTo pos (starEach es X.env)).any (·.1)=false:=by rfl):PE X (.Call (.Name x p) (e :: es) [] pos) (tCB r t):=by
  intro pins s σ H Q I h
  refine wpAny_Call_Name_kw (ld_blt I hg hm hv ?_ hn hdb)
  exact PyProof.Rows.callWith_type1 (thn (ha pos pins s σ H _ I h) fun us s1 ⟨vs,H1,I1,r1,q1⟩=>hc pins s1 σ H1 vs us Q I1 r1 q1) he hpl
end
end L2
namespace HT
open PySem PyProof.Rows
section
open PySem.SeqAt
open PySem.AutoSeq1 (wpAny_loadPart')
open PySem.MeetsSeq PySem.MeetsSeq2 PySem.MeetsSeq3
end
section
variable {prog:Program} {w:World} {A:Around} {E:Value→Shared→Prop} {s:Shared}
def sIx (n d:Nat):Option Int→Nat
  | none=>d
  | some v=>if v < 0 then (v + (n:Int)).toNat else min v.toNat n
theorem sIx_none (n d:Nat):sIx n d none=d:=rfl
theorem sIx_nat (n d k:Nat):sIx n d (some (k:Int))=min k n:=by
  show (if (k:Int) < 0 then ((k:Int) + (n:Int)).toNat else min (k:Int).toNat n)=min k n
  rw [if_neg (by omega),Int.toNat_natCast]
end
end HT
namespace L2
open PySem PySem.Spec PyProof.Rows
abbrev TO:=St→Hp→(Option Int→Hp→Prop)→Prop
def PO (X:Cx) (e:Option Expr) (t:TO):Prop :=
  ∀ (pins:List (Addr × Obj)) (s:Shared) (σ:St) (H:Hp) (Q:Option Int→Hp→Prop),Inv X pins σ H s→t σ H Q →
    wpAny (model X.prog X.w) X.A (evalPart e X.env) (fun u s'=>∃ o H',Inv X pins σ H' s'∧IsPart u o∧Q o H') X.xe s
def tNoPart:TO:=fun _ H Q=>Q none H
def tPart (t:TE):TO:=fun σ H Q=>t σ H fun x H1=>∃ i,x=.int i∧Q (some i) H1
section
variable {X:Cx} {e:Expr} {te:TE} {lo hi:Option Expr} {tl th:TO} {pos p2:Pos}
theorem po_none:PO X none tNoPart:=by
  intro pins s σ H Q I h
  rw [evalPart_none]
  exact wpAny_pure ⟨none,H,I,.none,h⟩
theorem po_some (h:PE X e te):PO X (some e) (tPart te):=by
  intro pins s σ H Q I hw
  rw [evalPart_some]
  refine thn (h pins s σ H _ I hw) fun u s1 ⟨x,H1,I1,r1,q1⟩=>?_
  obtain ⟨i,rfl,q⟩:=q1
  obtain ⟨t,rfl⟩:=r1
  exact ⟨some i,H1,I1,.int i t,q⟩
def SlR (X:Cx) (r:V→Option Int→Option Int→Hp→VK→Prop):Prop :=
  ∀ (pins:List (Addr × Obj)) (s:Shared) (σ:St) (H:Hp) (x:V) (v vl vu:Value) (lo hi:Option Int) (sl:Addr) (Q:VK),Inv X pins σ H s→RelV x v→s.heap.IsSliceOf sl vl vu .none→IsPart vl lo→IsPart vu hi→r x lo hi H Q →
    ∃ T id,typeLookup (.type T) "__getitem__" = pure (some (.builtin id))∧s.TypeIs v T∧wpAny (model X.prog X.w) X.A (getItem v (.ref sl)) (EP X pins σ Q) X.xe s
def tSl (r:V→Option Int→Option Int→Hp→VK→Prop) (te:TE) (tl th:TO):TE:=fun σ H Q=>te σ H fun x H1=>tl σ H1 fun l H2=>th σ H2 fun u H3=>r x l u H3 Q
theorem pe_slice {r:V→Option Int→Option Int→Hp→VK→Prop} (hr:SlR X r) (he:PE X e te) (hl:PO X lo tl) (hu:PO X hi th):PE X (.Subscript e (.Slice lo hi none p2) pos) (tSl r te tl th):=by
  intro pins s σ H Q I h
  refine Subscript_ (thn (he pins s σ H _ I h) fun v s1 ⟨x,H1,I1,r1,q1⟩=>?_)
  refine wpAny_Slice (thn (hl pins s1 σ H1 _ I1 q1) fun vl s2 ⟨l,H2,I2,pl,q2⟩=>thn (hu pins s2 σ H2 _ I2 q2) fun vu s3 ⟨u,H3,I3,pu,q3⟩=>?_)
  rw [evalPart_none]
  refine wpAny_pure ?_
  have I4:Inv X pins σ H3 { s3 with heap:=s3.heap.push { cls:=.type "slice",data:=.fields #[vl,vu,.none] } }:=I3.kept (t':=s3.toks) fun b ob q=>Heap.get?_push_of_some _ q
  obtain ⟨T,id,hT,ht,hg⟩:=hr pins { s3 with heap:=s3.heap.push { cls:=.type "slice",data:=.fields #[vl,vu,.none] } } σ H3 x v vl vu l u s3.heap.objs.size Q I4 r1 (Heap.IsSliceOf.new ..) pl pu q3
  show wpAny (model X.prog X.w) X.A (subscriptTail e (.Slice lo hi none p2) v (.ref s3.heap.objs.size)) (EP X pins σ Q) X.xe { s3 with heap:=s3.heap.push { cls:=.type "slice",data:=.fields #[vl,vu,.none] } }
  exact tail_any (ops:=[.ref s3.heap.objs.size,v]) ht hT hg (by with_unfolding_all rfl)
def cutV (xs:List V) (lo hi:Option Int):List V:=(xs.drop (HT.sIx xs.length 0 lo)).take (HT.sIx xs.length xs.length hi - HT.sIx xs.length 0 lo)
theorem cutV_length (xs:List V) (lo hi:Option Int):(cutV xs lo hi).length≤xs.length:=by
  unfold cutV
  rw [List.length_take,List.length_drop]
  omega
end
end L2
namespace L2
open PySem PySem.Spec PyProof.Rows
def ixN (n:Nat) (i:Int):Option Nat:=if 0≤i then (if i < n then some i.toNat else none) else if -(n:Int)≤i then some (i + n).toNat else none
def atI {α:Type} (xs:List α) (i:Int):Option α:=(ixN xs.length i).bind fun j=>xs[j]?
theorem ixN_seq {n:Nat} {i:Int} {j:Nat} (h:ixN n i=some j):seqIndex? i n=some j∧j < n∧-(n:Int)≤i∧i < n:=by
  unfold ixN at h
  by_cases h0:0≤i
  · rw [if_pos h0] at h
    by_cases h1:i < n
    · rw [if_pos h1] at h
      have e:i.toNat=j:=Option.some.inj h
      exact ⟨by rw [seqIndex_of h0 h1,e],by omega,by omega,h1⟩
    · rw [if_neg h1] at h; cases h
  · rw [if_neg h0] at h
    by_cases h1:-(n:Int)≤i
    · rw [if_pos h1] at h
      have e:(i + n).toNat=j:=Option.some.inj h
      exact ⟨by rw [seqIndex_neg (by omega) h1,e],by omega,h1,by omega⟩
    · rw [if_neg h1] at h; cases h
theorem atI_get {α:Type} {xs:List α} {i:Int} {v:α} (h:atI xs i=some v):∃ j,seqIndex? i xs.length=some j∧xs[j]?=some v∧j < xs.length∧-(xs.length:Int)≤i∧i < xs.length:=by
  unfold atI at h
  cases e:ixN xs.length i with
  | none=>rw [e] at h; cases h
  | some j =>
    rw [e] at h
    obtain ⟨h1,h2,h3,h4⟩:=ixN_seq e
    exact ⟨j,h1,h,h2,h3,h4⟩
theorem atI_nat {α:Type} {xs:List α} {j:Nat} {v:α} (h:xs[j]?=some v):atI xs (j:Int)=some v:=by
  have hj:j < xs.length:=(List.getElem?_eq_some_iff.mp h).1
  have e:ixN xs.length (j:Int)=some j:=by
    unfold ixN
    rw [if_pos (by omega),if_pos (by omega)]; simp
  unfold atI; rw [e]; exact h
def PlainIx (b:Expr):Prop:=∀ o i,subscripted b false o i=operate [o,i] (getItem o i)
def IxR (X:Cx) (r:R2):Prop :=
  ∀ (value slice:Expr) (pins:List (Addr × Obj)) (s:Shared) (σ:St) (H:Hp) (x y:V) (v u:Value) (Q:VK),Inv X pins σ H s→RelV x v→RelV y u→r x y H Q →
    subscripted slice false v u=operate [v,u] (getItem v u)→wpAny (model X.prog X.w) X.A (subscriptTail value slice v u) (EP X pins σ Q) X.xe s
def MtR (X:Cx) (id:String) (r:V→List V→Hp→VK→Prop):Prop :=
  ∀ (pins:List (Addr × Obj)) (s:Shared) (σ:St) (H:Hp) (x:V) (xs:List V) (v:Value) (us:List Value) (Q:VK),Inv X pins σ H s→RelV x v→Vals xs us→r x xs H Q →
    wpAny (model X.prog X.w) X.A (call (.builtin id) (v :: us)) (EP X pins σ Q) X.xe s
section
variable {X:Cx} {a b:Expr} {ta tb:TE} {pos:Pos}
theorem pe_ix {r:R2} (hr:IxR X r) (ha:PE X a ta) (hb:PE X b tb) (hs:PlainIx b):PE X (.Subscript a b pos) (tOp r ta tb):=by
  intro pins s σ H Q I h
  exact Subscript_ (binT ha hb I h fun v u s2 x y H2 I2 rx ry q=>hr a b pins s2 σ H2 x y v u Q I2 rx ry q (hs _ _))
def rIxL (K:PySem.W.Frag):R2:=fun x y H Q=>∃ p xs i v,x=.ref p∧y=.int i∧SqL K H p xs∧atI xs i=some v∧Q v H
theorem ix_list:IxR X (rIxL X.K):=by
  intro value slice pins s σ H x y v u Q I rx ry h hs
  obtain ⟨p,xs,i,z,rfl,rfl,hq,he,q⟩:=h
  cases rx
  obtain ⟨t,rfl⟩:=ry
  obtain ⟨its,r,pl,hz⟩:=I.list hq
  obtain ⟨j,h1,h2,h3,h4,h5⟩:=atI_get he
  obtain ⟨w,ew,rw'⟩:=r.get h2
  have hl:=r.length
  have hn:=line63
  have fin:EP X pins σ Q w s:=⟨z,H,I,rw',q⟩
  by_cases h0:0≤i
  · have hj:i.toNat=j:=by
      rw [seqIndex_of h0 h5] at h1
      exact Option.some.inj h1
    exact item_listR pl.isList h0 (by omega) (by rw [hj]; simpa using ew) fin hs
  · have hj:(i + (its.toArray.size:Int)).toNat=j:=by
      rw [seqIndex_neg (by omega) h4] at h1
      rw [List.size_toArray,← hl]
      exact Option.some.inj h1
    exact subscriptTail_builtinR (x:=w) pl.isList.typeIs slot_list_getitem.lookup
      (wpAny_getItem_list_neg (Q:=fun r s'=>r=w∧EP X pins σ Q r s') pl.isList (by omega) (by rw [List.size_toArray] <;> omega) (by omega) (by rw [hj]; simpa using ew) ⟨rfl,fin⟩) hs
theorem mapSeq_set (its:List Value) (n j:Nat) (u:Value):Obj.mapSeq (·.setIfInBounds j u) { cls:=.type "list",data:=.seq its.toArray n }={ cls:=.type "list",data:=.seq (its.set j u).toArray n }:=by
  simp [Obj.mapSeq]
theorem Inv.lst {pins:List (Addr × Obj)} {σ:St} {H:Hp} {s:Shared} {p:Addr} {xs:List V} (I:Inv X pins σ H s) (h:H p=some (.lst xs)) :
    ∃ (its:List Value) (n:Nat),Vals xs its∧s.heap.get? p=some { cls:=.type "list",data:=.seq its.toArray n }∧xs.length≤sizeLine:=by
  obtain ⟨z,its,n,r,e⟩:=I.hok p _ h
  exact ⟨its,n,r,e,z⟩
theorem Inv.lstUpd {pins:List (Addr × Obj)} {σ:St} {H:Hp} {s:Shared} {p:Addr} {xs ys:List V} {its its':List Value} {n n':Nat} {f:Obj→Obj} (I:Inv X pins σ H s) (h:H p=some (.lst xs))
    (ho:s.heap.get? p=some { cls:=.type "list",data:=.seq its.toArray n }) (hf:f { cls:=.type "list",data:=.seq its.toArray n }={ cls:=.type "list",data:=.seq its'.toArray n' }) (r:Vals ys its') (hz:ys.length≤sizeLine) (t:Nat) :
    Inv X pins σ (upd H p (.lst ys)) { s with heap:=s.heap.update p f,toks:=t }:=by
  have e:(s.heap.update p f).get? p=some { cls:=.type "list",data:=.seq its'.toArray n' }:=by
    rw [Heap.get?_update_self f ho (by rw [hf] <;> rfl),hf]
  refine I.write (x:=p) (e:=p) (by rw [h]; trivial) (.inl rfl) (fun b u hb q=>(Heap.get?_update_other _ _ (Ne.symm hb)).trans q) ⟨_,e⟩ ?_
  exact ⟨hz,its',n',r,e⟩
def rSetL:V→V→V→Hp→(Hp→Prop)→Prop:=fun o i v H Q=>∃ p xs k j,o=.ref p∧i=.int k∧H p=some (.lst xs)∧ixN xs.length k=some j∧Q (upd H p (.lst (xs.set j v)))
theorem set_list:PSet X rSetL:=by
  intro pins s σ H o i v ov iv u Q I ro ri rv h
  obtain ⟨p,xs,k,j,rfl,rfl,hp,hj,q⟩:=h
  cases ro
  obtain ⟨t,rfl⟩:=ri
  obtain ⟨its,n,r,ho,hz⟩:=I.lst hp
  obtain ⟨h1,h2,h3,h4⟩:=ixN_seq hj
  have hl:=r.length
  have hn:=line63
  have I':Inv X pins σ (upd H p (.lst (xs.set j v))) { s with heap:=s.heap.update p (Obj.mapSeq (·.setIfInBounds j u)) } :=
    I.lstUpd hp ho (mapSeq_set its n j u) (r.set rv j) (by rw [List.length_set]; exact hz) s.toks
  by_cases h0:0≤k
  · have hk:k.toNat=j:=by
      rw [seqIndex_of h0 h4] at h1
      exact Option.some.inj h1
    exact PySem.W.ki_setAt ho h0 (by omega) (by rw [List.size_toArray,← hl]; exact h4) (by rw [hk]; exact ⟨_,I',q⟩)
  · have hk:(k + (its.toArray.size:Int)).toNat=j:=by
      rw [seqIndex_neg (by omega) h3] at h1
      rw [List.size_toArray,← hl]
      exact Option.some.inj h1
    exact PySem.W.ki_setBack ho (by omega) (by rw [List.size_toArray,← hl]; exact h3) (by omega) (by rw [hk]; exact ⟨_,I',q⟩)
theorem slice_bounds (lo hi:Option Int) (n:Nat):(sliceBounds lo hi none n).1=((HT.sIx n 0 lo:Nat):Int)∧(sliceBounds lo hi none n).2.1=((HT.sIx n n hi:Nat):Int)∧(sliceBounds lo hi none n).2.2=1:=by
  refine ⟨?_,?_,rfl⟩
  · cases lo with
    | none=>simp [sliceBounds,HT.sIx]
    | some i =>
      simp only [sliceBounds,HT.sIx,Option.getD_none,show (1:Int) > 0 by decide,if_true]
      by_cases h:i < 0
      · simp only [h,if_true] <;> omega
      · simp only [h,if_false] <;> omega
  · cases hi with
    | none=>simp [sliceBounds,HT.sIx]
    | some i =>
      simp only [sliceBounds,HT.sIx,Option.getD_none,show (1:Int) > 0 by decide,if_true]
      by_cases h:i < 0
      · simp only [h,if_true] <;> omega
      · simp only [h,if_false] <;> omega
theorem slicePick_cut (its:List Value) (lo hi:Option Int):slicePick its.toArray lo hi none=((its.drop (HT.sIx its.length 0 lo)).take (HT.sIx its.length its.length hi - HT.sIx its.length 0 lo)).toArray:=by
  obtain ⟨h1,h2,h3⟩:=slice_bounds lo hi its.toArray.size
  unfold slicePick
  rw [h1,h2,h3]
  simp only [sliceRange_one,pick_run,List.size_toArray] <;> rfl
def rSlL (K:PySem.W.Frag):V→Option Int→Option Int→Hp→VK→Prop:=fun x lo hi H Q=>∃ a xs,x=.ref a∧SqL K H a xs∧∀ p,H p=none→Q (.ref p) (upd H p (.lst (cutV xs lo hi)))
theorem sl_list:SlR X (rSlL X.K):=by
  intro pins s σ H x v vl vu lo hi sl Q I rx hs pl pu h
  obtain ⟨a,xs,rfl,hx,q⟩:=h
  cases rx
  obtain ⟨its,r,ht,hz⟩:=I.list hx
  have hlen:=r.length
  refine ⟨"list",_,slot_list_getitem.lookup,ht.isList.typeIs,?_⟩
  refine wpAny_getItem_list_slice ht.isList hs pl pu .none (by simp) ?_ (by rw [List.size_toArray] <;> omega)
  rw [slicePick_cut,← hlen]
  refine ⟨.ref s.heap.objs.size,_,I.laid (t':=s.toks) (o:=.lst (cutV xs lo hi)) (fun b ob q=>Heap.get?_push_of_some _ q) (Nat.le_refl _) ?_,rfl,q _ (I.hok.fresh (Nat.le_refl _))⟩
  exact ⟨Nat.le_trans (cutV_length xs lo hi) hz,_,0,(r.drop (HT.sIx xs.length 0 lo)).take (HT.sIx xs.length xs.length hi - HT.sIx xs.length 0 lo),Heap.get?_push_size _ rfl⟩
theorem call_len_seq:CallR X (.builtin "len") (fun xs H Q=>∃ p ys,xs=[.ref p]∧(SqL X.K H p ys∨SqT X.K H p ys)∧Q (.int ys.length) H):=by
  intro pins s σ H xs us Q I r h
  obtain ⟨p,ys,rfl,hq,q⟩:=h
  obtain ⟨u,rfl,rx⟩:=vals1 r
  cases rx
  have hn:=line63
  rcases hq with hq | hq
  · obtain ⟨its,r',pl,hz⟩:=I.list hq
    have hlen:=r'.length
    exact Calls.call_len_list pl.isList (by simp only [List.size_toArray] <;> omega) ⟨.int ys.length,H,I.tok _,⟨s.toks + 1,by rw [List.size_toArray,hlen]⟩,q⟩
  · obtain ⟨its,r',pl,hz⟩:=I.tuple hq
    have hlen:=r'.length
    exact len_tuple pl (by simp only [List.size_toArray] <;> omega) ⟨.int ys.length,H,I.tok _,⟨s.toks + 1,by rw [List.size_toArray,hlen]⟩,q⟩
theorem call_list_of:CallR X (.type "list") (fun xs H Q=>∃ p ys,xs=[.ref p]∧(SqL X.K H p ys∨SqT X.K H p ys)∧∀ l,H l=none→Q (.ref l) (upd H l (.lst ys))):=by
  intro pins s σ H xs us Q I r h
  obtain ⟨p,ys,rfl,hq,q⟩:=h
  obtain ⟨u,rfl,rx⟩:=vals1 r
  cases rx
  have fin:∀ (its:List Value),Vals ys its→ys.length≤sizeLine→∀ (h':Heap) (c':Nat),(∀ b o',s.heap.get? b=some o'→h'.get? b=some o') →
      h'.get? s.heap.objs.size=some { cls:=.type "list",dict:=none,data:=.seq its.toArray c',slots:=#[] }→EP X pins σ Q (.ref s.heap.objs.size) { s with heap:=h' }:=fun its r' hz h' c' kp e =>
    ⟨.ref s.heap.objs.size,_,I.laid (t':=s.toks) kp (Nat.le_refl _) (show ObjOk X.prog X.w _ h' _ (.lst ys) from ⟨hz,its,c',r',e⟩),rfl,q _ (I.hok.fresh (Nat.le_refl _))⟩
  rcases hq with hq | hq
  · obtain ⟨its,r',pl,hz⟩:=I.list hq
    have hlen:=r'.length
    obtain ⟨o,ho,hc,n,hd⟩:=pl.isList
    exact call_list_seq p (.inl rfl) ho hc hd (fun h' c' kp e=>fin its r' hz h' c' kp e) (by simp only [List.size_toArray] <;> omega)
  · obtain ⟨its,r',pl,hz⟩:=I.tuple hq
    have hlen:=r'.length
    obtain ⟨o,ho,hc,n,hd⟩:=pl
    exact call_list_seq p (.inr rfl) ho hc hd (fun h' c' kp e=>fin its r' hz h' c' kp e) (by simp only [List.size_toArray] <;> omega)
theorem call_tuple_of:CallR X (.type "tuple") (fun xs H Q=>∃ p ys,xs=[.ref p]∧((SqL X.K H p ys∧∀ l,H l=none→Q (.ref l) (upd H l (.tup ys)))∨(SqT X.K H p ys∧Q (.ref p) H))):=by
  intro pins s σ H xs us Q I r h
  obtain ⟨p,ys,rfl,h⟩:=h
  obtain ⟨u,rfl,rx⟩:=vals1 r
  cases rx
  rcases h with ⟨hq,q⟩ | ⟨hq,q⟩
  · obtain ⟨its,r',pl,hz⟩:=I.list hq
    have hlen:=r'.length
    refine call_tuple_list pl.isList (fun h' kp=>?_) (by simp only [List.size_toArray] <;> omega)
    have I1:Inv X pins σ H { s with heap:=h' }:=I.kept (t':=s.toks) kp
    have I2:Inv X pins σ (upd H h'.objs.size (.tup ys)) { s with heap:=h'.push { cls:=.type "tuple",data:=.seq its.toArray } } :=
      I1.laid (t':=s.toks) (fun b o e=>Heap.get?_push_of_some _ e) (Nat.le_refl _) (show ObjOk X.prog X.w _ _ _ (.tup ys) from ⟨hz,its,r',IsTup.new _ _⟩)
    exact ⟨.ref h'.objs.size,_,I2,rfl,q _ (I1.hok.fresh (Nat.le_refl _))⟩
  · obtain ⟨its,r',pl,hz⟩:=I.tuple hq
    exact call_tuple_same pl ⟨.ref p,H,I,rfl,q⟩
def tyV (K:PySem.W.Frag) (T:String) (x:V) (H:Hp):Prop:=match x with
  | .str _=>T = "str"
  | .int _=>T = "int"
  | .ref p=>(T = "list" ∧ ∃ xs,SqL K H p xs)∨(T = "tuple" ∧ ∃ o,K.lookup p=some o∧o.cls=.type "tuple" ∧ o.dict=none) ∨
      (T = "dict" ∧ ((∃ kvs,H p=some (.dK kvs))∨∃ kvs,H p=some (.dT kvs)))∨(T = "set" ∧ ∃ S n,H p=some (.set S n))
  | _=>False
theorem tyV_is {pins:List (Addr × Obj)} {σ:St} {H:Hp} {s:Shared} {T:String} {x:V} {v:Value} (I:Inv X pins σ H s) (r:RelV x v) (ty:tyV X.K T x H) :
    s.TypeIs v T∧∀ a,v=.ref a→∃ ob,s.heap.get? a=some ob∧ob.dict=none:=by
  cases x with
  | str z =>
    obtain ⟨t,rfl⟩:=r
    cases (show T = "str" from ty)
    exact ⟨typeIs_str s z t,fun _ e=>nomatch e⟩
  | int i =>
    obtain ⟨t,rfl⟩:=r
    cases (show T = "int" from ty)
    exact ⟨typeIs_int s i t,fun _ e=>nomatch e⟩
  | ref p =>
    cases r
    rcases ty with ⟨rfl,xs,hq⟩ | ⟨rfl,o,hk,hc,hd⟩ | ⟨rfl,hk⟩ | ⟨rfl,S,n,hk⟩
    · obtain ⟨its,_,pl,_⟩:=I.list hq
      refine ⟨pl.isList.typeIs,fun a e=>?_⟩
      cases e
      obtain ⟨o,n,e,c,hd,_⟩:=pl
      exact ⟨o,e,hd⟩
    · refine ⟨⟨o,I.kIn p o hk,hc⟩,fun a e=>?_⟩
      cases e
      exact ⟨o,I.kIn _ o hk,hd⟩
    · have z:∃ o,s.heap.get? p=some o∧o.ExactDict:=by
        rcases hk with ⟨kvs,hk⟩ | ⟨kvs,hk⟩
        · obtain ⟨_,_,_,_,o,_,_,e,ex,_⟩:=I.hok p _ hk
          exact ⟨o,e,ex⟩
        · obtain ⟨_,_,_,_,o,_,_,e,ex,_⟩:=I.hok p _ hk
          exact ⟨o,e,ex⟩
      obtain ⟨o,e,ex⟩:=z
      refine ⟨⟨o,e,ex.1⟩,fun a e2=>?_⟩
      cases e2
      exact ⟨o,e,ex.2.1⟩
    · obtain ⟨o,_,_,_,e,ex,_⟩:=I.hok p _ hk
      refine ⟨⟨o,e,ex.1⟩,fun a e2=>?_⟩
      cases e2
      exact ⟨o,e,ex.2.1⟩
  | _=>exact False.elim ty
def tBM (K:PySem.W.Frag) (T:String) (r:V→List V→Hp→VK→Prop) (to:TE) (t:TA):TE:=fun σ H Q=>to σ H fun x H1=>tyV K T x H1∧t σ H1 fun xs H2=>r x xs H2 Q
variable {o e:Expr} {es:List Expr} {to:TE} {t:TA} {name:Str} {apos cpos:Pos} {T id:String} {r:V→List V→Hp→VK→Prop}
theorem pe_bm (pa:PlainAttrs T) (slot:Slot T name id) (hty:typeOf (.builtin id)=pure (.type "method_descriptor")) (hm:MtR X id r) (ho:PE X o to) (ha:PA X (e :: es) t)
    (hbase:attributeBase o name X.env (eval o X.env)=eval o X.env:=by rfl)
    (hfew:((backTo cpos (starEach (e :: es) X.env)).all (fun x=>!x.1) && (backToKw cpos (keywordEach [] X.env)).all (fun x=>x.1.isSome)
      && decide ((e :: es).length + ([]:List Keyword).length + (if ([]:List Keyword).isEmpty then 0 else 1) < 30))=true:=by rfl)
    (hline:(apos.endLine == cpos.line)=true:=by rfl) (hs:starEach (e :: es) X.env=(false,eval e X.env) :: starEach es X.env:=by rfl) (hplain:(backTo cpos (starEach es X.env)).any (·.1)=false:=by rfl) :
    PE X (.Call (.Attribute o name apos) (e :: es) [] cpos) (tBM X.K T r to t):=by
  intro pins s σ H Q I h
  refine wpAny_Call_method_late hbase hfew hline rfl (thn (ho pins s σ H _ I h) fun v s1 ⟨x,H1,I1,r1,ty,q1⟩=>?_)
  obtain ⟨h1,h2⟩:=tyV_is I1 r1 ty
  refine ⟨T,id,pa,slot,hty,h1,h2,?_⟩
  have hA:=ha cpos pins s1 σ H1 _ I1 q1
  rw [hs] at hA ⊢
  refine Calls.callWith_builtin (by show (false || (backTo cpos (starEach es X.env)).any (·.1))=false; rw [hplain] <;> rfl) (Calls.evalArgs_plain ?_)
  exact thn hA fun us s2 ⟨vs,H2,I2,r2,q2⟩=>hm pins s2 σ H2 x vs v us Q I2 r1 r2 q2
end
end L2
namespace L2
open PySem PySem.Spec PyProof.Rows
def MtM (X:Cx) (id:String) (r:V→List V→Hp→VK→Prop):Prop :=
  ∀ (pins:List (Addr × Obj)) (s:Shared) (σ:St) (H:Hp) (x:V) (xs:List V) (v:Value) (us:List Value) (Q:VK),Inv X pins σ H s→RelV x v→Vals xs us→r x xs H Q →
    wpAny (model X.prog X.w) X.A (call (.builtin id) (v :: us)) (EP X pins σ Q) X.xe s
theorem Vals.one:∀ {x:V} {us:List Value},Vals [x] us→∃ u,us=[u]∧RelV x u
  | _,_,.cons r .nil=>⟨_,rfl,r⟩
theorem Vals.two:∀ {x y:V} {us:List Value},Vals [x,y] us→∃ u v,us=[u,v]∧RelV x u∧RelV y v
  | _,_,_,.cons r (.cons q .nil)=>⟨_,_,rfl,r,q⟩
section
variable {X:Cx} {pins:List (Addr × Obj)} {σ:St} {H:Hp} {s:Shared} {l b:Addr} {xs ys zs:List V}
theorem Inv.lset {its its':List Value} {n:Nat} {f:Array Value→Array Value} {t':Nat} (I:Inv X pins σ H s) (hH:H l=some (.lst xs))
    (e:s.heap.get? l=some { cls:=.type "list",data:=.seq its.toArray n }) (hf:f its.toArray=its'.toArray) (hv:Vals ys its') (hz:ys.length≤sizeLine) :
    Inv X pins σ (upd H l (.lst ys)) { s with heap:=s.heap.update l (Obj.mapSeq f),toks:=t' }:=by
  have q:=PySem.IsL.update e f
  rw [hf] at q
  refine I.write (x:=l) (e:=l) (by rw [hH]; exact trivial) (.inl rfl) (fun b' u hb hu=>(Heap.get?_update_other s.heap (Obj.mapSeq f) (Ne.symm hb)).trans hu) ⟨_,q⟩ ?_
  exact ⟨hz,its',_,hv,q⟩
theorem Inv.lnew {its:List Value} {t':Nat} (I:Inv X pins σ H s) (hv:Vals ys its) (hz:ys.length≤sizeLine) :
    Inv X pins σ (upd H s.heap.objs.size (.lst ys)) { s with heap:=s.heap.push { cls:=.type "list",data:=.seq its.toArray },toks:=t' } :=
  I.laid (fun _ _ q=>Heap.get?_push_of_some _ q) (Nat.le_refl _) ⟨hz,its,0,hv,Heap.get?_push_size _ rfl⟩
theorem Inv.fresh (I:Inv X pins σ H s):H s.heap.objs.size=none:=I.hok.fresh (Nat.le_refl _)
theorem Inv.lstM (I:Inv X pins σ H s) (hH:H l=some (.lst xs)):xs.length≤sizeLine∧∃ (its:List Value) (n:Nat),Vals xs its∧xs.length=its.length∧s.heap.get? l=some { cls:=.type "list",data:=.seq its.toArray n }:=by
  obtain ⟨z,its,n,r,e⟩:=I.hok l _ hH
  exact ⟨z,its,n,r,r.length,e⟩
theorem notLongL {n:Nat} (h:n≤sizeLine):Builtin.List.listTooLong n=false:=by
  unfold Builtin.List.listTooLong
  exact decide_eq_false (by omega)
end
section
variable {X:Cx}
def rAppend:V→List V→Hp→VK→Prop:=fun x vs H Q=>∃ l xs y,x=.ref l∧vs=[y]∧H l=some (.lst xs)∧xs.length < sizeLine∧Q .non (upd H l (.lst (xs ++ [y])))
theorem mt_append:MtM X "list.append" rAppend:=by
  intro pins s σ H x vs v us Q I rx rv h
  obtain ⟨l,xs,y,rfl,rfl,hH,hz,q⟩:=h
  cases rx
  obtain ⟨u,rfl,ru⟩:=rv.one
  obtain ⟨z,its,n,r,hl,e⟩:=I.lstM hH
  refine call_meets F.slot_list_append ⟨_,e,rfl⟩ F.entry_list_append (F.args_list_append_2 _ _) (PySem.list_append l its.toArray n u (by rw [List.size_toArray]; omega)) ⟨e,?_⟩
  refine ⟨.non,_,I.lset (its':=its ++ [u]) hH e (by simp) (r.append (.cons ru .nil)) ?_,rfl,q⟩
  rw [List.length_append,List.length_singleton]
  omega
def rExtend:V→List V→Hp→VK→Prop:=fun x vs H Q=>∃ l b xs zs,x=.ref l∧vs=[.ref b]∧H l=some (.lst xs)∧H b=some (.lst zs)∧xs.length + zs.length≤sizeLine∧Q .non (upd H l (.lst (xs ++ zs)))
theorem mt_extend:MtM X "list.extend" rExtend:=by
  intro pins s σ H x vs v us Q I rx rv h
  obtain ⟨l,b,xs,zs,rfl,rfl,hH,hB,hz,q⟩:=h
  cases rx
  obtain ⟨u,rfl,ru⟩:=rv.one
  cases ru
  obtain ⟨z,its,n,r,hl,e⟩:=I.lstM hH
  obtain ⟨z2,its2,n2,r2,hl2,e2⟩:=I.lstM hB
  have hsz:its.toArray.size + its2.toArray.size≤sizeLine:=by rw [List.size_toArray,List.size_toArray]; omega
  have hlong:¬ (!its.toArray.isEmpty && Builtin.List.listTooLong (its.toArray.size + its2.toArray.size))=true:=by
    rw [notLongL hsz,Bool.and_false]
    exact Bool.false_ne_true
  refine call_meets F.slot_list_extend ⟨_,e,rfl⟩ F.entry_list_extend (F.args_list_extend_2 _ _)
    (AutoSeq1.list_extend_list_list_0 l its.toArray n b its2.toArray n2 hlong (by rw [List.size_toArray]; omega) (by omega)) ⟨e,e2,?_⟩
  refine ⟨.non,_,I.lset (its':=its ++ its2) hH e (by simp) (r.append r2) ?_,rfl,q⟩
  rw [List.length_append]
  omega
def rCat:R2:=fun x y H Q=>∃ l b xs zs,x=.ref l∧y=.ref b∧H l=some (.lst xs)∧H b=some (.lst zs)∧xs.length + zs.length≤sizeLine∧∀ p,H p=none→Q (.ref p) (upd H p (.lst (xs ++ zs)))
theorem op_cat:OpR X (binaryOp .Add) rCat:=by
  intro pins s σ H x y v u Q I rx ry h
  obtain ⟨l,b,xs,zs,rfl,rfl,hH,hB,hz,q⟩:=h
  cases rx
  cases ry
  obtain ⟨z,its,n,r,hl,e⟩:=I.lstM hH
  obtain ⟨z2,its2,n2,r2,hl2,e2⟩:=I.lstM hB
  refine PySem.P.add_list e e2 ?_ (by rw [List.size_toArray,List.size_toArray]; omega)
  have ea:its.toArray ++ its2.toArray=(its ++ its2).toArray:=by simp
  rw [ea]
  exact ⟨.ref _,_,I.lnew (t':=s.toks) (r.append r2) (by rw [List.length_append]; omega),rfl,q _ I.fresh⟩
end
section
variable {prog:Program} {w:World} {A:Around} {E:Value→Shared→Prop} {s:Shared}
end
section
variable {X:Cx}
end
end L2
namespace Att
open PySem PySem.W PySem.Calls PyProof.Rows
theorem ints_of_wellAll {P:Params} {h:Heap}:∀ (ns:List Int) (vs:List Value),WellAll P h vs (ns.map WData.int)→IntsAre vs ns:=by
  intro ns
  induction ns with
  | nil =>
    intro vs w
    rw [List.map_nil] at w
    cases w
    exact .nil
  | cons n ns ih =>
    intro vs w
    rw [List.map_cons] at w
    cases w with
    | cons a b =>
      cases a
      exact .cons _ _ (ih _ b)
theorem script_of {l:OpenLaw} {n:Nat} (hn:l.most=some n) {P:Params} {h:Heap} {args:List WData} {vals:List Value}
    (hpre:l.row.toRowW.claim.pre args=true) (hwl:WellAll P h vals args) :
    ∃ a vs ns,vals=[Value.ref a]∧args=[WData.list (ns.map WData.int)]∧h.get? a=some { cls:=.type "list",data:=.seq vs.toArray }∧IntsAre vs ns∧ns.length≤n:=by
  have hsh:WShape.hasAll [] args [.list .int]=true:=(pre_splitW hpre).1
  have hc:l.pre.holds [] { args:=args }=true:=(pre_splitW hpre).2
  obtain ⟨d,r,rfl,h1,h2⟩:=hasAllW_cons hsh
  obtain rfl:=hasAllW_nil h2
  obtain ⟨xs,rfl,h3⟩:=hasW_list h1
  obtain ⟨ns,rfl⟩:=items_int h3
  have hlen:ns.length≤n:=by
    unfold OpenLaw.pre at hc
    have h4:(WTm.not (.lt (.lit (.int (n:Int))) (.len (.arg 0)))).holds [] { args:=[.list (ns.map .int)] }=true:=by
      have h4:=(holds_andW hc).1
      rw [hn] at h4
      exact h4
    have h5:=condW_of h4 (w_not (w_lt w_lit (w_len_list (w_arg rfl))))
    rw [List.length_map] at h5
    refine Nat.le_of_not_lt fun q=>?_
    have q':(n:Int) < ((ns.length:Nat):Int):=by omega
    first
      | (rw [decide_eq_true q'] at h5; exact absurd h5 (by decide))
      | (simp at h5; omega)
  cases hwl with
  | cons w1 w2 =>
    cases w2
    cases w1 with
    | list ho hall=>exact ⟨_,_,ns,rfl,rfl,ho,ints_of_wellAll ns _ hall,hlen⟩
theorem post_true (l:OpenLaw) (args:List WData):l.row.toRowW.claim.post args (.bool true) args=true :=
  postW_of (r:=l.row.toRowW) (X:=(true == true))
    (show WShape.has [] (.bool true) .bool=true by first | rfl | decide | simp [WShape.has,WShape.arms,WShape.armsAll])
    (show (WTm.eq .res (.lit (.bool true))).value [] { args:=args,res:=some (.bool true),after:=args }=some (.bool (true == true)) from w_eq_bool (w_res rfl) w_lit) rfl
theorem attach_call {l:OpenLaw} {n:Nat} {q:Program} {loose:List Str} {XP:(Str→Option Value)→Heap→Prop} {YP:World→Heap→Prop} {d:DefRec}
    (hn:l.most=some n) (hdf:d.params.defaults=[])
    (call:∀ (w:World) (s₀ s₁:Shared) (mg mb:Str→Option Value) (fa:Addr) (o:Obj) (pm cd doc:Value) (a:Addr) (vs:List Value) (ns:List Int),
      Ground q loose [] XP w s₀ mg mb s₁.heap→YP w s₁.heap →
      s₁.heap.get? fa=some o→o.data=.func (docDef d.name d.params d.body d.scope pm cd doc)→s₁.heap.CodeRec cd d.name→mg d.name=some (.ref fa) →
      s₁.heap.get? a=some { cls:=.type "list",data:=.seq vs.toArray }→IntsAre vs ns→ns.length≤n→s₁.gens=#[] →
      codeAny (model l.prog w) callerA (.call (.ref fa) ⟨[.ref a],[]⟩) (fun r s'=>r=.ok (.ret (.bool true))∧OldK s₁.heap s'.heap∧s'.os=s₁.os∧AllBare s'.gens) s₁) :
    WalkO q loose XP YP l.row.toRowW d [] (fun f vs=>PySem.call f vs):=by
  intro w s₀ s₁ mg mb G Y fa o pm cd doc dV kV ho hd hcd hD hmg hg args vals as hpre hlay hrd hwl hlo
  obtain rfl:dV=.none:=Dflts.none hD hdf
  obtain rfl:kV=.none:=Dflts.noKw hD
  obtain ⟨a,vs,ns,rfl,rfl,hobj,hints,hlen⟩:=script_of hn hpre hwl
  refine enter_call (codeAny_mono (call w s₀ s₁ mg mb fa o pm cd doc a vs ns G Y ho (fd_plain hd) hcd hmg hobj hints hlen hg) fun r s' hq=>?_)
  obtain ⟨rfl,h2,h3,h4⟩:=hq
  exact ⟨.inl ⟨.bool true,.bool true,[],rfl,fun _=>rfl,.bool true,post_true l _,fun _=>⟨List.Pairwise.nil,fun _ hm=>(nomatch hm)⟩⟩,h2,h3,h4⟩
section
variable {prog:Program} {w:World} {A:Around} {E:Value→Shared→Prop} {s:Shared} {K:Frag}
end
end Att
namespace L2
open PySem PySem.Spec PyProof.Rows
theorem vals_ints:∀ {vs:List Value} {ns:List Int},IntsAre vs ns→Vals (ns.map V.int) vs
  | _,_,.nil=>.nil
  | _,_,.cons n t h=>.cons ⟨t,rfl⟩ (vals_ints h)
def Only (H:Hp):Prop:=∀ b,H b=none∨∃ o xs,H b=some (.frz o (.lst xs))
theorem law_call {P:Program} {w:World} {K:PySem.W.Frag} {mg mb:Str→Option Value} {CX:CXT} {k:Nat} {fa a:Addr} {fd:FuncData} {x:Str} {sp:Sp} {s₁:Shared} {vs:List Value} {ns:List Int}
    (KX:K.In s₁.heap) (hns:s₁.heap.Ns mainGlobals mg) (hb:s₁.heap.Ns builtinsNs mb) (hbb:∀ x:Str,x ≠ "__name__" → mb x=bootBuiltins x) (hlim:s₁.heap.NoLimit) (hg:s₁.gens=#[])
    (ha:s₁.heap.get? a=some { cls:=.type "list",data:=.seq vs.toArray }) (hi:IntsAre vs ns) (hl:ns.length≤sizeLine) (hr:Room k callerA)
    (F:∀ base:Heap,K.In base→base.Ns mainGlobals mg→FnOk P w K mg base CX k fa fd [x] sp) (hbind:∀ (s:Shared) (u:Value),BindsTo s fd ⟨[u],[]⟩ [(x,u)])
    (hsp:∀ H:Hp,Only H→SqL K H a (ns.map V.int)→sp [.ref a] H (fun v _=>v=.bl true) fun _ _ _=>False)
    (hCX:∀ H e s',CX [] H s₁ (fun _ _ _=>False) e s'→False) :
    codeAny (model P w) callerA (.call (.ref fa) ⟨[.ref a],[]⟩) (fun r s'=>r=.ok (.ret (.bool true))∧OldK s₁.heap s'.heap∧s'.os=s₁.os∧AllBare s'.gens) s₁:=by
  have rv:=vals_ints hi
  have lenV:=hi.length
  have core : ∀ H:Hp,Only H→SqL K H a (ns.map V.int)→HOk P w H s₁.heap→(∀ b,H b≠none→b=a)→(H a≠none→K.lookup a=none) →
      codeAny (model P w) callerA (.call (.ref fa) ⟨[.ref a],[]⟩) (fun r s'=>r=.ok (.ret (.bool true))∧OldK s₁.heap s'.heap∧s'.os=s₁.os∧AllBare s'.gens) s₁:=by
    intro H hO hS hok hA hK
    have base_of:∀ {b:Addr} {o:Obj},s₁.heap.get? b=some o→H b=none→(hidT s₁.heap H).get? b=some o:=fun e n=>hidT_get e n
    have noA:∀ {b:Addr} {o:Obj} {es:Array DictEntry} {ep:Nat},s₁.heap.get? b=some o→o.data=.dict es ep→H b=none:=fun {b o es ep} e d=>by
      cases q:H b with
      | none=>rfl
      | some u =>
        have e':b=a:=hA b (by rw [q]; simp)
        subst e'
        rw [ha] at e; cases e
        have d':Data.seq vs.toArray _=Data.dict es ep:=d
        cases d'
    have nsK:∀ {b:Addr} {m:Str→Option Value},s₁.heap.Ns b m→(hidT s₁.heap H).Ns b m:=fun {b m} ⟨o,es,ep,e,d,r⟩=>⟨o,es,ep,base_of e (noA e d),d,r⟩
    have hKb:K.In (hidT s₁.heap H):=fun b o e=>base_of (KX b o e) (by
      cases q:H b with
      | none=>rfl
      | some u =>
        have e':b=a:=hA b (by rw [q]; simp)
        subst e'
        rw [hK (by rw [q]; simp)] at e; cases e)
    have hM:Mod K mg (hidT s₁.heap H):=⟨hKb,nsK hns,⟨mb,nsK hb,hbb⟩,let ⟨mc,h1,h2⟩:=hlim; ⟨mc,nsK h1,h2⟩⟩
    have e0:Env0 P w K mg (hidT s₁.heap H) callerA [] s₁ H:=⟨rfl,hM,fun b o e=>of_hidT e,Nat.le_of_eq (hidT_size _ _),trivial,fun b hb=>absurd (show b∈([]:List Addr) from hb) (by simp),hok,.of_eq hg⟩
    refine codeAny_mono ((F _ hKb (nsK hns)).run callerA [] s₁ H ⟨[.ref a],[]⟩ [.ref a] [.ref a] _ _ hr e0 (hbind s₁ (.ref a)) (.cons rfl .nil) (hsp H hO hS)) fun r s' h=>?_
    cases r with
    | error e=>exact (hCX H e s' h).elim
    | ok fl =>
      cases fl with
      | next=>exact False.elim h
      | brk=>exact False.elim h
      | cont=>exact False.elim h
      | ret u =>
        obtain ⟨v,H',os,bare,un,hok',r',q⟩:=h
        have q':v=.bl true:=q
        subst q'
        obtain rfl:u=Value.bool true:=r'
        refine ⟨rfl,OldK.of_keep fun b o e=>?_,os,bare⟩
        cases q:H b with
        | none=>exact un.keep b o e q (by intro z; exact absurd (show b∈([]:List Addr) from z) (by simp)) (by simp)
        | some u =>
          rcases hO b with z | ⟨ob,xs,z⟩
          · rw [q] at z; cases z
          · have z2:=un.frzs b ob _ z
            obtain ⟨e1,_⟩:=hok b _ z
            obtain ⟨e2,_⟩:=hok' b _ z2
            rw [e] at e1; cases e1
            exact e2
  cases hk:K.lookup a with
  | some o =>
    have e:=KX a o hk
    rw [ha] at e
    cases e
    refine core (fun _=>none) (fun _=>.inl rfl) (.inr ⟨_,vs.toArray,_,hk,rfl,rfl,rfl,by rw [List.size_toArray,lenV]; exact hl,by simpa using rv⟩) (fun b u z=>by have z':(none:Option HO)=some u:=z; cases z') (fun b z=>absurd rfl z) fun z=>absurd rfl z
  | none =>
    refine core (fun b=>if b=a then some (.frz { cls:=.type "list",data:=.seq vs.toArray } (.lst (ns.map V.int))) else none) (fun b=>?_) (.inl (.inr ⟨{ cls:=.type "list",data:=.seq vs.toArray },if_pos rfl⟩)) (fun b u z=>?_) (fun b z=>?_) fun _=>hk
    · by_cases hb:b=a
      · exact .inr ⟨_,_,if_pos hb⟩
      · exact .inl (if_neg hb)
    · by_cases hb:b=a
      · have z':=(if_pos hb).symm.trans z
        cases z'
        subst hb
        exact ⟨ha,by rw [List.length_map]; exact hl,vs,_,rv,ha⟩
      · have z':=(if_neg hb).symm.trans z
        cases z'
    · by_cases hb:b=a
      · exact hb
      · exact absurd (if_neg hb) z
end L2
namespace L2
open PySem PySem.Spec PyProof.Rows
theorem walk_of {l:PySem.W.OpenLaw} {n k:Nat} {q:Program} {loose:List Str} {XP:(Str→Option Value)→Heap→Prop} {YP:World→Heap→Prop} {d:DefRec} {K:Params→PySem.W.Frag} {CX:World→CXT} {sp:World→Sp} {x:Str}
    (hn:l.most=some n) (hn2:n≤sizeLine) (hdf:d.params.defaults=[]) (hr:Room k callerA)
    (hY:∀ (w:World) (h:Heap),YP w h→(K w.params).In h)
    (F:∀ (w:World) (mg:Str→Option Value) (fa:Addr) (h:Heap),(K w.params).In h→h.Ns mainGlobals mg→mg d.name=some (.ref fa) →
      ∃ fd:FuncData,(∀ (s:Shared) (u:Value),BindsTo s fd ⟨[u],[]⟩ [(x,u)]) ∧
        ∀ base:Heap,(K w.params).In base→base.Ns mainGlobals mg→FnOk l.prog w (K w.params) mg base (CX w) k fa fd [x] (sp w))
    (hsp:∀ (w:World) (H:Hp) (a:Addr) (ns:List Int),ns.length≤n→Only H→SqL (K w.params) H a (ns.map V.int)→sp w [.ref a] H (fun v _=>v=.bl true) fun _ _ _=>False)
    (hCX:∀ (w:World) (H:Hp) (s:Shared) (e:Value) (s':Shared),CX w [] H s (fun _ _ _=>False) e s'→False) :
    PySem.W.WalkO q loose XP YP l.row.toRowW d [] (fun f vs=>PySem.call f vs):=by
  refine Att.attach_call hn hdf fun w s₀ s₁ mg mb fa o pm cd doc a vs ns G Y ho hd hcd hmg hobj hints hlen hg=>?_
  have KX:=hY w _ Y
  obtain ⟨fd,hb,hF⟩:=F w mg fa _ KX G.T.g hmg
  exact law_call KX G.T.g G.T.b G.T.builtins G.T.nolimit hg hobj hints (Nat.le_trans hlen hn2) hr hF hb (fun H hO hS=>hsp w H a ns hlen hO hS) fun H e s'=>hCX w H s₁ e s'
end L2
namespace L2
open PySem PySem.Spec PyProof.Rows
def inClass (s:Stmt) (j:Nat):Stmt:=match s with
  | .ClassDef _ _ _ body _ _ _ _ _ _ _=>body.getD j (.Pass ⟨0,0,0,0⟩)
  | _=>.Pass ⟨0,0,0,0⟩
def defArgs (s:Stmt):Arguments:=match s with
  | .FunctionDef _ a _ _ _ _ _ _ _ _=>a
  | _=>{ posonlyargs:=[],args:=[],vararg:=none,kwonlyargs:=[],kw_defaults:=[],kwarg:=none,defaults:=[] }
def defBody (s:Stmt):List Stmt:=match s with
  | .FunctionDef _ _ b _ _ _ _ _ _ _=>b
  | _=>[]
def defScope (s:Stmt):Scope:=match s with
  | .FunctionDef _ _ _ _ _ _ sc _ _ _=>sc
  | _=>{ kind:=.function,names:=[],isGenerator:=false,isCoroutine:=false }
abbrev CX0:CXT:=fun _ _ _ _ _ _=>False
abbrev E0:XK:=fun _ _ _=>False
theorem pass0 {X:Cx}:Passes CX0 X E0:=fun _ _ _ _ _ _ _ h=>h.elim
section
variable {P:Program} {w:World} {K:PySem.W.Frag} {mg:Str→Option Value} {base:Heap}
end
theorem small1000 {n:Nat} (h:n≤1000):n < sizeLine:=Nat.lt_of_le_of_lt h (by decide)
section
variable {X:Cx}
theorem pv (i:Nat) {x:Str} {pos:Pos} (hN:X.N[i]?=some x:=by rfl) (hv:Vis X.env.scope x:=by first | exact Or.inl rfl | exact Or.inr (Or.inl rfl) | exact Or.inr (Or.inr rfl)) (hd:(x == ("__debug__" : Str))=false:=by decide)
    (hcd:(x == ("__classdict__" : Str))=false:=by decide):PE X (.Name x pos) (tVar i):=pe_var hN hv hd hcd
end
theorem iteF {A B:Prop} (h:B):if false=true then A else B:=by
  rw [if_neg Bool.false_ne_true]
  exact h
theorem iteT {A B:Prop} (h:A):if true=true then A else B:=by
  rw [if_pos rfl]
  exact h
theorem ite2 {c A B:Prop} [Decidable c] (h1:c→A) (h2:¬ c→B):if c then A else B:=by
  by_cases h:c
  · rw [if_pos h]
    exact h1 h
  · rw [if_neg h]
    exact h2 h
theorem iteNS {c A B:Prop} [Decidable c] (hc:c) (h:B):if (!decide c)=true then A else B:=by
  rw [decide_eq_true hc]
  exact iteF h
def Same (H H':Hp):Prop:=∀ b o,H b=some o→H' b=some o
theorem Same.refl (H:Hp):Same H H:=fun _ _ h=>h
theorem Same.trans {H H1 H2:Hp} (a:Same H H1) (b:Same H1 H2):Same H H2:=fun c o h=>b c o (a c o h)
theorem Same.free {H H':Hp} (e:Same H H') {l:Addr} (h:H' l=Option.none):H l=Option.none:=by
  cases q:H l with
  | none=>rfl
  | some o =>
    rw [e l o q] at h
    cases h
theorem Same.seq {K:PySem.W.Frag} {H H':Hp} {a:Addr} {xs:List V} (e:Same H H') (h:SqL K H a xs):SqL K H' a xs:=by
  rcases h with (h | ⟨o,h⟩) | h
  · exact .inl (.inl (e _ _ h))
  · exact .inl (.inr ⟨o,e _ _ h⟩)
  · exact .inr h
end L2
namespace L2
open PySem PySem.Spec PyProof.Rows
def closL (env:Env):List (Str × NameKind)→List (Str × Addr)→List (Str × Addr)
  | [],acc=>acc
  | (n,k) :: r,acc=>if k == .free then closL env r ((n,(env.cells.lookup n).getD 0) :: acc) else closL env r acc
theorem closL_for {env:Env} (f:Str × NameKind→List (Str × Addr)→Sem (ForInStep (List (Str × Addr))))
    (hf:∀ name kind cs,f (name,kind) cs=if kind == .free then (do let a ← cellOf env name; pure (.yield ((name,a) :: cs))) else pure (.yield cs)) :
    ∀ (names:List (Str × NameKind)) (acc:List (Str × Addr)),(∀ y∈names,y.2=.free→∃ c,env.cells.lookup y.1=some c)→forIn names acc f=(pure (closL env names acc):Sem _)
  | [],acc,_=>by rw [List.forIn_nil]; rfl
  | (n,k) :: r,acc,h=>by
    rw [List.forIn_cons,hf]
    have hr:∀ y∈r,y.2=.free→∃ c,env.cells.lookup y.1=some c:=fun y hy=>h y (List.mem_cons_of_mem _ hy)
    unfold closL
    by_cases hk:(k == NameKind.free)=true
    · rw [if_pos hk,if_pos hk]
      obtain ⟨c,hc⟩:=h (n,k) List.mem_cons_self (by simpa using hk)
      have hc':env.cells.lookup n=some c:=hc
      have e1:cellOf env n=pure c:=by unfold cellOf; rw [hc']
      rw [e1,hc']
      exact closL_for f hf r _ hr
    · rw [if_neg hk,if_neg hk]
      exact closL_for f hf r acc hr
theorem closureFor_of {env:Env} {scope:Scope} (h:∀ y∈scope.names,y.2=.free→∃ c,env.cells.lookup y.1=some c):closureFor scope env=pure (closL env scope.names []):=by
  simp only [closureFor]
  rw [closL_for (env:=env) _ (fun name kind cs=>by cases hk:kind == NameKind.free <;> simp [hk]) scope.names [] h]
  rfl
theorem closL_look {env:Env} {x:Str} {c:Addr}:∀ (names:List (Str × NameKind)) (acc:List (Str × Addr)),(∀ y∈names,y.2=.free→∃ c,env.cells.lookup y.1=some c) →
    (closL env names acc).lookup x=some c→acc.lookup x=some c∨env.cells.lookup x=some c
  | [],acc,_,h=>.inl h
  | (n, k) :: r,acc,hn,h=>by
    have hr:∀ y∈r,y.2=.free→∃ c,env.cells.lookup y.1=some c:=fun y hy=>hn y (List.mem_cons_of_mem _ hy)
    unfold closL at h
    by_cases hk:(k == NameKind.free)=true
    · rw [if_pos hk] at h
      rcases closL_look r _ hr h with q | q
      · rw [List.lookup_cons] at q
        cases hb:x == n with
        | true =>
          rw [hb] at q
          have e:x=n:=beq_iff_eq.mp hb
          obtain ⟨c',hc⟩:=hn (n,k) List.mem_cons_self (by simpa using hk)
          have hc':env.cells.lookup n=some c':=hc
          rw [hc'] at q
          right
          rw [e,hc']
          exact q
        | false =>
          rw [hb] at q
          exact .inl q
      · exact .inr q
    · rw [if_neg hk] at h
      exact closL_look r acc hr h
theorem closL_has {env:Env} {x:Str}:∀ (names:List (Str × NameKind)) (acc:List (Str × Addr)),((x,NameKind.free)∈names∨∃ c,acc.lookup x=some c)→∃ c,(closL env names acc).lookup x=some c
  | [],acc,h=>by
    rcases h with h | h
    · exact absurd h (by simp)
    · exact h
  | (n, k) :: r,acc,h=>by
    unfold closL
    by_cases hk:(k == NameKind.free)=true
    · rw [if_pos hk]
      apply closL_has r
      rcases h with h | ⟨c,h⟩
      · rcases List.mem_cons.mp h with e | h
        · cases e
          right
          exact ⟨_,by rw [List.lookup_cons,beq_self_eq_true]⟩
        · exact .inl h
      · right
        rw [List.lookup_cons]
        cases hb:x == n with
        | true=>exact ⟨_,rfl⟩
        | false=>exact ⟨c,h⟩
    · rw [if_neg hk]
      apply closL_has r
      rcases h with h | h
      · rcases List.mem_cons.mp h with e | h
        · cases e
          exact absurd (by simp) hk
        · exact .inl h
      · exact .inr h
structure CellsIn (h:Heap) (lo:Nat) (nm:Str→Prop) (cl cs:List (Str × Addr)):Prop where
  look:∀ x c,cs.lookup x=some c→cl.lookup x=some c∨(lo≤c∧h.IsCell c none∧nm x)
  inj:∀ x y c,lo≤c→cs.lookup x=some c→cs.lookup y=some c→x=y
theorem cellsFrom_in {nm:Str→Prop} {cl:List (Str × Addr)} {lo:Nat} (hcl:∀ x c,cl.lookup x=some c→c < lo):∀ (names:List (Str × NameKind)) (h:Heap) (acc:List (Str × Addr)),
    (∀ y∈names,y.2=.cell→nm y.1)→lo≤h.objs.size→CellsIn h lo nm cl acc→CellsIn (pushCells h names) lo nm cl (cellsFrom h.objs.size names acc)
  | [],_,_,_,_,x=>x
  | (name,kind) :: r,h,acc,hn,hlo,x=>by
    unfold pushCells cellsFrom
    have hr:∀ y∈r,y.2=.cell→nm y.1:=fun y hy=>hn y (List.mem_cons_of_mem _ hy)
    split
    · rename_i hk
      have hk':kind=.cell:=by simpa using hk
      have hnm:nm name:=hn (name,kind) List.mem_cons_self hk'
      have := cellsFrom_in hcl r (h.push { cls:=.type "cell",data:=.cell none }) ((name,h.objs.size) :: acc) hr (by rw [Heap.size_push]; omega)
        ⟨fun z c e=>by
            rw [List.lookup_cons] at e
            cases hb:z == name with
            | true =>
              rw [hb] at e
              cases e
              have ez:z=name:=beq_iff_eq.mp hb
              exact .inr ⟨hlo,⟨_,Heap.get?_push_size _ rfl,rfl⟩,by rw [ez]; exact hnm⟩
            | false =>
              rw [hb] at e
              rcases x.look z c e with q | ⟨q1,q2,q3⟩
              · exact .inl q
              · exact .inr ⟨q1,q2.keeps fun b o e=>Heap.get?_push_of_some _ e,q3⟩,
          fun y z c hc e1 e2=>by
            have old:∀ w,acc.lookup w=some c→c < h.objs.size:=fun w ew=>by
              rcases x.look w c ew with q | ⟨_,q2,_⟩
              · exact Nat.lt_of_lt_of_le (hcl w c q) hlo
              · exact q2.lt
            rw [List.lookup_cons] at e1 e2
            cases hb:y == name with
            | true =>
              rw [hb] at e1
              cases e1
              cases hb2:z == name with
              | true=>exact (beq_iff_eq.mp hb).trans (beq_iff_eq.mp hb2).symm
              | false =>
                rw [hb2] at e2
                exact absurd (old z e2) (Nat.lt_irrefl _)
            | false =>
              rw [hb] at e1
              cases hb2:z == name with
              | true =>
                rw [hb2] at e2
                cases e2
                exact absurd (old y e1) (Nat.lt_irrefl _)
              | false =>
                rw [hb2] at e2
                exact x.inj y z c hc e1 e2⟩
      rwa [Heap.size_push] at this
    · exact cellsFrom_in hcl r h acc hr hlo x
def inEnv (scope:Scope) (cs:List (Str × Addr)) (C:Addr) (env:Env):Env :=
  { scope:=relabel scope env,locals:=C,globals:=env.globals,cells:=cs,qual:=env.qual,func:=none,code:=env.code,frame:=env.frame,builtins:=env.builtins }
def inX (X:Cx) (scope:Scope) (N:List Str) (cs:List (Str × Addr)) (C:Addr) (s:Shared) (H:Hp) (fp:List Addr):Cx where
  prog:=X.prog
  w:=X.w
  K:=X.K
  mg:=X.mg
  base:=X.base
  A:=X.A
  N:=N
  s₀:=s
  H₀:=H
  env:=inEnv scope cs C X.env
  outer:=X.stack
  stack:=X.stack
  ex:=fp
  fn:=fun y=>scope.names.lookup y == some .cell
  calm:=X.calm
  pn:=[]
  xe:=fun _ _=>False
def capS (ix:List (Option Nat)) (σ:St):St:=ix.map fun o=>o.bind fun j=>(σ[j]?).bind id
def StLe (a b:St):Prop:=a.length=b.length∧∀ (i:Nat) v,a[i]?=some (some v)→b[i]?=some (some v)
theorem StLe.trans {a b c:St} (h:StLe a b) (h':StLe b c):StLe a c:=⟨h.1.trans h'.1,fun i v e=>h'.2 i v (h.2 i v e)⟩
theorem StLe.set {a:St} {i:Nat} {x:Option V} (h:a[i]?=some none):StLe a (a.set i x):=⟨by simp,fun j v e=>by
  by_cases hj:i=j
  · subst hj
    rw [h] at e
    cases e
  · rw [List.getElem?_set_ne hj]
    exact e⟩
def CompB (J:It) (ix:List (Option Nat)) (g:TG) (te:TE) (σ:St) (H1:Hp) (Q:VK):Prop:=∃ W:Nat→Nat→List V→Hp→Prop,(∃ m,W 0 m [] H1)∧∀ i m ys H,W i m ys H →
  (J.stop i H∧ys.length≤sizeLine∧∀ l,H l=none→Q (.ref l) (upd H l (.lst ys))) ∨
  (J.go i H∧ys.length < sizeLine∧∀ x H',J.yld i H x H'→g x (capS ix σ) H' fun σ2 H2=>StLe (capS ix σ) σ2∧te σ2 H2 fun y H3=>∃ m',m' < m∧W (i + 1) m' (ys ++ [y]) H3)
def tComp (wi:TI) (ix:List (Option Nat)) (g:TG) (te:TE):TE:=fun σ H Q=>wi σ H fun J H1=>CompB J ix g te σ H1 Q
structure CompOk (X:Cx) (scope:Scope) (N:List Str) (ix:List (Option Nat)):Prop where
  kind:scope.kind=.function
  names:∀ y∈scope.names,scope.names.lookup y.1=some y.2
  free:∀ y∈scope.names,y.2=.free→X.env.kindOf y.1=some .cell∨X.env.kindOf y.1=some .free
  len:ix.length=N.length
  cap:∀ (i:Nat),match ix[i]?,N[i]? with
    | some (some j),some x=>X.N[j]?=some x∧scope.names.lookup x=some .free
    | _,_=>True
theorem lookup_relabel {env:Env} {x:Str} {k:NameKind}:∀ {names:List (Str × NameKind)},(names.map fun (n,k)=>if (k == NameKind.free && env.scope.kind == .function && env.kindOf n == some .cell) then (n,NameKind.cell) else (n,k)).lookup x=some k →
    names.lookup x=some k∨(k=.cell∧names.lookup x=some .free)
  | [],h=>by simp at h
  | (n, k') :: r,h=>by
    have h:List.lookup x ((if (k' == NameKind.free && env.scope.kind == .function && env.kindOf n == some .cell)=true then (n,NameKind.cell) else (n,k')) :: (r.map fun (n,k)=>if (k == NameKind.free && env.scope.kind == .function && env.kindOf n == some .cell) then (n,NameKind.cell) else (n,k)))=some k:=h
    rw [List.lookup_cons]
    by_cases hc:(k' == NameKind.free && env.scope.kind == .function && env.kindOf n == some .cell)=true
    · rw [if_pos hc,List.lookup_cons] at h
      cases hb:x == n with
      | true =>
        rw [hb] at h
        cases h
        have:k'=NameKind.free:=by
          simp only [Bool.and_eq_true] at hc
          simpa using hc.1.1
        rw [this]
        exact .inr ⟨rfl,rfl⟩
      | false =>
        rw [hb] at h
        exact lookup_relabel h
    · rw [if_neg hc,List.lookup_cons] at h
      cases hb:x == n with
      | true =>
        rw [hb] at h
        exact .inl h
      | false =>
        rw [hb] at h
        exact lookup_relabel h
theorem relabel_free {env:Env} {x:Str}:∀ {names:List (Str × NameKind)},names.lookup x=some .free →
    (names.map fun (n,k)=>if (k == NameKind.free && env.scope.kind == .function && env.kindOf n == some .cell) then (n,NameKind.cell) else (n,k)).lookup x=some .cell ∨
    (names.map fun (n,k)=>if (k == NameKind.free && env.scope.kind == .function && env.kindOf n == some .cell) then (n,NameKind.cell) else (n,k)).lookup x=some .free
  | [],h=>by simp at h
  | (n, k') :: r,h=>by
    show List.lookup x ((if (k' == NameKind.free && env.scope.kind == .function && env.kindOf n == some .cell)=true then (n,NameKind.cell) else (n,k')) :: (r.map fun (n,k)=>if (k == NameKind.free && env.scope.kind == .function && env.kindOf n == some .cell) then (n,NameKind.cell) else (n,k)))=some .cell ∨
      List.lookup x ((if (k' == NameKind.free && env.scope.kind == .function && env.kindOf n == some .cell)=true then (n,NameKind.cell) else (n,k')) :: (r.map fun (n,k)=>if (k == NameKind.free && env.scope.kind == .function && env.kindOf n == some .cell) then (n,NameKind.cell) else (n,k)))=some .free
    rw [List.lookup_cons] at h
    by_cases hc:(k' == NameKind.free && env.scope.kind == .function && env.kindOf n == some .cell)=true
    · rw [if_pos hc,List.lookup_cons]
      cases hb:x == n with
      | true=>exact .inl rfl
      | false =>
        rw [hb] at h
        exact relabel_free h
    · rw [if_neg hc,List.lookup_cons]
      cases hb:x == n with
      | true =>
        rw [hb] at h
        exact .inr h
      | false =>
        rw [hb] at h
        exact relabel_free h
theorem mem_lookup {α:Type} {l:List (Str × α)} {n:Str} {c:α} (h:l.lookup n=some c):(n,c)∈l:=mem_of_lookup h
section
variable {M:Model} {A:Around} {E:Value→Shared→Prop} {s:Shared}
theorem newEnv_block {scope:Scope} {globals:Addr} {cl:List (Str × Addr)} {qual:Str} {env:Env} {Q:Env→Shared→Prop}
    (hQ:Q { scope:=scope,locals:=s.heap.objs.size,globals:=globals,cells:=cellsFrom (s.heap.objs.size + 1) scope.names cl,qual:=qual,func:=none,code:=env.code,frame:=env.frame,builtins:=env.builtins }
      { s with heap:=pushCells (s.heap.push { cls:=.type "dict",data:=.dict #[] }) scope.names }) :
    wpAny M A (newFunctionEnv scope globals cl [] qual none .none (some env)) Q E s:=by
  simp only [newFunctionEnv,Option.isSome_some,if_true]
  refine wpAny_bind (wpAny_alloc ?_)
  refine wpAny_bind (wpAny_layCells _ (fun name kind cells=>by cases hkc:kind == NameKind.cell <;> simp [hkc]) _ _ _ _ ?_)
  rw [show ({ s with heap:=s.heap.push { cls:=.type "dict",data:=.dict #[] } }:Shared).heap.objs.size=s.heap.objs.size + 1 from Heap.size_push ..]
  simp only [List.forIn_nil]
  exact wpAny_bind (wpAny_pure (wpAny_pure hQ))
end
section
variable {prog:Program} {w:World} {A:Around} {R:Result→Shared→Prop} {s:Shared}
theorem comp_loop {elt target iter:Expr} {scope:Scope} {pos:Pos} {it acc:Value} {env:Env} (I:Nat→Shared→Prop)
    (turn : ∀ n s,I n s→wpAny (model prog w) A (pyNext it) (fun r s₁=>match r with
      | none=>R (.ok .next) s₁
      | some v=>wpAny (model prog w) A (letOwnedTupleGo target it v) (fun _ s₁'=>wpAny (model prog w) A (assign target env v) (fun _ s₂=>wpAny (model prog w) A (eval elt env) (fun x s₃ =>
          wpAny (model prog w) A (call (.builtin "list.append") [acc,x]) (fun _ s₄=>∃ m,m < n∧I m s₄) (fun _ _=>False) s₃) (fun _ _=>False) s₂) (fun _ _=>False) s₁') (fun _ _=>False) s₁) (fun _ _=>False) s)
    (n:Nat) (h:I n s) :
    codeAny (model prog w) A (.compLoop (.ListComp elt [⟨target,iter,[],0⟩] scope pos) 0 it acc env) R s:=by
  refine codeAny_loop rfl I (fun n s hI=>?_) n h
  show wpAny _ _ ((compTurn (.ListComp elt [⟨target,iter,[],0⟩] scope pos) 0 it acc env).onRaise (fun x=>do noteFrame x env; theTreesLotGoes x)) _ _ s
  refine wpAny_noted ?_
  rw [compTurn_list1]
  refine wpAny_bind (wpAny_standAt (wpAny_bind (wpAny_mono (turn n s hI) (fun r s₁ h₁=>?_) fun _ _ h'=>h'.elim)))
  cases r with
  | none=>exact wpAny_pure h₁
  | some v =>
    refine wpAny_bind (wpAny_mono h₁ (fun _ s₁' h₁'=>?_) fun _ _ h'=>h'.elim)
    exact wpAny_bind (wpAny_mono h₁' (fun _ s₂ h₂=>wpAny_bind (wpAny_bind (wpAny_mono h₂ (fun x s₃ h₃=>wpAny_bind (wpAny_mono h₃
      (fun _ s₄ h₄=>wpAny_pure (wpAny_pure ⟨rfl,h₄⟩)) fun _ _ h'=>h'.elim)) fun _ _ h'=>h'.elim))) fun _ _ h'=>h'.elim)
end
end L2
namespace L2
open PySem PySem.Spec PyProof.Rows
theorem hlt3 {a c n:Nat} (h:c < a) (e:n=a + 1):c < n + 1:=by omega
theorem hno3 {a c n:Nat} (h:c < a) (e:n=a + 1) (h2:n + 1≤c):False:=by omega
theorem hno4 {a c n:Nat} (h:c < a) (e:n=a + 1) (h2:c=n):False:=by omega
theorem hno5 {a c d n:Nat} (h:d < a) (e:n=a + 1) (h2:n + 1≤c) (h3:c=d):False:=by omega
theorem hno6 {a c:Nat} (h:c < a) (h2:a=c):False:=by omega
theorem hno7 {a c n:Nat} (e:n=a + 1) (h2:n + 1≤c) (h3:c=a):False:=by omega
section
variable {X:Cx} {pins:List (Addr × Obj)} {σ:St} {H:Hp} {s:Shared}
set_option maxHeartbeats 1000000 in
theorem comp_run {elt tg iter:Expr} {scope:Scope} {pos pos':Pos} {N:List Str} {ix:List (Option Nat)} {wi:TI} {g:TG} {te:TE} {Q:VK} {use:Option (Value→Sem Unit)} {Qv:Value→Shared→Prop}
    (hc:X.calm=true) (ok:CompOk X scope N ix) (hi:PI X tg iter wi)
    (hg:∀ cs C s H fp,PG (inX X scope N cs C s H fp) tg g) (he:∀ cs C s H fp,PE (inX X scope N cs C s H fp) elt te)
    (hs:∀ x,foldedSetIterable iter X.env x=pure x) (I:Inv X pins σ H s) (h:tComp wi ix g te σ H Q)
    (fin:∀ (D C:Addr) (m:Str→Option Value) (ys:List V) (H':Hp) (s':Shared),Inv X pins σ (upd H' D (.lst ys)) s'→s'.heap.Ns C m→FpOk X pins (upd H' D (.lst ys)) C→Q (.ref D) (upd H' D (.lst ys)) →
      compPost (model X.prog X.w) X.A X.xe use Qv (.ref D) C (.ok .next) s') :
    wpAny (model X.prog X.w) X.A (comprehension (.ListComp elt [⟨tg,iter,[],0⟩] scope pos) scope X.env pos' (newList []) false (eval iter X.env) use) Qv X.xe s:=by
  have hfree:∀ y∈scope.names,y.2=.free→∃ c,X.env.cells.lookup y.1=some c:=fun y hy e=>I.ok.has y.1 (ok.free y hy e)
  refine wpAny_comprehension_free (cl:=closL X.env scope.names []) rfl hs (closureFor_of hfree) ok.kind (fun x hx hl=>by have:=ok.names x hx; rw [hl] at this; exact this) ?_
  refine thn (hi pins s σ H _ I h) fun v s1 h1=>thn h1 fun itv s2 h2=>?_
  obtain ⟨it,fp,tn,J,H2,rfl,I2,T,st2,f2,W,⟨m0,w0⟩,turn⟩:=h2
  refine wpAny_newObj_type ?_ (by show 0≤sizeLine; decide)
  refine newEnv_block ?_
  dsimp only
  generalize hh3:s2.heap.push { cls:=.type "list",dict:=none,data:=.seq ([]:List Value).toArray }=h3
  have hC:h3.objs.size=s2.heap.objs.size + 1:=by rw [← hh3,Heap.size_push]
  generalize hh4:pushCells (h3.push { cls:=.type "dict",data:=.dict #[] }) scope.names=h4
  generalize hcs:cellsFrom (h3.objs.size + 1) scope.names (closL X.env scope.names [])=cs
  have up3:∀ b o,h3.get? b=some o→h4.get? b=some o:=fun b o e=>by
    rw [← hh4]
    exact pushCells_keeps _ _ b o (Heap.get?_push_of_some _ e)
  have up:∀ b o,s2.heap.get? b=some o→h4.get? b=some o:=fun b o e=>up3 b o (by rw [← hh3]; exact Heap.get?_push_of_some _ e)
  have hD4:h4.get? s2.heap.objs.size=some { cls:=.type "list",data:=.seq ([]:List Value).toArray }:=up3 _ _ (by rw [← hh3]; exact Heap.get?_push_size _ rfl)
  have hNs:h4.Ns h3.objs.size (fun _=>none):=by
    rw [← hh4]
    exact (Heap.Ns.new h3 (.type "dict")).keeps (pushCells_keeps _ _)
  have hclE:∀ x c,(closL X.env scope.names []).lookup x=some c→X.env.cells.lookup x=some c:=fun x c e=>by
    rcases closL_look scope.names [] hfree e with q | q
    · simp at q
    · exact q
  have hclLt:∀ x c,(closL X.env scope.names []).lookup x=some c→c < s2.heap.objs.size:=fun x c e=>by
    obtain ⟨v,q⟩:=I2.cell x c (hclE x c e)
    exact q.lt
  have CI:CellsIn h4 (h3.objs.size + 1) (fun x=>(x,NameKind.cell)∈scope.names) (closL X.env scope.names []) cs:=by
    have q:=cellsFrom_in (lo:=h3.objs.size + 1) (nm:=fun x=>(x,NameKind.cell)∈scope.names) (cl:=closL X.env scope.names []) (fun x c e=>hlt3 (hclLt x c e) hC) scope.names (h3.push { cls:=.type "dict",data:=.dict #[] }) (closL X.env scope.names [])
      (fun y hy e=>by obtain ⟨a,b⟩:=y; cases e; exact hy) (by rw [Heap.size_push]; exact Nat.le_refl _)
      ⟨fun x c e=>.inl e,fun x y c hl e _=>(hno3 (hclLt x c e) hC hl).elim⟩
    rw [Heap.size_push,hcs,hh4] at q
    exact q
  have csOld:∀ x c,cs.lookup x=some c→X.env.cells.lookup x=some c∨(h3.objs.size + 1≤c∧h4.IsCell c none∧(x,NameKind.cell)∈scope.names):=fun x c e=>by
    rcases CI.look x c e with q | q
    · exact .inl (hclE x c q)
    · exact .inr q
  have capLook:∀ x,scope.names.lookup x=some .free→∃ c,cs.lookup x=some c∧X.env.cells.lookup x=some c:=fun x hx=>by
    have hm:(x,NameKind.free)∈scope.names:=mem_lookup hx
    obtain ⟨c0,e0⟩:=closL_has (env:=X.env) scope.names [] (.inl hm)
    have q:=PySem.W.cellsFrom_some scope.names (h3.objs.size + 1) (closL X.env scope.names []) (x:=x) (.inr (by rw [e0]; rfl))
    rw [hcs] at q
    obtain ⟨c,e⟩:=Option.isSome_iff_exists.mp q
    refine ⟨c,e,?_⟩
    rcases csOld x c e with z | ⟨_,_,z⟩
    · exact z
    · have z2:=ok.names _ z
      rw [hx] at z2
      cases z2
  have below:∀ b∈fp,b < s2.heap.objs.size:=fun b hb=>by
    obtain ⟨o,e,_⟩:=T.obj 0 _ st2 b hb
    exact Heap.lt_size e
  have ok':(inX X scope N cs h3.objs.size s2 H2 fp).Ok:=by
    refine ⟨I2.mod,ok.kind,I2.ok.glob,I2.ok.blt,by show s2.heap.objs.size≤h3.objs.size; omega,?_,?_,?_,I2.ok.hd,I2.ok.frames,.inl rfl,?_,I2.bs,Nat.le_trans I2.ok.bsz I2.sz,?_,?_,I2.stack,I2.stkFree⟩
    · intro x y c e1 e2
      have e1:cs.lookup x=some c:=e1
      have e2:cs.lookup y=some c:=e2
      rcases csOld x c e1 with q1 | ⟨q1,_,_⟩
      · rcases csOld y c e2 with q2 | ⟨q2,_,_⟩
        · exact I2.ok.inj x y c q1 q2
        · obtain ⟨v,z⟩:=I2.cell x c q1
          exact (hno3 z.lt hC q2).elim
      · exact CI.inj x y c q1 e1 e2
    · intro x hx
      have hx:(relabel scope X.env).names.lookup x=some .cell∨(relabel scope X.env).names.lookup x=some .free:=hx
      show ∃ c,cs.lookup x=some c
      have q:scope.names.lookup x=some .cell∨scope.names.lookup x=some .free:=by
        rcases hx with hx | hx
        · rcases lookup_relabel hx with q | ⟨_,q⟩
          · exact .inl q
          · exact .inr q
        · rcases lookup_relabel hx with q | ⟨z,q⟩
          · exact .inr q
          · cases z
      rcases q with q | q
      · have z:=PySem.W.cellsFrom_some scope.names (h3.objs.size + 1) (closL X.env scope.names []) (x:=x) (.inl q)
        rw [hcs] at z
        exact Option.isSome_iff_exists.mp z
      · obtain ⟨c,e,_⟩:=capLook x q
        exact ⟨c,e⟩
    · intro x c hf e
      have hf:(scope.names.lookup x == some .cell)=true:=hf
      have hf':scope.names.lookup x=some .cell:=by simpa using hf
      have e:cs.lookup x=some c:=e
      show s2.heap.objs.size≤c
      rcases CI.look x c e with q | ⟨q,_,_⟩
      · -- an own cell hides what is closed over: but the name would be free too
        exfalso
        have key:∀ (names:List (Str × NameKind)) (acc:List (Str × Addr)),(x,NameKind.free) ∉ names→acc.lookup x=none→(closL X.env names acc).lookup x=none:=by
          intro names
          induction names with
          | nil=>intro acc _ h; exact h
          | cons p r ih =>
            obtain ⟨n,k⟩:=p
            intro acc hm h
            unfold closL
            have hm':(x,NameKind.free) ∉ r:=fun z=>hm (List.mem_cons_of_mem _ z)
            split
            · rename_i hk
              refine ih _ hm' ?_
              rw [List.lookup_cons]
              cases hb:x == n with
              | true =>
                have e1:x=n:=beq_iff_eq.mp hb
                have e2:k=.free:=by simpa using hk
                exact absurd (by rw [e1,e2]; exact List.mem_cons_self) hm
              | false=>exact h
            · exact ih _ hm' h
        rw [key scope.names [] (fun z=>by have:=ok.names _ z; rw [hf'] at this; cases this) rfl] at q
        cases q
      · omega
    · intro b hb
      refine ⟨fun z=>?_,fun x c e z=>?_⟩
      · have z:b=h3.objs.size:=z
        exact hno4 (below b hb) hC z
      · have e:cs.lookup x=some c:=e
        rcases csOld x c e with q | ⟨q,_,_⟩
        · exact (f2 b hb).2.2.2.2.1 x c q z
        · exact hno5 (below b hb) hC q z
    · intro b o e hb
      rcases (f2 b hb).2.2.2.1 with z | z
      · exact I2.ok.noex b o e z
      · have z1:=Heap.lt_size e
        have z2:=I2.ok.bsz
        exact absurd (Nat.lt_of_lt_of_le z1 (Nat.le_trans z2 z)) (Nat.lt_irrefl _)
    · intro b hb z
      rcases List.mem_cons.mp (I2.stkSub b z) with q | q
      · exact (f2 b hb).2.1 q
      · exact (f2 b hb).2.2.1 q
  have fresh:∀ a,s2.heap.objs.size≤a→H2 a=none:=fun a ha=>I2.hok.fresh ha
  have hok4:HOk X.prog X.w H2 h4:=I2.hok.kept up
  have I4 : Inv (inX X scope N cs h3.objs.size s2 H2 fp) [(s2.heap.objs.size,{ cls:=.type "list",data:=.seq ([]:List Value).toArray })] (capS ix σ) H2 { s2 with heap:=h4 }:=by
    refine ⟨ok',rfl,I2.bare,Un.kept up,⟨_,hNs,fun i x v e1 e2 e3=>?_⟩,fun x c e=>?_,fresh _ (by show s2.heap.objs.size≤h3.objs.size; omega),fun x c e=>?_,fun p hp=>?_,hok4,?_⟩
    · have e1:N[i]?=some x:=e1
      have e2':(capS ix σ)[i]?=some (some v):=e2
      unfold capS at e2'
      rw [List.getElem?_map] at e2'
      cases hix:ix[i]? with
      | none=>rw [hix] at e2'; cases e2'
      | some o =>
        rw [hix] at e2'
        cases o with
        | none=>cases e2'
        | some j =>
          have e2'':((σ[j]?).bind id)=some v:=Option.some.inj e2'
          have hσ:σ[j]?=some (some v):=by
            cases q:σ[j]? with
            | none=>rw [q] at e2''; cases e2''
            | some o=>rw [q] at e2''; rw [show o=some v from e2'']
          have hcap:=ok.cap i
          rw [hix,e1] at hcap
          obtain ⟨hX,hfr⟩:=hcap
          obtain ⟨c,ec,eX⟩:=capLook x hfr
          obtain ⟨m,hn,hl⟩:=I2.loc
          have hk:=ok.free _ (mem_lookup hfr) rfl
          have hk:X.env.kindOf x=some .cell∨X.env.kindOf x=some .free:=hk
          obtain ⟨u,r,l⟩:=hl j x v hX hσ (by rcases hk with z | z; exact .inr (.inl z); exact .inr (.inr z))
          refine ⟨u,r,.inr ⟨relabel_free hfr,c,ec,?_⟩⟩
          rcases l with ⟨z,_⟩ | ⟨_,c',e',z⟩
          · rcases hk with y | y <;> (rw [z] at y; cases y)
          · rw [eX] at e'
            cases e'
            exact z.keeps up
    · have e:cs.lookup x=some c:=e
      rcases csOld x c e with q | ⟨_,q,_⟩
      · obtain ⟨v,z⟩:=I2.cell x c q
        exact ⟨v,z.keeps up⟩
      · exact ⟨none,q⟩
    · have e:cs.lookup x=some c:=e
      rcases csOld x c e with q | ⟨q,_,_⟩
      · exact I2.freeC x c q
      · exact fresh c (by omega)
    · have hp:p∈[(s2.heap.objs.size,({ cls:=.type "list",data:=.seq ([]:List Value).toArray }:Obj))]:=hp
      obtain rfl:=List.mem_singleton.mp hp
      refine ⟨hD4,fresh _ (Nat.le_refl _),?_,fun z=>?_,fun v z=>?_⟩
      · show s2.heap.objs.size≠h3.objs.size
        omega
      · have z:s2.heap.objs.size∈frs X.stack:=z
        obtain ⟨_,o,ho,_⟩:=I2.stack.mem z
        exact absurd (Heap.lt_size ho) (Nat.lt_irrefl _)
      · have z':Data.seq _ _=Data.cell v:=z
        cases z'
    · unfold capS
      rw [List.length_map]
      exact ok.len
  have stat:∀ {k:Nat} {its:List Value} {H':Hp},(∀ b∈fp,H' b=none)→∀ b∈fp,FpOk (inX X scope N cs h3.objs.size s2 H2 fp) [(s2.heap.objs.size,{ cls:=.type "list",data:=.seq its.toArray k })] H' b:=fun {k its H'} hn b hb=>by
    obtain ⟨h1,h2⟩:=ok'.exf b hb
    refine ⟨hn b hb,h1,ok'.exfs b hb,.inl hb,h2,fun p hp z=>?_⟩
    have hp:p∈[(s2.heap.objs.size,({ cls:=.type "list",data:=.seq its.toArray k }:Obj))]:=hp
    obtain rfl:=List.mem_singleton.mp hp
    have z:s2.heap.objs.size=b:=z
    exact hno6 (below b hb) z
  have loop:codeAny (model X.prog X.w) X.A (.compLoop (.ListComp elt [⟨tg,iter,[],0⟩] scope pos) 0 (.ref it) (.ref s2.heap.objs.size) (inEnv scope cs h3.objs.size X.env))
      (compPost (model X.prog X.w) X.A X.xe use Qv (.ref s2.heap.objs.size) h3.objs.size) { s2 with heap:=h4 }:=by
    refine comp_loop (fun n s'=>∃ (i:Nat) (ys:List V) (its:List Value) (k:Nat) (H':Hp),Inv (inX X scope N cs h3.objs.size s2 H2 fp) [(s2.heap.objs.size,{ cls:=.type "list",data:=.seq its.toArray k })] (capS ix σ) H' s'∧tn i s'.heap∧(∀ b∈fp,H' b=none)∧Vals ys its∧W i n ys H') ?_ m0
      ⟨0,[],[],0,H2,I4,T.keep 0 _ _ st2 (fun b _ o e=>up b o e),fun b hb=>(f2 b hb).1,.nil,w0⟩
    rintro n s5 ⟨i,ys,its,k,H5,I5,st5,fr5,v5,w5⟩
    rcases turn i n ys H5 w5 with ⟨stop,hz,q⟩ | ⟨go,hz,step⟩
    · refine thn (T.done (inX X scope N cs h3.objs.size s2 H2 fp) rfl rfl rfl hc i _ s5 _ H5 _ I5 (stat fr5) st5 stop) fun r s6 ⟨hr,I6⟩=>?_
      subst hr
      dsimp only
      obtain ⟨eD,nD,_,_,_⟩:=I6.pin _ (List.mem_append_right _ (List.mem_singleton.mpr rfl))
      have eD:s6.heap.get? s2.heap.objs.size=some { cls:=.type "list",data:=.seq its.toArray k }:=eD
      have nD:H5 s2.heap.objs.size=none:=nD
      obtain ⟨mC,hnC,_⟩:=I6.loc
      have hnC:s6.heap.Ns h3.objs.size mC:=hnC
      have fC:H5 h3.objs.size=none:=I6.free
      have un6:Un (frs X.stack) fp H2 H5 s2.heap s6.heap:=I6.base
      have ne2:∀ {b:Addr} {o:Obj},s2.heap.get? b=some o→b≠s2.heap.objs.size:=fun e z=>hno6 (Heap.lt_size e) z.symm
      have neH:∀ {b:Addr} {o:HO},H2 b=some o→b≠s2.heap.objs.size:=fun e=>ne_of_none e (fresh _ (Nat.le_refl _))
      have un7:Un (frs X.stack) fp H2 (upd H5 s2.heap.objs.size (.lst ys)) s2.heap s6.heap :=
        ⟨un6.keep,un6.slot,fun b o e n hx=>by rw [upd_ne (ne2 e)]; exact un6.free b o e n hx,un6.there,fun b xs e=>by rw [upd_ne (neH e)]; exact un6.tups b xs e,fun b o u e=>by rw [upd_ne (neH e)]; exact un6.frzs b o u e,
          fun b ps e=>by rw [upd_ne (neH e)]; exact un6.tbls b ps e⟩
      have hok7:HOk X.prog X.w (upd H5 s2.heap.objs.size (.lst ys)) s6.heap:=fun b u e=>by
        by_cases hb:b=s2.heap.objs.size
        · subst hb
          rw [upd_same] at e
          cases e
          exact ⟨hz,its,k,v5,eD⟩
        · rw [upd_ne hb] at e
          exact (I6.hok b u e).stay (fun _ _ _ q=>q) (fun c q=>by rw [upd_ne (ne_of_none q nD)]; exact q) fun c xs q=>by rw [upd_ne (ne_of_none q nD)]; exact q
      have I7:Inv X pins σ (upd H5 s2.heap.objs.size (.lst ys)) s6:=I2.call' I6.os un7 hok7 I6.bare fun b hb=>by
        obtain ⟨_,z1,_,z2,z3,z4⟩:=f2 b hb
        exact ⟨z2,z1,z3,z4⟩
      refine fin _ _ mC ys H5 s6 I7 hnC ?_ (q _ nD)
      exact I2.fpOk (by rw [hC]; exact Nat.le_succ _) (by rw [upd_ne (by rw [hC]; exact Nat.succ_ne_self _)]; exact fC)
    · refine thn (T.item (inX X scope N cs h3.objs.size s2 H2 fp) rfl rfl rfl hc i _ s5 _ H5 _ I5 (stat fr5) st5 go) fun r s6 ⟨u,hr,h6⟩=>?_
      subst hr
      dsimp only
      refine thn h6 fun _ s7 ⟨x,H7,I7,r7,y7,st7,fr7⟩=>?_
      have I7':=I7.pinned (stat fr7) (T.obj _ _ st7)
      refine thn (hg cs h3.objs.size s2 H2 fp _ s7 _ H7 x u _ I7' r7 (step x H7 y7)) fun _ s8 ⟨σ8,H8,I8,le8,q8⟩=>?_
      refine thn (he cs h3.objs.size s2 H2 fp _ s8 σ8 H8 _ I8 q8) fun uy s9 ⟨y,H9,I9,ry,m',hm',w9⟩=>?_
      obtain ⟨eD,nD,_,_,_⟩:=I9.pin (s2.heap.objs.size,{ cls:=.type "list",data:=.seq its.toArray k }) (List.mem_append_right _ (List.mem_append_left _ (List.mem_singleton.mpr rfl)))
      have eD:s9.heap.get? s2.heap.objs.size=some { cls:=.type "list",data:=.seq its.toArray k }:=eD
      have nD:H9 s2.heap.objs.size=none:=nD
      have hlen:=v5.length
      refine call_meets F.slot_list_append ⟨_,eD,rfl⟩ F.entry_list_append (F.args_list_append_2 _ _) (PySem.list_append s2.heap.objs.size its.toArray k uy (by rw [List.size_toArray]; omega)) ⟨eD,?_⟩
      obtain ⟨k',eN⟩:∃ k',(s9.heap.update s2.heap.objs.size (Obj.mapSeq fun xs=>xs.push uy)).get? s2.heap.objs.size=some { cls:=.type "list",data:=.seq (its ++ [uy]).toArray k' }:=by
        have q:=PySem.IsL.update eD (fun xs=>xs.push uy)
        rw [show its.toArray.push uy=(its ++ [uy]).toArray by simp] at q
        exact ⟨_,q⟩
      have fpNe:∀ b∈fp,b≠s2.heap.objs.size:=fun b hb z=>hno6 (below b hb) z.symm
      have pinFp:∀ b∈fp,∀ o,s7.heap.get? b=some o→s9.heap.get? b=some o∧H9 b=none:=fun b hb o e=>by
        have z:=I9.pin (b,o) (List.mem_append_right _ (List.mem_append_right _ (mem_pinsAt hb e)))
        exact ⟨z.1,z.2.1⟩
      have I9':Inv (inX X scope N cs h3.objs.size s2 H2 fp) [] (capS ix σ) H9 s9:=(I9.pins_of (pins':=[]) (fun p hp=>absurd hp (by simp))).weak le8.1 le8.2
      have I10:Inv (inX X scope N cs h3.objs.size s2 H2 fp) [] (capS ix σ) H9 { s9 with heap:=s9.heap.update s2.heap.objs.size (Obj.mapSeq fun xs=>xs.push uy) }:=by
        refine I9'.turned (t':=s9.toks) (it:=s2.heap.objs.size) (fun b o hb e=>(Heap.get?_update_other _ _ (Ne.symm hb)).trans e) nD (by show s2.heap.objs.size≠h3.objs.size; omega) (.inr (Nat.le_refl _)) (fun x c e z=>?_) (fun p hp=>absurd (show p∈([]:List (Addr × Obj)) from hp) (by simp))
        have e:cs.lookup x=some c:=e
        rcases csOld x c e with q | ⟨q,_,_⟩
        · obtain ⟨v,z2⟩:=I2.cell x c q
          exact hno6 z2.lt z.symm
        · exact hno7 hC q z
      refine ⟨m',hm',i + 1,ys ++ [y],its ++ [uy],k',H9,I10.pins_of (fun p hp=>?_),?_,fun b hb=>?_,v5.append (.cons ry .nil),w9⟩
      · obtain rfl:=List.mem_singleton.mp hp
        refine ⟨eN,nD,?_,fun z=>?_,fun v z=>?_⟩
        · show s2.heap.objs.size≠h3.objs.size
          omega
        · have z:s2.heap.objs.size∈frs X.stack:=z
          obtain ⟨_,o,ho,_⟩:=I2.stack.mem z
          exact absurd (Heap.lt_size ho) (Nat.lt_irrefl _)
        · have z':Data.seq _ _=Data.cell v:=z
          cases z'
      · refine T.keep (i + 1) _ _ st7 fun b hb o e=>?_
        exact (Heap.get?_update_other _ _ (Ne.symm (fpNe b hb))).trans (pinFp b hb o e).1
      · obtain ⟨o,e,_⟩:=T.obj _ _ st7 b hb
        exact (pinFp b hb o e).2
  exact codeAny_compStart_list loop (T.self _ 0 _ _ _ (T.keep 0 _ _ st2 (fun b _ o e=>up b o e)) loop)
end
end L2
namespace L2
open PySem PySem.Spec PyProof.Rows
section
variable {X:Cx} {pins:List (Addr × Obj)} {σ:St} {H:Hp} {s:Shared}
theorem Inv.gone {C:Addr} {h':Heap} (I:Inv X pins σ H s) (f:FpOk X pins H C) (sb:Heap.SameBut C s.heap h'):Inv X pins σ H { s with heap:=h' }:=by
  obtain ⟨z0,z1,_,z2,z3,z4⟩:=f
  exact I.turned (t':=s.toks) (fun b o hb e=>(sb.2 b hb).trans e) z0 z1 z2 z3 z4
theorem pe_comp {elt tg iter:Expr} {scope:Scope} {pos:Pos} {N:List Str} {ix:List (Option Nat)} {wi:TI} {g:TG} {te:TE}
    (hc:X.calm=true) (ok:CompOk X scope N ix) (hi:PI X tg iter wi)
    (hg:∀ cs C s H fp,PG (inX X scope N cs C s H fp) tg g) (he:∀ cs C s H fp,PE (inX X scope N cs C s H fp) elt te)
    (hs:∀ x,foldedSetIterable iter X.env x=pure x:=by intro _; rfl):PE X (.ListComp elt [⟨tg,iter,[],0⟩] scope pos) (tComp wi ix g te):=by
  intro pins s σ H Q I h
  rw [eval_ListComp]
  refine comp_run (use:=none) hc ok hi hg he hs I h fun D C m ys H' s' I' hn f q=>?_
  exact ⟨m,hn,fun h' sb=>⟨.ref D,_,I'.gone f sb,rfl,q⟩⟩
theorem ps_setComp {i:Nat} {x:Str} {elt tg iter:Expr} {scope:Scope} {pos pos' spos:Pos} {N:List Str} {ix:List (Option Nat)} {wi:TI} {g:TG} {te:TE}
    (hN:X.N.Nodup) (hx:X.N[i]?=some x) (hl:Loc X.env.scope x)
    (hsw:swapsWith (.ListComp elt [⟨tg,iter,[],0⟩] scope pos) (some (.Name x pos')) spos.line X.env=pure true)
    (hc:X.calm=true) (ok:CompOk X scope N ix) (hi:PI X tg iter wi)
    (hg:∀ cs C s H fp,PG (inX X scope N cs C s H fp) tg g) (he:∀ cs C s H fp,PE (inX X scope N cs C s H fp) elt te)
    (hs:∀ x,foldedSetIterable iter X.env x=pure x:=by intro _; rfl) (hf:X.fn x=true∨X.env.scope.names.lookup x=some .local:=by first | exact .inl rfl | exact .inr rfl | assumption) :
    PS X (.Assign [.Name x pos'] (.ListComp elt [⟨tg,iter,[],0⟩] scope pos) spos) (tAsg (tComp wi ix g te) (gName i)):=by
  intro pins s σ H D I h
  rw [exec_Assign_Name_used _ _ _ _ hsw]
  refine wpAny_bind (wpAny_standAt (wpAny_bind ?_))
  show wpAny _ X.A (do let _ ← comprehension (.ListComp elt [⟨tg,iter,[],0⟩] scope pos) scope X.env _ (newList []) false (eval iter X.env) (some (assign (.Name x pos') X.env))) _ _ s
  refine wpAny_bind (thn (comp_run (use:=some (assign (.Name x pos') X.env)) (Qv:=fun _ s'=>SP X pins D .next s') hc ok hi hg he hs I h fun A C m ys H' s' I' hn f q=>?_) fun _ s' hq=>wpAny_pure (wpAny_pure hq))
  show wpAny _ X.A (assign (.Name x pos') X.env (.ref A)) _ _ _
  refine wpAny_assign_Name (store_ok2 (v:=.ref A) I' hN hx hl rfl (fun s'' I'' sa=>?_) hf)
  obtain ⟨a,sb,ha⟩:=sa
  have hCa:C≠a:=by
    rcases ha with z | z
    · rw [z]; exact f.2.1
    · exact fun e=>f.2.2.2.2.1 x a z e.symm
  exact ⟨m,hn.sameBut sb hCa,fun h' sb'=>⟨_,_,I''.gone f sb',q⟩⟩
def truB:V→Bool
  | .int i=>i != 0
  | .bl b=>b
  | _=>false
def isIB:V→Bool
  | .int _=>true
  | .bl _=>true
  | _=>false
theorem tr_of {A:Around} {E:Value→Shared→Prop} {s:Shared} {P:Program} {w:World} {x:V} {u:Value} {Q:Bool→Shared→Prop} (hx:isIB x=true) (r:RelV x u) (q:Q (truB x) s):wpAny (model P w) A (truthy u) Q E s:=by
  cases x with
  | int i=>obtain ⟨t,rfl⟩:=r; exact truthy_int q
  | bl b=>cases r; exact wpAny_truthy_bool q
  | _=>exact absurd (show false=true from hx) Bool.false_ne_true
theorem kept_it {o:Obj} {h h':Heap} (hk:∀ b x,b ∉ [h.objs.size]→(h.push o).get? b=some x→h'.get? b=some x):∀ b x,h.get? b=some x→h'.get? b=some x :=
  fun b x e=>hk b x (fun hm=>by rw [List.mem_singleton.mp hm] at e; exact Nat.lt_irrefl _ (Heap.lt_size e)) (Heap.get?_push_of_some _ e)
theorem call_allL (hc:X.calm=true):CallR X (.builtin "all") (fun xs H Q=>∃ (p:Addr) (ys:List V),xs=[.ref p]∧SqL X.K H p ys∧(∀ y∈ys,isIB y=true)∧Q (.bl (ys.all truB)) H):=by
  intro pins s σ H xs us Q I r h
  obtain ⟨p,ys,rfl,hq,hf,q⟩:=h
  obtain ⟨u,rfl,rx⟩:=vals1 r
  cases rx
  obtain ⟨its,r',pl,hz⟩:=I.list hq
  have hl:=pl.isList
  have hlt:p < s.heap.objs.size:=by obtain ⟨_,e,_⟩:=hl; exact Heap.lt_size e
  refine call_all_walk (wpAny_pyIter_list hl ?_)
  refine ⟨s.heap.objs.size,[s.heap.objs.size,p],[s.heap.objs.size],its.toArray.size,_,_,fun i=>((ys.map truB)[i]?).getD true,rfl,Walks.list (A:=X.A.in1) (I.ok.hd hc) _ p (Nat.ne_of_lt hlt) its.toArray,
    ⟨⟨_,Heap.get?_push_size _ rfl,rfl,rfl⟩,hl.push _⟩,fun i v s' Q' E' hP hQ=>?_,fun h' tk hk=>?_⟩
  · have hP:its.toArray[i]?=some v:=hP
    have hi:its[i]?=some v:=by simpa using hP
    have hlen:=r'.length
    have hlt2:i < ys.length:=by rw [hlen]; exact (List.getElem?_eq_some_iff.mp hi).1
    have hy:ys[i]?=some ys[i]:=List.getElem?_eq_getElem hlt2
    obtain ⟨u,hu,ru⟩:=r'.get hy
    rw [hi] at hu
    cases hu
    dsimp only at hQ
    rw [List.getElem?_map,hy] at hQ
    exact tr_of (hf _ (List.getElem_mem hlt2)) ru hQ
  · have e:((List.range its.toArray.size).all fun i=>((ys.map truB)[i]?).getD true)=ys.all truB:=by
      have:=LSm.range_all (ys.map truB)
      rw [List.length_map,r'.length] at this
      rw [List.size_toArray,this,List.all_map]
      rfl
    rw [e]
    exact ⟨.bl _,H,I.kept (kept_it hk),rfl,q⟩
theorem call_anyL (hc:X.calm=true):CallR X (.builtin "any") (fun xs H Q=>∃ (p:Addr) (ys:List V),xs=[.ref p]∧SqL X.K H p ys∧(∀ y∈ys,isIB y=true)∧Q (.bl (ys.any truB)) H):=by
  intro pins s σ H xs us Q I r h
  obtain ⟨p,ys,rfl,hq,hf,q⟩:=h
  obtain ⟨u,rfl,rx⟩:=vals1 r
  cases rx
  obtain ⟨its,r',pl,hz⟩:=I.list hq
  have hl:=pl.isList
  have hlt:p < s.heap.objs.size:=by obtain ⟨_,e,_⟩:=hl; exact Heap.lt_size e
  refine call_any_walk (wpAny_pyIter_list hl ?_)
  refine ⟨s.heap.objs.size,[s.heap.objs.size,p],[s.heap.objs.size],its.toArray.size,_,_,fun i=>((ys.map truB)[i]?).getD false,rfl,Walks.list (A:=X.A.in1) (I.ok.hd hc) _ p (Nat.ne_of_lt hlt) its.toArray,
    ⟨⟨_,Heap.get?_push_size _ rfl,rfl,rfl⟩,hl.push _⟩,fun i v s' Q' E' hP hQ=>?_,fun h' tk hk=>?_⟩
  · have hP:its.toArray[i]?=some v:=hP
    have hi:its[i]?=some v:=by simpa using hP
    have hlen:=r'.length
    have hlt2:i < ys.length:=by rw [hlen]; exact (List.getElem?_eq_some_iff.mp hi).1
    have hy:ys[i]?=some ys[i]:=List.getElem?_eq_getElem hlt2
    obtain ⟨u,hu,ru⟩:=r'.get hy
    rw [hi] at hu
    cases hu
    dsimp only at hQ
    rw [List.getElem?_map,hy] at hQ
    exact tr_of (hf _ (List.getElem_mem hlt2)) ru hQ
  · have e:((List.range its.toArray.size).any fun i=>((ys.map truB)[i]?).getD false)=ys.any truB:=by
      have:=LSm.range_any (ys.map truB)
      rw [List.length_map,r'.length] at this
      rw [List.size_toArray,this,List.any_map]
      rfl
    rw [e]
    exact ⟨.bl _,H,I.kept (kept_it hk),rfl,q⟩
def CDivX (_i j:Int):Prop:=j≠0∧j.natAbs.log2 < 9000
theorem op_fdivX:OpR X (binaryOp .FloorDiv) (rI CDivX fun i j=>.int (i.fdiv j)):=opI fun _ _ _ _ _ _ _ hc q=>floordiv_int hc.1 q (.inl (PyProof.noPylong_of_log2 hc.2))
theorem op_mulX:OpR X (binaryOp .Mult) (rI IntMulOk fun i j=>.int (i * j)):=opI fun _ _ _ _ _ _ _ hc q=>mul_int q hc
end
end L2
namespace L2
open PySem PySem.Spec PyProof.Rows
inductive Ty | int | bool | str | non | list | tuple
def Ty.nm:Ty→String
  | .int => "int" | .bool => "bool" | .str => "str" | .non => "NoneType" | .list => "list" | .tuple => "tuple"
def subT:Ty→Ty→Bool
  | .int,.int=>true | .bool,.bool=>true | .bool,.int=>true | .str,.str=>true | .non,.non=>true | .list,.list=>true | .tuple,.tuple=>true
  | _,_=>false
def isTy (K:PySem.W.Frag):V→Hp→Ty→Prop
  | .int _,_,t=>t=.int
  | .bl _,_,t=>t=.bool
  | .str _,_,t=>t=.str
  | .non,_,t=>t=.non
  | .ref p,H,t=>(t=.list∧∃ xs,SqL K H p xs)∨(t=.tuple∧∃ xs,SqT K H p xs)
  | _,_,_=>False
theorem tty_list:typeOf (.type "list")=pure (.type "type"):=by first | rfl | kernel_rfl
theorem tty_tuple:typeOf (.type "tuple")=pure (.type "type"):=by first | rfl | kernel_rfl
theorem tty_int:typeOf (.type "int")=pure (.type "type"):=by first | rfl | kernel_rfl
theorem tty_bool:typeOf (.type "bool")=pure (.type "type"):=by first | rfl | kernel_rfl
theorem tty_str:typeOf (.type "str")=pure (.type "type"):=by first | rfl | kernel_rfl
theorem sub_int_list:isSubtype (.type "int") (.type "list")=pure false:=by rw [isSubtype_type]; kernel_rfl
theorem sub_int_tuple:isSubtype (.type "int") (.type "tuple")=pure false:=by rw [isSubtype_type]; kernel_rfl
theorem sub_int_int:isSubtype (.type "int") (.type "int")=pure true:=by rw [isSubtype_type]; kernel_rfl
theorem sub_int_bool:isSubtype (.type "int") (.type "bool")=pure false:=by rw [isSubtype_type]; kernel_rfl
theorem sub_int_str:isSubtype (.type "int") (.type "str")=pure false:=by rw [isSubtype_type]; kernel_rfl
theorem sub_bool_list:isSubtype (.type "bool") (.type "list")=pure false:=by rw [isSubtype_type]; kernel_rfl
theorem sub_bool_tuple:isSubtype (.type "bool") (.type "tuple")=pure false:=by rw [isSubtype_type]; kernel_rfl
theorem sub_bool_int:isSubtype (.type "bool") (.type "int")=pure true:=by rw [isSubtype_type]; kernel_rfl
theorem sub_bool_bool:isSubtype (.type "bool") (.type "bool")=pure true:=by rw [isSubtype_type]; kernel_rfl
theorem sub_bool_str:isSubtype (.type "bool") (.type "str")=pure false:=by rw [isSubtype_type]; kernel_rfl
theorem sub_str_list:isSubtype (.type "str") (.type "list")=pure false:=by rw [isSubtype_type]; kernel_rfl
theorem sub_str_tuple:isSubtype (.type "str") (.type "tuple")=pure false:=by rw [isSubtype_type]; kernel_rfl
theorem sub_str_int:isSubtype (.type "str") (.type "int")=pure false:=by rw [isSubtype_type]; kernel_rfl
theorem sub_str_bool:isSubtype (.type "str") (.type "bool")=pure false:=by rw [isSubtype_type]; kernel_rfl
theorem sub_str_str:isSubtype (.type "str") (.type "str")=pure true:=by rw [isSubtype_type]; kernel_rfl
theorem sub_NoneType_list:isSubtype (.type "NoneType") (.type "list")=pure false:=by rw [isSubtype_type]; kernel_rfl
theorem sub_NoneType_tuple:isSubtype (.type "NoneType") (.type "tuple")=pure false:=by rw [isSubtype_type]; kernel_rfl
theorem sub_NoneType_int:isSubtype (.type "NoneType") (.type "int")=pure false:=by rw [isSubtype_type]; kernel_rfl
theorem sub_NoneType_bool:isSubtype (.type "NoneType") (.type "bool")=pure false:=by rw [isSubtype_type]; kernel_rfl
theorem sub_NoneType_str:isSubtype (.type "NoneType") (.type "str")=pure false:=by rw [isSubtype_type]; kernel_rfl
theorem sub_list_list:isSubtype (.type "list") (.type "list")=pure true:=by rw [isSubtype_type]; kernel_rfl
theorem sub_list_tuple:isSubtype (.type "list") (.type "tuple")=pure false:=by rw [isSubtype_type]; kernel_rfl
theorem sub_list_int:isSubtype (.type "list") (.type "int")=pure false:=by rw [isSubtype_type]; kernel_rfl
theorem sub_list_bool:isSubtype (.type "list") (.type "bool")=pure false:=by rw [isSubtype_type]; kernel_rfl
theorem sub_list_str:isSubtype (.type "list") (.type "str")=pure false:=by rw [isSubtype_type]; kernel_rfl
theorem sub_tuple_list:isSubtype (.type "tuple") (.type "list")=pure false:=by rw [isSubtype_type]; kernel_rfl
theorem sub_tuple_tuple:isSubtype (.type "tuple") (.type "tuple")=pure true:=by rw [isSubtype_type]; kernel_rfl
theorem sub_tuple_int:isSubtype (.type "tuple") (.type "int")=pure false:=by rw [isSubtype_type]; kernel_rfl
theorem sub_tuple_bool:isSubtype (.type "tuple") (.type "bool")=pure false:=by rw [isSubtype_type]; kernel_rfl
theorem sub_tuple_str:isSubtype (.type "tuple") (.type "str")=pure false:=by rw [isSubtype_type]; kernel_rfl
section
variable {X:Cx}
def rIsi (K:PySem.W.Frag) (T:Ty):List V→Hp→VK→Prop:=fun xs H Q=>∃ (x:V) (Tx:Ty),xs=[x,.ty T.nm]∧isTy K x H Tx∧Q (.bl (subT Tx T)) H
theorem isi_list:CallR X (.builtin "isinstance") (rIsi X.K .list):=by
  intro pins s σ H xs us Q I r h
  obtain ⟨x,Tx,rfl,hx,q⟩:=h
  obtain ⟨u,v,rfl,ru,rv⟩:=Vals.two r
  cases rv
  cases x with
  | int i =>
    cases hx
    obtain ⟨t,rfl⟩:=ru
    exact call_isinstance (isinstance_false_int (by decide) tty_list sub_int_list) (show EP X pins σ Q (.bool false) { s with toks:=s.toks + 1 } from ⟨.bl false,H,I.tok _,rfl,q⟩)
  | bl k =>
    cases hx
    cases ru
    exact call_isinstance (isinstance_false_bool (by decide) tty_list sub_bool_list) (show EP X pins σ Q (.bool false) { s with toks:=s.toks + 1 } from ⟨.bl false,H,I.tok _,rfl,q⟩)
  | str z =>
    cases hx
    obtain ⟨t,rfl⟩:=ru
    exact call_isinstance (isinstance_false_str (by decide) tty_list sub_str_list) (show EP X pins σ Q (.bool false) { s with toks:=s.toks + 1 } from ⟨.bl false,H,I.tok _,rfl,q⟩)
  | non =>
    cases hx
    cases ru
    exact call_isinstance (isinstance_false_none (by decide) tty_list sub_NoneType_list) (show EP X pins σ Q (.bool false) { s with toks:=s.toks + 1 } from ⟨.bl false,H,I.tok _,rfl,q⟩)
  | ref p =>
    cases ru
    rcases hx with ⟨rfl,xs,hq⟩ | ⟨rfl,xs,hq⟩
    · obtain ⟨its,r',pl,hz⟩:=I.list hq
      obtain ⟨o,ho,hcl,_⟩:=pl.isList
      exact call_isinstance (isinstance_true (Tx := "list") tty_list sub_list_list) ⟨⟨o,ho,hcl⟩,.bl true,H,I,rfl,q⟩
    · obtain ⟨its,r',pl,hz⟩:=I.tuple hq
      obtain ⟨o,ho,hcl,_⟩:=pl
      exact call_isinstance (isinstance_false_tuple (by decide) tty_list sub_tuple_list) ⟨⟨o,ho,hcl⟩,(show EP X pins σ Q (.bool false) { s with toks:=s.toks + 1 } from ⟨.bl false,H,I.tok _,rfl,q⟩)⟩
  | _=>exact False.elim hx
theorem isi_tuple:CallR X (.builtin "isinstance") (rIsi X.K .tuple):=by
  intro pins s σ H xs us Q I r h
  obtain ⟨x,Tx,rfl,hx,q⟩:=h
  obtain ⟨u,v,rfl,ru,rv⟩:=Vals.two r
  cases rv
  cases x with
  | int i =>
    cases hx
    obtain ⟨t,rfl⟩:=ru
    exact call_isinstance (isinstance_false_int (by decide) tty_tuple sub_int_tuple) (show EP X pins σ Q (.bool false) { s with toks:=s.toks + 1 } from ⟨.bl false,H,I.tok _,rfl,q⟩)
  | bl k =>
    cases hx
    cases ru
    exact call_isinstance (isinstance_false_bool (by decide) tty_tuple sub_bool_tuple) (show EP X pins σ Q (.bool false) { s with toks:=s.toks + 1 } from ⟨.bl false,H,I.tok _,rfl,q⟩)
  | str z =>
    cases hx
    obtain ⟨t,rfl⟩:=ru
    exact call_isinstance (isinstance_false_str (by decide) tty_tuple sub_str_tuple) (show EP X pins σ Q (.bool false) { s with toks:=s.toks + 1 } from ⟨.bl false,H,I.tok _,rfl,q⟩)
  | non =>
    cases hx
    cases ru
    exact call_isinstance (isinstance_false_none (by decide) tty_tuple sub_NoneType_tuple) (show EP X pins σ Q (.bool false) { s with toks:=s.toks + 1 } from ⟨.bl false,H,I.tok _,rfl,q⟩)
  | ref p =>
    cases ru
    rcases hx with ⟨rfl,xs,hq⟩ | ⟨rfl,xs,hq⟩
    · obtain ⟨its,r',pl,hz⟩:=I.list hq
      obtain ⟨o,ho,hcl,_⟩:=pl.isList
      exact call_isinstance (isinstance_false_list (by decide) tty_tuple sub_list_tuple) ⟨⟨o,ho,hcl⟩,(show EP X pins σ Q (.bool false) { s with toks:=s.toks + 1 } from ⟨.bl false,H,I.tok _,rfl,q⟩)⟩
    · obtain ⟨its,r',pl,hz⟩:=I.tuple hq
      obtain ⟨o,ho,hcl,_⟩:=pl
      exact call_isinstance (isinstance_true (Tx := "tuple") tty_tuple sub_tuple_tuple) ⟨⟨o,ho,hcl⟩,.bl true,H,I,rfl,q⟩
  | _=>exact False.elim hx
theorem isi_int:CallR X (.builtin "isinstance") (rIsi X.K .int):=by
  intro pins s σ H xs us Q I r h
  obtain ⟨x,Tx,rfl,hx,q⟩:=h
  obtain ⟨u,v,rfl,ru,rv⟩:=Vals.two r
  cases rv
  cases x with
  | int i =>
    cases hx
    obtain ⟨t,rfl⟩:=ru
    exact call_isinstance (isinstance_true tty_int sub_int_int) ⟨typeIs_int s i t,.bl true,H,I,rfl,q⟩
  | bl k =>
    cases hx
    cases ru
    exact call_isinstance (isinstance_true tty_int sub_bool_int) ⟨(show s.TypeIs (.bool k) "bool" from by first | exact typeIs_bool s k | rfl),.bl true,H,I,rfl,q⟩
  | str z =>
    cases hx
    obtain ⟨t,rfl⟩:=ru
    exact call_isinstance (isinstance_false_str (by decide) tty_int sub_str_int) (show EP X pins σ Q (.bool false) { s with toks:=s.toks + 1 } from ⟨.bl false,H,I.tok _,rfl,q⟩)
  | non =>
    cases hx
    cases ru
    exact call_isinstance (isinstance_false_none (by decide) tty_int sub_NoneType_int) (show EP X pins σ Q (.bool false) { s with toks:=s.toks + 1 } from ⟨.bl false,H,I.tok _,rfl,q⟩)
  | ref p =>
    cases ru
    rcases hx with ⟨rfl,xs,hq⟩ | ⟨rfl,xs,hq⟩
    · obtain ⟨its,r',pl,hz⟩:=I.list hq
      obtain ⟨o,ho,hcl,_⟩:=pl.isList
      exact call_isinstance (isinstance_false_list (by decide) tty_int sub_list_int) ⟨⟨o,ho,hcl⟩,(show EP X pins σ Q (.bool false) { s with toks:=s.toks + 1 } from ⟨.bl false,H,I.tok _,rfl,q⟩)⟩
    · obtain ⟨its,r',pl,hz⟩:=I.tuple hq
      obtain ⟨o,ho,hcl,_⟩:=pl
      exact call_isinstance (isinstance_false_tuple (by decide) tty_int sub_tuple_int) ⟨⟨o,ho,hcl⟩,(show EP X pins σ Q (.bool false) { s with toks:=s.toks + 1 } from ⟨.bl false,H,I.tok _,rfl,q⟩)⟩
  | _=>exact False.elim hx
theorem isi_bool:CallR X (.builtin "isinstance") (rIsi X.K .bool):=by
  intro pins s σ H xs us Q I r h
  obtain ⟨x,Tx,rfl,hx,q⟩:=h
  obtain ⟨u,v,rfl,ru,rv⟩:=Vals.two r
  cases rv
  cases x with
  | int i =>
    cases hx
    obtain ⟨t,rfl⟩:=ru
    exact call_isinstance (isinstance_false_int (by decide) tty_bool sub_int_bool) (show EP X pins σ Q (.bool false) { s with toks:=s.toks + 1 } from ⟨.bl false,H,I.tok _,rfl,q⟩)
  | bl k =>
    cases hx
    cases ru
    exact call_isinstance (isinstance_true tty_bool sub_bool_bool) ⟨(show s.TypeIs (.bool k) "bool" from by first | exact typeIs_bool s k | rfl),.bl true,H,I,rfl,q⟩
  | str z =>
    cases hx
    obtain ⟨t,rfl⟩:=ru
    exact call_isinstance (isinstance_false_str (by decide) tty_bool sub_str_bool) (show EP X pins σ Q (.bool false) { s with toks:=s.toks + 1 } from ⟨.bl false,H,I.tok _,rfl,q⟩)
  | non =>
    cases hx
    cases ru
    exact call_isinstance (isinstance_false_none (by decide) tty_bool sub_NoneType_bool) (show EP X pins σ Q (.bool false) { s with toks:=s.toks + 1 } from ⟨.bl false,H,I.tok _,rfl,q⟩)
  | ref p =>
    cases ru
    rcases hx with ⟨rfl,xs,hq⟩ | ⟨rfl,xs,hq⟩
    · obtain ⟨its,r',pl,hz⟩:=I.list hq
      obtain ⟨o,ho,hcl,_⟩:=pl.isList
      exact call_isinstance (isinstance_false_list (by decide) tty_bool sub_list_bool) ⟨⟨o,ho,hcl⟩,(show EP X pins σ Q (.bool false) { s with toks:=s.toks + 1 } from ⟨.bl false,H,I.tok _,rfl,q⟩)⟩
    · obtain ⟨its,r',pl,hz⟩:=I.tuple hq
      obtain ⟨o,ho,hcl,_⟩:=pl
      exact call_isinstance (isinstance_false_tuple (by decide) tty_bool sub_tuple_bool) ⟨⟨o,ho,hcl⟩,(show EP X pins σ Q (.bool false) { s with toks:=s.toks + 1 } from ⟨.bl false,H,I.tok _,rfl,q⟩)⟩
  | _=>exact False.elim hx
theorem isi_str:CallR X (.builtin "isinstance") (rIsi X.K .str):=by
  intro pins s σ H xs us Q I r h
  obtain ⟨x,Tx,rfl,hx,q⟩:=h
  obtain ⟨u,v,rfl,ru,rv⟩:=Vals.two r
  cases rv
  cases x with
  | int i =>
    cases hx
    obtain ⟨t,rfl⟩:=ru
    exact call_isinstance (isinstance_false_int (by decide) tty_str sub_int_str) (show EP X pins σ Q (.bool false) { s with toks:=s.toks + 1 } from ⟨.bl false,H,I.tok _,rfl,q⟩)
  | bl k =>
    cases hx
    cases ru
    exact call_isinstance (isinstance_false_bool (by decide) tty_str sub_bool_str) (show EP X pins σ Q (.bool false) { s with toks:=s.toks + 1 } from ⟨.bl false,H,I.tok _,rfl,q⟩)
  | str z =>
    cases hx
    obtain ⟨t,rfl⟩:=ru
    exact call_isinstance (isinstance_true tty_str sub_str_str) ⟨typeIs_str s z t,.bl true,H,I,rfl,q⟩
  | non =>
    cases hx
    cases ru
    exact call_isinstance (isinstance_false_none (by decide) tty_str sub_NoneType_str) (show EP X pins σ Q (.bool false) { s with toks:=s.toks + 1 } from ⟨.bl false,H,I.tok _,rfl,q⟩)
  | ref p =>
    cases ru
    rcases hx with ⟨rfl,xs,hq⟩ | ⟨rfl,xs,hq⟩
    · obtain ⟨its,r',pl,hz⟩:=I.list hq
      obtain ⟨o,ho,hcl,_⟩:=pl.isList
      exact call_isinstance (isinstance_false_list (by decide) tty_str sub_list_str) ⟨⟨o,ho,hcl⟩,(show EP X pins σ Q (.bool false) { s with toks:=s.toks + 1 } from ⟨.bl false,H,I.tok _,rfl,q⟩)⟩
    · obtain ⟨its,r',pl,hz⟩:=I.tuple hq
      obtain ⟨o,ho,hcl,_⟩:=pl
      exact call_isinstance (isinstance_false_tuple (by decide) tty_str sub_tuple_str) ⟨⟨o,ho,hcl⟩,(show EP X pins σ Q (.bool false) { s with toks:=s.toks + 1 } from ⟨.bl false,H,I.tok _,rfl,q⟩)⟩
  | _=>exact False.elim hx
end
section
variable {X:Cx} {pins:List (Addr × Obj)} {σ:St} {H:Hp} {s:Shared}
theorem Inv.turnedNew {h':Heap} {t':Nat} {ch:List Addr} {T:Addr} {o:HO} (I:Inv X pins σ H s) (hf:∀ b∈ch,FpOk X pins H b) (k:∀ b u,b ∉ ch→s.heap.get? b=some u→h'.get? b=some u)
    (hT:s.heap.objs.size≤T) (new:ObjOk X.prog X.w (upd H T o) h' T o):Inv X pins σ (upd H T o) { s with heap:=h',toks:=t' }:=by
  have hn:H T=none:=I.hok.fresh hT
  have ne:∀ {b:Addr} {u:Obj},s.heap.get? b=some u→b≠T:=fun e z=>Nat.lt_irrefl _ (Nat.lt_of_lt_of_le (Heap.lt_size e) (by rw [z]; exact hT))
  have neC:∀ {b:Addr} {u:HO},H b=some u→b ∉ ch:=fun e hb=>by rw [(hf _ hb).1] at e; cases e
  refine I.step (g':=s.gens) (d':=s.drawn) (ch:=ch) (fun b hb=>?_) (fun b u _ _ hc e _=>k b u hc e) (fun b u _ _ hc e _=>⟨u.slots,k b u hc e⟩) (fun b u _ e n=>by rw [upd_ne (ne e)]; exact n)
    (fun b u hc e=>⟨u,k b u hc e⟩) (fun b xs e=>by rw [upd_ne (ne_of_none e hn)]; exact e) (fun b u v e=>by rw [upd_ne (ne_of_none e hn)]; exact e) (fun b ps e=>⟨#[],by rw [upd_ne (ne_of_none e hn),e]; simp⟩) (fun m hm=>?_) (fun b u e=>?_) I.bare
  · obtain ⟨_,z1,_,z2,z3,z4⟩:=hf b hb
    exact ⟨z2,z1,z3,z4⟩
  · obtain ⟨o',es,ep,ho,r⟩:=hm
    exact ⟨o',es,ep,k _ o' (fun hb=>(hf _ hb).2.1 rfl) ho,r⟩
  · by_cases hb:b=T
    · subst hb
      rw [upd_same] at e
      cases e
      exact new
    · rw [upd_ne hb] at e
      refine (I.hok b u e).stay (fun c v hc q=>k c v ?_ q) (fun c q=>by rw [upd_ne (ne_of_none q hn)]; exact q) fun c xs q=>by rw [upd_ne (ne_of_none q hn)]; exact q
      rcases hc with z | z
      · rw [z]; exact neC e
      · exact neC z
theorem Inv.turnedL {h':Heap} {t':Nat} {ch:List Addr} (I:Inv X pins σ H s) (hf:∀ b∈ch,FpOk X pins H b) (k:∀ b u,b ∉ ch→s.heap.get? b=some u→h'.get? b=some u):Inv X pins σ H { s with heap:=h',toks:=t' }:=by
  have neC:∀ {b:Addr} {u:HO},H b=some u→b ∉ ch:=fun e hb=>by rw [(hf _ hb).1] at e; cases e
  refine I.step (g':=s.gens) (d':=s.drawn) (ch:=ch) (fun b hb=>?_) (fun b u _ _ hc e _=>k b u hc e) (fun b u _ _ hc e _=>⟨u.slots,k b u hc e⟩) (fun _ _ _ _ n=>n)
    (fun b u hc e=>⟨u,k b u hc e⟩) (fun _ _ e=>e) (fun _ _ _ e=>e) (fun b ps e=>⟨#[],by rw [e]; simp⟩) (fun m hm=>?_) (fun b u e=>?_) I.bare
  · obtain ⟨_,z1,_,z2,z3,z4⟩:=hf b hb
    exact ⟨z2,z1,z3,z4⟩
  · obtain ⟨o',es,ep,ho,r⟩:=hm
    exact ⟨o',es,ep,k _ o' (fun hb=>(hf _ hb).2.1 rfl) ho,r⟩
  · refine (I.hok b u e).stay (fun c v hc q=>k c v ?_ q) (fun _ q=>q) fun _ _ q=>q
    rcases hc with z | z
    · rw [z]; exact neC e
    · exact neC z
def Itz (K:PySem.W.Frag) (a b:Addr):It :=
  ⟨fun i H=>∃ xs ys x y,SqL K H a xs∧SqL K H b ys∧xs[i]?=some x∧ys[i]?=some y,
   fun i H p H'=>∃ T x y,p=.ref T∧H T=none∧H'=upd H T (.tup [x,y])∧(∀ xs,SqL K H a xs→xs[i]?=some x)∧(∀ ys,SqL K H b ys→ys[i]?=some y),
   fun i H=>∃ xs ys,SqL K H a xs∧SqL K H b ys∧(xs.length≤i∨ys.length≤i)⟩
abbrev zipSt (z TI TO i1 i2 a b:Addr) (i:Nat) (h:Heap):Prop:=IsZip h z TI TO .none∧IsPair h TI (.ref i1) (.ref i2)∧(∃ u v,IsPair h TO u v)∧h.IsListIter i1 a i∧h.IsListIter i2 b i
theorem turn_zip {P:Program} {w:World} {K:PySem.W.Frag} {elts:List Expr} {k:Nat} {pos:Pos} {z TI TO i1 i2 a b:Addr} (D:ZipApart z TI TO i1 i2 a b) :
    Turn P w K (.Tuple elts k pos) (Itz K a b) [z,TI,TO,i1,i2] z (zipSt z TI TO i1 i2 a b) where
  mem:=by simp
  obj:=fun i h st c hc=>by
    obtain ⟨hz,hTI,⟨u,v,hTO⟩,⟨o1,h1,_,d1⟩,⟨o2,h2,_,d2⟩⟩:=st
    simp only [List.mem_cons,List.not_mem_nil,or_false] at hc
    rcases hc with rfl | rfl | rfl | rfl | rfl
    · exact ⟨_,hz,fun v q=>by have q':Data.fields _=Data.cell v:=q; cases q'⟩
    · exact ⟨_,hTI,fun v q=>by have q':Data.seq _ _=Data.cell v:=q; cases q'⟩
    · exact ⟨_,hTO,fun v q=>by have q':Data.seq _ _=Data.cell v:=q; cases q'⟩
    · exact ⟨_,h1,fun v q=>by rw [d1] at q; cases q⟩
    · exact ⟨_,h2,fun v q=>by rw [d2] at q; cases q⟩
  keep:=fun i h h' st kp=>by
    obtain ⟨hz,hTI,⟨u,v,hTO⟩,h1,h2⟩:=st
    exact ⟨kp z (by simp) _ hz,kp TI (by simp) _ hTI,⟨u,v,kp TO (by simp) _ hTO⟩,h1.at fun o e=>kp i1 (by simp) o e,h2.at fun o e=>kp i2 (by simp) o e⟩
  item:=by
    intro X hP hw hK hc i pins s σ H E I hf st hg
    subst hP hw hK
    obtain ⟨xs,ys,x,y,q1,q2,hx,hy⟩:=hg
    obtain ⟨hz,hTI,⟨u,v,hTO⟩,h1,h2⟩:=st
    obtain ⟨its,r1,p1,z1⟩:=I.list q1
    obtain ⟨its2,r2,p2,z2⟩:=I.list q2
    obtain ⟨ux,hux,rx⟩:=r1.get hx
    obtain ⟨uy,huy,ry⟩:=r2.get hy
    refine wpAny_pyNext_zip_item D hz hTI hTO h1 h2 p1.isList p2.isList (x:=ux) (y:=uy) (by simpa using hux) (by simpa using huy) fun h' a1 a2 a3 a4 a5 a6 hk=>?_
    refine ⟨_,rfl,?_⟩
    have hf4:∀ c∈[z,TO,i1,i2],FpOk X pins H c:=fun c hc=>hf c (by simp only [List.mem_cons,List.not_mem_nil,or_false] at hc ⊢; rcases hc with q | q | q | q <;> simp [q])
    have tup:ObjOk X.prog X.w (upd H s.heap.objs.size (.tup [x,y])) h' s.heap.objs.size (.tup [x,y]):=⟨by show 2≤sizeLine; decide,[ux,uy],.cons rx (.cons ry .nil),_,a5,rfl,_,rfl⟩
    have I1:Inv X pins σ (upd H s.heap.objs.size (.tup [x,y])) { s with heap:=h' } :=
      I.turnedNew (t':=s.toks) hf4 (fun c o hc e=>hk c o (fun q=>hc (by simp [q])) (fun q=>hc (by simp [q])) (fun q=>hc (by simp [q])) (fun q=>hc (by simp [q])) e) (Nat.le_refl _) tup
    have fpn:∀ c∈[z,TI,TO,i1,i2],upd H s.heap.objs.size (.tup [x,y]) c=none:=fun c hc=>by
      obtain ⟨o,e,_⟩:∃ o,s.heap.get? c=some o∧True:=by
        obtain ⟨o1,e1,_⟩:=h1
        obtain ⟨o2,e2,_⟩:=h2
        simp only [List.mem_cons,List.not_mem_nil,or_false] at hc
        rcases hc with rfl | rfl | rfl | rfl | rfl
        · exact ⟨_,hz,trivial⟩
        · exact ⟨_,hTI,trivial⟩
        · exact ⟨_,hTO,trivial⟩
        · exact ⟨_,e1,trivial⟩
        · exact ⟨_,e2,trivial⟩
      rw [upd_ne (Nat.ne_of_lt (Heap.lt_size e))]
      exact (hf c hc).1
    refine wpAny_letOwnedTupleGo_zip (s:={ s with heap:=h' }) a1 fun h2' hz2 sb=>?_
    have zz:=hf z (by simp)
    refine ⟨.ref s.heap.objs.size,_,I1.turned (t':=s.toks) (it:=z) (fun c o hc e=>(sb.2 c hc).trans e) (fpn z (by simp)) zz.2.1 zz.2.2.2.1 zz.2.2.2.2.1 zz.2.2.2.2.2,rfl,⟨_,x,y,rfl,I.hok.fresh (Nat.le_refl _),rfl,fun xs' q=>by rw [I.list_inj q q1]; exact hx,fun ys' q=>by rw [I.list_inj q q2]; exact hy⟩,?_,fpn⟩
    exact ⟨hz2,(sb.2 _ D.TIz).trans (hk _ _ D.TIz D.TITO D.TIi1 D.TIi2 hTI),⟨_,_,(sb.2 _ D.TOz).trans a2⟩,a3.at fun o e=>(sb.2 _ D.i1z).trans e,a4.at fun o e=>(sb.2 _ D.i2z).trans e⟩
  done:=by
    intro X hP hw hK hc i pins s σ H E I hf st hg
    subst hP hw hK
    obtain ⟨xs,ys,q1,q2,hl⟩:=hg
    obtain ⟨hz,hTI,⟨u,v,hTO⟩,h1,h2⟩:=st
    obtain ⟨its,r1,p1,z1⟩:=I.list q1
    obtain ⟨its2,r2,p2,z2⟩:=I.list q2
    have l1:=r1.length
    have l2:=r2.length
    refine wpAny_pyNext_zip_end (I.ok.hd hc) D hz hTI hTO h1 h2 p1.isList p2.isList (by rcases hl with q | q; exact .inl (by simp; omega); exact .inr (by simp; omega)) fun h' hk=>⟨rfl,?_⟩
    have hf4:∀ c∈[z,TO,i1,i2],FpOk X pins H c:=fun c hc=>hf c (by simp only [List.mem_cons,List.not_mem_nil,or_false] at hc ⊢; rcases hc with q | q | q | q <;> simp [q])
    exact I.turnedL (t':=s.toks) hf4 (fun c o hc e=>hk c o (fun q=>hc (by simp [q])) (fun q=>hc (by simp [q])) (fun q=>hc (by simp [q])) (fun q=>hc (by simp [q])) e)
  self:=fun _ _ _ _ _ st h=>wpAny_pyIter_zip st.1 h
def iZip (K:PySem.W.Frag) (ta:TA):TI:=fun σ H R=>ta σ H fun vs H1=>∃ a b,vs=[.ref a,.ref b]∧(∃ xs,SqL K H1 a xs)∧(∃ ys,SqL K H1 b ys)∧R (Itz K a b) H1
theorem pi_zip {a b:Expr} {ta:TA} {p pos tpos:Pos} {elts:List Expr} {k:Nat} (hg:Gl X "zip") (hm:X.mg "zip" = none) (ha:PA X [a,b] ta) (hs:starEach [a,b] X.env=[(false,eval a X.env),(false,eval b X.env)]:=by rfl) (hs2:starEach [b] X.env=[(false,eval b X.env)]:=by rfl) :
    PI X (.Tuple elts k tpos) (.Call (.Name "zip" p) [a,b] [] pos) (iZip X.K ta):=by
  intro pins s σ H R I h
  refine Call_ (ld_blt I hg hm boot_zip (PyProof.Rows.callWith_type1 (thn (ha pos pins s σ H _ I h) fun us s1 ⟨vs,H1,I1,r1,q1⟩=>?_) (by rw [hs,hs2]) (by rw [hs2]; rfl)))
  obtain ⟨l1,l2,e,⟨xs,q1⟩,⟨ys,q2⟩,q⟩:=q1
  subst e
  obtain ⟨u,v,rfl,ru,rv⟩:=Vals.two r1
  cases ru
  cases rv
  obtain ⟨its,t1,p1,z1⟩:=I1.list q1
  obtain ⟨its2,t2,p2,z2⟩:=I1.list q2
  have a1:l1 < s1.heap.objs.size:=by obtain ⟨_,e,_⟩:=p1.isList; exact Heap.lt_size e
  have a2:l2 < s1.heap.objs.size:=by obtain ⟨_,e,_⟩:=p2.isList; exact Heap.lt_size e
  refine call_zip_2 p1.isList p2.isList fun h' hz hTI hTO h1 h2 hsz hk=>?_
  refine wpAny_pyIter_zip (s:={ s1 with heap:=h' }) hz ?_
  refine ⟨_,_,_,_,H1,rfl,I1.kept (t':=s1.toks) hk,turn_zip (zipApart_new a1 a2),⟨hz,hTI,⟨_,_,hTO⟩,h1,h2⟩,fun c hc=>?_,q⟩
  simp only [List.mem_cons,List.not_mem_nil,or_false] at hc
  have up:∀ k,FpOk X pins H1 (s1.heap.objs.size + k):=fun k=>I1.fpOk (Nat.le_add_right _ k) (I1.hok.fresh (Nat.le_add_right _ k))
  rcases hc with rfl | rfl | rfl | rfl | rfl
  · exact up 4
  · exact up 2
  · exact up 3
  · exact up 0
  · exact up 1
end
end L2
namespace L2
open PySem PySem.Spec PyProof.Rows
theorem inX_K (X:Cx) (scope:Scope) (N:List Str) (cs:List (Str × Addr)) (C:Addr) (s:Shared) (H:Hp) (fp:List Addr):(inX X scope N cs C s H fp).K=X.K:=rfl
theorem PE.to {X:Cx} {e:Expr} {t t':TE} (h:PE X e t) (q:t=t'):PE X e t':=q ▸ h
theorem PG.to {X:Cx} {e:Expr} {t t':TG} (h:PG X e t) (q:t=t'):PG X e t':=q ▸ h
theorem compOk {X:Cx} {scope:Scope} {N:List Str} {ix:List (Option Nat)} (h1:scope.kind=.function:=by rfl) (h2:(scope.names.all fun y=>scope.names.lookup y.1 == some y.2)=true:=by rfl)
    (h3:(scope.names.all fun y=>y.2 != .free || (X.env.kindOf y.1 == some .cell || X.env.kindOf y.1 == some .free))=true:=by rfl) (h4:ix.length=N.length:=by rfl)
    (h5:((ix.zip N).all fun p=>match p.1 with | none=>true | some j=>X.N[j]? == some p.2 && scope.names.lookup p.2 == some .free)=true:=by rfl):CompOk X scope N ix where
  kind:=h1
  names:=fun y hy=>by simpa using List.all_eq_true.mp h2 y hy
  free:=fun y hy e=>by
    have:=List.all_eq_true.mp h3 y hy
    rw [e] at this
    simpa using this
  len:=h4
  cap := fun i=>by
    split
    · rename_i j x e1 e2
      have hm:(some j,x)∈ix.zip N:=List.mem_of_getElem? (i:=i) (by rw [List.getElem?_zip_eq_some]; exact ⟨e1,e2⟩)
      have:=List.all_eq_true.mp h5 _ hm
      simpa using this
    · trivial
theorem compL {K:PySem.W.Frag} {a:Addr} {xs:List V} {ix:List (Option Nat)} {g:TG} {te:TE} {σ:St} {H:Hp} {Q:VK} (Pv:Nat→List V→Hp→Prop) (h0:Pv 0 [] H) (hl:∀ i ys H,i≤xs.length→Pv i ys H→SqL K H a xs∧ys.length=i) (hz:xs.length≤sizeLine)
    (hs:∀ i x ys H (R:VK),xs[i]?=some x→Pv i ys H→(∀ y H3,Pv (i + 1) (ys ++ [y]) H3→R y H3)→g x (capS ix σ) H fun σ2 H2=>StLe (capS ix σ) σ2∧te σ2 H2 R)
    (hd:∀ ys H,Pv xs.length ys H→∀ l,H l=none→Q (.ref l) (upd H l (.lst ys))) :
    CompB (Itl K a) ix g te σ H Q:=by
  refine ⟨fun i m ys H=>m=xs.length - i∧i≤xs.length∧Pv i ys H,⟨xs.length,by simp,Nat.zero_le _,h0⟩,?_⟩
  rintro i m ys H ⟨rfl,hi,p⟩
  obtain ⟨q,ql⟩:=hl i ys H hi p
  by_cases hlt:i < xs.length
  · refine .inr ⟨⟨xs,xs[i],q,by simp [hlt]⟩,by omega,fun x H' y=>?_⟩
    obtain ⟨e,y⟩:=y
    subst e
    exact hs i x ys _ _ (y xs q) p fun v H3 z2=>⟨xs.length - (i + 1),by omega,rfl,hlt,z2⟩
  · have e:i=xs.length:=by omega
    subst e
    exact .inl ⟨⟨xs,q,Nat.le_refl _⟩,by omega,hd ys H p⟩
theorem compR {lo:Int} {n:Nat} {ix:List (Option Nat)} {g:TG} {te:TE} {σ:St} {H:Hp} {Q:VK} (Pv:Nat→List V→Hp→Prop) (h0:Pv 0 [] H) (hl:∀ i ys H,i≤n→Pv i ys H→ys.length=i) (hz:n≤sizeLine)
    (hs:∀ i ys H (R:VK),i < n→Pv i ys H→(∀ y H3,Pv (i + 1) (ys ++ [y]) H3→R y H3)→g (.int (lo + i)) (capS ix σ) H fun σ2 H2=>StLe (capS ix σ) σ2∧te σ2 H2 R)
    (hd:∀ ys H,Pv n ys H→∀ l,H l=none→Q (.ref l) (upd H l (.lst ys))) :
    CompB (Itr lo n) ix g te σ H Q:=by
  refine ⟨fun i m ys H=>m=n - i∧i≤n∧Pv i ys H,⟨n,by simp,Nat.zero_le _,h0⟩,?_⟩
  rintro i m ys H ⟨rfl,hi,p⟩
  have ql:=hl i ys H hi p
  by_cases hlt:i < n
  · refine .inr ⟨hlt,by omega,fun x H' y=>?_⟩
    obtain ⟨e,y⟩:=y
    subst e y
    exact hs i ys _ _ hlt p fun v H3 z2=>⟨n - (i + 1),by omega,rfl,hlt,z2⟩
  · have e:i=n:=by omega
    subst e
    exact .inl ⟨Nat.le_refl _,by omega,hd ys H p⟩
theorem compZ {K:PySem.W.Frag} {a b:Addr} {xs zs:List V} {ix:List (Option Nat)} {g:TG} {te:TE} {σ:St} {H:Hp} {Q:VK} (Pv:Nat→List V→Hp→Prop) (h0:Pv 0 [] H) (hlen:xs.length=zs.length) (hl:∀ i ys H,i≤xs.length→Pv i ys H→SqL K H a xs∧SqL K H b zs∧ys.length=i) (hz:xs.length≤sizeLine)
    (hs:∀ i x z ys H T (R:VK),xs[i]?=some x→zs[i]?=some z→Pv i ys H→H T=none→(∀ y H3,Pv (i + 1) (ys ++ [y]) H3→R y H3)→g (.ref T) (capS ix σ) (upd H T (.tup [x,z])) fun σ2 H2=>StLe (capS ix σ) σ2∧te σ2 H2 R)
    (hd:∀ ys H,Pv xs.length ys H→∀ l,H l=none→Q (.ref l) (upd H l (.lst ys))) :
    CompB (Itz K a b) ix g te σ H Q:=by
  refine ⟨fun i m ys H=>m=xs.length - i∧i≤xs.length∧Pv i ys H,⟨xs.length,by simp,Nat.zero_le _,h0⟩,?_⟩
  rintro i m ys H ⟨rfl,hi,p⟩
  obtain ⟨q,q2,ql⟩:=hl i ys H hi p
  by_cases hlt:i < xs.length
  · refine .inr ⟨⟨xs,zs,xs[i],zs[i]'(by omega),q,q2,by simp [hlt],by simp⟩,by omega,fun x H' y=>?_⟩
    obtain ⟨T,x,z,rfl,hT,rfl,y1,y2⟩:=y
    exact hs i x z ys _ T _ (y1 xs q) (y2 zs q2) p hT fun v H3 z2=>⟨xs.length - (i + 1),by omega,rfl,hlt,z2⟩
  · have e:i=xs.length:=by omega
    subst e
    exact .inl ⟨⟨xs,zs,q,q2,.inl (Nat.le_refl _)⟩,by omega,hd ys H p⟩
theorem same_upd {H:Hp} {T:Addr} {o:HO} (h:H T=none):Same H (upd H T o):=fun b u e=>by rw [upd_ne (ne_of_none e h)]; exact e
def But (B:Addr) (H H':Hp):Prop:=∀ c o,H c=some o→c≠B→H' c=some o
theorem Same.but {B:Addr} {H H':Hp} (h:Same H H'):But B H H':=fun c o e _=>h c o e
theorem But.refl (B:Addr) (H:Hp):But B H H:=fun _ _ e _=>e
theorem But.trans {B:Addr} {H H1 H2:Hp} (a:But B H H1) (b:But B H1 H2):But B H H2:=fun c o e n=>b c o (a c o e n) n
theorem But.upd {B:Addr} {H:Hp} {o:HO}:But B H (upd H B o):=fun c u e n=>by rw [upd_ne n]; exact e
theorem But.free {B l:Addr} {H H':Hp} (h:But B H H') (n:H' l=none) (ne:l≠B):H l=none:=by
  cases q:H l with
  | none=>rfl
  | some o=>rw [h l o q ne] at n; cases n
theorem take_succ' {α:Type} {xs:List α} {i:Nat} {x:α} (h:xs[i]?=some x):xs.take (i + 1)=xs.take i ++ [x]:=by
  rw [List.take_add_one,h]
  rfl
theorem getI_map {ns:List Int} {i:Nat} {x:V} (h:(ns.map V.int)[i]?=some x):∃ n,ns[i]?=some n∧x=.int n:=by
  rw [List.getElem?_map] at h
  cases e:ns[i]? with
  | none=>rw [e] at h; cases h
  | some n=>rw [e] at h; exact ⟨n,rfl,(Option.some.inj h).symm⟩
theorem small1000' {n:Nat} (h:n≤1000):n≤sizeLine:=Nat.le_trans h (by decide)
structure FnAt (K:PySem.W.Frag) (mg:Str→Option Value) (x qual:Str) (st:Stmt) (dV:Value) (f:Addr) (fd:FuncData):Prop where
  ex:∃ (oc:Value) (od:Option Addr) (kV doc pm:Value) (an:Option Addr) (cdv ct:Value) (osl:Array (Option Value)),
    fd=PySem.W.fnOf x qual (defArgs st) (defBody st) (defScope st) dV kV doc pm an cdv ct∧K.lookup f=some ⟨oc,od,.func fd,osl⟩∧PySem.W.codeIn K cdv qual=true
  kp:PySem.W.keepIn K (.ref f)=true
  mg:mg x=some (.ref f)
section
variable {P:Program} {w:World} {K:PySem.W.Frag} {mg:Str→Option Value} {base:Heap}
theorem FnAt.ok {x qual:Str} {st:Stmt} {dV:Value} {f:Addr} {fd:FuncData} {N ps:List Str} {k:Nat} {sp:Sp} (F:FnAt K mg x qual st dV f fd) (S:FnScope N ps (defScope st)) (len:∀ vs H Q E,sp vs H Q E→vs.length=ps.length)
    (hbody:∀ (cdv:Value) (A:Around) (outer:List Env) (s:Shared) (H:Hp) (vs:List V) (Q:VK) (E:XK),Room k (A.deeper (envOfC qual (defScope st) s.heap.objs.size f cdv))→sp vs H Q E →
      ∃ t,PSs (cxOf CX0 P w K mg base N qual (defScope st) f cdv A outer s H E).nox (defBody st) t∧t { nx:=fun _ H'=>Q .non H',rt:=Q } (start N vs) H):FnOk P w K mg base CX0 (k + 1) f fd ps sp:=by
  obtain ⟨oc,od,kV,doc,pm,an,cdv,ct,osl,rfl,lk,hcd⟩:=F.ex
  refine fn_of lk hcd S len fun A outer s H vs Q E hr hsp=>?_
  obtain ⟨t,h,q⟩:=hbody cdv A outer s H vs Q E hr hsp
  exact ⟨t,h.nox,q⟩
theorem FnAt.binds {x qual:Str} {st:Stmt} {f:Addr} {fd:FuncData} {ps:List Str} (F:FnAt K mg x qual st .none f fd)
    (h:∀ (kV doc pm:Value) (an:Option Addr) (cdv ct:Value) (us:List Value),us.length=ps.length→bindArgs (PySem.W.fnOf x qual (defArgs st) (defBody st) (defScope st) .none kV doc pm an cdv ct) ⟨us,[]⟩=pure (ps.zip us)):Binds K fd ps []:=by
  obtain ⟨oc,od,kV,doc,pm,an,cdv,ct,osl,rfl,lk,hcd⟩:=F.ex
  exact .all (h kV doc pm an cdv ct)
theorem fnAt_mk {x qual:Str} {st:Stmt} {dV:Value} {f:Addr} {oc:Value} {od an:Option Addr} {osl:Array (Option Value)} {kV doc pm cdv ct:Value} (m:mg x=some (.ref f)) (l:K.lookup f=some ⟨oc,od,.func (PySem.W.fnOf x qual (defArgs st) (defBody st) (defScope st) dV kV doc pm an cdv ct),osl⟩)
    (c:PySem.W.codeIn K cdv qual=true) (k:PySem.W.keepIn K (.ref f)=true):FnAt K mg x qual st dV f (PySem.W.fnOf x qual (defArgs st) (defBody st) (defScope st) dV kV doc pm an cdv ct):=⟨⟨oc,od,kV,doc,pm,an,cdv,ct,osl,rfl,l,c⟩,k,m⟩
end
end L2
namespace L2
open PySem PySem.Spec PyProof.Rows
def CompBI (J:It) (ix:List (Option Nat)) (g:TG) (tt:TT) (te:TE) (σ:St) (H1:Hp) (Q:VK):Prop:=∃ W:Nat→Nat→List V→Hp→Prop,(∃ m,W 0 m [] H1)∧∀ i m ys H,W i m ys H →
  (J.stop i H∧ys.length≤sizeLine∧∀ l,H l=none→Q (.ref l) (upd H l (.lst ys))) ∨
  (J.go i H∧ys.length < sizeLine∧∀ x H',J.yld i H x H'→g x (capS ix σ) H' fun σ2 H2=>StLe (capS ix σ) σ2∧tt σ2 H2 fun b H3=>match b with
    | true=>te σ2 H3 fun y H4=>∃ m',m' < m∧W (i + 1) m' (ys ++ [y]) H4
    | false=>∃ m',m' < m∧W (i + 1) m' ys H3)
def tCompI (wi:TI) (ix:List (Option Nat)) (g:TG) (tt:TT) (te:TE):TE:=fun σ H Q=>wi σ H fun J H1=>CompBI J ix g tt te σ H1 Q
section
variable {prog:Program} {w:World} {A:Around} {R:Result→Shared→Prop} {s:Shared}
theorem comp_loopI {elt target iter ct:Expr} {scope:Scope} {pos:Pos} {it acc:Value} {env:Env} (I:Nat→Shared→Prop)
    (turn : ∀ n s,I n s→wpAny (model prog w) A (pyNext it) (fun r s₁=>match r with
      | none=>R (.ok .next) s₁
      | some v=>wpAny (model prog w) A (letOwnedTupleGo target it v) (fun _ s₁'=>wpAny (model prog w) A (assign target env v) (fun _ s₂=>wpAny (model prog w) A (isTrue ct env (eval ct env)) (fun b s₂'=>match b with
          | true=>wpAny (model prog w) A (eval elt env) (fun x s₃=>wpAny (model prog w) A (call (.builtin "list.append") [acc,x]) (fun _ s₄=>∃ m,m < n∧I m s₄) (fun _ _=>False) s₃) (fun _ _=>False) s₂'
          | false=>∃ m,m < n∧I m s₂') (fun _ _=>False) s₂) (fun _ _=>False) s₁') (fun _ _=>False) s₁) (fun _ _=>False) s)
    (n:Nat) (h:I n s) :
    codeAny (model prog w) A (.compLoop (.ListComp elt [⟨target,iter,[ct],0⟩] scope pos) 0 it acc env) R s:=by
  refine codeAny_loop rfl I (fun n s hI=>?_) n h
  show wpAny _ _ ((compTurn (.ListComp elt [⟨target,iter,[ct],0⟩] scope pos) 0 it acc env).onRaise (fun x=>do noteFrame x env; theTreesLotGoes x)) _ _ s
  refine wpAny_noted ?_
  rw [compTurn_list]
  refine wpAny_bind (wpAny_standAt (wpAny_bind (wpAny_mono (turn n s hI) (fun r s₁ h₁=>?_) fun _ _ h'=>h'.elim)))
  cases r with
  | none=>exact wpAny_pure h₁
  | some v =>
    refine wpAny_bind (wpAny_mono h₁ (fun _ s₁' h₁'=>?_) fun _ _ h'=>h'.elim)
    refine wpAny_bind (wpAny_mono h₁' (fun _ s₂ h₂=>?_) fun _ _ h'=>h'.elim)
    simp only [List.forIn_cons,List.forIn_nil,if_true]
    refine wpAny_bind (wpAny_bind (wpAny_bind (wpAny_mono h₂ (fun b s₃ h₃=>wpAny_pure (wpAny_pure ?_)) fun _ _ h'=>h'.elim)))
    cases b with
    | false=>exact wpAny_pure ⟨rfl,h₃⟩
    | true =>
      refine wpAny_bind (wpAny_bind (wpAny_mono h₃ (fun x s₄ h₄=>wpAny_bind (wpAny_mono h₄ (fun _ s₅ h₅=>wpAny_pure (wpAny_pure ⟨rfl,h₅⟩)) fun _ _ h'=>h'.elim)) fun _ _ h'=>h'.elim))
end
section
variable {X:Cx} {pins:List (Addr × Obj)} {σ:St} {H:Hp} {s:Shared}
set_option maxHeartbeats 1000000 in
theorem comp_runI {elt tg iter ct:Expr} {scope:Scope} {pos pos':Pos} {N:List Str} {ix:List (Option Nat)} {wi:TI} {g:TG} {te:TE} {tt:TT} {Q:VK} {use:Option (Value→Sem Unit)} {Qv:Value→Shared→Prop}
    (hc:X.calm=true) (ok:CompOk X scope N ix) (hi:PI X tg iter wi)
    (hg:∀ cs C s H fp,PG (inX X scope N cs C s H fp) tg g) (hT:∀ cs C s H fp,PT (inX X scope N cs C s H fp) ct tt) (he:∀ cs C s H fp,PE (inX X scope N cs C s H fp) elt te)
    (hs:∀ x,foldedSetIterable iter X.env x=pure x) (I:Inv X pins σ H s) (h:tCompI wi ix g tt te σ H Q)
    (fin:∀ (D C:Addr) (m:Str→Option Value) (ys:List V) (H':Hp) (s':Shared),Inv X pins σ (upd H' D (.lst ys)) s'→s'.heap.Ns C m→FpOk X pins (upd H' D (.lst ys)) C→Q (.ref D) (upd H' D (.lst ys)) →
      compPost (model X.prog X.w) X.A X.xe use Qv (.ref D) C (.ok .next) s') :
    wpAny (model X.prog X.w) X.A (comprehension (.ListComp elt [⟨tg,iter,[ct],0⟩] scope pos) scope X.env pos' (newList []) false (eval iter X.env) use) Qv X.xe s:=by
  have hfree:∀ y∈scope.names,y.2=.free→∃ c,X.env.cells.lookup y.1=some c:=fun y hy e=>I.ok.has y.1 (ok.free y hy e)
  refine wpAny_comprehension_free (cl:=closL X.env scope.names []) rfl hs (closureFor_of hfree) ok.kind (fun x hx hl=>by have:=ok.names x hx; rw [hl] at this; exact this) ?_
  refine thn (hi pins s σ H _ I h) fun v s1 h1=>thn h1 fun itv s2 h2=>?_
  obtain ⟨it,fp,tn,J,H2,rfl,I2,T,st2,f2,W,⟨m0,w0⟩,turn⟩:=h2
  refine wpAny_newObj_type ?_ (by show 0≤sizeLine; decide)
  refine newEnv_block ?_
  dsimp only
  generalize hh3:s2.heap.push { cls:=.type "list",dict:=none,data:=.seq ([]:List Value).toArray }=h3
  have hC:h3.objs.size=s2.heap.objs.size + 1:=by rw [← hh3,Heap.size_push]
  generalize hh4:pushCells (h3.push { cls:=.type "dict",data:=.dict #[] }) scope.names=h4
  generalize hcs:cellsFrom (h3.objs.size + 1) scope.names (closL X.env scope.names [])=cs
  have up3:∀ b o,h3.get? b=some o→h4.get? b=some o:=fun b o e=>by
    rw [← hh4]
    exact pushCells_keeps _ _ b o (Heap.get?_push_of_some _ e)
  have up:∀ b o,s2.heap.get? b=some o→h4.get? b=some o:=fun b o e=>up3 b o (by rw [← hh3]; exact Heap.get?_push_of_some _ e)
  have hD4:h4.get? s2.heap.objs.size=some { cls:=.type "list",data:=.seq ([]:List Value).toArray }:=up3 _ _ (by rw [← hh3]; exact Heap.get?_push_size _ rfl)
  have hNs:h4.Ns h3.objs.size (fun _=>none):=by
    rw [← hh4]
    exact (Heap.Ns.new h3 (.type "dict")).keeps (pushCells_keeps _ _)
  have hclE:∀ x c,(closL X.env scope.names []).lookup x=some c→X.env.cells.lookup x=some c:=fun x c e=>by
    rcases closL_look scope.names [] hfree e with q | q
    · simp at q
    · exact q
  have hclLt:∀ x c,(closL X.env scope.names []).lookup x=some c→c < s2.heap.objs.size:=fun x c e=>by
    obtain ⟨v,q⟩:=I2.cell x c (hclE x c e)
    exact q.lt
  have CI:CellsIn h4 (h3.objs.size + 1) (fun x=>(x,NameKind.cell)∈scope.names) (closL X.env scope.names []) cs:=by
    have q:=cellsFrom_in (lo:=h3.objs.size + 1) (nm:=fun x=>(x,NameKind.cell)∈scope.names) (cl:=closL X.env scope.names []) (fun x c e=>hlt3 (hclLt x c e) hC) scope.names (h3.push { cls:=.type "dict",data:=.dict #[] }) (closL X.env scope.names [])
      (fun y hy e=>by obtain ⟨a,b⟩:=y; cases e; exact hy) (by rw [Heap.size_push]; exact Nat.le_refl _)
      ⟨fun x c e=>.inl e,fun x y c hl e _=>(hno3 (hclLt x c e) hC hl).elim⟩
    rw [Heap.size_push,hcs,hh4] at q
    exact q
  have csOld:∀ x c,cs.lookup x=some c→X.env.cells.lookup x=some c∨(h3.objs.size + 1≤c∧h4.IsCell c none∧(x,NameKind.cell)∈scope.names):=fun x c e=>by
    rcases CI.look x c e with q | q
    · exact .inl (hclE x c q)
    · exact .inr q
  have capLook:∀ x,scope.names.lookup x=some .free→∃ c,cs.lookup x=some c∧X.env.cells.lookup x=some c:=fun x hx=>by
    have hm:(x,NameKind.free)∈scope.names:=mem_lookup hx
    obtain ⟨c0,e0⟩:=closL_has (env:=X.env) scope.names [] (.inl hm)
    have q:=PySem.W.cellsFrom_some scope.names (h3.objs.size + 1) (closL X.env scope.names []) (x:=x) (.inr (by rw [e0]; rfl))
    rw [hcs] at q
    obtain ⟨c,e⟩:=Option.isSome_iff_exists.mp q
    refine ⟨c,e,?_⟩
    rcases csOld x c e with z | ⟨_,_,z⟩
    · exact z
    · have z2:=ok.names _ z
      rw [hx] at z2
      cases z2
  have below:∀ b∈fp,b < s2.heap.objs.size:=fun b hb=>by
    obtain ⟨o,e,_⟩:=T.obj 0 _ st2 b hb
    exact Heap.lt_size e
  have ok':(inX X scope N cs h3.objs.size s2 H2 fp).Ok:=by
    refine ⟨I2.mod,ok.kind,I2.ok.glob,I2.ok.blt,by show s2.heap.objs.size≤h3.objs.size; omega,?_,?_,?_,I2.ok.hd,I2.ok.frames,.inl rfl,?_,I2.bs,Nat.le_trans I2.ok.bsz I2.sz,?_,?_,I2.stack,I2.stkFree⟩
    · intro x y c e1 e2
      have e1:cs.lookup x=some c:=e1
      have e2:cs.lookup y=some c:=e2
      rcases csOld x c e1 with q1 | ⟨q1,_,_⟩
      · rcases csOld y c e2 with q2 | ⟨q2,_,_⟩
        · exact I2.ok.inj x y c q1 q2
        · obtain ⟨v,z⟩:=I2.cell x c q1
          exact (hno3 z.lt hC q2).elim
      · exact CI.inj x y c q1 e1 e2
    · intro x hx
      have hx:(relabel scope X.env).names.lookup x=some .cell∨(relabel scope X.env).names.lookup x=some .free:=hx
      show ∃ c,cs.lookup x=some c
      have q:scope.names.lookup x=some .cell∨scope.names.lookup x=some .free:=by
        rcases hx with hx | hx
        · rcases lookup_relabel hx with q | ⟨_,q⟩
          · exact .inl q
          · exact .inr q
        · rcases lookup_relabel hx with q | ⟨z,q⟩
          · exact .inr q
          · cases z
      rcases q with q | q
      · have z:=PySem.W.cellsFrom_some scope.names (h3.objs.size + 1) (closL X.env scope.names []) (x:=x) (.inl q)
        rw [hcs] at z
        exact Option.isSome_iff_exists.mp z
      · obtain ⟨c,e,_⟩:=capLook x q
        exact ⟨c,e⟩
    · intro x c hf e
      have hf:(scope.names.lookup x == some .cell)=true:=hf
      have hf':scope.names.lookup x=some .cell:=by simpa using hf
      have e:cs.lookup x=some c:=e
      show s2.heap.objs.size≤c
      rcases CI.look x c e with q | ⟨q,_,_⟩
      · -- an own cell hides what is closed over: but the name would be free too
        exfalso
        have key:∀ (names:List (Str × NameKind)) (acc:List (Str × Addr)),(x,NameKind.free) ∉ names→acc.lookup x=none→(closL X.env names acc).lookup x=none:=by
          intro names
          induction names with
          | nil=>intro acc _ h; exact h
          | cons p r ih =>
            obtain ⟨n,k⟩:=p
            intro acc hm h
            unfold closL
            have hm':(x,NameKind.free) ∉ r:=fun z=>hm (List.mem_cons_of_mem _ z)
            split
            · rename_i hk
              refine ih _ hm' ?_
              rw [List.lookup_cons]
              cases hb:x == n with
              | true =>
                have e1:x=n:=beq_iff_eq.mp hb
                have e2:k=.free:=by simpa using hk
                exact absurd (by rw [e1,e2]; exact List.mem_cons_self) hm
              | false=>exact h
            · exact ih _ hm' h
        rw [key scope.names [] (fun z=>by have:=ok.names _ z; rw [hf'] at this; cases this) rfl] at q
        cases q
      · omega
    · intro b hb
      refine ⟨fun z=>?_,fun x c e z=>?_⟩
      · have z:b=h3.objs.size:=z
        exact hno4 (below b hb) hC z
      · have e:cs.lookup x=some c:=e
        rcases csOld x c e with q | ⟨q,_,_⟩
        · exact (f2 b hb).2.2.2.2.1 x c q z
        · exact hno5 (below b hb) hC q z
    · intro b o e hb
      rcases (f2 b hb).2.2.2.1 with z | z
      · exact I2.ok.noex b o e z
      · have z1:=Heap.lt_size e
        have z2:=I2.ok.bsz
        exact absurd (Nat.lt_of_lt_of_le z1 (Nat.le_trans z2 z)) (Nat.lt_irrefl _)
    · intro b hb z
      rcases List.mem_cons.mp (I2.stkSub b z) with q | q
      · exact (f2 b hb).2.1 q
      · exact (f2 b hb).2.2.1 q
  have fresh:∀ a,s2.heap.objs.size≤a→H2 a=none:=fun a ha=>I2.hok.fresh ha
  have hok4:HOk X.prog X.w H2 h4:=I2.hok.kept up
  have I4 : Inv (inX X scope N cs h3.objs.size s2 H2 fp) [(s2.heap.objs.size,{ cls:=.type "list",data:=.seq ([]:List Value).toArray })] (capS ix σ) H2 { s2 with heap:=h4 }:=by
    refine ⟨ok',rfl,I2.bare,Un.kept up,⟨_,hNs,fun i x v e1 e2 e3=>?_⟩,fun x c e=>?_,fresh _ (by show s2.heap.objs.size≤h3.objs.size; omega),fun x c e=>?_,fun p hp=>?_,hok4,?_⟩
    · have e1:N[i]?=some x:=e1
      have e2':(capS ix σ)[i]?=some (some v):=e2
      unfold capS at e2'
      rw [List.getElem?_map] at e2'
      cases hix:ix[i]? with
      | none=>rw [hix] at e2'; cases e2'
      | some o =>
        rw [hix] at e2'
        cases o with
        | none=>cases e2'
        | some j =>
          have e2'':((σ[j]?).bind id)=some v:=Option.some.inj e2'
          have hσ:σ[j]?=some (some v):=by
            cases q:σ[j]? with
            | none=>rw [q] at e2''; cases e2''
            | some o=>rw [q] at e2''; rw [show o=some v from e2'']
          have hcap:=ok.cap i
          rw [hix,e1] at hcap
          obtain ⟨hX,hfr⟩:=hcap
          obtain ⟨c,ec,eX⟩:=capLook x hfr
          obtain ⟨m,hn,hl⟩:=I2.loc
          have hk:=ok.free _ (mem_lookup hfr) rfl
          have hk:X.env.kindOf x=some .cell∨X.env.kindOf x=some .free:=hk
          obtain ⟨u,r,l⟩:=hl j x v hX hσ (by rcases hk with z | z; exact .inr (.inl z); exact .inr (.inr z))
          refine ⟨u,r,.inr ⟨relabel_free hfr,c,ec,?_⟩⟩
          rcases l with ⟨z,_⟩ | ⟨_,c',e',z⟩
          · rcases hk with y | y <;> (rw [z] at y; cases y)
          · rw [eX] at e'
            cases e'
            exact z.keeps up
    · have e:cs.lookup x=some c:=e
      rcases csOld x c e with q | ⟨_,q,_⟩
      · obtain ⟨v,z⟩:=I2.cell x c q
        exact ⟨v,z.keeps up⟩
      · exact ⟨none,q⟩
    · have e:cs.lookup x=some c:=e
      rcases csOld x c e with q | ⟨q,_,_⟩
      · exact I2.freeC x c q
      · exact fresh c (by omega)
    · have hp:p∈[(s2.heap.objs.size,({ cls:=.type "list",data:=.seq ([]:List Value).toArray }:Obj))]:=hp
      obtain rfl:=List.mem_singleton.mp hp
      refine ⟨hD4,fresh _ (Nat.le_refl _),?_,fun z=>?_,fun v z=>?_⟩
      · show s2.heap.objs.size≠h3.objs.size
        omega
      · have z:s2.heap.objs.size∈frs X.stack:=z
        obtain ⟨_,o,ho,_⟩:=I2.stack.mem z
        exact absurd (Heap.lt_size ho) (Nat.lt_irrefl _)
      · have z':Data.seq _ _=Data.cell v:=z
        cases z'
    · unfold capS
      rw [List.length_map]
      exact ok.len
  have stat:∀ {k:Nat} {its:List Value} {H':Hp},(∀ b∈fp,H' b=none)→∀ b∈fp,FpOk (inX X scope N cs h3.objs.size s2 H2 fp) [(s2.heap.objs.size,{ cls:=.type "list",data:=.seq its.toArray k })] H' b:=fun {k its H'} hn b hb=>by
    obtain ⟨h1,h2⟩:=ok'.exf b hb
    refine ⟨hn b hb,h1,ok'.exfs b hb,.inl hb,h2,fun p hp z=>?_⟩
    have hp:p∈[(s2.heap.objs.size,({ cls:=.type "list",data:=.seq its.toArray k }:Obj))]:=hp
    obtain rfl:=List.mem_singleton.mp hp
    have z:s2.heap.objs.size=b:=z
    exact hno6 (below b hb) z
  have loop : codeAny (model X.prog X.w) X.A (.compLoop (.ListComp elt [⟨tg,iter,[ct],0⟩] scope pos) 0 (.ref it) (.ref s2.heap.objs.size) (inEnv scope cs h3.objs.size X.env))
      (compPost (model X.prog X.w) X.A X.xe use Qv (.ref s2.heap.objs.size) h3.objs.size) { s2 with heap:=h4 }:=by
    refine comp_loopI (fun n s'=>∃ (i:Nat) (ys:List V) (its:List Value) (k:Nat) (H':Hp),Inv (inX X scope N cs h3.objs.size s2 H2 fp) [(s2.heap.objs.size,{ cls:=.type "list",data:=.seq its.toArray k })] (capS ix σ) H' s'∧tn i s'.heap∧(∀ b∈fp,H' b=none)∧Vals ys its∧W i n ys H') ?_ m0
      ⟨0,[],[],0,H2,I4,T.keep 0 _ _ st2 (fun b _ o e=>up b o e),fun b hb=>(f2 b hb).1,.nil,w0⟩
    rintro n s5 ⟨i,ys,its,k,H5,I5,st5,fr5,v5,w5⟩
    rcases turn i n ys H5 w5 with ⟨stop,hz,q⟩ | ⟨go,hz,step⟩
    · refine thn (T.done (inX X scope N cs h3.objs.size s2 H2 fp) rfl rfl rfl hc i _ s5 _ H5 _ I5 (stat fr5) st5 stop) fun r s6 ⟨hr,I6⟩=>?_
      subst hr
      dsimp only
      obtain ⟨eD,nD,_,_,_⟩:=I6.pin _ (List.mem_append_right _ (List.mem_singleton.mpr rfl))
      have eD:s6.heap.get? s2.heap.objs.size=some { cls:=.type "list",data:=.seq its.toArray k }:=eD
      have nD:H5 s2.heap.objs.size=none:=nD
      obtain ⟨mC,hnC,_⟩:=I6.loc
      have hnC:s6.heap.Ns h3.objs.size mC:=hnC
      have fC:H5 h3.objs.size=none:=I6.free
      have un6:Un (frs X.stack) fp H2 H5 s2.heap s6.heap:=I6.base
      have ne2:∀ {b:Addr} {o:Obj},s2.heap.get? b=some o→b≠s2.heap.objs.size:=fun e z=>hno6 (Heap.lt_size e) z.symm
      have neH:∀ {b:Addr} {o:HO},H2 b=some o→b≠s2.heap.objs.size:=fun e=>ne_of_none e (fresh _ (Nat.le_refl _))
      have un7:Un (frs X.stack) fp H2 (upd H5 s2.heap.objs.size (.lst ys)) s2.heap s6.heap :=
        ⟨un6.keep,un6.slot,fun b o e n hx=>by rw [upd_ne (ne2 e)]; exact un6.free b o e n hx,un6.there,fun b xs e=>by rw [upd_ne (neH e)]; exact un6.tups b xs e,fun b o u e=>by rw [upd_ne (neH e)]; exact un6.frzs b o u e,
          fun b ps e=>by rw [upd_ne (neH e)]; exact un6.tbls b ps e⟩
      have hok7:HOk X.prog X.w (upd H5 s2.heap.objs.size (.lst ys)) s6.heap:=fun b u e=>by
        by_cases hb:b=s2.heap.objs.size
        · subst hb
          rw [upd_same] at e
          cases e
          exact ⟨hz,its,k,v5,eD⟩
        · rw [upd_ne hb] at e
          exact (I6.hok b u e).stay (fun _ _ _ q=>q) (fun c q=>by rw [upd_ne (ne_of_none q nD)]; exact q) fun c xs q=>by rw [upd_ne (ne_of_none q nD)]; exact q
      have I7:Inv X pins σ (upd H5 s2.heap.objs.size (.lst ys)) s6:=I2.call' I6.os un7 hok7 I6.bare fun b hb=>by
        obtain ⟨_,z1,_,z2,z3,z4⟩:=f2 b hb
        exact ⟨z2,z1,z3,z4⟩
      refine fin _ _ mC ys H5 s6 I7 hnC ?_ (q _ nD)
      exact I2.fpOk (by rw [hC]; exact Nat.le_succ _) (by rw [upd_ne (by rw [hC]; exact Nat.succ_ne_self _)]; exact fC)
    · refine thn (T.item (inX X scope N cs h3.objs.size s2 H2 fp) rfl rfl rfl hc i _ s5 _ H5 _ I5 (stat fr5) st5 go) fun r s6 ⟨u,hr,h6⟩=>?_
      subst hr
      dsimp only
      refine thn h6 fun _ s7 ⟨x,H7,I7,r7,y7,st7,fr7⟩=>?_
      have I7':=I7.pinned (stat fr7) (T.obj _ _ st7)
      refine thn (hg cs h3.objs.size s2 H2 fp _ s7 _ H7 x u _ I7' r7 (step x H7 y7)) fun _ s8 ⟨σ8,H8,I8,le8,q8⟩=>?_
      refine thn (hT cs h3.objs.size s2 H2 fp _ s8 σ8 H8 _ I8 q8) fun bt s8b ⟨H8b,I8b,q8b⟩=>?_
      have fpNe:∀ b∈fp,b≠s2.heap.objs.size:=fun b hb z=>hno6 (below b hb) z.symm
      cases bt with
      | false =>
        obtain ⟨m',hm',w9⟩:=q8b
        obtain ⟨eD,nD,p2,p3,p4⟩:=I8b.pin (s2.heap.objs.size,{ cls:=.type "list",data:=.seq its.toArray k }) (List.mem_append_right _ (List.mem_append_left _ (List.mem_singleton.mpr rfl)))
        have pinFp:∀ b∈fp,∀ o,s7.heap.get? b=some o→s8b.heap.get? b=some o∧H8b b=none:=fun b hb o e=>by
          have z:=I8b.pin (b,o) (List.mem_append_right _ (List.mem_append_right _ (mem_pinsAt hb e)))
          exact ⟨z.1,z.2.1⟩
        have I9':Inv (inX X scope N cs h3.objs.size s2 H2 fp) [] (capS ix σ) H8b s8b:=(I8b.pins_of (pins':=[]) (fun p hp=>absurd hp (by simp))).weak le8.1 le8.2
        refine ⟨m',hm',i + 1,ys,its,k,H8b,I9'.pins_of (fun p hp=>?_),?_,fun b hb=>?_,v5,w9⟩
        · obtain rfl:=List.mem_singleton.mp hp
          exact ⟨eD,nD,p2,p3,p4⟩
        · exact T.keep (i + 1) _ _ st7 fun b hb o e=>(pinFp b hb o e).1
        · obtain ⟨o,e,_⟩:=T.obj _ _ st7 b hb
          exact (pinFp b hb o e).2
      | true =>
        refine thn (he cs h3.objs.size s2 H2 fp _ s8b σ8 H8b _ I8b q8b) fun uy s9 ⟨y,H9,I9,ry,m',hm',w9⟩=>?_
        obtain ⟨eD,nD,_,_,_⟩:=I9.pin (s2.heap.objs.size,{ cls:=.type "list",data:=.seq its.toArray k }) (List.mem_append_right _ (List.mem_append_left _ (List.mem_singleton.mpr rfl)))
        have eD:s9.heap.get? s2.heap.objs.size=some { cls:=.type "list",data:=.seq its.toArray k }:=eD
        have nD:H9 s2.heap.objs.size=none:=nD
        have hlen:=v5.length
        refine call_meets F.slot_list_append ⟨_,eD,rfl⟩ F.entry_list_append (F.args_list_append_2 _ _) (PySem.list_append s2.heap.objs.size its.toArray k uy (by rw [List.size_toArray]; omega)) ⟨eD,?_⟩
        obtain ⟨k',eN⟩:∃ k',(s9.heap.update s2.heap.objs.size (Obj.mapSeq fun xs=>xs.push uy)).get? s2.heap.objs.size=some { cls:=.type "list",data:=.seq (its ++ [uy]).toArray k' }:=by
          have q:=PySem.IsL.update eD (fun xs=>xs.push uy)
          rw [show its.toArray.push uy=(its ++ [uy]).toArray by simp] at q
          exact ⟨_,q⟩
        have pinFp:∀ b∈fp,∀ o,s7.heap.get? b=some o→s9.heap.get? b=some o∧H9 b=none:=fun b hb o e=>by
          have z:=I9.pin (b,o) (List.mem_append_right _ (List.mem_append_right _ (mem_pinsAt hb e)))
          exact ⟨z.1,z.2.1⟩
        have I9':Inv (inX X scope N cs h3.objs.size s2 H2 fp) [] (capS ix σ) H9 s9:=(I9.pins_of (pins':=[]) (fun p hp=>absurd hp (by simp))).weak le8.1 le8.2
        have I10:Inv (inX X scope N cs h3.objs.size s2 H2 fp) [] (capS ix σ) H9 { s9 with heap:=s9.heap.update s2.heap.objs.size (Obj.mapSeq fun xs=>xs.push uy) }:=by
          refine I9'.turned (t':=s9.toks) (it:=s2.heap.objs.size) (fun b o hb e=>(Heap.get?_update_other _ _ (Ne.symm hb)).trans e) nD (by show s2.heap.objs.size≠h3.objs.size; omega) (.inr (Nat.le_refl _)) (fun x c e z=>?_) (fun p hp=>absurd (show p∈([]:List (Addr × Obj)) from hp) (by simp))
          have e:cs.lookup x=some c:=e
          rcases csOld x c e with q | ⟨q,_,_⟩
          · obtain ⟨v,z2⟩:=I2.cell x c q
            exact hno6 z2.lt z.symm
          · exact hno7 hC q z
        refine ⟨m',hm',i + 1,ys ++ [y],its ++ [uy],k',H9,I10.pins_of (fun p hp=>?_),?_,fun b hb=>?_,v5.append (.cons ry .nil),w9⟩
        · obtain rfl:=List.mem_singleton.mp hp
          refine ⟨eN,nD,?_,fun z=>?_,fun v z=>?_⟩
          · show s2.heap.objs.size≠h3.objs.size
            omega
          · have z:s2.heap.objs.size∈frs X.stack:=z
            obtain ⟨_,o,ho,_⟩:=I2.stack.mem z
            exact absurd (Heap.lt_size ho) (Nat.lt_irrefl _)
          · have z':Data.seq _ _=Data.cell v:=z
            cases z'
        · refine T.keep (i + 1) _ _ st7 fun b hb o e=>?_
          exact (Heap.get?_update_other _ _ (Ne.symm (fpNe b hb))).trans (pinFp b hb o e).1
        · obtain ⟨o,e,_⟩:=T.obj _ _ st7 b hb
          exact (pinFp b hb o e).2
  exact codeAny_compStart_list loop (T.self _ 0 _ _ _ (T.keep 0 _ _ st2 (fun b _ o e=>up b o e)) loop)
theorem pe_compI {elt tg iter ct:Expr} {scope:Scope} {pos:Pos} {N:List Str} {ix:List (Option Nat)} {wi:TI} {g:TG} {tt:TT} {te:TE}
    (hc:X.calm=true) (ok:CompOk X scope N ix) (hi:PI X tg iter wi)
    (hg:∀ cs C s H fp,PG (inX X scope N cs C s H fp) tg g) (hT:∀ cs C s H fp,PT (inX X scope N cs C s H fp) ct tt) (he:∀ cs C s H fp,PE (inX X scope N cs C s H fp) elt te)
    (hs:∀ x,foldedSetIterable iter X.env x=pure x:=by intro _; rfl):PE X (.ListComp elt [⟨tg,iter,[ct],0⟩] scope pos) (tCompI wi ix g tt te):=by
  intro pins s σ H Q I h
  rw [eval_ListComp]
  refine comp_runI (use:=none) hc ok hi hg hT he hs I h fun D C m ys H' s' I' hn f q=>?_
  exact ⟨m,hn,fun h' sb=>⟨.ref D,_,I'.gone f sb,rfl,q⟩⟩
end
end L2
namespace K01
theorem fmod_pos {a b:Int} (hb:0 < b):0≤a.fmod b∧a.fmod b < b:=by
  rw [Int.fmod_eq_emod_of_nonneg a (by omega)]
  exact ⟨Int.emod_nonneg _ (by omega),Int.emod_lt_of_pos _ hb⟩
theorem le_of_mul {a b M:Nat} (hb:0 < b) (h:a * b≤M):a≤M:=Nat.le_trans (Nat.le_mul_of_pos_right a hb) h
end K01
namespace L2
theorem PT.to {X:Cx} {e:PySem.Expr} {t t':TT} (h:PT X e t) (q:t=t'):PT X e t':=q ▸ h
end L2
namespace KW
open PySem L2 PyProof.Rows K01
def top (i:Nat):Stmt:=PySem.Challenge.pw_cupweb_k04_steps_by_lesser_squares.main.body.getD i (.Pass ⟨0,0,0,0⟩)
structure Txt (mg:Str→Option Value):Prop where
  n_len:mg "len" = none
  n_sum:mg "sum" = none
  n_all:mg "all" = none
  n_isinstance:mg "isinstance" = none
  n_list:mg "list" = none
  n_tuple:mg "tuple" = none
  n_int:mg "int" = none
  n_bool:mg "bool" = none
  n_str:mg "str" = none
  n_range:mg "range" = none
  n_zip:mg "zip" = none
  n_set:mg "set" = none
  n_sorted:mg "sorted" = none
  n_min:mg "min" = none
theorem log_small {n:Int} (h:n.natAbs < 2 ^ 200):n.natAbs.log2 < 9000:=by
  by_cases h0:n.natAbs=0
  · rw [h0]; decide
  · have:=(Nat.log2_lt h0).mpr h
    omega
end KW
namespace KW
open PySem L2 PyProof.Rows K01
section
variable {P:Program} {w:World} {K:PySem.W.Frag} {mg:Str→Option Value} {base:Heap}
theorem mulR {a b:Int} (h:b.natAbs < 2 ^ 64):IntMulOk a b:=.of_right (intBits_le_iff.mpr h)
theorem nz {j:Int} (h:j≠0):j≠0:=h
def Box (H:Hp) (B S:Addr):Prop:=∃ (ns:List Int) (p q t sd:Int),H B=some (.lst [.ref S,.int p,.int q,.int t,.int sd])∧H S=some (.lst (ns.map V.int))∧ns.length≤63∧0≤p
theorem box_ne {H:Hp} {B S:Addr} {ns:List Int} {x:Addr} {r:List V} (hB:H B=some (.lst (.ref x :: r))) (hS:H S=some (.lst (ns.map V.int))):S≠B:=by
  refine ne_of hS hB fun z=>?_
  cases ns with
  | nil=>cases z
  | cons n ns=>cases z
theorem Box.put {H H':Hp} {B S:Addr} {ns:List Int} {x:Addr} {r:List V} {p q t sd:Int} (hB:H B=some (.lst (.ref x :: r))) (hS:H S=some (.lst (ns.map V.int))) (hl:ns.length≤63) (hp:0≤p) (b:But B H H') (e:H' B=some (.lst [.ref S,.int p,.int q,.int t,.int sd])):Box H' B S :=
  ⟨ns,p,q,t,sd,e,b S _ hS (box_ne hB hS),hl,hp⟩
theorem Box.but {H H':Hp} {B S:Addr} (h:Box H B S) (s:Same H H'):Box H' B S:=by
  obtain ⟨ns,p,q,t,sd,h1,h2,h3,h4⟩:=h
  exact ⟨ns,p,q,t,sd,s _ _ h1,s _ _ h2,h3,h4⟩
theorem Box.at {H:Hp} {B S l:Addr} (h:Box H B S) (n:H l=none):l≠B:=by
  obtain ⟨ns,p,q,t,sd,h1,_⟩:=h
  exact (ne_of_none h1 n).symm
theorem Box.at2 {H:Hp} {B S l:Addr} (h:Box H B S) (n:H l=none):l≠S:=by
  obtain ⟨ns,p,q,t,sd,_,h1,_⟩:=h
  exact (ne_of_none h1 n).symm
theorem Box.keep {H H':Hp} {B S:Addr} (h:Box H B S) (h1:∀ o,H B=some o→H' B=some o) (h2:∀ o,H S=some o→H' S=some o):Box H' B S:=by
  obtain ⟨ns,p,q,t,sd,e1,e2,e3,e4⟩:=h
  exact ⟨ns,p,q,t,sd,h1 _ e1,h2 _ e2,e3,e4⟩
theorem cut_ints (ns:List Int) (lo hi:Option Int):∃ ms:List Int,cutV (ns.map V.int) lo hi=ms.map V.int∧ms.length≤ns.length:=by
  refine ⟨(ns.drop (HT.sIx ns.length 0 lo)).take (HT.sIx ns.length ns.length hi - HT.sIx ns.length 0 lo),?_,?_⟩
  · unfold cutV
    rw [List.length_map,List.map_take,List.map_drop]
  · rw [List.length_take,List.length_drop]
    omega
def spBox:PySem.W.Frag→Sp:=fun K vs H Q _=>∃ (a:Addr) (ns:List Int),vs=[.ref a]∧SqL K H a (ns.map V.int)∧ns.length≤63∧∀ (B S:Addr) (H':Hp),Same H H'→H B=none→H S=none→Box H' B S→Q (.ref B) H'
theorem scBox:FnScope ["_law_script","_law_seed","_law_cell"] ["_law_script"] (defScope (top 14)):=⟨rfl,rfl,rfl,by decide +kernel,rfl,by decide +kernel,by decide +kernel⟩
theorem ok_box {f:Addr} {fd:FuncData} (F:FnAt K mg "_law_box" "_law_box" (top 14) .none f fd) (T:Txt mg):FnOk P w K mg base CX0 1 f fd ["_law_script"] (spBox K):=by
  have nd:=scBox.nd
  refine F.ok scBox (fun vs H Q E h=>?_) (fun cdv A outer s H vs Q E hr h=>?_)
  · obtain ⟨a,ns,rfl,_⟩:=h
    rfl
  · obtain ⟨a,ns,rfl,hS,hl,k⟩:=h
    refine ⟨_,(pss_cons (ps_set (i:=1) nd rfl (Or.inl rfl) pe_int)
      (pss_cons (ps_for PassesOwn.never rfl (pi_list (pe_slice sl_list (pv 0) po_none (po_some pe_int))) (pg_name (i:=2) nd rfl (Or.inl rfl)) (pss_one (ps_set (i:=1) nd rfl (Or.inl rfl) (pe_op op_modN (pe_op op_add (pe_op op_add (pe_op op_mulX (pv 1) pe_int) (pv 2)) pe_int) pe_int))))
      (pss_one (ps_ret (pe_lst (pa_cons (pe_callTy call_list_of (by rfl) T.n_list boot_list (pa_cons (pe_slice sl_list (pv 0) po_none (po_some pe_int)) pa_nil)) (pa_cons pe_int (pa_cons pe_int (pa_cons pe_int (pa_cons (pv 1) pa_nil)))))))))),?_⟩
    obtain ⟨ms,ems,hms⟩:=cut_ints ns none (some 63)
    refine ⟨_,rfl,63,rfl,a,_,rfl,hS,fun p hp=>⟨p,rfl,⟨_,SqL.of upd_same⟩,?_⟩⟩
    rw [ems]
    have s1:Same H (upd H p (.lst (ms.map V.int))):=same_upd hp
    refine for_list (K:=K) (a:=p) (xs:=ms.map V.int) (fun i σ H1=>H1=upd H p (.lst (ms.map V.int))∧∃ (sd:Int) (v:Option V),σ=[some (.ref a),some (.int sd),v]) ⟨rfl,0,none,rfl⟩ ?_ ?_ ?_
    · rintro i σ H1 _ ⟨rfl,_⟩
      exact SqL.of upd_same
    · rintro i x σ H1 hx ⟨rfl,sd,v,rfl⟩
      obtain ⟨n,hn,rfl⟩:=getI_map hx
      refine ⟨_,rfl,_,_,rfl,rfl,mulR (by decide),_,rfl,_,_,rfl,rfl,_,_,rfl,rfl,_,_,rfl,rfl,nz (by decide),rfl,_,_,rfl⟩
    · rintro σ H1 ⟨rfl,sd,v,rfl⟩
      refine ⟨_,rfl,63,rfl,a,_,rfl,s1.seq hS,fun p2 hp2=>⟨p2,_,rfl,.inl (SqL.of upd_same),fun S hS'=>⟨_,rfl,(by show 5≤sizeLine; decide),fun B hB=>?_⟩⟩⟩
      rw [ems] at hS' hB ⊢
      have s2:=s1.trans ((same_upd (o:=.lst (ms.map V.int)) hp2).trans ((same_upd (o:=.lst (ms.map V.int)) hS').trans (same_upd (o:=.lst [.ref S,.int 0,.int 0,.int 0,.int sd]) hB)))
      have nSB:S≠B:=fun z=>by
        rw [z,upd_same] at hB
        cases hB
      refine k B S _ s2 ((s1.trans ((same_upd (o:=.lst (ms.map V.int)) hp2).trans (same_upd (o:=.lst (ms.map V.int)) hS'))).free hB) ((s1.trans (same_upd (o:=.lst (ms.map V.int)) hp2)).free hS') ⟨ms,0,0,0,sd,upd_same,?_,by omega,by decide⟩
      rw [upd_ne nSB,upd_same]
def spMixed:Sp:=fun vs H Q _=>∃ n t:Int,vs=[.int n,.int t]∧∀ r:Int,Q (.int r) H
theorem scMixed:FnScope ["_law_number","_law_turn","_law_one","_law_two"] ["_law_number","_law_turn"] (defScope (top 15)):=⟨rfl,rfl,rfl,by decide +kernel,rfl,by decide +kernel,by decide +kernel⟩
theorem ok_mixed {f:Addr} {fd:FuncData} (F:FnAt K mg "_law_mixed" "_law_mixed" (top 15) .none f fd):FnOk P w K mg base CX0 1 f fd ["_law_number","_law_turn"] spMixed:=by
  have nd:=scMixed.nd
  refine F.ok scMixed (fun vs H Q E h=>?_) (fun cdv A outer s H vs Q E hr h=>?_)
  · obtain ⟨n,t,rfl,_⟩:=h
    rfl
  · obtain ⟨n,t,rfl,k⟩:=h
    refine ⟨_,(pss_cons (ps_set (i:=2) nd rfl (Or.inl rfl) (pe_op op_modN (pe_op op_add (pe_op op_add (pe_op op_mulX (pv 0) pe_int) (pe_op op_mulX (pv 1) pe_int)) pe_int) pe_int))
      (pss_cons (ps_set (i:=3) nd rfl (Or.inl rfl) (pe_op op_modN (pe_op op_add (pe_op op_add (pe_op op_mulX (pv 2) (pe_op op_add (pe_op op_modN (pv 2) pe_int) pe_int)) (pe_op op_mulX (pv 1) pe_int)) (pe_op op_modN (pv 0) pe_int)) pe_int))
      (pss_one (ps_ret (pe_op op_fdivX (pv 3) pe_int))))),?_⟩
    refine ⟨_,rfl,_,_,rfl,rfl,mulR (by decide),_,rfl,_,_,rfl,rfl,mulR (by decide),_,_,rfl,rfl,_,_,rfl,rfl,_,_,rfl,rfl,nz (by decide),?_⟩
    refine ⟨_,rfl,_,rfl,_,_,rfl,rfl,nz (by decide),_,_,rfl,rfl,_,_,rfl,rfl,mulR ?_,_,rfl,_,_,rfl,rfl,mulR (by decide),_,_,rfl,rfl,_,rfl,_,_,rfl,rfl,nz (by decide),_,_,rfl,rfl,_,_,rfl,rfl,nz (by decide),?_⟩
    · have:=fmod_pos (a:=(n * 48271 + t * 69621 + 12345).fmod 2147483647) (b:=65521) (by decide)
      omega
    · exact ⟨_,rfl,_,_,rfl,rfl,⟨by decide,by decide⟩,k _⟩
def spTake:Sp:=fun vs H Q _=>∃ (B S:Addr) (m:Int),vs=[.ref B,.int m]∧Box H B S∧0 < m∧m.natAbs < 2 ^ 200∧∀ (r:Int) (H':Hp),0≤r→r < m→Box H' B S→But B H H'→Q (.int r) H'
theorem scTake:FnScope ["_law_box_here","_law_many","_law_left","_law_cell"] ["_law_box_here","_law_many"] (defScope (top 16)):=⟨rfl,rfl,rfl,by decide +kernel,rfl,by decide +kernel,by decide +kernel⟩
theorem ok_take {f f2:Addr} {fd fd2:FuncData} (F:FnAt K mg "_law_take" "_law_take" (top 16) .none f fd) (A__law_mixed:FnAt K mg "_law_mixed" "_law_mixed" (top 15) .none f2 fd2) (b__law_mixed:L2.Binds K fd2 ["_law_number","_law_turn"] []) (T:Txt mg) :
    FnOk P w K mg base CX0 2 f fd ["_law_box_here","_law_many"] spTake:=by
  have nd:=scTake.nd
  have G__law_mixed:FnOk P w K mg base CX0 1 f2 fd2 ["_law_number","_law_turn"] spMixed:=ok_mixed A__law_mixed
  refine F.ok scTake (fun vs H Q E h=>?_) (fun cdv A outer s H vs Q E hr h=>?_)
  · obtain ⟨B,S,m,rfl,_⟩:=h
    rfl
  · obtain ⟨B,S,m,rfl,⟨ns,p,q,t,sd,hB,hS,hl,hp⟩,hm,hm2,k⟩:=h
    have m0:m≠0:=by omega
    have hd:CDivX 0 m:=⟨m0,log_small hm2⟩
    have nSB:=box_ne hB hS
    refine ⟨_,(pss_cons (ps_asg (pe_op op_add (pe_ix ix_list (pv 0) pe_int (fun _ _=>rfl)) pe_int) (pg_sub (pv 0) pe_int set_list))
      (pss_cons (ps_if (pt_cmpR op_gt (pe_ix ix_list (pv 0) pe_int (fun _ _=>rfl)) pe_int (nomark _)) (pss_cons (ps_set (i:=2) nd rfl (Or.inl rfl) (pe_ix ix_list (pv 0) pe_int (fun _ _=>rfl)))
      (pss_cons (ps_asg (pe_op op_fdivX (pv 2) (pv 1)) (pg_sub (pv 0) pe_int set_list))
      (pss_one (ps_ret (pe_op op_modN (pv 2) (pv 1)))))) pss_nil)
      (pss_cons (ps_if (pt_cmpR op_ge (pe_ix ix_list (pv 0) pe_int (fun _ _=>rfl)) (pe_callB call_len_seq (by rfl) T.n_len PySem.boot_len (pa_cons (pe_ix ix_list (pv 0) pe_int (fun _ _=>rfl)) pa_nil)) (nomark _)) (pss_one (ps_ret (pe_op op_modN (pe_call (G__law_mixed.mono (by decide)) hr rfl A__law_mixed.mg A__law_mixed.kp b__law_mixed .nil pass0 (pa_cons (pe_ix ix_list (pv 0) pe_int (fun _ _=>rfl)) (pa_cons (pe_ix ix_list (pv 0) pe_int (fun _ _=>rfl)) pa_nil))) (pv 1)))) pss_nil)
      (pss_cons (ps_set (i:=3) nd rfl (Or.inl rfl) (pe_ix ix_list (pe_ix ix_list (pv 0) pe_int (fun _ _=>rfl)) (pe_ix ix_list (pv 0) pe_int (fun _ _=>rfl)) (fun _ _=>rfl)))
      (pss_cons (ps_asg (pe_op op_add (pe_ix ix_list (pv 0) pe_int (fun _ _=>rfl)) pe_int) (pg_sub (pv 0) pe_int set_list))
      (pss_cons (ps_if (pt_cmpR op_lt (pv 3) (pe_op op_pow pe_int pe_int) (nomark _)) (pss_one (ps_ret (pe_op op_modN (pe_call (G__law_mixed.mono (by decide)) hr rfl A__law_mixed.mg A__law_mixed.kp b__law_mixed .nil pass0 (pa_cons (pv 3) (pa_cons (pe_ix ix_list (pv 0) pe_int (fun _ _=>rfl)) pa_nil))) (pv 1)))) pss_nil)
      (pss_cons (ps_asg (pe_op op_fdivX (pv 3) (pv 1)) (pg_sub (pv 0) pe_int set_list))
      (pss_one (ps_ret (pe_op op_modN (pv 3) (pv 1))))))))))),?_⟩
    refine ⟨_,rfl,B,_,_,_,rfl,rfl,SqL.of hB,rfl,_,_,rfl,rfl,_,rfl,B,_,_,_,rfl,rfl,hB,rfl,?_⟩
    generalize eH1:upd H B (HO.lst (List.set [.ref S,.int p,.int q,.int t,.int sd] (Int.toNat 3) (.int (t + 1))))=H1
    have b1:But B H H1:=by rw [← eH1]; exact But.upd
    have hB1:H1 B=some (.lst [.ref S,.int p,.int q,.int (t + 1),.int sd]):=by rw [← eH1,upd_same]; rfl
    have hS1:H1 S=some (.lst (ns.map V.int)):=b1 _ _ hS nSB
    refine ⟨_,rfl,B,_,_,_,rfl,rfl,SqL.of hB1,rfl,_,_,rfl,rfl,_,rfl,?_⟩
    refine ite2 (fun hc=>?_) (fun hc=>?_)
    · refine ⟨_,rfl,B,_,_,_,rfl,rfl,SqL.of hB1,rfl,?_⟩
      refine ⟨_,rfl,_,rfl,_,_,rfl,rfl,hd,_,rfl,B,_,_,_,rfl,rfl,hB1,rfl,?_⟩
      have f:=fmod_pos (a:=q) hm
      exact ⟨_,rfl,_,rfl,_,_,rfl,rfl,m0,k _ _ f.1 f.2 (Box.put hB1 hS1 hl hp But.upd upd_same) (b1.trans But.upd)⟩
    · refine ⟨_,rfl,B,_,_,_,rfl,rfl,SqL.of hB1,rfl,_,rfl,B,_,_,_,rfl,rfl,SqL.of hB1,rfl,S,_,rfl,.inl (SqL.of hS1),_,_,rfl,rfl,_,rfl,?_⟩
      refine ite2 (fun hc2=>?_) (fun hc2=>?_)
      · refine ⟨_,rfl,B,_,_,_,rfl,rfl,SqL.of hB1,rfl,_,rfl,B,_,_,_,rfl,rfl,SqL.of hB1,rfl,_,_,rfl,fun r=>⟨_,rfl,_,_,rfl,rfl,m0,?_⟩⟩
        have f:=fmod_pos (a:=r) hm
        exact k _ _ f.1 f.2 ⟨ns,_,_,_,_,hB1,hS1,hl,hp⟩ b1
      · have hc2:¬ (((ns.map V.int).length:Int)≤p):=fun z=>hc2 (decide_eq_true z)
        rw [List.length_map] at hc2
        have hi:p.toNat < ns.length:=by omega
        have hat:atI (ns.map V.int) p=some (.int ns[p.toNat]):=by
          have h:=atI_nat (xs:=ns.map V.int) (j:=p.toNat) (v:=.int ns[p.toNat]) (by rw [List.getElem?_map,List.getElem?_eq_getElem hi]; rfl)
          rwa [Int.toNat_of_nonneg hp] at h
        refine ⟨_,rfl,B,_,_,_,rfl,rfl,SqL.of hB1,rfl,_,rfl,B,_,_,_,rfl,rfl,SqL.of hB1,rfl,S,_,_,_,rfl,rfl,SqL.of hS1,hat,?_⟩
        refine ⟨_,rfl,B,_,_,_,rfl,rfl,SqL.of hB1,rfl,_,_,rfl,rfl,_,rfl,B,_,_,_,rfl,rfl,hB1,rfl,?_⟩
        generalize eH2:upd H1 B (HO.lst (List.set [.ref S,.int p,.int q,.int (t + 1),.int sd] (Int.toNat 1) (.int (p + 1))))=H2
        have b2:But B H1 H2:=by rw [← eH2]; exact But.upd
        have hB2:H2 B=some (.lst [.ref S,.int (p + 1),.int q,.int (t + 1),.int sd]):=by rw [← eH2,upd_same]; rfl
        have hS2:H2 S=some (.lst (ns.map V.int)):=b2 _ _ hS1 nSB
        refine ⟨_,rfl,_,_,rfl,rfl,⟨by decide,by decide,by decide⟩,_,_,rfl,rfl,_,rfl,?_⟩
        refine ite2 (fun hc3=>?_) (fun hc3=>?_)
        · refine ⟨_,rfl,_,rfl,B,_,_,_,rfl,rfl,SqL.of hB2,rfl,_,_,rfl,fun r=>⟨_,rfl,_,_,rfl,rfl,m0,?_⟩⟩
          have f:=fmod_pos (a:=r) hm
          exact k _ _ f.1 f.2 ⟨ns,_,_,_,_,hB2,hS2,hl,by omega⟩ (b1.trans b2)
        · refine ⟨_,rfl,_,rfl,_,_,rfl,rfl,hd,_,rfl,B,_,_,_,rfl,rfl,hB2,rfl,?_⟩
          have f:=fmod_pos (a:=ns[p.toNat]) hm
          exact ⟨_,rfl,_,rfl,_,_,rfl,rfl,m0,k _ _ f.1 f.2 (Box.put hB2 hS2 hl (by omega) But.upd upd_same) ((b1.trans b2).trans But.upd)⟩
end
end KW
namespace M4
abbrev Mt:=Nat→Nat→Int
def mn (a:Mt) (i k j l:Nat):Int:=a i j * a k l - a i l * a k j
def det (a:Mt):Int:=a 0 0 * mn a 1 2 1 2 - a 0 1 * mn a 1 2 0 2 + a 0 2 * mn a 1 2 0 1
def tr (a:Mt):Mt:=fun i j=>a j i
def addR (a:Mt) (to s:Nat) (t:Int):Mt:=fun i j=>if i=to then a to j + t * a s j else a i j
def addC (a:Mt) (to s:Nat) (t:Int):Mt:=fun i j=>if j=to then a i to + t * a i s else a i j
def sw (x y k:Nat):Nat:=if k=x then y else if k=y then x else k
def swR (a:Mt) (x y:Nat):Mt:=fun i j=>a (sw x y i) j
def swC (a:Mt) (x y:Nat):Mt:=fun i j=>a i (sw x y j)
def negR (a:Mt) (x:Nat):Mt:=fun i j=>if i=x then - a i j else a i j
def D1 (d:Int) (a:Mt):Prop:=∀ i j,i < 3→j < 3→d ∣ a i j
def D2 (d:Int) (a:Mt):Prop:=∀ i k j l,i < 3→k < 3→j < 3→l < 3→d ∣ mn a i k j l
structure Eqv (a b:Mt):Prop where
  e1:∀ d,D1 d a↔D1 d b
  e2:∀ d,D2 d a↔D2 d b
  e3:(det a).natAbs=(det b).natAbs
theorem Eqv.refl (a:Mt):Eqv a a:=⟨fun _=>Iff.rfl,fun _=>Iff.rfl,rfl⟩
theorem Eqv.trans {a b c:Mt} (x:Eqv a b) (y:Eqv b c):Eqv a c:=⟨fun d=>(x.e1 d).trans (y.e1 d),fun d=>(x.e2 d).trans (y.e2 d),x.e3.trans y.e3⟩
theorem three {i:Nat} (h:i < 3):i=0∨i=1∨i=2:=by omega
theorem mn_same (a:Mt) (i j l:Nat):mn a i i j l=0:=by unfold mn; grind
theorem addR_D1 {a:Mt} {to s:Nat} {t d:Int} (hto:to < 3) (hs:s < 3) (h:D1 d a):D1 d (addR a to s t):=fun i j hi hj=>by
  unfold addR
  split
  · exact Int.dvd_add (h _ _ hto hj) (Int.dvd_mul_of_dvd_right (h _ _ hs hj))
  · exact h _ _ hi hj
theorem addR_D2 {a:Mt} {to s:Nat} {t d:Int} (hto:to < 3) (hs:s < 3) (h:D2 d a):D2 d (addR a to s t):=fun i k j l hi hk hj hl=>by
  by_cases e1:i=to
  · by_cases e2:k=to
    · rw [e1,e2,mn_same]; exact Int.dvd_zero d
    · have e:mn (addR a to s t) i k j l=mn a to k j l + t * mn a s k j l:=by simp only [mn,addR,e1,e2,if_true,if_false]; grind
      rw [e]
      exact Int.dvd_add (h _ _ _ _ hto hk hj hl) (Int.dvd_mul_of_dvd_right (h _ _ _ _ hs hk hj hl))
  · by_cases e2:k=to
    · have e:mn (addR a to s t) i k j l=mn a i to j l + t * mn a i s j l:=by simp only [mn,addR,e1,e2,if_true,if_false]; grind
      rw [e]
      exact Int.dvd_add (h _ _ _ _ hi hto hj hl) (Int.dvd_mul_of_dvd_right (h _ _ _ _ hi hs hj hl))
    · have e:mn (addR a to s t) i k j l=mn a i k j l:=by simp only [mn,addR,e1,e2,if_false]
      rw [e]
      exact h _ _ _ _ hi hk hj hl
theorem addR_det {a:Mt} {to s:Nat} {t:Int} (hto:to < 3) (hs:s < 3) (ne:to≠s):det (addR a to s t)=det a:=by
  rcases three hto with rfl | rfl | rfl <;> rcases three hs with rfl | rfl | rfl <;> first | exact absurd rfl ne | (simp [det,mn,addR]; grind)
theorem addR_undo {a:Mt} {to s:Nat} {t:Int} (ne:to≠s):addR (addR a to s t) to s (-t)=a:=by
  funext i j
  have ne':¬ s=to:=fun e=>ne e.symm
  by_cases e:i=to
  · simp only [addR,e,ne',if_true,if_false]; grind
  · simp only [addR,e,if_false]
theorem addR_eqv {a:Mt} {to s:Nat} {t:Int} (hto:to < 3) (hs:s < 3) (ne:to≠s):Eqv a (addR a to s t):=by
  refine ⟨fun d=>⟨addR_D1 hto hs,fun h=>?_⟩,fun d=>⟨addR_D2 hto hs,fun h=>?_⟩,by rw [addR_det hto hs ne]⟩
  · have:=addR_D1 (t:=-t) hto hs h
    rwa [addR_undo ne] at this
  · have:=addR_D2 (t:=-t) hto hs h
    rwa [addR_undo ne] at this
theorem tr_det (a:Mt):det (tr a)=det a:=by simp only [det,mn,tr]; grind
theorem tr_mn (a:Mt) (i k j l:Nat):mn (tr a) i k j l=mn a j l i k:=by simp only [mn,tr]; grind
theorem tr_eqv (a:Mt):Eqv a (tr a):=⟨fun d=>⟨fun h i j hi hj=>h j i hj hi,fun h i j hi hj=>h j i hj hi⟩,fun d=>⟨fun h i k j l hi hk hj hl=>by rw [tr_mn]; exact h _ _ _ _ hj hl hi hk,fun h i k j l hi hk hj hl=>by have:=h j l i k hj hl hi hk; rwa [tr_mn] at this⟩,by rw [tr_det]⟩
theorem addC_eqv {a:Mt} {to s:Nat} {t:Int} (hto:to < 3) (hs:s < 3) (ne:to≠s):Eqv a (addC a to s t) :=
  (tr_eqv a).trans ((addR_eqv (t:=t) hto hs ne).trans (tr_eqv _))
theorem sw_lt {x y k:Nat} (hx:x < 3) (hy:y < 3) (hk:k < 3):sw x y k < 3:=by unfold sw; split; exact hy; split; exact hx; exact hk
theorem sw_sw (x y k:Nat):sw x y (sw x y k)=k:=by unfold sw; split <;> split <;> (try split) <;> omega
theorem swR_undo (a:Mt) (x y:Nat):swR (swR a x y) x y=a:=by
  funext i j
  show a (sw x y (sw x y i)) j=a i j
  rw [sw_sw]
theorem swR_det {a:Mt} {x y:Nat} (hx:x < 3) (hy:y < 3):(det (swR a x y)).natAbs=(det a).natAbs:=by
  have e:det (swR a x y)=det a∨det (swR a x y)=- det a:=by
    rcases three hx with rfl | rfl | rfl <;> rcases three hy with rfl | rfl | rfl <;> first | (left; simp [det,mn,swR,sw]; done) | (right; simp [det,mn,swR,sw]; grind)
  rcases e with e | e
  · rw [e]
  · rw [e,Int.natAbs_neg]
theorem swR_D1 {a:Mt} {x y:Nat} {d:Int} (hx:x < 3) (hy:y < 3) (h:D1 d a):D1 d (swR a x y):=fun i j hi hj=>h _ _ (sw_lt hx hy hi) hj
theorem swR_D2 {a:Mt} {x y:Nat} {d:Int} (hx:x < 3) (hy:y < 3) (h:D2 d a):D2 d (swR a x y):=fun i k j l hi hk hj hl=>h _ _ _ _ (sw_lt hx hy hi) (sw_lt hx hy hk) hj hl
theorem swR_eqv {a:Mt} {x y:Nat} (hx:x < 3) (hy:y < 3):Eqv a (swR a x y):=by
  refine ⟨fun d=>⟨swR_D1 hx hy,fun h=>?_⟩,fun d=>⟨swR_D2 hx hy,fun h=>?_⟩,(swR_det hx hy).symm⟩
  · have:=swR_D1 hx hy h
    rwa [swR_undo] at this
  · have:=swR_D2 hx hy h
    rwa [swR_undo] at this
theorem swC_eqv {a:Mt} {x y:Nat} (hx:x < 3) (hy:y < 3):Eqv a (swC a x y):=(tr_eqv a).trans ((swR_eqv hx hy).trans (tr_eqv _))
theorem neg_mn (a:Mt) (x i k j l:Nat):(mn (negR a x) i k j l).natAbs=(mn a i k j l).natAbs:=by
  by_cases e1:i=x <;> by_cases e2:k=x
  · have e:mn (negR a x) i k j l=mn a i k j l:=by simp only [mn,negR,e1,e2,if_true]; grind
    rw [e]
  · have e:mn (negR a x) i k j l=- mn a i k j l:=by simp only [mn,negR,e1,e2,if_true,if_false]; grind
    rw [e,Int.natAbs_neg]
  · have e:mn (negR a x) i k j l=- mn a i k j l:=by simp only [mn,negR,e1,e2,if_true,if_false]; grind
    rw [e,Int.natAbs_neg]
  · have e:mn (negR a x) i k j l=mn a i k j l:=by simp only [mn,negR,e1,e2,if_false]
    rw [e]
theorem neg_ent (a:Mt) (x i j:Nat):(negR a x i j).natAbs=(a i j).natAbs:=by unfold negR; split <;> simp
theorem dvd_abs {d x y:Int} (e:x.natAbs=y.natAbs):d ∣ x↔d ∣ y:=by
  rw [← Int.natAbs_dvd_natAbs,e,Int.natAbs_dvd_natAbs]
theorem negR_det {a:Mt} {x:Nat} (hx:x < 3):(det (negR a x)).natAbs=(det a).natAbs:=by
  have e:det (negR a x)=- det a:=by
    rcases three hx with rfl | rfl | rfl <;> (simp [det,mn,negR]; grind)
  rw [e,Int.natAbs_neg]
theorem negR_eqv {a:Mt} {x:Nat} (hx:x < 3):Eqv a (negR a x) :=
  ⟨fun d=>⟨fun h i j hi hj=>(dvd_abs (neg_ent a x i j)).mpr (h i j hi hj),fun h i j hi hj=>(dvd_abs (neg_ent a x i j)).mp (h i j hi hj)⟩,
   fun d=>⟨fun h i k j l hi hk hj hl=>(dvd_abs (neg_mn a x i k j l)).mpr (h i k j l hi hk hj hl),fun h i k j l hi hk hj hl=>(dvd_abs (neg_mn a x i k j l)).mp (h i k j l hi hk hj hl)⟩,(negR_det hx).symm⟩
end M4
namespace M4
def near (n p:Int):Int:=(2 * n + p).fdiv (2 * p)
theorem near_bound {n p:Int} (hp:0 < p):2 * (n - near n p * p).natAbs≤p.natAbs:=by
  unfold near
  rw [Int.fdiv_eq_ediv_of_nonneg _ (by omega)]
  have h1:=Int.emod_add_mul_ediv (2 * n + p) (2 * p)
  have h2:=Int.emod_nonneg (2 * n + p) (show 2 * p≠0 by omega)
  have h3:=Int.emod_lt_of_pos (2 * n + p) (show 0 < 2 * p by omega)
  generalize (2 * n + p) % (2 * p)=r at *
  generalize (2 * n + p) / (2 * p)=k at *
  have e:2 * p * k=2 * (k * p):=by grind
  rw [e] at h1
  generalize k * p=z at *
  omega
theorem near_zero {p:Int} (hp:0 < p):near 0 p=0:=by
  unfold near
  rw [Int.fdiv_eq_ediv_of_nonneg _ (by omega)]
  exact Int.ediv_eq_zero_of_lt (by omega) (by omega)
theorem near_small {n p:Int} (hp:0 < p):(near n p).natAbs≤n.natAbs + 1:=by
  have h:=near_bound (n:=n) hp
  have e:(near n p * p).natAbs≤n.natAbs + p.natAbs:=by omega
  rw [Int.natAbs_mul] at e
  by_cases z:(near n p).natAbs≤n.natAbs + 1
  · exact z
  · have:1≤p.natAbs:=by omega
    have h2:=Nat.mul_le_mul_right p.natAbs (show n.natAbs + 2≤(near n p).natAbs by omega)
    have h3:n.natAbs * 1≤n.natAbs * p.natAbs:=Nat.mul_le_mul_left _ this
    rw [Nat.add_mul] at h2
    omega
def rowU (a:Mt) (at_:Nat) (q:Nat→Int) (k:Nat):Mt:=fun i j=>if at_ < i∧i < k then a i j - q i * a at_ j else a i j
def colU (a:Mt) (at_:Nat) (q:Nat→Int) (k:Nat):Mt:=fun i j=>if at_ < j∧j < k then a i j - q j * a i at_ else a i j
theorem rowU_start (a:Mt) (at_:Nat) (q:Nat→Int):rowU a at_ q (at_ + 1)=a:=by
  funext i j
  unfold rowU
  rw [if_neg (by omega)]
theorem colU_start (a:Mt) (at_:Nat) (q:Nat→Int):colU a at_ q (at_ + 1)=a:=by
  funext i j
  unfold colU
  rw [if_neg (by omega)]
theorem rowU_step {a:Mt} {at_ k:Nat} {q:Nat→Int} (h:at_ < k):addR (rowU a at_ q k) k at_ (-(q k))=rowU a at_ q (k + 1):=by
  funext i j
  unfold addR rowU
  by_cases e:i=k
  · subst e
    rw [if_pos rfl,if_neg (by omega),if_neg (by omega),if_pos (by omega)]
    grind
  · rw [if_neg e]
    by_cases e2:at_ < i∧i < k
    · rw [if_pos e2,if_pos (by omega)]
    · rw [if_neg e2,if_neg (by omega)]
theorem colU_step {a:Mt} {at_ k:Nat} {q:Nat→Int} (h:at_ < k):addC (colU a at_ q k) k at_ (-(q k))=colU a at_ q (k + 1):=by
  funext i j
  unfold addC colU
  by_cases e:j=k
  · subst e
    rw [if_pos rfl,if_neg (by omega),if_neg (by omega),if_pos (by omega)]
    grind
  · rw [if_neg e]
    by_cases e2:at_ < j∧j < k
    · rw [if_pos e2,if_pos (by omega)]
    · rw [if_neg e2,if_neg (by omega)]
theorem rowU_ind {P:Mt→Prop} {a:Mt} {at_:Nat} {q:Nat→Int} (hP:∀ b k t,at_ < k→k < 3→P b→P (addR b k at_ t)) (h0:P a):∀ k,at_ < k→k≤3→P (rowU a at_ q k)
  | 0,h,_=>absurd h (Nat.not_lt_zero _)
  | k + 1,h,h3=>by
    by_cases e:at_=k
    · rw [← e,rowU_start]; exact h0
    · rw [← rowU_step (by omega)]
      exact hP _ _ _ (by omega) (by omega) (rowU_ind hP h0 k (by omega) (by omega))
theorem colU_ind {P:Mt→Prop} {a:Mt} {at_:Nat} {q:Nat→Int} (hP:∀ b k t,at_ < k→k < 3→P b→P (addC b k at_ t)) (h0:P a):∀ k,at_ < k→k≤3→P (colU a at_ q k)
  | 0,h,_=>absurd h (Nat.not_lt_zero _)
  | k + 1,h,h3=>by
    by_cases e:at_=k
    · rw [← e,colU_start]; exact h0
    · rw [← colU_step (by omega)]
      exact hP _ _ _ (by omega) (by omega) (colU_ind hP h0 k (by omega) (by omega))
def T (a:Mt) (at_ h w:Nat):Mt:=colU (rowU a at_ (fun i=>near (a i at_) (a at_ at_)) h) at_ (fun j=>near (a at_ j) (a at_ at_)) w
def Zr (h w:Nat) (a:Mt):Prop:=∀ i j,(h≤i∨w≤j)→a i j=0
theorem T_three {a:Mt} {at_ h w:Nat} (z:Zr h w a) (hp:0 < a at_ at_) (hh:h≤3) (hw:w≤3):T a at_ h w=T a at_ 3 3:=by
  have e1:rowU a at_ (fun i=>near (a i at_) (a at_ at_)) h=rowU a at_ (fun i=>near (a i at_) (a at_ at_)) 3:=by
    funext i j
    unfold rowU
    by_cases e:at_ < i∧i < h
    · rw [if_pos e,if_pos (by omega)]
    · rw [if_neg e]
      by_cases e2:at_ < i∧i < 3
      · rw [if_pos e2]
        show a i j=a i j - near (a i at_) (a at_ at_) * a at_ j
        rw [z i at_ (.inl (by omega)),near_zero hp]
        grind
      · rw [if_neg e2]
  unfold T
  rw [e1]
  generalize rowU a at_ (fun i=>near (a i at_) (a at_ at_)) 3=b
  funext i j
  unfold colU
  by_cases e:at_ < j∧j < w
  · rw [if_pos e,if_pos (by omega)]
  · rw [if_neg e]
    by_cases e2:at_ < j∧j < 3
    · rw [if_pos e2]
      show b i j=b i j - near (a at_ j) (a at_ at_) * b i at_
      rw [z at_ j (.inr (by omega)),near_zero hp]
      grind
    · rw [if_neg e2]
theorem T_zr {a:Mt} {at_ h w:Nat} (z:Zr h w a) (hp:0 < a at_ at_):Zr h w (T a at_ 3 3):=fun i j hij=>by
  show colU _ at_ _ 3 i j=0
  unfold colU rowU
  rcases hij with hi | hj
  · have e:∀ j,a i j=0:=fun j=>z i j (.inl hi)
    have en:near (a i at_) (a at_ at_)=0:=by rw [e]; exact near_zero hp
    simp only [e,near_zero hp]
    split <;> split <;> grind
  · have e:∀ i,a i j=0:=fun i=>z i j (.inr hj)
    simp only [e,near_zero hp]
    split <;> split <;> grind
theorem T_eqv {a:Mt} {at_:Nat} (h:at_ < 3):Eqv a (T a at_ 3 3) :=
  colU_ind (P:=Eqv a) (fun b k t h1 h2 e=>e.trans (addC_eqv h2 h (by omega))) (rowU_ind (P:=Eqv a) (fun b k t h1 h2 e=>e.trans (addR_eqv h2 h (by omega))) (Eqv.refl a) 3 h (Nat.le_refl _)) 3 h (Nat.le_refl _)
theorem T_at {a:Mt} {at_:Nat}:T a at_ 3 3 at_ at_=a at_ at_:=by
  show colU _ at_ _ 3 at_ at_=_
  unfold colU rowU
  rw [if_neg (by omega),if_neg (by omega)]
theorem T_row {a:Mt} {at_ j:Nat} (h1:at_ < j) (h3:j < 3):T a at_ 3 3 at_ j=a at_ j - near (a at_ j) (a at_ at_) * a at_ at_:=by
  show colU _ at_ _ 3 at_ j=_
  unfold colU rowU
  rw [if_pos ⟨h1,h3⟩,if_neg (by omega),if_neg (by omega)]
theorem T_col {a:Mt} {at_ i:Nat} (h1:at_ < i) (h3:i < 3):T a at_ 3 3 i at_=a i at_ - near (a i at_) (a at_ at_) * a at_ at_:=by
  show colU _ at_ _ 3 i at_=_
  unfold colU rowU
  rw [if_neg (by omega),if_pos ⟨h1,h3⟩]
theorem T_in {a:Mt} {at_ i j:Nat} (h1:at_ < i) (h3:i < 3) (g1:at_ < j) (g3:j < 3):T a at_ 3 3 i j=(a i j - near (a i at_) (a at_ at_) * a at_ j) - near (a at_ j) (a at_ at_) * (a i at_ - near (a i at_) (a at_ at_) * a at_ at_):=by
  show colU _ at_ _ 3 i j=_
  unfold colU rowU
  rw [if_pos ⟨g1,g3⟩,if_pos ⟨h1,h3⟩,if_pos ⟨h1,h3⟩]
theorem T_mn {a:Mt} {at_ i j:Nat} (h1:at_ < i) (h3:i < 3) (g1:at_ < j) (g3:j < 3):mn (T a at_ 3 3) at_ i at_ j=mn a at_ i at_ j:=by
  unfold mn
  rw [T_at,T_in h1 h3 g1 g3,T_row g1 g3,T_col h1 h3]
  grind
def Cl (at_:Nat) (a:Mt):Prop:=∀ k,k < at_→0 < a k k∧(∀ j,j≠k→a k j=0∧a j k=0)∧∀ i j,i < 3→j < 3→k < i→k < j→a k k ∣ a i j
theorem Cl_addR {at_ to s:Nat} {a:Mt} {t:Int} (h:Cl at_ a) (h1:at_≤to) (h2:at_≤s) (h3:to < 3) (h4:s < 3):Cl at_ (addR a to s t):=fun k hk=>by
  obtain ⟨c1,c2,c3⟩:=h k hk
  have ek:∀ j,addR a to s t k j=a k j:=fun j=>by unfold addR; rw [if_neg (by omega)]
  refine ⟨by rw [ek]; exact c1,fun j hj=>⟨by rw [ek]; exact (c2 j hj).1,?_⟩,fun i j hi hj ki kj=>?_⟩
  · unfold addR
    split
    · rw [(c2 to (by omega)).2,(c2 s (by omega)).2]; grind
    · exact (c2 j hj).2
  · rw [ek]
    unfold addR
    split
    · exact Int.dvd_add (c3 _ _ h3 hj (by omega) kj) (Int.dvd_mul_of_dvd_right (c3 _ _ h4 hj (by omega) kj))
    · exact c3 _ _ hi hj ki kj
theorem Cl_tr {at_:Nat} {a:Mt} (h:Cl at_ a):Cl at_ (tr a):=fun k hk=>by
  obtain ⟨c1,c2,c3⟩:=h k hk
  exact ⟨c1,fun j hj=>⟨(c2 j hj).2,(c2 j hj).1⟩,fun i j hi hj ki kj=>c3 j i hj hi kj ki⟩
theorem Cl_addC {at_ to s:Nat} {a:Mt} {t:Int} (h:Cl at_ a) (h1:at_≤to) (h2:at_≤s) (h3:to < 3) (h4:s < 3):Cl at_ (addC a to s t):=Cl_tr (Cl_addR (t:=t) (Cl_tr h) h1 h2 h3 h4)
theorem T_cl {a:Mt} {at_:Nat} (h:Cl at_ a) (h3:at_ < 3):Cl at_ (T a at_ 3 3) :=
  colU_ind (P:=Cl at_) (fun b k t h1 h2 e=>Cl_addC e (by omega) (Nat.le_refl _) h2 h3) (rowU_ind (P:=Cl at_) (fun b k t h1 h2 e=>Cl_addR e (by omega) (Nat.le_refl _) h2 h3) h 3 h3 (Nat.le_refl _)) 3 h3 (Nat.le_refl _)
theorem sw_ge {x y k at_:Nat} (hx:at_≤x) (hy:at_≤y) (hk:k < at_):sw x y k=k:=by unfold sw; rw [if_neg (by omega),if_neg (by omega)]
theorem Cl_swR {at_ x y:Nat} {a:Mt} (h:Cl at_ a) (hx:at_≤x) (hy:at_≤y) (x3:x < 3) (y3:y < 3):Cl at_ (swR a x y):=fun k hk=>by
  obtain ⟨c1,c2,c3⟩:=h k hk
  have ek:∀ j,swR a x y k j=a k j:=fun j=>by unfold swR; rw [sw_ge hx hy hk]
  have inj:∀ j,j≠k→sw x y j≠k:=fun j hj e=>hj (by have:=sw_sw x y j; rw [e,sw_ge hx hy hk] at this; exact this.symm)
  refine ⟨by rw [ek]; exact c1,fun j hj=>⟨by rw [ek]; exact (c2 j hj).1,(c2 _ (inj j hj)).2⟩,fun i j hi hj ki kj=>?_⟩
  rw [ek]
  refine c3 _ _ (sw_lt x3 y3 hi) hj ?_ kj
  unfold sw
  split
  · omega
  · split <;> omega
theorem Cl_swC {at_ x y:Nat} {a:Mt} (h:Cl at_ a) (hx:at_≤x) (hy:at_≤y) (x3:x < 3) (y3:y < 3):Cl at_ (swC a x y):=Cl_tr (Cl_swR (Cl_tr h) hx hy x3 y3)
theorem Cl_negR {at_ x:Nat} {a:Mt} (h:Cl at_ a) (hx:at_≤x):Cl at_ (negR a x):=fun k hk=>by
  obtain ⟨c1,c2,c3⟩:=h k hk
  have ek:∀ j,negR a x k j=a k j:=fun j=>by unfold negR; rw [if_neg (by omega)]
  refine ⟨by rw [ek]; exact c1,fun j hj=>⟨by rw [ek]; exact (c2 j hj).1,?_⟩,fun i j hi hj ki kj=>?_⟩
  · have:=(c2 j hj).2
    unfold negR
    split
    · rw [this]; rfl
    · exact this
  · rw [ek]
    exact (dvd_abs (neg_ent a x i j)).mpr (c3 i j hi hj ki kj)
end M4
namespace M4
theorem mulb {x y:Int} {A B:Nat} (hx:x.natAbs≤A) (hy:y.natAbs≤B):(x * y).natAbs≤A * B:=by rw [Int.natAbs_mul]; exact Nat.mul_le_mul hx hy
theorem abs_add (x y:Int):(x + y).natAbs≤x.natAbs + y.natAbs:=Int.natAbs_add_le x y
theorem abs_sub (x y:Int):(x - y).natAbs≤x.natAbs + y.natAbs:=by omega
structure BE (a:Mt) (N:Nat):Prop where
  b1:∀ i j,i < 3→j < 3→(a i j).natAbs≤N
  b2:∀ i k j l,i < 3→k < 3→j < 3→l < 3→(mn a i k j l).natAbs≤N
theorem mn_anti1 (a:Mt) (i k j l:Nat):(mn a k i j l).natAbs=(mn a i k j l).natAbs:=by
  have e:mn a k i j l=- mn a i k j l:=by unfold mn; grind
  rw [e,Int.natAbs_neg]
theorem mn_anti2 (a:Mt) (i k j l:Nat):(mn a i k l j).natAbs=(mn a i k j l).natAbs:=by
  have e:mn a i k l j=- mn a i k j l:=by unfold mn; grind
  rw [e,Int.natAbs_neg]
theorem mn_same2 (a:Mt) (i k j:Nat):mn a i k j j=0:=by unfold mn; grind
theorem b2_of {a:Mt} {N:Nat} (h:∀ i k j l,i < k→k < 3→j < l→l < 3→(mn a i k j l).natAbs≤N):∀ i k j l,i < 3→k < 3→j < 3→l < 3→(mn a i k j l).natAbs≤N:=by
  have step:∀ i k j l,i < k→k < 3→j < 3→l < 3→(mn a i k j l).natAbs≤N:=fun i k j l hik hk hj hl=>by
    rcases Nat.lt_trichotomy j l with e | e | e
    · exact h _ _ _ _ hik hk e hl
    · rw [e,mn_same2]; exact Nat.zero_le _
    · rw [← mn_anti2]; exact h _ _ _ _ hik hk e hj
  intro i k j l hi hk hj hl
  rcases Nat.lt_trichotomy i k with e | e | e
  · exact step _ _ _ _ e hk hj hl
  · rw [e,mn_same]; exact Nat.zero_le _
  · rw [← mn_anti1]; exact step _ _ _ _ e hi hj hl
theorem inner_le {p z m b c:Int} {N:Nat} (e:p * z=m + b * c) (hm:m.natAbs≤N) (hb:2 * b.natAbs≤p.natAbs) (hc:2 * c.natAbs≤p.natAbs):p.natAbs * z.natAbs≤N + p.natAbs * p.natAbs:=by
  rw [← Int.natAbs_mul,e]
  have h1:=abs_add m (b * c)
  have h2:=mulb (x:=b) (y:=c) (A:=p.natAbs) (B:=p.natAbs) (by omega) (by omega)
  omega
theorem half_mul {b z:Int} {P X:Nat} (hb:2 * b.natAbs≤P) (hz:P * z.natAbs≤X):2 * (b * z).natAbs≤X:=by
  rw [Int.natAbs_mul,← Nat.mul_assoc]
  exact Nat.le_trans (Nat.mul_le_mul_right _ hb) hz
theorem le_of_mul {P z X:Nat} (hP:1≤P) (h:P * z≤X):z≤X:=Nat.le_trans (by have:=Nat.mul_le_mul_right z hP; omega) h
theorem turn0 {a:Mt} {N D:Nat} (hp:0 < a 0 0) (hB:BE a N) (hD:(det a).natAbs≤D):BE (T a 0 3 3) (N + (a 0 0).natAbs * (a 0 0).natAbs + D):=by
  have hP:1≤(a 0 0).natAbs:=by omega
  have c00:T a 0 3 3 0 0=a 0 0:=T_at
  have r1:2 * (T a 0 3 3 0 1).natAbs≤(a 0 0).natAbs:=by rw [T_row (by decide) (by decide)]; exact near_bound hp
  have r2:2 * (T a 0 3 3 0 2).natAbs≤(a 0 0).natAbs:=by rw [T_row (by decide) (by decide)]; exact near_bound hp
  have k1:2 * (T a 0 3 3 1 0).natAbs≤(a 0 0).natAbs:=by rw [T_col (by decide) (by decide)]; exact near_bound hp
  have k2:2 * (T a 0 3 3 2 0).natAbs≤(a 0 0).natAbs:=by rw [T_col (by decide) (by decide)]; exact near_bound hp
  have m11:=T_mn (a:=a) (at_:=0) (i:=1) (j:=1) (by decide) (by decide) (by decide) (by decide)
  have m12:=T_mn (a:=a) (at_:=0) (i:=1) (j:=2) (by decide) (by decide) (by decide) (by decide)
  have m21:=T_mn (a:=a) (at_:=0) (i:=2) (j:=1) (by decide) (by decide) (by decide) (by decide)
  have m22:=T_mn (a:=a) (at_:=0) (i:=2) (j:=2) (by decide) (by decide) (by decide) (by decide)
  have dd:=(T_eqv (a:=a) (at_:=0) (by decide)).e3
  have n11:=hB.b2 0 1 0 1 (by decide) (by decide) (by decide) (by decide)
  have n12:=hB.b2 0 1 0 2 (by decide) (by decide) (by decide) (by decide)
  have n21:=hB.b2 0 2 0 1 (by decide) (by decide) (by decide) (by decide)
  have n22:=hB.b2 0 2 0 2 (by decide) (by decide) (by decide) (by decide)
  rw [← m11] at n11
  rw [← m12] at n12
  rw [← m21] at n21
  rw [← m22] at n22
  rw [dd] at hD
  clear m11 m12 m21 m22 dd hB
  generalize T a 0 3 3=c at *
  generalize a 0 0=p at *
  subst c00
  have i11:=inner_le (p:=c 0 0) (z:=c 1 1) (m:=mn c 0 1 0 1) (b:=c 0 1) (c:=c 1 0) (by unfold mn; grind) n11 r1 k1
  have i12:=inner_le (p:=c 0 0) (z:=c 1 2) (m:=mn c 0 1 0 2) (b:=c 0 2) (c:=c 1 0) (by unfold mn; grind) n12 r2 k1
  have i21:=inner_le (p:=c 0 0) (z:=c 2 1) (m:=mn c 0 2 0 1) (b:=c 0 1) (c:=c 2 0) (by unfold mn; grind) n21 r1 k2
  have i22:=inner_le (p:=c 0 0) (z:=c 2 2) (m:=mn c 0 2 0 2) (b:=c 0 2) (c:=c 2 0) (by unfold mn; grind) n22 r2 k2
  have PP:(c 0 0).natAbs≤(c 0 0).natAbs * (c 0 0).natAbs:=by have:=Nat.mul_le_mul_left (c 0 0).natAbs hP; omega
  generalize hX:N + (c 0 0).natAbs * (c 0 0).natAbs=X at *
  have z112:(mn c 0 1 1 2).natAbs≤X:=by
    have a1:=half_mul r1 i12
    have a2:=half_mul r2 i11
    have:=abs_sub (c 0 1 * c 1 2) (c 0 2 * c 1 1)
    show (c 0 1 * c 1 2 - c 0 2 * c 1 1).natAbs≤X
    omega
  have z212:(mn c 0 2 1 2).natAbs≤X:=by
    have a1:=half_mul r1 i22
    have a2:=half_mul r2 i21
    have:=abs_sub (c 0 1 * c 2 2) (c 0 2 * c 2 1)
    show (c 0 1 * c 2 2 - c 0 2 * c 2 1).natAbs≤X
    omega
  have z101:(mn c 1 2 0 1).natAbs≤X:=by
    have a1:=half_mul k1 i21
    have a2:=half_mul k2 i11
    have:=abs_sub (c 1 0 * c 2 1) (c 2 0 * c 1 1)
    have e:mn c 1 2 0 1=c 1 0 * c 2 1 - c 2 0 * c 1 1:=by unfold mn; grind
    rw [e]
    omega
  have z102:(mn c 1 2 0 2).natAbs≤X:=by
    have a1:=half_mul k1 i22
    have a2:=half_mul k2 i12
    have:=abs_sub (c 1 0 * c 2 2) (c 2 0 * c 1 2)
    have e:mn c 1 2 0 2=c 1 0 * c 2 2 - c 2 0 * c 1 2:=by unfold mn; grind
    rw [e]
    omega
  have z1212:(mn c 1 2 1 2).natAbs≤X + D:=by
    have e:c 0 0 * mn c 1 2 1 2=det c + (c 0 1 * mn c 1 2 0 2 - c 0 2 * mn c 1 2 0 1):=by unfold det; grind
    have a1:=half_mul r1 (Nat.mul_le_mul_left _ z102)
    have a2:=half_mul r2 (Nat.mul_le_mul_left _ z101)
    have b1:=abs_sub (c 0 1 * mn c 1 2 0 2) (c 0 2 * mn c 1 2 0 1)
    have b2:=abs_add (det c) (c 0 1 * mn c 1 2 0 2 - c 0 2 * mn c 1 2 0 1)
    rw [← e,Int.natAbs_mul] at b2
    have h:(c 0 0).natAbs * (mn c 1 2 1 2).natAbs≤(c 0 0).natAbs * (X + D):=by
      rw [Nat.mul_add]
      have:=Nat.mul_le_mul_right D hP
      omega
    exact Nat.le_of_mul_le_mul_left h (by omega)
  refine ⟨fun i j hi hj=>?_,b2_of fun i k j l hik hk hjl hl=>?_⟩
  · have l11:=le_of_mul hP i11
    have l12:=le_of_mul hP i12
    have l21:=le_of_mul hP i21
    have l22:=le_of_mul hP i22
    rcases three hi with rfl | rfl | rfl <;> rcases three hj with rfl | rfl | rfl <;> omega
  · have hi:i=0∧k=1∨i=0∧k=2∨i=1∧k=2:=by omega
    have hj:j=0∧l=1∨j=0∧l=2∨j=1∧l=2:=by omega
    rcases hi with ⟨rfl,rfl⟩ | ⟨rfl,rfl⟩ | ⟨rfl,rfl⟩ <;> rcases hj with ⟨rfl,rfl⟩ | ⟨rfl,rfl⟩ | ⟨rfl,rfl⟩ <;> omega
theorem bar0 {c:Mt} {N b:Nat} (hB:BE c N) (hr:∀ j,0 < j→j < 3→c 0 j=0) (hc:∀ i,0 < i→i < 3→c i 0=0) (hb:0 < b) (b3:b < 3):BE (addR c 0 b 1) N:=by
  have r1:=hr 1 (by decide) (by decide)
  have r2:=hr 2 (by decide) (by decide)
  have cb:=hc b hb b3
  have key:∀ k j l,0 < k→k < 3→j < l→l < 3→(mn c 0 k j l + mn c b k j l).natAbs≤N:=fun k j l hk k3 hjl hl=>by
    have ck:=hc k hk k3
    by_cases h0:j=0
    · have e:mn c b k j l=0:=by unfold mn; rw [h0,cb,ck]; grind
      rw [e,Int.add_zero]
      exact hB.b2 _ _ _ _ (by decide) k3 (by omega) hl
    · have e:mn c 0 k j l=0:=by
        have ej:j=1:=by omega
        have el:l=2:=by omega
        unfold mn; rw [ej,el,r1,r2]; grind
      rw [e,Int.zero_add]
      exact hB.b2 _ _ _ _ b3 k3 (by omega) hl
  refine ⟨fun i j hi hj=>?_,b2_of fun i k j l hik hk hjl hl=>?_⟩
  · unfold addR
    split
    · by_cases h0:j=0
      · rw [h0,cb]
        have:=hB.b1 0 0 (by decide) (by decide)
        simpa using this
      · rw [hr j (by omega) hj]
        have:=hB.b1 b j b3 hj
        simpa using this
    · exact hB.b1 _ _ hi hj
  · by_cases h0:i=0
    · have e:mn (addR c 0 b 1) i k j l=mn c 0 k j l + mn c b k j l:=by
        have nk:¬ k=0:=by omega
        simp only [mn,addR,h0,nk,if_true,if_false]; grind
      rw [e]
      exact key k j l (by omega) hk hjl hl
    · have nk:¬ k=0:=by omega
      have e:mn (addR c 0 b 1) i k j l=mn c i k j l:=by simp only [mn,addR,h0,nk,if_false]
      rw [e]
      exact hB.b2 _ _ _ _ (by omega) hk (by omega) hl
theorem BE_swR {a:Mt} {N x y:Nat} (h:BE a N) (hx:x < 3) (hy:y < 3):BE (swR a x y) N:=⟨fun i j hi hj=>h.b1 _ _ (sw_lt hx hy hi) hj,fun i k j l hi hk hj hl=>h.b2 _ _ _ _ (sw_lt hx hy hi) (sw_lt hx hy hk) hj hl⟩
theorem BE_swC {a:Mt} {N x y:Nat} (h:BE a N) (hx:x < 3) (hy:y < 3):BE (swC a x y) N:=⟨fun i j hi hj=>h.b1 _ _ hi (sw_lt hx hy hj),fun i k j l hi hk hj hl=>h.b2 _ _ _ _ hi hk (sw_lt hx hy hj) (sw_lt hx hy hl)⟩
theorem BE_negR {a:Mt} {N x:Nat} (h:BE a N):BE (negR a x) N:=⟨fun i j hi hj=>by rw [neg_ent]; exact h.b1 _ _ hi hj,fun i k j l hi hk hj hl=>by rw [neg_mn]; exact h.b2 _ _ _ _ hi hk hj hl⟩
theorem BE.mono {a:Mt} {N M:Nat} (h:BE a N) (l:N≤M):BE a M:=⟨fun i j hi hj=>Nat.le_trans (h.b1 i j hi hj) l,fun i k j m hi hk hj hm=>Nat.le_trans (h.b2 i k j m hi hk hj hm) l⟩
structure B1 (a:Mt) (E D:Nat):Prop where
  b1:∀ i j,i < 3→j < 3→(a i j).natAbs≤E
  b2:(mn a 1 2 1 2).natAbs≤D
theorem turn1 {a:Mt} {E D:Nat} (cl:Cl 1 a) (hp:0 < a 1 1) (hB:B1 a E D) (hE:D + (a 1 1).natAbs * (a 1 1).natAbs≤E∨D + (a 1 1).natAbs≤E):B1 (T a 1 3 3) E D:=by
  have hP:1≤(a 1 1).natAbs:=by omega
  have c11:T a 1 3 3 1 1=a 1 1:=T_at
  have r2:2 * (T a 1 3 3 1 2).natAbs≤(a 1 1).natAbs:=by rw [T_row (by decide) (by decide)]; exact near_bound hp
  have k2:2 * (T a 1 3 3 2 1).natAbs≤(a 1 1).natAbs:=by rw [T_col (by decide) (by decide)]; exact near_bound hp
  have m:=T_mn (a:=a) (at_:=1) (i:=2) (j:=2) (by decide) (by decide) (by decide) (by decide)
  have e11:=hB.b1 1 1 (by decide) (by decide)
  have e00:=hB.b1 0 0 (by decide) (by decide)
  have n:=hB.b2
  rw [← m] at n
  obtain ⟨_,z0,_⟩:=T_cl cl (by decide) 0 (by decide)
  have c00:T a 1 3 3 0 0=a 0 0:=by
    show colU _ 1 _ 3 0 0=_
    unfold colU rowU
    rw [if_neg (by omega),if_neg (by omega)]
  clear m cl hB
  generalize T a 1 3 3=c at *
  generalize a 1 1=p at *
  generalize a 0 0=p0 at *
  subst c11
  subst c00
  have e:c 1 1 * c 2 2=mn c 1 2 1 2 + c 1 2 * c 2 1:=by unfold mn; grind
  have i22:(c 2 2).natAbs≤D + (c 1 1).natAbs:=by
    have h1:=abs_add (mn c 1 2 1 2) (c 1 2 * c 2 1)
    have h2:=mulb (x:=c 1 2) (y:=c 2 1) (A:=(c 1 1).natAbs) (B:=(c 1 1).natAbs) (by omega) (by omega)
    rw [← e,Int.natAbs_mul] at h1
    have h3:(c 1 1).natAbs * (c 2 2).natAbs≤(c 1 1).natAbs * (D + (c 1 1).natAbs):=by
      rw [Nat.mul_add]
      have:=Nat.mul_le_mul_right D hP
      omega
    exact Nat.le_of_mul_le_mul_left h3 (by omega)
  have i22':(c 2 2).natAbs≤E:=by
    rcases hE with h | h
    · have:=Nat.mul_le_mul_left (c 1 1).natAbs hP
      omega
    · omega
  refine ⟨fun i j hi hj=>?_,n⟩
  have a1:=z0 1 (by decide)
  have a2:=z0 2 (by decide)
  rcases three hi with rfl | rfl | rfl <;> rcases three hj with rfl | rfl | rfl <;> omega
theorem bar1 {c:Mt} {E D:Nat} (hB:B1 c E D) (cl:Cl 1 c) (hr:c 1 2=0) (hc:c 2 1=0):B1 (addR c 1 2 1) E D:=by
  obtain ⟨_,z0,_⟩:=cl 0 (by decide)
  refine ⟨fun i j hi hj=>?_,?_⟩
  · unfold addR
    split
    · have e11:=hB.b1 1 1 (by decide) (by decide)
      have e22:=hB.b1 2 2 (by decide) (by decide)
      have a1:=(z0 1 (by decide)).2
      have a2:=(z0 2 (by decide)).2
      rcases three hj with rfl | rfl | rfl <;> omega
    · exact hB.b1 _ _ hi hj
  · have e:mn (addR c 1 2 1) 1 2 1 2=mn c 1 2 1 2:=by simp [mn,addR]; grind
    rw [e]; exact hB.b2
theorem sw1 {x y:Nat} (hx:1≤x) (hy:1≤y) (x3:x < 3) (y3:y < 3):(sw x y 1=1∧sw x y 2=2)∨(sw x y 1=2∧sw x y 2=1):=by
  have hx:x=1∨x=2:=by omega
  have hy:y=1∨y=2:=by omega
  rcases hx with rfl | rfl <;> rcases hy with rfl | rfl <;> decide
theorem B1_swR {a:Mt} {E D x y:Nat} (h:B1 a E D) (hx:1≤x) (hy:1≤y) (x3:x < 3) (y3:y < 3):B1 (swR a x y) E D:=by
  refine ⟨fun i j hi hj=>h.b1 _ _ (sw_lt x3 y3 hi) hj,?_⟩
  show (mn a (sw x y 1) (sw x y 2) 1 2).natAbs≤D
  rcases sw1 hx hy x3 y3 with ⟨e1,e2⟩ | ⟨e1,e2⟩ <;> rw [e1,e2]
  · exact h.b2
  · rw [mn_anti1]; exact h.b2
theorem B1_swC {a:Mt} {E D x y:Nat} (h:B1 a E D) (hx:1≤x) (hy:1≤y) (x3:x < 3) (y3:y < 3):B1 (swC a x y) E D:=by
  refine ⟨fun i j hi hj=>h.b1 _ _ hi (sw_lt x3 y3 hj),?_⟩
  show (mn a 1 2 (sw x y 1) (sw x y 2)).natAbs≤D
  rcases sw1 hx hy x3 y3 with ⟨e1,e2⟩ | ⟨e1,e2⟩ <;> rw [e1,e2]
  · exact h.b2
  · rw [mn_anti2]; exact h.b2
theorem B1_negR {a:Mt} {E D x:Nat} (h:B1 a E D):B1 (negR a x) E D:=⟨fun i j hi hj=>by rw [neg_ent]; exact h.b1 _ _ hi hj,by rw [neg_mn]; exact h.b2⟩
end M4
namespace M4
def Blk (at_ h w i j:Nat):Prop:=at_≤i∧i < h∧at_≤j∧j < w
def LB (at_ h w m:Nat) (a:Mt):Prop :=
  (∀ i j,Blk at_ h w i j→a i j=0)∨(∃ i j,Blk at_ h w i j∧a i j≠0∧2 * (a i j).natAbs + 1≤m) ∨
  (at_ < h∧at_ < w∧0 < a at_ at_∧2 * (a at_ at_).natAbs≤m∧(∀ i,at_ < i→a i at_=0)∧∃ j,at_ < j∧j < w∧¬ a at_ at_ ∣ a at_ j)
structure Bnd (at_ m:Nat) (a:Mt):Prop where
  s0:at_=0→m≤601∧BE a (180000 + (602 - m) * 162090000)
  s1:at_=1→m≤549755813888∧B1 a 1099511627776 274877906944
  s2:2≤at_→∀ i j,i < 3→j < 3→(a i j).natAbs≤1099511627776
theorem Bnd.ent {at_ m:Nat} {a:Mt} (h:Bnd at_ m a):∀ i j,i < 3→j < 3→(a i j).natAbs≤1099511627776:=fun i j hi hj=>by
  by_cases h0:at_=0
  · obtain ⟨_,b⟩:=h.s0 h0
    have h1:=b.b1 i j hi hj
    have h2:(602 - m) * 162090000≤602 * 162090000:=Nat.mul_le_mul_right _ (by omega)
    omega
  · by_cases h1:at_=1
    · exact (h.s1 h1).2.b1 i j hi hj
    · exact h.s2 (by omega) i j hi hj
theorem Bnd.swR {at_ m x y:Nat} {a:Mt} (h:Bnd at_ m a) (hx:at_≤x) (hy:at_≤y) (x3:x < 3) (y3:y < 3):Bnd at_ m (swR a x y) :=
  ⟨fun e=>⟨(h.s0 e).1,BE_swR (h.s0 e).2 x3 y3⟩,fun e=>⟨(h.s1 e).1,B1_swR (h.s1 e).2 (by omega) (by omega) x3 y3⟩,fun e i j hi hj=>h.s2 e _ _ (sw_lt x3 y3 hi) hj⟩
theorem Bnd.swC {at_ m x y:Nat} {a:Mt} (h:Bnd at_ m a) (hx:at_≤x) (hy:at_≤y) (x3:x < 3) (y3:y < 3):Bnd at_ m (swC a x y) :=
  ⟨fun e=>⟨(h.s0 e).1,BE_swC (h.s0 e).2 x3 y3⟩,fun e=>⟨(h.s1 e).1,B1_swC (h.s1 e).2 (by omega) (by omega) x3 y3⟩,fun e i j hi hj=>h.s2 e _ _ hi (sw_lt x3 y3 hj)⟩
theorem Bnd.negR {at_ m x:Nat} {a:Mt} (h:Bnd at_ m a):Bnd at_ m (negR a x) :=
  ⟨fun e=>⟨(h.s0 e).1,BE_negR (h.s0 e).2⟩,fun e=>⟨(h.s1 e).1,B1_negR (h.s1 e).2⟩,fun e i j hi hj=>by rw [neg_ent]; exact h.s2 e _ _ hi hj⟩
structure Lp (h w:Nat) (a0:Mt) (at_ m:Nat) (a:Mt):Prop where
  hh:h≤3
  hw:w≤3
  ah:at_≤h
  aw:at_≤w
  dt:(det a0).natAbs≤162000000
  zr:Zr h w a
  eq:Eqv a0 a
  cl:Cl at_ a
  bd:Bnd at_ m a
  lb:LB at_ h w m a
structure Br (h w:Nat) (a0:Mt) (at_ m:Nat) (a:Mt):Prop where
  hh:h≤3
  hw:w≤3
  ah:at_ < h
  aw:at_ < w
  dt:(det a0).natAbs≤162000000
  zr:Zr h w a
  eq:Eqv a0 a
  cl:Cl at_ a
  bd:Bnd at_ m a
  hp:0 < a at_ at_
  lb:2 * (a at_ at_).natAbs + 1≤m∨(2 * (a at_ at_).natAbs≤m∧(∀ i,at_ < i→a i at_=0)∧∃ j,at_ < j∧j < w∧¬ a at_ at_ ∣ a at_ j)
structure Pl (at_ h w:Nat) (a:Mt) (li co:Nat):Prop where
  b:Blk at_ h w li co
  ne:a li co≠0
  le:∀ i j,Blk at_ h w i j→a i j≠0→(a li co).natAbs≤(a i j).natAbs
  fst:a at_ at_≠0→(a at_ at_).natAbs≤(a li co).natAbs→li=at_∧co=at_
def sgn (b:Mt) (at_:Nat):Mt:=if b at_ at_ < 0 then negR b at_ else b
def brought (a:Mt) (at_ li co:Nat):Mt:=sgn (swC (swR a at_ li) at_ co) at_
theorem sw_left (x y:Nat):sw x y x=y:=if_pos rfl
theorem sw_self (x k:Nat):sw x x k=k:=by unfold sw; split <;> omega
theorem swR_self (a:Mt) (x:Nat):swR a x x=a:=by funext i j; show a (sw x x i) j=a i j; rw [sw_self]
theorem swC_self (a:Mt) (x:Nat):swC a x x=a:=by funext i j; show a i (sw x x j)=a i j; rw [sw_self]
theorem Zr_swR {h w x y:Nat} {a:Mt} (z:Zr h w a) (hx:x < h) (hy:y < h):Zr h w (swR a x y):=fun i j hij=>by
  show a (sw x y i) j=0
  rcases hij with hi | hj
  · have e:sw x y i=i:=by unfold sw; rw [if_neg (by omega),if_neg (by omega)]
    rw [e]; exact z _ _ (.inl hi)
  · exact z _ _ (.inr hj)
theorem Zr_swC {h w x y:Nat} {a:Mt} (z:Zr h w a) (hx:x < w) (hy:y < w):Zr h w (swC a x y):=fun i j hij=>by
  show a i (sw x y j)=0
  rcases hij with hi | hj
  · exact z _ _ (.inl hi)
  · have e:sw x y j=j:=by unfold sw; rw [if_neg (by omega),if_neg (by omega)]
    rw [e]; exact z _ _ (.inr hj)
theorem Zr_negR {h w x:Nat} {a:Mt} (z:Zr h w a):Zr h w (negR a x):=fun i j hij=>by
  have:=z i j hij
  unfold negR
  split
  · rw [this]; rfl
  · exact this
theorem Zr_addR {h w to s:Nat} {t:Int} {a:Mt} (z:Zr h w a) (h1:to < h) (h2:s < h):Zr h w (addR a to s t):=fun i j hij=>by
  unfold addR
  split
  · rename_i e
    rcases hij with hi | hj
    · omega
    · rw [z _ _ (.inr hj),z _ _ (.inr hj)]; grind
  · exact z _ _ hij
theorem brought_ok {h w at_ m li co:Nat} {a0 a:Mt} (L:Lp h w a0 at_ m a) (p:Pl at_ h w a li co):Br h w a0 at_ m (brought a at_ li co):=by
  obtain ⟨b1,b2,b3,b4⟩:=p.b
  have hh:=L.hh
  have hw:=L.hw
  have e0:swC (swR a at_ li) at_ co at_ at_=a li co:=by show a (sw at_ li at_) (sw at_ co at_)=_; rw [sw_left,sw_left]
  have zr:=Zr_swC (Zr_swR L.zr (show at_ < h by omega) b2) (show at_ < w by omega) b4
  have eq:=L.eq.trans ((swR_eqv (a:=a) (show at_ < 3 by omega) (show li < 3 by omega)).trans (swC_eqv (show at_ < 3 by omega) (show co < 3 by omega)))
  have cl:=Cl_swC (Cl_swR L.cl (Nat.le_refl _) b1 (by omega) (show li < 3 by omega)) (Nat.le_refl _) b3 (by omega) (show co < 3 by omega)
  have bd:=(L.bd.swR (Nat.le_refl _) b1 (by omega) (show li < 3 by omega)).swC (Nat.le_refl _) b3 (by omega) (show co < 3 by omega)
  have lb:2 * (a li co).natAbs + 1≤m∨(li=at_∧co=at_∧0 < a at_ at_∧2 * (a at_ at_).natAbs≤m∧(∀ i,at_ < i→a i at_=0)∧∃ j,at_ < j∧j < w∧¬ a at_ at_ ∣ a at_ j):=by
    rcases L.lb with z | ⟨i,j,hb,hn,hm⟩ | ⟨f1,f2,f3,f4,f5,f6⟩
    · exact absurd (z li co p.b) p.ne
    · have:=p.le i j hb hn
      left; omega
    · have:=p.le at_ at_ ⟨Nat.le_refl _,f1,Nat.le_refl _,f2⟩ (by omega)
      by_cases e:(a li co).natAbs < (a at_ at_).natAbs
      · left; omega
      · obtain ⟨e1,e2⟩:=p.fst (by omega) (by omega)
        exact .inr ⟨e1,e2,f3,f4,f5,f6⟩
  unfold brought sgn
  rw [e0]
  by_cases hneg:a li co < 0
  · rw [if_pos hneg]
    have ev:negR (swC (swR a at_ li) at_ co) at_ at_ at_=- a li co:=by
      show (if at_=at_ then - swC (swR a at_ li) at_ co at_ at_ else _)=_
      rw [if_pos rfl,e0]
    refine ⟨L.hh,L.hw,by omega,by omega,L.dt,Zr_negR zr,eq.trans (negR_eqv (by omega)),Cl_negR cl (Nat.le_refl _),bd.negR,by rw [ev]; omega,?_⟩
    rw [ev]
    rcases lb with lb | ⟨e1,e2,f3,_⟩
    · left; omega
    · rw [e1,e2] at hneg; omega
  · rw [if_neg hneg]
    have hne:=p.ne
    refine ⟨L.hh,L.hw,by omega,by omega,L.dt,zr,eq,cl,bd,by rw [e0]; omega,?_⟩
    rcases lb with lb | ⟨e1,e2,f3,f4,f5,f6⟩
    · left; rw [e0]; exact lb
    · right
      subst e1 e2
      rw [swR_self,swC_self]
      exact ⟨f4,f5,f6⟩
theorem T_two (a:Mt):T a 2 3 3=a:=by
  funext i j
  show colU _ 2 _ 3 i j=_
  unfold colU rowU
  rw [if_neg (by omega),if_neg (by omega)]
theorem Br.p_le {h w at_ m:Nat} {a0 a:Mt} (B:Br h w a0 at_ m a):2 * (a at_ at_).natAbs≤m:=by
  rcases B.lb with h | h
  · omega
  · exact h.1
theorem turn_bnd {h w at_ m m':Nat} {a0 a:Mt} (B:Br h w a0 at_ m a) (hm:m' < m):Bnd at_ m' (T a at_ 3 3):=by
  have hpl:=B.p_le
  refine ⟨fun e=>?_,fun e=>?_,fun e=>?_⟩
  · subst e
    obtain ⟨h1,h2⟩:=B.bd.s0 rfl
    refine ⟨by omega,(turn0 B.hp h2 (D:=162000000) (by rw [← B.eq.e3]; exact B.dt)).mono ?_⟩
    have hp:(a 0 0).natAbs * (a 0 0).natAbs≤300 * 300:=Nat.mul_le_mul (by omega) (by omega)
    have hk:(602 - m + 1) * 162090000≤(602 - m') * 162090000:=Nat.mul_le_mul_right _ (by omega)
    rw [Nat.add_mul] at hk
    omega
  · subst e
    obtain ⟨h1,h2⟩:=B.bd.s1 rfl
    exact ⟨by omega,turn1 B.cl B.hp h2 (.inr (by omega))⟩
  · have:at_=2:=by have:=B.ah; have:=B.hh; omega
    subst this
    rw [T_two]
    exact B.bd.s2 (Nat.le_refl _)
theorem not_dvd_rest {x p k:Int} (h:¬ p ∣ x):x - k * p≠0:=fun e=>h ⟨k,by rw [Int.mul_comm]; omega⟩
def Cross (at_ h w:Nat) (c:Mt):Prop:=(∀ i,at_ < i→i < h→c i at_=0)∧∀ j,at_ < j→j < w→c at_ j=0
theorem T_all {h w at_ m:Nat} {a0 a:Mt} (B:Br h w a0 at_ m a):Zr h w (T a at_ 3 3)∧Eqv a0 (T a at_ 3 3)∧Cl at_ (T a at_ 3 3):=by
  have h3:at_ < 3:=by have:=B.ah; have:=B.hh; omega
  exact ⟨T_zr B.zr B.hp,B.eq.trans (T_eqv h3),T_cl B.cl h3⟩
theorem stepA {h w at_ m:Nat} {a0 a:Mt} (B:Br h w a0 at_ m a) (nc:¬ Cross at_ h w (T a at_ 3 3)):∃ m',m' < m∧Lp h w a0 at_ m' (T a at_ 3 3):=by
  obtain ⟨zr,eq,cl⟩:=T_all B
  have hpl:=B.p_le
  have hh:=B.hh
  have hw:=B.hw
  have ah:=B.ah
  have aw:=B.aw
  obtain ⟨i,j,hb,hn,hs⟩:∃ i j,Blk at_ h w i j∧T a at_ 3 3 i j≠0∧2 * (T a at_ 3 3 i j).natAbs≤(a at_ at_).natAbs:=by
    by_cases h1:∀ i,at_ < i→i < h→T a at_ 3 3 i at_=0
    · have h2:¬ ∀ j,at_ < j→j < w→T a at_ 3 3 at_ j=0:=fun h2=>nc ⟨h1,h2⟩
      obtain ⟨j,hj⟩:=Classical.not_forall.mp h2
      obtain ⟨g1,hj⟩:=Classical.not_imp.mp hj
      obtain ⟨g2,hj⟩:=Classical.not_imp.mp hj
      exact ⟨at_,j,⟨Nat.le_refl _,ah,by omega,g2⟩,hj,by rw [T_row g1 (by omega)]; exact near_bound B.hp⟩
    · obtain ⟨i,hi⟩:=Classical.not_forall.mp h1
      obtain ⟨g1,hi⟩:=Classical.not_imp.mp hi
      obtain ⟨g2,hi⟩:=Classical.not_imp.mp hi
      exact ⟨i,at_,⟨by omega,g2,Nat.le_refl _,aw⟩,hi,by rw [T_col g1 (by omega)]; exact near_bound B.hp⟩
  have hlt:2 * (T a at_ 3 3 i j).natAbs + 1 < m:=by omega
  exact ⟨_,hlt,hh,hw,by omega,by omega,B.dt,zr,eq,cl,turn_bnd B hlt,.inr (.inl ⟨i,j,hb,hn,Nat.le_refl _⟩)⟩
theorem stepC {h w at_ m bl j:Nat} {a0 a:Mt} (B:Br h w a0 at_ m a) (c:Cross at_ h w (T a at_ 3 3)) (h1:at_ < bl) (h2:bl < h) (hj:j < w) (nd:¬ a at_ at_ ∣ T a at_ 3 3 bl j):∃ m',m' < m∧Lp h w a0 at_ m' (addR (T a at_ 3 3) at_ bl 1):=by
  obtain ⟨zr,eq,cl⟩:=T_all B
  have hh:=B.hh
  have hw:=B.hw
  have ah:=B.ah
  have aw:=B.aw
  have hm:2 * (a at_ at_).natAbs < m:=by
    rcases B.lb with g | ⟨_,_,k,k1,k2,k3⟩
    · omega
    · have:=c.2 k k1 k2
      rw [T_row k1 (by omega)] at this
      exact absurd this (not_dvd_rest k3)
  have bd:=turn_bnd B hm
  have cat:T a at_ 3 3 at_ at_=a at_ at_:=T_at
  have hp:=B.hp
  generalize T a at_ 3 3=t at *
  have hdt:=B.dt
  clear B
  generalize a at_ at_=p at *
  subst cat
  have z1:∀ i,at_ < i→t i at_=0:=fun i hi=>by
    by_cases g:i < h
    · exact c.1 i hi g
    · exact zr _ _ (.inl (by omega))
  have z2:∀ j,at_ < j→t at_ j=0:=fun i hi=>by
    by_cases g:i < w
    · exact c.2 i hi g
    · exact zr _ _ (.inr (by omega))
  have e1:addR t at_ bl 1 at_ at_=t at_ at_:=by unfold addR; rw [if_pos rfl,z1 bl h1]; grind
  have jat:at_ < j:=by
    rcases Nat.lt_trichotomy at_ j with g | g | g
    · exact g
    · rw [← g,z1 bl h1] at nd
      exact absurd (Int.dvd_zero _) nd
    · have:=((cl j g).2.1 bl (by omega)).2
      rw [this] at nd
      exact absurd (Int.dvd_zero _) nd
  refine ⟨_,hm,hh,hw,by omega,by omega,hdt,Zr_addR zr ah h2,eq.trans (addR_eqv (by omega) (by omega) (by omega)),Cl_addR cl (Nat.le_refl _) (by omega) (by omega) (by omega),⟨fun e=>?_,fun e=>?_,fun e=>?_⟩,.inr (.inr ⟨ah,aw,by rw [e1]; exact hp,by rw [e1]; exact Nat.le_refl _,fun i hi=>?_,j,jat,hj,?_⟩)⟩
  · subst e
    exact ⟨(bd.s0 rfl).1,bar0 (bd.s0 rfl).2 (fun j hj _=>z2 j hj) (fun i hi _=>z1 i hi) h1 (by omega)⟩
  · subst e
    have:bl=2:=by omega
    subst this
    exact ⟨(bd.s1 rfl).1,bar1 (bd.s1 rfl).2 cl (z2 2 (by decide)) (z1 2 (by decide))⟩
  · omega
  · unfold addR
    rw [if_neg (by omega)]
    exact z1 i hi
  · rw [e1]
    unfold addR
    rw [if_pos rfl,z2 j jat]
    have e:(0:Int) + 1 * t bl j=t bl j:=by grind
    rw [e]
    exact nd
theorem stepB {h w at_ m:Nat} {a0 a:Mt} (B:Br h w a0 at_ m a) (c:Cross at_ h w (T a at_ 3 3)) (dv:∀ i j,at_ < i→i < h→j < w→a at_ at_ ∣ T a at_ 3 3 i j):∃ m',m' < 17592186044416∧Lp h w a0 (at_ + 1) m' (T a at_ 3 3):=by
  obtain ⟨zr,eq,cl⟩:=T_all B
  have hh:=B.hh
  have hw:=B.hw
  have ah:=B.ah
  have aw:=B.aw
  have hpl:=B.p_le
  have hp:=B.hp
  have hm:m - 1 < m:=by omega
  have bd:=turn_bnd B hm
  have cat:T a at_ 3 3 at_ at_=a at_ at_:=T_at
  generalize T a at_ 3 3=t at *
  have z1:∀ i,at_ < i→t i at_=0:=fun i hi=>by
    by_cases g:i < h
    · exact c.1 i hi g
    · exact zr _ _ (.inl (by omega))
  have z2:∀ j,at_ < j→t at_ j=0:=fun i hi=>by
    by_cases g:i < w
    · exact c.2 i hi g
    · exact zr _ _ (.inr (by omega))
  have cl':Cl (at_ + 1) t:=fun k hk=>by
    by_cases e:k=at_
    · subst e
      refine ⟨by rw [cat]; exact hp,fun j hj=>?_,fun i j hi hj ki kj=>?_⟩
      · by_cases g:k < j
        · exact ⟨z2 j g,z1 j g⟩
        · have:=(cl j (by omega)).2.1 k (by omega)
          exact ⟨this.2,this.1⟩
      · rw [cat]
        by_cases g:i < h∧j < w
        · exact dv i j ki g.1 g.2
        · rw [zr i j (by omega)]; exact Int.dvd_zero _
    · exact cl k (by omega)
  have LBof:∀ M,(∀ i j,i < 3→j < 3→2 * (t i j).natAbs + 1≤M)→LB (at_ + 1) h w M t:=fun M hM=>by
    by_cases z:∀ i j,Blk (at_ + 1) h w i j→t i j=0
    · exact .inl z
    · obtain ⟨i,z⟩:=Classical.not_forall.mp z
      obtain ⟨j,z⟩:=Classical.not_forall.mp z
      obtain ⟨g,z⟩:=Classical.not_imp.mp z
      have g2:=g.2.1
      have g4:=g.2.2.2
      exact .inr (.inl ⟨i,j,g,z,hM i j (by omega) (by omega)⟩)
  by_cases h0:at_=0
  · subst h0
    obtain ⟨h1,h2⟩:=bd.s0 rfl
    have h3:(602 - (m - 1)) * 162090000≤602 * 162090000:=Nat.mul_le_mul_right _ (by omega)
    have h2:=h2.mono (show _≤100000000000 by omega)
    refine ⟨549755813888,by decide,hh,hw,by omega,by omega,B.dt,zr,eq,cl',⟨fun e=>by omega,fun _=>⟨Nat.le_refl _,fun i j hi hj=>Nat.le_trans (h2.b1 i j hi hj) (by decide),Nat.le_trans (h2.b2 _ _ _ _ (by decide) (by decide) (by decide) (by decide)) (by decide)⟩,fun e=>by omega⟩,LBof _ fun i j hi hj=>?_⟩
    have:=h2.b1 i j hi hj
    omega
  · have hE:=bd.ent
    refine ⟨8796093022208,by decide,hh,hw,by omega,by omega,B.dt,zr,eq,cl',⟨fun e=>by omega,fun e=>by omega,fun _=>hE⟩,LBof _ fun i j hi hj=>?_⟩
    have:=hE i j hi hj
    omega
end M4
namespace KF
open PySem L2 PyProof.Rows K01 KW
abbrev top (i:Nat):Stmt:=KW.top i
def mapR {α:Type} (n:Nat) (f:Nat→α):List α:=(List.range n).map f
section
variable {α β:Type} {n:Nat} {f g:Nat→α}
theorem mapR_len:(mapR n f).length=n:=by unfold mapR; rw [List.length_map,List.length_range]
theorem mapR_get {i:Nat} (h:i < n):(mapR n f)[i]?=some (f i):=by unfold mapR; rw [List.getElem?_map,List.getElem?_range h]; rfl
theorem mapR_get' {i:Nat} {x:α} (h:(mapR n f)[i]?=some x):i < n∧x=f i:=by
  have hi:i < n:=by have:=(List.getElem?_eq_some_iff.mp h).1; rwa [mapR_len] at this
  rw [mapR_get hi] at h
  exact ⟨hi,(Option.some.inj h).symm⟩
theorem mapR_of {xs:List α} (hl:xs.length=n) (h:∀ i,i < n→xs[i]?=some (f i)):xs=mapR n f:=by
  apply List.ext_getElem?
  intro i
  by_cases hi:i < n
  · rw [h i hi,mapR_get hi]
  · rw [List.getElem?_eq_none (by omega),List.getElem?_eq_none (by rw [mapR_len]; omega)]
theorem mapR_set {i:Nat} {x:α}:(mapR n f).set i x=mapR n (fun k=>if k=i then x else f k):=by
  refine mapR_of (by rw [List.length_set,mapR_len]) fun k hk=>?_
  rw [List.getElem?_set,mapR_len,mapR_get hk]
  by_cases e:i=k
  · rw [if_pos e,if_pos e.symm,if_pos (by omega)]
  · rw [if_neg e,if_neg (fun z=>e z.symm)]
theorem mapR_ext (h:∀ k,k < n→f k=g k):mapR n f=mapR n g:=mapR_of mapR_len fun i hi=>by rw [mapR_get hi,h i hi]
theorem mapR_succ:mapR (n + 1) f=mapR n f ++ [f n]:=by unfold mapR; rw [List.range_succ,List.map_append]; rfl
theorem mapR_map {h:α→β}:(mapR n f).map h=mapR n (fun k=>h (f k)):=by unfold mapR; rw [List.map_map]; rfl
theorem mapR_mem {x:α} (h:x∈mapR n f):∃ i,i < n∧x=f i:=by
  obtain ⟨i,hi,e⟩:=List.mem_map.mp h
  exact ⟨i,List.mem_range.mp hi,e.symm⟩
end
theorem zip_mapR {n:Nat} {f g:Nat→Int} {F:Int→Int→Int}:List.zipWith F (mapR n f) (mapR n g)=mapR n (fun k=>F (f k) (g k)):=by
  refine mapR_of (by rw [List.length_zipWith,mapR_len,mapR_len]; omega) fun i hi=>?_
  rw [List.getElem?_zipWith,mapR_get hi,mapR_get hi]
theorem swap_mapR {α:Type} {n i j:Nat} {f:Nat→α} (hi:i < n) (hj:j < n):((mapR n f).set i (f j)).set j (f i)=mapR n (fun k=>f (M4.sw i j k)):=by
  rw [mapR_set,mapR_set]
  refine mapR_ext fun k hk=>?_
  show (if k=j then f i else if k=i then f j else f k)=f (M4.sw i j k)
  unfold M4.sw
  by_cases e1:k=j
  · rw [if_pos e1]
    by_cases e2:k=i
    · rw [if_pos e2,← e2,e1]
    · rw [if_neg e2,if_pos e1]
  · rw [if_neg e1]
    by_cases e2:k=i
    · rw [if_pos e2,if_pos e2]
    · rw [if_neg e2,if_neg e2,if_neg e1]
theorem ixN_nat {n i:Nat} (h:i < n):ixN n (i:Int)=some i:=by
  unfold ixN
  rw [if_pos (by omega),if_pos (by omega),Int.toNat_natCast]
theorem at_nat {xs:List V} {i:Nat} {v:V} (h:xs[i]?=some v):atI xs (i:Int)=some v:=atI_nat h
section
variable {P:Program} {w:World} {K:PySem.W.Frag} {mg:Str→Option Value} {base:Heap}
theorem mulL' {a b:Int} (h:a.natAbs < 2 ^ 64):IntMulOk a b:=.of_left (intBits_le_iff.mpr h)
def spMore:Sp:=fun vs H Q _=>∃ (a b:Addr) (ns ms:List Int) (t:Int),vs=[.ref a,.ref b,.int t]∧H a=some (.lst (ns.map V.int))∧H b=some (.lst (ms.map V.int))∧ns.length=ms.length∧ns.length≤100∧t.natAbs < 2 ^ 64 ∧
  ∀ l H',Same H H'→H l=none→H' l=some (.lst ((List.zipWith (fun x y=>x + t * y) ns ms).map V.int))→Q (.ref l) H'
theorem scMore:FnScope ["line","other","times"] ["line","other","times"] (defScope (top 3)):=⟨rfl,rfl,rfl,by decide +kernel,rfl,by decide +kernel,by decide +kernel⟩
theorem zip_take {F:Int→Int→Int} {ns ms:List Int} {i:Nat} {x y:Int} (hx:ns[i]?=some x) (hy:ms[i]?=some y):(List.zipWith F ns ms).take (i + 1)=(List.zipWith F ns ms).take i ++ [F x y]:=take_succ' (by rw [List.getElem?_zipWith,hx,hy])
set_option maxHeartbeats 4000000 in
theorem ok_more {f:Addr} {fd:FuncData} (F:FnAt K mg "with_more" "with_more" (top 3) .none f fd) (T:Txt mg):FnOk P w K mg base CX0 1 f fd ["line","other","times"] spMore:=by
  have nd:=scMore.nd
  refine F.ok scMore (fun vs H Q E h=>?_) (fun cdv A outer s H vs Q E hr h=>?_)
  · obtain ⟨a,b,ns,ms,t,rfl,_⟩:=h
    rfl
  · obtain ⟨a,b,ns,ms,t,rfl,ha,hb,hl,hz,ht,q⟩:=h
    refine ⟨_,(pss_one (ps_ret (pe_comp (by rfl) (compOk (N:=["number","more","times"]) (ix:=[none,none,some 2])) (pi_zip (by rfl) T.n_zip (pa_cons (pv 0) (pa_cons (pv 1) pa_nil))) (by intro _ _ _ _ _; exact PG.to (pg_tup (n:=2) (by rfl) (pgs_cons (pg_name (i:=0) (show (["number","more","times"]:List Str).Nodup by decide +kernel) rfl (Or.inl rfl)) (pgs_cons (pg_name (i:=1) (show (["number","more","times"]:List Str).Nodup by decide +kernel) rfl (Or.inl rfl)) pgs_nil))) (by (try simp only [inX_K]); rfl)) (by intro _ _ _ _ _; exact PE.to (pe_op op_add (pv 0) (pe_op op_mulX (pv 2) (pv 1))) (by (try simp only [inX_K]); rfl))))),?_⟩
    have ln:(ns.map V.int).length=ns.length:=List.length_map ..
    refine ⟨_,rfl,_,rfl,a,b,rfl,⟨_,SqL.of ha⟩,⟨_,SqL.of hb⟩,?_⟩
    refine compZ (K:=K) (a:=a) (b:=b) (xs:=ns.map V.int) (zs:=ms.map V.int) (fun i ys H1=>Same H H1∧ys=((List.zipWith (fun x y=>x + t * y) ns ms).take i).map V.int) ⟨Same.refl _,rfl⟩ (by rw [List.length_map,List.length_map,hl]) ?_ (by rw [ln]; exact small1000' (by omega)) ?_ ?_
    · rintro i ys H1 hi ⟨s3,rfl⟩
      rw [ln] at hi
      refine ⟨SqL.of (s3 _ _ ha),SqL.of (s3 _ _ hb),?_⟩
      rw [List.length_map,List.length_take,List.length_zipWith]
      omega
    · rintro i x z ys H1 U R hx hz' ⟨s3,rfl⟩ hU kR
      obtain ⟨n,hn,rfl⟩:=getI_map hx
      obtain ⟨m,hm,rfl⟩:=getI_map hz'
      have s4:=s3.trans (same_upd (o:=.tup [V.int n,V.int m]) hU)
      refine ⟨U,_,rfl,SqT.of upd_same,rfl,_,_,rfl,_,_,rfl,rfl,StLe.trans (StLe.set rfl) (StLe.set rfl),_,rfl,_,rfl,_,rfl,_,_,rfl,rfl,mulL' ht,_,_,rfl,rfl,kR _ _ ⟨s4,?_⟩⟩
      rw [zip_take hn hm,List.map_append]
      rfl
    · rintro ys H1 ⟨s3,rfl⟩ l hl'
      rw [ln,List.take_of_length_le (by rw [List.length_zipWith]; omega)]
      exact q l _ (s3.trans (same_upd hl')) (s3.free hl') upd_same
def spSwap:Sp:=fun vs H Q _=>∃ (t:Addr) (xs:List V) (i j:Nat) (x y:V),vs=[.ref t,.int i,.int j]∧H t=some (.lst xs)∧xs[i]?=some x∧xs[j]?=some y∧∀ H',But t H H'→H' t=some (.lst ((xs.set i y).set j x))→Q .non H'
theorem scSwap:FnScope ["table","one","other"] ["table","one","other"] (defScope (top 4)):=⟨rfl,rfl,rfl,by decide +kernel,rfl,by decide +kernel,by decide +kernel⟩
set_option maxHeartbeats 4000000 in
theorem ok_swap {f:Addr} {fd:FuncData} (F:FnAt K mg "exchange" "exchange" (top 4) .none f fd) (T:Txt mg):FnOk P w K mg base CX0 1 f fd ["table","one","other"] spSwap:=by
  have nd:=scSwap.nd
  refine F.ok scSwap (fun vs H Q E h=>?_) (fun cdv A outer s H vs Q E hr h=>?_)
  · obtain ⟨t,xs,i,j,x,y,rfl,_⟩:=h
    rfl
  · obtain ⟨t,xs,i,j,x,y,rfl,ht,hx,hy,q⟩:=h
    refine ⟨_,(pss_one (ps_asg (pe_tup (pa_cons (pe_ix ix_list (pv 0) (pv 2) (fun _ _=>rfl)) (pa_cons (pe_ix ix_list (pv 0) (pv 1) (fun _ _=>rfl)) pa_nil))) (pg_tup (n:=2) (by rfl) (pgs_cons (pg_sub (pv 0) (pv 1) set_list) (pgs_cons (pg_sub (pv 0) (pv 2) set_list) pgs_nil))))),?_⟩
    refine ⟨_,rfl,_,rfl,t,_,_,y,rfl,rfl,SqL.of ht,at_nat hy,?_⟩
    refine ⟨_,rfl,_,rfl,t,_,_,x,rfl,rfl,SqL.of ht,at_nat hx,?_⟩
    refine ⟨(show 2≤sizeLine by decide),fun p hp=>?_⟩
    have s1:=same_upd (o:=.tup [y,x]) hp
    have li:i < xs.length:=(List.getElem?_eq_some_iff.mp hx).1
    have lj:j < xs.length:=(List.getElem?_eq_some_iff.mp hy).1
    refine ⟨p,_,rfl,SqT.of upd_same,rfl,y,[x],rfl,_,rfl,_,rfl,t,xs,_,i,rfl,rfl,s1 _ _ ht,ixN_nat li,?_⟩
    refine ⟨x,[],rfl,_,rfl,_,rfl,t,_,_,j,rfl,rfl,upd_same,ixN_nat (by rw [List.length_set]; exact lj),rfl,?_⟩
    exact q _ ((s1.but).trans (But.upd.trans But.upd)) upd_same
def TabAt (H:Hp) (t:Addr) (n:Nat):Prop:=∃ rs:List Addr,rs.length=n∧H t=some (.lst (rs.map V.ref))∧∀ c∈rs,∃ ns:List Int,ns.length=n∧H c=some (.lst (ns.map V.int))
theorem TabAt.same {H H':Hp} {t:Addr} {n:Nat} (h:TabAt H t n) (s:Same H H'):TabAt H' t n:=by
  obtain ⟨rs,h1,h2,h3⟩:=h
  exact ⟨rs,h1,s _ _ h2,fun c hc=>by obtain ⟨ns,e1,e2⟩:=h3 c hc; exact ⟨ns,e1,s _ _ e2⟩⟩
def spSlope:Sp:=fun vs H Q _=>∃ n:Nat,vs=[.int n]∧n≤100∧∀ l H',Same H H'→H l=none→TabAt H' l n→Q (.ref l) H'
theorem scSlope:FnScope ["wide"] ["wide"] (defScope (top 1)):=⟨rfl,rfl,rfl,by decide +kernel,rfl,by decide +kernel,by decide +kernel⟩
set_option maxHeartbeats 4000000 in
theorem ok_slope {f:Addr} {fd:FuncData} (F:FnAt K mg "slope_table" "slope_table" (top 1) .none f fd) (T:Txt mg):FnOk P w K mg base CX0 1 f fd ["wide"] spSlope:=by
  have nd:=scSlope.nd
  refine F.ok scSlope (fun vs H Q E h=>?_) (fun cdv A outer s H vs Q E hr h=>?_)
  · obtain ⟨n,rfl,_⟩:=h
    rfl
  · obtain ⟨n,rfl,hn,q⟩:=h
    refine ⟨_,(pss_one (ps_ret (pe_comp (by rfl) (compOk (N:=["line","wide"]) (ix:=[none,some 0])) (pi_range1 (by rfl) T.n_range (pa_cons (pv 0) pa_nil)) (by intro _ _ _ _ _; exact PG.to (pg_name (i:=0) (show (["line","wide"]:List Str).Nodup by decide +kernel) rfl (Or.inr rfl)) (by (try simp only [inX_K]); rfl)) (by intro _ _ _ _ _; exact PE.to (pe_comp (by rfl) (compOk (N:=["column","line"]) (ix:=[none,some 0])) (pi_range1 (by rfl) T.n_range (pa_cons (pv 1) pa_nil)) (by intro _ _ _ _ _; exact PG.to (pg_name (i:=0) (show (["column","line"]:List Str).Nodup by decide +kernel) rfl (Or.inl rfl)) (by (try simp only [inX_K]); rfl)) (by intro _ _ _ _ _; exact PE.to (pe_ifExp (pt_cmpR op_eq (pv 1) (pv 0) (nomark _)) pe_int pe_int) (by (try simp only [inX_K]); rfl))) (by (try simp only [inX_K]); rfl))))),?_⟩
    refine ⟨_,rfl,n,rfl,by omega,by omega,?_⟩
    rw [Int.toNat_natCast]
    refine compR (lo:=0) (n:=n) (fun i ys H1=>Same H H1∧∃ rs:List Addr,rs.length=i∧ys=rs.map V.ref∧∀ c∈rs,∃ ns:List Int,ns.length=n∧H1 c=some (.lst (ns.map V.int))) ⟨Same.refl _,[],rfl,rfl,fun _ h=>absurd h (by simp)⟩ ?_ (small1000' (by omega)) ?_ ?_
    · rintro i ys H1 hi ⟨_,rs,hl,rfl,_⟩
      rw [List.length_map,hl]
    · rintro i ys H1 R hi ⟨s1,rs,hl,rfl,hr⟩ kR
      refine ⟨StLe.set rfl,_,rfl,n,rfl,by omega,by omega,?_⟩
      rw [Int.toNat_natCast]
      refine compR (lo:=0) (n:=n) (fun i ys H2=>H2=H1∧∃ ns:List Int,ns.length=i∧ys=ns.map V.int) ⟨rfl,[],rfl,rfl⟩ ?_ (small1000' (by omega)) ?_ ?_
      · rintro i ys H2 hi ⟨_,ns,hl,rfl⟩
        rw [List.length_map,hl]
      · rintro j ys H2 R hj ⟨rfl,ns,hl,rfl⟩ kR2
        refine ⟨StLe.set rfl,_,rfl,_,rfl,rfl,_,rfl,ite2 (fun _=>?_) (fun _=>?_)⟩
        · exact kR2 _ _ ⟨rfl,ns ++ [1],by simp [hl],by simp⟩
        · exact kR2 _ _ ⟨rfl,ns ++ [0],by simp [hl],by simp⟩
      · rintro ys H2 ⟨rfl,ns,hl2,rfl⟩ c hc
        have s2:=same_upd (o:=.lst (ns.map V.int)) hc
        refine kR _ _ ⟨s1.trans s2,rs ++ [c],by simp [hl],by simp,fun d hd=>?_⟩
        rcases List.mem_append.mp hd with hd | hd
        · obtain ⟨ms,e1,e2⟩:=hr d hd
          exact ⟨ms,e1,s2 _ _ e2⟩
        · rw [List.mem_singleton.mp hd]
          exact ⟨ns,hl2,upd_same⟩
    · rintro ys H1 ⟨s1,rs,hl,rfl,hr⟩ l hl'
      have s2:=same_upd (o:=.lst (rs.map V.ref)) hl'
      exact q l _ (s1.trans s2) (s1.free hl') ⟨rs,hl,upd_same,fun c hc=>by obtain ⟨ms,e1,e2⟩:=hr c hc; exact ⟨ms,e1,s2 _ _ e2⟩⟩
end
end KF
namespace KF
open PySem L2 PyProof.Rows K01 KW
structure Ad where
  x:Addr
  dx:Addr
  bd:Addr
  L:Addr
  U:Addr
  R:Addr
  N:Addr
def Ad.tabs (A:Ad) (h w:Nat):List (Addr × Nat):=[(A.L,h),(A.U,h),(A.R,w),(A.N,w)]
def Ad.fs (A:Ad) (w:Nat):List (Str × V):=[("body",.ref A.bd),("wide",.int w),("left",.ref A.L),("unleft_flipped",.ref A.U),("right_flipped",.ref A.R),("unright",.ref A.N)]
structure Wk (C:Addr) (H0 H:Hp) (A:Ad) (h w:Nat) (a:M4.Mt) (r:Nat→Addr):Prop where
  sm:Same H0 H
  ob:H A.x=some (.ins C A.dx (A.fs w))
  bo:H A.bd=some (.lst ((mapR h r).map V.ref))
  ro:∀ i,i < h→H (r i)=some (.lst ((mapR w (a i)).map V.int))
  inj:∀ i j,i < h→j < h→r i=r j→i=j
  tb:∀ p∈A.tabs h w,TabAt H p.1 p.2
  nd:[A.bd,A.L,A.U,A.R,A.N].Nodup
  f0:∀ c∈[A.x,A.bd,A.L,A.U,A.R,A.N],H0 c=none
  fr:∀ i,i < h→H0 (r i)=none
  h1:1≤h
  w1:1≤w
  h3:h≤3
  w3:w≤3
theorem lst_inj {xs ys:List V} (e:(some (HO.lst xs):Option HO)=some (.lst ys)):xs=ys:=by injection e with e; injection e
theorem ref_int {rs:List Addr} {ns:List Int} (e:rs.map V.ref=ns.map V.int) (h:1≤rs.length):False:=by
  cases rs with
  | nil=>simp at h
  | cons r rs =>
    cases ns with
    | nil=>cases e
    | cons n ns=>cases (List.cons.inj e).1
theorem int_inj {ns ms:List Int} (e:ns.map V.int=ms.map V.int):ns=ms:=by
  induction ns generalizing ms with
  | nil=>cases ms with
    | nil=>rfl
    | cons m ms=>cases e
  | cons n ns ih=>cases ms with
    | nil=>cases e
    | cons m ms =>
      obtain ⟨e1,e2⟩:=List.cons.inj e
      rw [ih e2,V.int.inj e1]
theorem same_but {H0 H H':Hp} {c:Addr} (s:Same H0 H) (b:But c H H') (n:H0 c=none):Same H0 H':=fun d o e=>b d o (s d o e) (ne_of_none e n)
section
variable {C:Addr} {H0 H H':Hp} {A:Ad} {h w:Nat} {a:M4.Mt} {r:Nat→Addr}
theorem TabAt.but {t c n:Nat} {rs:List Addr} (T:TabAt H t n) (hn:1≤n) (ne:t≠c) (hc:H c=some (.lst (rs.map V.ref))) (h1:1≤rs.length) (b:But c H H'):TabAt H' t n:=by
  obtain ⟨ts,e1,e2,e3⟩:=T
  refine ⟨ts,e1,b _ _ e2 ne,fun d hd=>?_⟩
  obtain ⟨ns,g1,g2⟩:=e3 d hd
  refine ⟨ns,g1,b _ _ g2 fun e=>?_⟩
  rw [e,hc] at g2
  exact ref_int (lst_inj g2) h1
theorem TabAt.soft {t c n:Nat} {ns ms:List Int} (T:TabAt H t n) (hn:1≤n) (hc:H c=some (.lst (ns.map V.int))) (h1:1≤ns.length) (hm:ms.length=ns.length) (b:But c H H') (e:H' c=some (.lst (ms.map V.int))):TabAt H' t n:=by
  obtain ⟨ts,e1,e2,e3⟩:=T
  have ne:t≠c:=fun z=>by
    rw [z,hc] at e2
    exact ref_int (lst_inj e2).symm (by omega)
  refine ⟨ts,e1,b _ _ e2 ne,fun d hd=>?_⟩
  obtain ⟨ks,g1,g2⟩:=e3 d hd
  by_cases z:d=c
  · rw [z,hc] at g2
    have:=int_inj (lst_inj g2)
    exact ⟨ms,by rw [hm,this]; exact g1,by rw [z]; exact e⟩
  · exact ⟨ks,g1,b _ _ g2 z⟩
theorem Wk.tn (W:Wk C H0 H A h w a r) {p:Addr × Nat} (hp:p∈A.tabs h w):1≤p.2:=by
  have a1:=W.h1
  have a2:=W.w1
  simp only [Ad.tabs,List.mem_cons,List.not_mem_nil,or_false] at hp
  rcases hp with rfl | rfl | rfl | rfl <;> assumption
theorem Wk.tf (W:Wk C H0 H A h w a r) {p:Addr × Nat} (hp:p∈A.tabs h w):H0 p.1=none∧A.bd≠p.1:=by
  have nd:=W.nd
  simp only [List.nodup_cons,List.mem_cons,List.not_mem_nil,or_false,not_or] at nd
  simp only [Ad.tabs,List.mem_cons,List.not_mem_nil,or_false] at hp
  rcases hp with rfl | rfl | rfl | rfl
  · exact ⟨W.f0 _ (by simp),nd.1.1⟩
  · exact ⟨W.f0 _ (by simp),nd.1.2.1⟩
  · exact ⟨W.f0 _ (by simp),nd.1.2.2.1⟩
  · exact ⟨W.f0 _ (by simp),nd.1.2.2.2⟩
theorem Wk.tu (W:Wk C H0 H A h w a r) {p q:Addr × Nat} (hp:p∈A.tabs h w) (hq:q∈A.tabs h w) (e:p.1=q.1):p=q:=by
  have nd:=W.nd
  simp only [List.nodup_cons,List.mem_cons,List.not_mem_nil,or_false,not_or] at nd
  obtain ⟨_,⟨a1,a2,a3⟩,⟨b1,b2⟩,c1,_⟩:=nd
  simp only [Ad.tabs,List.mem_cons,List.not_mem_nil,or_false] at hp hq
  rcases hp with rfl | rfl | rfl | rfl <;> rcases hq with rfl | rfl | rfl | rfl <;> first | rfl | exact absurd e (by assumption) | exact absurd e.symm (by assumption)
theorem Wk.same (W:Wk C H0 H A h w a r) (s:Same H H'):Wk C H0 H' A h w a r :=
  ⟨W.sm.trans s,s _ _ W.ob,s _ _ W.bo,fun i hi=>s _ _ (W.ro i hi),W.inj,fun p hp=>(W.tb p hp).same s,W.nd,W.f0,W.fr,W.h1,W.w1,W.h3,W.w3⟩
theorem Wk.body (W:Wk C H0 H A h w a r) {a':M4.Mt} {r':Nat→Addr} (b:But A.bd H H') (e:H' A.bd=some (.lst ((mapR h r').map V.ref))) (ro:∀ i,i < h→H (r' i)=some (.lst ((mapR w (a' i)).map V.int))) (inj:∀ i j,i < h→j < h→r' i=r' j→i=j) (fr:∀ i,i < h→H0 (r' i)=none):Wk C H0 H' A h w a' r':=by
  have l1:1≤(mapR h r).length:=by rw [mapR_len]; exact W.h1
  refine ⟨same_but W.sm b (W.f0 _ (by simp)),b _ _ W.ob (fun z=>?_),e,fun i hi=>b _ _ (ro i hi) (fun z=>?_),inj,fun p hp=>(W.tb p hp).but (W.tn hp) (W.tf hp).2.symm W.bo l1 b,W.nd,W.f0,fr,W.h1,W.w1,W.h3,W.w3⟩
  · have g:=W.ob
    rw [z,W.bo] at g
    cases g
  · have g:=ro i hi
    rw [z,W.bo] at g
    exact ref_int (lst_inj g) l1
theorem Wk.tab (W:Wk C H0 H A h w a r) {p:Addr × Nat} {rs:List Addr} (hp:p∈A.tabs h w) (b:But p.1 H H') (e:H' p.1=some (.lst (rs.map V.ref))) (hl:rs.length=p.2) (hr:∀ c∈rs,∃ ns:List Int,ns.length=p.2∧H c=some (.lst (ns.map V.int))):Wk C H0 H' A h w a r:=by
  obtain ⟨ts,t1,t2,t3⟩:=W.tb p hp
  have l1:1≤ts.length:=by rw [t1]; exact W.tn hp
  have nr:∀ c (ns:List Int),H c=some (.lst (ns.map V.int))→c≠p.1:=fun c ns g z=>by
    rw [z,t2] at g
    exact ref_int (lst_inj g) l1
  refine ⟨same_but W.sm b (W.tf hp).1,b _ _ W.ob (fun z=>?_),b _ _ W.bo (W.tf hp).2,fun i hi=>b _ _ (W.ro i hi) (nr _ _ (W.ro i hi)),W.inj,fun q hq=>?_,W.nd,W.f0,W.fr,W.h1,W.w1,W.h3,W.w3⟩
  · have g:=W.ob
    rw [z,t2] at g
    cases g
  · by_cases z:q.1=p.1
    · have:=W.tu hq hp z
      subst this
      refine ⟨rs,hl,e,fun c hc=>?_⟩
      obtain ⟨ns,g1,g2⟩:=hr c hc
      exact ⟨ns,g1,b _ _ g2 (nr c ns g2)⟩
    · exact (W.tb q hq).but (W.tn hq) z t2 l1 b
theorem Wk.row (W:Wk C H0 H A h w a r) {i:Nat} {g:Nat→Int} (hi:i < h) (b:But (r i) H H') (e:H' (r i)=some (.lst ((mapR w g).map V.int))):Wk C H0 H' A h w (fun k j=>if k=i then g j else a k j) r:=by
  have l1:1≤(mapR h r).length:=by rw [mapR_len]; exact W.h1
  have ri:=W.ro i hi
  have w1:=W.w1
  have nb:A.bd≠r i:=fun z=>by
    have g:=W.bo
    rw [z,ri] at g
    exact ref_int (lst_inj g).symm l1
  refine ⟨same_but W.sm b (W.fr i hi),b _ _ W.ob (fun z=>?_),b _ _ W.bo nb,fun k hk=>?_,W.inj,fun p hp=>(W.tb p hp).soft (W.tn hp) ri (by rw [mapR_len]; exact w1) (by rw [mapR_len,mapR_len]) b e,W.nd,W.f0,W.fr,W.h1,W.w1,W.h3,W.w3⟩
  · have g:=W.ob
    rw [z,ri] at g
    cases g
  · by_cases z:k=i
    · subst z
      rw [e]
      have:(mapR w fun j=>if k=k then g j else a k j)=mapR w g:=mapR_ext fun j _=>if_pos rfl
      rw [this]
    · have:(mapR w fun j=>if k=i then g j else a k j)=mapR w (a k):=mapR_ext fun j _=>if_neg z
      rw [this]
      exact b _ _ (W.ro k hk) fun q=>z (W.inj k i hk hi q)
theorem Wk.to (W:Wk C H0 H A h w a r) {a':M4.Mt} (e:∀ i j,i < h→j < w→a i j=a' i j):Wk C H0 H A h w a' r :=
  { W with ro:=fun i hi=>by rw [W.ro i hi,mapR_ext fun j hj=>e i j hi hj] }
end
theorem lk_body (A:Ad) (w:Nat):(A.fs w).lookup (Str.ofString "body")=some (V.ref A.bd):=rfl
theorem lk_wide (A:Ad) (w:Nat):(A.fs w).lookup (Str.ofString "wide")=some (V.int w):=rfl
theorem lk_left (A:Ad) (w:Nat):(A.fs w).lookup (Str.ofString "left")=some (V.ref A.L):=rfl
theorem lk_unl (A:Ad) (w:Nat):(A.fs w).lookup (Str.ofString "unleft_flipped")=some (V.ref A.U):=rfl
theorem lk_right (A:Ad) (w:Nat):(A.fs w).lookup (Str.ofString "right_flipped")=some (V.ref A.R):=rfl
theorem lk_unr (A:Ad) (w:Nat):(A.fs w).lookup (Str.ofString "unright")=some (V.ref A.N):=rfl
structure TxtF (K:PySem.W.Frag) (mg:Str→Option Value) (C CF:Addr):Prop extends KW.Txt mg where
  n_any:mg "any" = none
  n_abs:mg "abs" = none
  cl:Cls K C
  nb:NoAttr K C "body"
  nw:NoAttr K C "wide"
  nl:NoAttr K C "left"
  nu:NoAttr K C "unleft_flipped"
  nr:NoAttr K C "right_flipped"
  nv:NoAttr K C "unright"
  clF:Cls K CF
  fs:NoAttr K CF "slope"
  ft:NoAttr K CF "steps"
  fl:NoAttr K CF "left"
  fu:NoAttr K CF "unleft"
  fr:NoAttr K CF "right"
  fv:NoAttr K CF "unright"
  mg_Turning:mg "Turning" = some (.ref C)
  mg_Form:mg "Form" = some (.ref CF)
end KF
namespace L2
open PySem PySem.Spec PyProof.Rows
structure MfAt (K:PySem.W.Frag) (x qual:Str) (st:Stmt) (dV:Value) (f:Addr) (fd:FuncData):Prop where
  ex:∃ (oc:Value) (od:Option Addr) (kV doc pm:Value) (an:Option Addr) (cdv ct:Value) (osl:Array (Option Value)),
    fd=PySem.W.fnOf x qual (defArgs st) (defBody st) (defScope st) dV kV doc pm an cdv ct∧K.lookup f=some ⟨oc,od,.func fd,osl⟩∧PySem.W.codeIn K cdv qual=true
  kp:PySem.W.keepIn K (.ref f)=true
theorem MfAt.ok {P:Program} {w:World} {K:PySem.W.Frag} {mg:Str→Option Value} {base:Heap} {x qual:Str} {st:Stmt} {dV:Value} {f:Addr} {fd:FuncData} {N ps:List Str} {k:Nat} {sp:Sp} (F:MfAt K x qual st dV f fd) (S:FnScope N ps (defScope st)) (len:∀ vs H Q E,sp vs H Q E→vs.length=ps.length)
    (hbody:∀ (cdv:Value) (A:Around) (outer:List Env) (s:Shared) (H:Hp) (vs:List V) (Q:VK) (E:XK),Room k (A.deeper (envOfC qual (defScope st) s.heap.objs.size f cdv))→sp vs H Q E →
      ∃ t,PSs (cxOf CX0 P w K mg base N qual (defScope st) f cdv A outer s H E).nox (defBody st) t∧t { nx:=fun _ H'=>Q .non H',rt:=Q } (start N vs) H):FnOk P w K mg base CX0 (k + 1) f fd ps sp:=by
  obtain ⟨oc,od,kV,doc,pm,an,cdv,ct,osl,rfl,lk,hcd⟩:=F.ex
  refine fn_of lk hcd S len fun A outer s H vs Q E hr hsp=>?_
  obtain ⟨t,h,q⟩:=hbody cdv A outer s H vs Q E hr hsp
  exact ⟨t,h.nox,q⟩
end L2
namespace KF
open PySem L2 PyProof.Rows K01 KW
theorem mref {rs:List Addr} {i:Nat} (h:i < rs.length):(rs.map V.ref)[i]?=some (V.ref rs[i]):=by rw [List.getElem?_map,List.getElem?_eq_getElem h]; rfl
theorem mrefR {h i:Nat} {r:Nat→Addr} (hi:i < h):((mapR h r).map V.ref)[i]?=some (V.ref (r i)):=by rw [List.getElem?_map,mapR_get hi]; rfl
section
variable {C:Addr} {H0 H H':Hp} {A:Ad} {h w:Nat} {a:M4.Mt} {r:Nat→Addr}
theorem Wk.setRow (W:Wk C H0 H A h w a r) {a':M4.Mt} {to:Nat} {l:Addr} (hto:to < h) (hl:H l=some (.lst ((mapR w (a' to)).map V.int))) (e:∀ i j,i≠to→a' i j=a i j) (fl:H0 l=none) (nl:∀ i,i < h→l≠r i):Wk C H0 (upd H A.bd (.lst (((mapR h r).map V.ref).set to (.ref l)))) A h w a' (fun k=>if k=to then l else r k):=by
  refine W.body But.upd (by rw [upd_same,← List.map_set,mapR_set]) (fun i hi=>?_) (fun i j hi hj eq=>?_) (fun i hi=>?_)
  · by_cases z:i=to
    · subst z
      rw [if_pos rfl]
      exact hl
    · rw [if_neg z,mapR_ext fun j _=>e i j z]
      exact W.ro i hi
  · by_cases z:i=to <;> by_cases y:j=to
    · rw [z,y]
    · rw [if_pos z,if_neg y] at eq
      exact absurd eq (nl j hj)
    · rw [if_neg z,if_pos y] at eq
      exact absurd eq.symm (nl i hi)
    · rw [if_neg z,if_neg y] at eq
      exact W.inj i j hi hj eq
  · by_cases z:i=to
    · rw [if_pos z]; exact fl
    · rw [if_neg z]; exact W.fr i hi
theorem Wk.tabSet (W:Wk C H0 H A h w a r) {p:Addr × Nat} {rs:List Addr} {i:Nat} {l:Addr} {ks:List Int} (hp:p∈A.tabs h w) (t1:rs.length=p.2) (t3:∀ c∈rs,∃ ns:List Int,ns.length=p.2∧H c=some (.lst (ns.map V.int))) (hl:H l=some (.lst (ks.map V.int))) (hk:ks.length=p.2) :
    Wk C H0 (upd H p.1 (.lst ((rs.map V.ref).set i (.ref l)))) A h w a r:=by
  refine W.tab (rs:=rs.set i l) hp But.upd (by rw [upd_same,← List.map_set]) (by rw [List.length_set,t1]) fun c hc=>?_
  rcases List.mem_or_eq_of_mem_set hc with hc | rfl
  · exact t3 c hc
  · exact ⟨ks,hk,hl⟩
end
section
variable {P:Program} {w:World} {K:PySem.W.Frag} {mg:Str→Option Value} {base:Heap} {C CF:Addr}
theorem z_len {F:Int→Int→Int} {ns ms:List Int} {n:Nat} (h1:ns.length=n) (h2:ms.length=n):(List.zipWith F ns ms).length=n:=by rw [List.length_zipWith]; omega
def spAddLine (C:Addr):Sp:=fun vs H Q _=>∃ (H0:Hp) (A:Ad) (h w to s:Nat) (t:Int) (a:M4.Mt) (r:Nat→Addr),vs=[.ref A.x,.int to,.int s,.int t]∧Wk C H0 H A h w a r∧to < h∧s < h∧to≠s∧t.natAbs < 2 ^ 64∧∀ H' r',Wk C H0 H' A h w (M4.addR a to s t) r'→Q .non H'
theorem scAddLine:FnScope ["self","to","source","times"] ["self","to","source","times"] (defScope (inClass (top 5) 1)):=⟨rfl,rfl,rfl,by decide +kernel,rfl,by decide +kernel,by decide +kernel⟩
set_option maxHeartbeats 8000000 in
theorem ok_addLine {f:Addr} {fd:FuncData} (F:MfAt K "add_line" "Turning.add_line" (inClass (top 5) 1) .none f fd) (T:TxtF K mg C CF)
    {f_with_more:Addr} {d_with_more:FuncData} (A_with_more:FnAt K mg "with_more" "with_more" (top 3) .none f_with_more d_with_more) (b_with_more:L2.Binds K d_with_more ["line","other","times"] []) (G_with_more:FnOk P w K mg base CX0 1 f_with_more d_with_more ["line","other","times"] (spMore)):FnOk P w K mg base CX0 2 f fd ["self","to","source","times"] (spAddLine C):=by
  have nd:=scAddLine.nd
  refine F.ok scAddLine (fun vs H Q E h=>?_) (fun cdv A0 outer s H vs Q E hr h=>?_)
  · obtain ⟨H0,A,h,w,to,s,t,a,r,rfl,_⟩:=h
    rfl
  · obtain ⟨H0,A,h,wd,to,s,t,a,r,rfl,W,hto,hs,ne,ht,q⟩:=h
    refine ⟨_,(pss_cons (ps_if (pt_cmpR op_eq (pv 3) pe_int (nomark _)) (pss_one ps_retN) pss_nil)
      (pss_cons (ps_asg (pe_call (G_with_more.mono (by decide)) hr rfl A_with_more.mg A_with_more.kp b_with_more .nil pass0 (pa_cons (pe_ix ix_list (pe_fld (pv 0) rfl) (pv 1) (fun _ _=>rfl)) (pa_cons (pe_ix ix_list (pe_fld (pv 0) rfl) (pv 2) (fun _ _=>rfl)) (pa_cons (pv 3) pa_nil)))) (pg_sub (pe_fld (pv 0) rfl) (pv 1) set_list))
      (pss_cons (ps_asg (pe_call (G_with_more.mono (by decide)) hr rfl A_with_more.mg A_with_more.kp b_with_more .nil pass0 (pa_cons (pe_ix ix_list (pe_fld (pv 0) rfl) (pv 1) (fun _ _=>rfl)) (pa_cons (pe_ix ix_list (pe_fld (pv 0) rfl) (pv 2) (fun _ _=>rfl)) (pa_cons (pv 3) pa_nil)))) (pg_sub (pe_fld (pv 0) rfl) (pv 1) set_list))
      (pss_one (ps_asg (pe_call (G_with_more.mono (by decide)) hr rfl A_with_more.mg A_with_more.kp b_with_more .nil pass0 (pa_cons (pe_ix ix_list (pe_fld (pv 0) rfl) (pv 2) (fun _ _=>rfl)) (pa_cons (pe_ix ix_list (pe_fld (pv 0) rfl) (pv 1) (fun _ _=>rfl)) (pa_cons (pe_un un_neg (pv 3)) pa_nil)))) (pg_sub (pe_fld (pv 0) rfl) (pv 2) set_list)))))),?_⟩
    have h3:=W.h3
    have w3:=W.w3
    refine ⟨_,rfl,rfl,_,rfl,ite2 (fun hc=>?_) (fun hc=>?_)⟩
    · have ht0:t=0:=V.int.inj (of_decide_eq_true hc)
      refine q H r (W.to fun i j _ _=>?_)
      unfold M4.addR
      split
      · rename_i e
        rw [e,ht0,Int.zero_mul,Int.add_zero]
      · rfl
    · refine ⟨_,rfl,A.x,C,A.dx,_,_,rfl,W.ob,T.cl,T.nb,lk_body A wd,_,rfl,A.bd,_,_,V.ref (r to),rfl,rfl,SqL.of W.bo,at_nat (mrefR hto),?_⟩
      refine ⟨_,rfl,A.x,C,A.dx,_,_,rfl,W.ob,T.cl,T.nb,lk_body A wd,_,rfl,A.bd,_,_,V.ref (r s),rfl,rfl,SqL.of W.bo,at_nat (mrefR hs),?_⟩
      refine ⟨_,rfl,r to,r s,mapR wd (a to),mapR wd (a s),t,rfl,W.ro to hto,W.ro s hs,by rw [mapR_len,mapR_len],by rw [mapR_len]; omega,ht,fun l H1 s1 fl hl=>?_⟩
      rw [zip_mapR] at hl
      have W1:=W.same s1
      refine ⟨_,rfl,A.x,C,A.dx,_,_,rfl,W1.ob,T.cl,T.nb,lk_body A wd,_,rfl,A.bd,_,_,to,rfl,rfl,W1.bo,ixN_nat (by rw [List.length_map,mapR_len]; exact hto),?_⟩
      have W2:=W1.setRow (a':=M4.addR a to s t) hto (by rw [hl]; exact congrArg _ (congrArg _ (congrArg _ (mapR_ext fun j _=>(if_pos rfl).symm)))) (fun i j z=>if_neg z) (W.sm.free fl) (fun i hi z=>by rw [z,W.ro i hi] at fl; cases fl)
      generalize upd H1 A.bd (.lst (((mapR h r).map V.ref).set to (.ref l)))=H2 at *
      clear W1 hl s1 fl
      obtain ⟨rs,t1,t2,t3⟩:=W2.tb (A.L,h) (by simp [Ad.tabs])
      have lt:to < rs.length:=by rw [t1]; exact hto
      have ls:s < rs.length:=by rw [t1]; exact hs
      obtain ⟨ns,n1,n2⟩:=t3 rs[to] (List.getElem_mem lt)
      obtain ⟨ms,m1,m2⟩:=t3 rs[s] (List.getElem_mem ls)
      refine ⟨_,rfl,A.x,C,A.dx,_,_,rfl,W2.ob,T.cl,T.nl,lk_left A wd,_,rfl,A.L,_,_,V.ref rs[to],rfl,rfl,SqL.of t2,at_nat (mref lt),?_⟩
      refine ⟨_,rfl,A.x,C,A.dx,_,_,rfl,W2.ob,T.cl,T.nl,lk_left A wd,_,rfl,A.L,_,_,V.ref rs[s],rfl,rfl,SqL.of t2,at_nat (mref ls),?_⟩
      refine ⟨_,rfl,_,_,ns,ms,t,rfl,n2,m2,by rw [n1,m1],by rw [n1]; show h≤100; omega,ht,fun l3 H3 s3 fl3 hl3=>?_⟩
      have W3:=W2.same s3
      refine ⟨_,rfl,A.x,C,A.dx,_,_,rfl,W3.ob,T.cl,T.nl,lk_left A wd,_,rfl,A.L,_,_,to,rfl,rfl,s3 _ _ t2,ixN_nat (by rw [List.length_map]; exact lt),?_⟩
      have W4:=W3.tabSet (p:=(A.L,h)) (i:=to) (by simp [Ad.tabs]) t1 (fun c hc=>by obtain ⟨ks,e1,e2⟩:=t3 c hc; exact ⟨ks,e1,s3 _ _ e2⟩) hl3 (z_len n1 m1)
      generalize upd H3 A.L (.lst ((rs.map V.ref).set to (.ref l3)))=H4 at *
      clear W3 W2 hl3 s3 fl3 t3 t2 n2 m2 n1 m1 lt ls t1
      obtain ⟨rs,t1,t2,t3⟩:=W4.tb (A.U,h) (by simp [Ad.tabs])
      have lt:to < rs.length:=by rw [t1]; exact hto
      have ls:s < rs.length:=by rw [t1]; exact hs
      obtain ⟨ns,n1,n2⟩:=t3 rs[s] (List.getElem_mem ls)
      obtain ⟨ms,m1,m2⟩:=t3 rs[to] (List.getElem_mem lt)
      refine ⟨_,rfl,A.x,C,A.dx,_,_,rfl,W4.ob,T.cl,T.nu,lk_unl A wd,_,rfl,A.U,_,_,V.ref rs[s],rfl,rfl,SqL.of t2,at_nat (mref ls),?_⟩
      refine ⟨_,rfl,A.x,C,A.dx,_,_,rfl,W4.ob,T.cl,T.nu,lk_unl A wd,_,rfl,A.U,_,_,V.ref rs[to],rfl,rfl,SqL.of t2,at_nat (mref lt),?_⟩
      refine ⟨_,rfl,_,rfl,_,_,ns,ms,-t,rfl,n2,m2,by rw [n1,m1],by rw [n1]; show h≤100; omega,by rw [Int.natAbs_neg]; exact ht,fun l5 H5 s5 fl5 hl5=>?_⟩
      have W5:=W4.same s5
      refine ⟨_,rfl,A.x,C,A.dx,_,_,rfl,W5.ob,T.cl,T.nu,lk_unl A wd,_,rfl,A.U,_,_,s,rfl,rfl,s5 _ _ t2,ixN_nat (by rw [List.length_map]; exact ls),?_⟩
      exact q _ _ (W5.tabSet (p:=(A.U,h)) (i:=s) (by simp [Ad.tabs]) t1 (fun c hc=>by obtain ⟨ks,e1,e2⟩:=t3 c hc; exact ⟨ks,e1,s5 _ _ e2⟩) hl5 (z_len n1 m1))
end
end KF
namespace L2
open PySem PySem.Spec PyProof.Rows
section
variable {X:Cx}
theorem get_list:PGet X (fun o i H Q=>∃ p xs k v,o=.ref p∧i=.int ((k:Nat):Int)∧SqL X.K H p xs∧xs[k]?=some v∧Q v H):=by
  intro pins s σ H o i ov iv Q I ro ri h
  obtain ⟨p,xs,k,v,rfl,rfl,hq,hv,q⟩:=h
  cases ro
  obtain ⟨t,rfl⟩:=ri
  obtain ⟨its,r,pl,hz⟩:=I.list hq
  obtain ⟨w,ew,rw'⟩:=r.get hv
  have hlt:k < xs.length:=(List.getElem?_eq_some_iff.mp hv).1
  have hl:=line63
  refine wpAny_getItem_list pl.isList (by omega) (by omega) (x:=w) (by simpa using ew) ?_
  exact ⟨v,H,I,rw',q⟩
end
end L2
namespace KF
open PySem L2 PyProof.Rows K01 KW
theorem at_nat0 {xs:List V} {i:Nat} {v:V} (h:xs[i]?=some v):atI xs (0 + (i:Int))=some v:=by rw [Int.zero_add]; exact atI_nat h
theorem mintR {n j:Nat} {g:Nat→Int} (hj:j < n):((mapR n g).map V.int)[j]?=some (V.int (g j)):=by rw [List.getElem?_map,mapR_get hj]; rfl
section
variable {P:Program} {w:World} {K:PySem.W.Frag} {mg:Str→Option Value} {base:Heap} {C CF:Addr}
def spAddCol (C:Addr):Sp:=fun vs H Q _=>∃ (H0:Hp) (A:Ad) (h w to s:Nat) (t:Int) (a:M4.Mt) (r:Nat→Addr),vs=[.ref A.x,.int to,.int s,.int t]∧Wk C H0 H A h w a r∧to < w∧s < w∧to≠s∧t.natAbs < 2 ^ 64∧∀ H' r',Wk C H0 H' A h w (M4.addC a to s t) r'→Q .non H'
theorem scAddCol:FnScope ["self","to","source","times","at"] ["self","to","source","times"] (defScope (inClass (top 5) 2)):=⟨rfl,rfl,rfl,by decide +kernel,rfl,by decide +kernel,by decide +kernel⟩
set_option maxHeartbeats 8000000 in
theorem ok_addCol {f:Addr} {fd:FuncData} (F:MfAt K "add_column" "Turning.add_column" (inClass (top 5) 2) .none f fd) (T:TxtF K mg C CF)
    {f_with_more:Addr} {d_with_more:FuncData} (A_with_more:FnAt K mg "with_more" "with_more" (top 3) .none f_with_more d_with_more) (b_with_more:L2.Binds K d_with_more ["line","other","times"] []) (G_with_more:FnOk P w K mg base CX0 1 f_with_more d_with_more ["line","other","times"] (spMore)):FnOk P w K mg base CX0 2 f fd ["self","to","source","times"] (spAddCol C):=by
  have nd:=scAddCol.nd
  refine F.ok scAddCol (fun vs H Q E h=>?_) (fun cdv A0 outer s H vs Q E hr h=>?_)
  · obtain ⟨H0,A,h,w,to,s,t,a,r,rfl,_⟩:=h
    rfl
  · obtain ⟨H0,A,h,wd,to,s,t,a,r,rfl,W,hto,hs,ne,ht,q⟩:=h
    refine ⟨_,(pss_cons (ps_if (pt_cmpR op_eq (pv 3) pe_int (nomark _)) (pss_one ps_retN) pss_nil)
      (pss_cons (ps_for PassesOwn.never rfl (pi_range1 (by rfl) T.n_range (pa_cons (pe_callB call_len_seq (by rfl) T.n_len PySem.boot_len (pa_cons (pe_fld (pv 0) rfl) pa_nil)) pa_nil)) (pg_name (i:=4) nd rfl (Or.inl rfl)) (pss_one (ps_augS (pe_ix ix_list (pe_fld (pv 0) rfl) (pv 4) (fun _ _=>rfl)) (pv 1) get_list (pe_op op_mulX (pv 3) (pe_ix ix_list (pe_ix ix_list (pe_fld (pv 0) rfl) (pv 4) (fun _ _=>rfl)) (pv 2) (fun _ _=>rfl))) ip_add set_list)))
      (pss_cons (ps_asg (pe_call (G_with_more.mono (by decide)) hr rfl A_with_more.mg A_with_more.kp b_with_more .nil pass0 (pa_cons (pe_ix ix_list (pe_fld (pv 0) rfl) (pv 1) (fun _ _=>rfl)) (pa_cons (pe_ix ix_list (pe_fld (pv 0) rfl) (pv 2) (fun _ _=>rfl)) (pa_cons (pv 3) pa_nil)))) (pg_sub (pe_fld (pv 0) rfl) (pv 1) set_list))
      (pss_one (ps_asg (pe_call (G_with_more.mono (by decide)) hr rfl A_with_more.mg A_with_more.kp b_with_more .nil pass0 (pa_cons (pe_ix ix_list (pe_fld (pv 0) rfl) (pv 2) (fun _ _=>rfl)) (pa_cons (pe_ix ix_list (pe_fld (pv 0) rfl) (pv 1) (fun _ _=>rfl)) (pa_cons (pe_un un_neg (pv 3)) pa_nil)))) (pg_sub (pe_fld (pv 0) rfl) (pv 2) set_list)))))),?_⟩
    have h3:=W.h3
    have w3:=W.w3
    have hlen:((mapR h r).map V.ref).length=h:=by rw [List.length_map,mapR_len]
    refine ⟨_,rfl,rfl,_,rfl,ite2 (fun hc=>?_) (fun hc=>?_)⟩
    · have ht0:t=0:=V.int.inj (of_decide_eq_true hc)
      refine q H r (W.to fun i j _ _=>?_)
      unfold M4.addC
      split
      · rename_i e
        rw [e,ht0,Int.zero_mul,Int.add_zero]
      · rfl
    · refine ⟨_,rfl,A.x,C,A.dx,_,_,rfl,W.ob,T.cl,T.nb,lk_body A wd,A.bd,_,rfl,.inl (SqL.of W.bo),_,rfl,by rw [hlen]; omega,by rw [hlen]; omega,?_⟩
      rw [hlen,Int.toNat_natCast]
      refine for_range (lo:=0) (n:=h) (fun i σ H'=>(∃ v:Option V,σ=[some (.ref A.x),some (.int to),some (.int s),some (.int t),v])∧Wk C H0 H' A h wd (fun k j=>if k < i then M4.addC a to s t k j else a k j) r) ⟨⟨none,rfl⟩,W.to fun i j _ _=>(if_neg (Nat.not_lt_zero _)).symm⟩ ?_ ?_
      · rintro i σ H1 hi ⟨⟨v,rfl⟩,W1⟩
        have ri:=W1.ro i hi
        have er:(mapR wd fun j=>if i < i then M4.addC a to s t i j else a i j)=mapR wd (a i):=mapR_ext fun j _=>if_neg (Nat.lt_irrefl _)
        rw [er] at ri
        refine ⟨_,rfl,A.x,C,A.dx,_,_,rfl,W1.ob,T.cl,T.nb,lk_body A wd,_,rfl,A.bd,_,_,V.ref (r i),rfl,rfl,SqL.of W1.bo,at_nat0 (mrefR hi),?_⟩
        refine ⟨_,rfl,r i,_,to,_,rfl,rfl,SqL.of ri,mintR hto,?_⟩
        refine ⟨_,rfl,_,rfl,A.x,C,A.dx,_,_,rfl,W1.ob,T.cl,T.nb,lk_body A wd,_,rfl,A.bd,_,_,V.ref (r i),rfl,rfl,SqL.of W1.bo,at_nat0 (mrefR hi),?_⟩
        refine ⟨_,rfl,r i,_,_,V.int (a i s),rfl,rfl,SqL.of ri,at_nat (mintR hs),_,_,rfl,rfl,mulL' ht,_,_,rfl,rfl,?_⟩
        refine ⟨r i,_,_,to,rfl,rfl,ri,ixN_nat (by rw [List.length_map,mapR_len]; exact hto),⟨_,rfl⟩,?_⟩
        have W2:=W1.row (g:=M4.addC a to s t i) hi (But.upd (o:=.lst ((((mapR wd (a i)).map V.int)).set to (.int (a i to + t * a i s))))) (by rw [upd_same,← List.map_set,mapR_set]; rfl)
        refine W2.to fun k j hk hj=>?_
        show (if k=i then M4.addC a to s t i j else if k < i then M4.addC a to s t k j else a k j)=if k < i + 1 then M4.addC a to s t k j else a k j
        by_cases e:k=i
        · rw [if_pos e,if_pos (by omega),e]
        · rw [if_neg e]
          by_cases e2:k < i
          · rw [if_pos e2,if_pos (by omega)]
          · rw [if_neg e2,if_neg (by omega)]
      · rintro σ H2 ⟨⟨v,rfl⟩,W1⟩
        have W2:Wk C H0 H2 A h wd (M4.addC a to s t) r:=W1.to fun i j hi _=>if_pos hi
        clear W1 W
        obtain ⟨rs,t1,t2,t3⟩:=W2.tb (A.R,wd) (by simp [Ad.tabs])
        have lt:to < rs.length:=by rw [t1]; exact hto
        have ls:s < rs.length:=by rw [t1]; exact hs
        obtain ⟨ns,n1,n2⟩:=t3 rs[to] (List.getElem_mem lt)
        obtain ⟨ms,m1,m2⟩:=t3 rs[s] (List.getElem_mem ls)
        refine ⟨_,rfl,A.x,C,A.dx,_,_,rfl,W2.ob,T.cl,T.nr,lk_right A wd,_,rfl,A.R,_,_,V.ref rs[to],rfl,rfl,SqL.of t2,at_nat (mref lt),?_⟩
        refine ⟨_,rfl,A.x,C,A.dx,_,_,rfl,W2.ob,T.cl,T.nr,lk_right A wd,_,rfl,A.R,_,_,V.ref rs[s],rfl,rfl,SqL.of t2,at_nat (mref ls),?_⟩
        refine ⟨_,rfl,_,_,ns,ms,t,rfl,n2,m2,by rw [n1,m1],by rw [n1]; show wd≤100; omega,ht,fun l3 H3 s3 fl3 hl3=>?_⟩
        have W3:=W2.same s3
        refine ⟨_,rfl,A.x,C,A.dx,_,_,rfl,W3.ob,T.cl,T.nr,lk_right A wd,_,rfl,A.R,_,_,to,rfl,rfl,s3 _ _ t2,ixN_nat (by rw [List.length_map]; exact lt),?_⟩
        have W4:=W3.tabSet (p:=(A.R,wd)) (i:=to) (by simp [Ad.tabs]) t1 (fun c hc=>by obtain ⟨ks,e1,e2⟩:=t3 c hc; exact ⟨ks,e1,s3 _ _ e2⟩) hl3 (z_len n1 m1)
        generalize upd H3 A.R (.lst ((rs.map V.ref).set to (.ref l3)))=H4 at *
        clear W3 W2 hl3 s3 fl3 t3 t2 n2 m2 n1 m1 lt ls t1
        obtain ⟨rs,t1,t2,t3⟩:=W4.tb (A.N,wd) (by simp [Ad.tabs])
        have lt:to < rs.length:=by rw [t1]; exact hto
        have ls:s < rs.length:=by rw [t1]; exact hs
        obtain ⟨ns,n1,n2⟩:=t3 rs[s] (List.getElem_mem ls)
        obtain ⟨ms,m1,m2⟩:=t3 rs[to] (List.getElem_mem lt)
        refine ⟨_,rfl,A.x,C,A.dx,_,_,rfl,W4.ob,T.cl,T.nv,lk_unr A wd,_,rfl,A.N,_,_,V.ref rs[s],rfl,rfl,SqL.of t2,at_nat (mref ls),?_⟩
        refine ⟨_,rfl,A.x,C,A.dx,_,_,rfl,W4.ob,T.cl,T.nv,lk_unr A wd,_,rfl,A.N,_,_,V.ref rs[to],rfl,rfl,SqL.of t2,at_nat (mref lt),?_⟩
        refine ⟨_,rfl,_,rfl,_,_,ns,ms,-t,rfl,n2,m2,by rw [n1,m1],by rw [n1]; show wd≤100; omega,by rw [Int.natAbs_neg]; exact ht,fun l5 H5 s5 fl5 hl5=>?_⟩
        have W5:=W4.same s5
        refine ⟨_,rfl,A.x,C,A.dx,_,_,rfl,W5.ob,T.cl,T.nv,lk_unr A wd,_,rfl,A.N,_,_,s,rfl,rfl,s5 _ _ t2,ixN_nat (by rw [List.length_map]; exact ls),?_⟩
        exact q _ _ (W5.tabSet (p:=(A.N,wd)) (i:=s) (by simp [Ad.tabs]) t1 (fun c hc=>by obtain ⟨ks,e1,e2⟩:=t3 c hc; exact ⟨ks,e1,s5 _ _ e2⟩) hl5 (z_len n1 m1))
end
end KF
namespace KF
open PySem L2 PyProof.Rows K01 KW
section
variable {C:Addr} {H0 H H':Hp} {A:Ad} {h w:Nat} {a:M4.Mt} {r:Nat→Addr}
theorem Wk.tabSwap (W:Wk C H0 H A h w a r) {p:Addr × Nat} {rs:List Addr} {i j:Nat} (hp:p∈A.tabs h w) (t1:rs.length=p.2) (t3:∀ c∈rs,∃ ns:List Int,ns.length=p.2∧H c=some (.lst (ns.map V.int))) (li:i < rs.length) (lj:j < rs.length) (b:But p.1 H H') (e:H' p.1=some (.lst (((rs.map V.ref).set i (V.ref rs[j])).set j (V.ref rs[i])))):Wk C H0 H' A h w a r:=by
  refine W.tab (rs:=(rs.set i rs[j]).set j rs[i]) hp b (by rw [e,← List.map_set,← List.map_set]) (by rw [List.length_set,List.length_set,t1]) fun c hc=>?_
  rcases List.mem_or_eq_of_mem_set hc with hc | rfl
  · rcases List.mem_or_eq_of_mem_set hc with hc | rfl
    · exact t3 c hc
    · exact t3 _ (List.getElem_mem lj)
  · exact t3 _ (List.getElem_mem li)
end
section
variable {P:Program} {w:World} {K:PySem.W.Frag} {mg:Str→Option Value} {base:Heap} {C CF:Addr}
theorem sw_in {x y k n:Nat} (hx:x < n) (hy:y < n) (hk:k < n):M4.sw x y k < n:=by unfold M4.sw; split; exact hy; split; exact hx; exact hk
def spSwLines (C:Addr):Sp:=fun vs H Q _=>∃ (H0:Hp) (A:Ad) (h w x y:Nat) (a:M4.Mt) (r:Nat→Addr),vs=[.ref A.x,.int x,.int y]∧Wk C H0 H A h w a r∧x < h∧y < h∧∀ H' r',Wk C H0 H' A h w (M4.swR a x y) r'→Q .non H'
theorem scSwLines:FnScope ["self","one","other"] ["self","one","other"] (defScope (inClass (top 5) 3)):=⟨rfl,rfl,rfl,by decide +kernel,rfl,by decide +kernel,by decide +kernel⟩
set_option maxHeartbeats 8000000 in
theorem ok_swLines {f:Addr} {fd:FuncData} (F:MfAt K "exchange_lines" "Turning.exchange_lines" (inClass (top 5) 3) .none f fd) (T:TxtF K mg C CF)
    {f_exchange:Addr} {d_exchange:FuncData} (A_exchange:FnAt K mg "exchange" "exchange" (top 4) .none f_exchange d_exchange) (b_exchange:L2.Binds K d_exchange ["table","one","other"] []) (G_exchange:FnOk P w K mg base CX0 1 f_exchange d_exchange ["table","one","other"] (spSwap)):FnOk P w K mg base CX0 2 f fd ["self","one","other"] (spSwLines C):=by
  have nd:=scSwLines.nd
  refine F.ok scSwLines (fun vs H Q E h=>?_) (fun cdv A0 outer s H vs Q E hr h=>?_)
  · obtain ⟨H0,A,h,w,x,y,a,r,rfl,_⟩:=h
    rfl
  · obtain ⟨H0,A,h,wd,x,y,a,r,rfl,W,hx,hy,q⟩:=h
    refine ⟨_,(pss_cons (ps_expr (pe_call (G_exchange.mono (by decide)) hr rfl A_exchange.mg A_exchange.kp b_exchange .nil pass0 (pa_cons (pe_fld (pv 0) rfl) (pa_cons (pv 1) (pa_cons (pv 2) pa_nil)))))
      (pss_cons (ps_expr (pe_call (G_exchange.mono (by decide)) hr rfl A_exchange.mg A_exchange.kp b_exchange .nil pass0 (pa_cons (pe_fld (pv 0) rfl) (pa_cons (pv 1) (pa_cons (pv 2) pa_nil)))))
      (pss_one (ps_expr (pe_call (G_exchange.mono (by decide)) hr rfl A_exchange.mg A_exchange.kp b_exchange .nil pass0 (pa_cons (pe_fld (pv 0) rfl) (pa_cons (pv 1) (pa_cons (pv 2) pa_nil)))))))),?_⟩
    refine ⟨_,rfl,A.x,C,A.dx,_,_,rfl,W.ob,T.cl,T.nb,lk_body A wd,_,rfl,_,rfl,A.bd,_,x,y,_,_,rfl,W.bo,mrefR hx,mrefR hy,fun H1 b1 e1=>?_⟩
    rw [← List.map_set,← List.map_set,swap_mapR hx hy] at e1
    have W1:Wk C H0 H1 A h wd (M4.swR a x y) (fun k=>r (M4.sw x y k)):=W.body b1 e1 (fun i hi=>W.ro _ (sw_in hx hy hi)) (fun i j hi hj e=>by
      have:=W.inj _ _ (sw_in hx hy hi) (sw_in hx hy hj) e
      have e2:=congrArg (M4.sw x y) this
      rwa [M4.sw_sw,M4.sw_sw] at e2) (fun i hi=>W.fr _ (sw_in hx hy hi))
    clear W
    obtain ⟨rs,t1,t2,t3⟩:=W1.tb (A.L,h) (by simp [Ad.tabs])
    have lx:x < rs.length:=by rw [t1]; exact hx
    have ly:y < rs.length:=by rw [t1]; exact hy
    refine ⟨_,rfl,A.x,C,A.dx,_,_,rfl,W1.ob,T.cl,T.nl,lk_left A wd,_,rfl,_,rfl,A.L,_,x,y,_,_,rfl,t2,mref lx,mref ly,fun H2 b2 e2=>?_⟩
    have W2:=W1.tabSwap (p:=(A.L,h)) (by simp [Ad.tabs]) t1 t3 lx ly b2 e2
    clear W1 t3 t2 lx ly t1 e2 b2
    obtain ⟨rs,t1,t2,t3⟩:=W2.tb (A.U,h) (by simp [Ad.tabs])
    have lx:x < rs.length:=by rw [t1]; exact hx
    have ly:y < rs.length:=by rw [t1]; exact hy
    refine ⟨_,rfl,A.x,C,A.dx,_,_,rfl,W2.ob,T.cl,T.nu,lk_unl A wd,_,rfl,_,rfl,A.U,_,x,y,_,_,rfl,t2,mref lx,mref ly,fun H3 b3 e3=>?_⟩
    exact q _ _ (W2.tabSwap (p:=(A.U,h)) (by simp [Ad.tabs]) t1 t3 lx ly b3 e3)
def spSwCols (C:Addr):Sp:=fun vs H Q _=>∃ (H0:Hp) (A:Ad) (h w x y:Nat) (a:M4.Mt) (r:Nat→Addr),vs=[.ref A.x,.int x,.int y]∧Wk C H0 H A h w a r∧x < w∧y < w∧∀ H' r',Wk C H0 H' A h w (M4.swC a x y) r'→Q .non H'
theorem scSwCols:FnScope ["self","one","other","at"] ["self","one","other"] (defScope (inClass (top 5) 4)):=⟨rfl,rfl,rfl,by decide +kernel,rfl,by decide +kernel,by decide +kernel⟩
set_option maxHeartbeats 8000000 in
theorem ok_swCols {f:Addr} {fd:FuncData} (F:MfAt K "exchange_columns" "Turning.exchange_columns" (inClass (top 5) 4) .none f fd) (T:TxtF K mg C CF)
    {f_exchange:Addr} {d_exchange:FuncData} (A_exchange:FnAt K mg "exchange" "exchange" (top 4) .none f_exchange d_exchange) (b_exchange:L2.Binds K d_exchange ["table","one","other"] []) (G_exchange:FnOk P w K mg base CX0 1 f_exchange d_exchange ["table","one","other"] (spSwap)):FnOk P w K mg base CX0 2 f fd ["self","one","other"] (spSwCols C):=by
  have nd:=scSwCols.nd
  refine F.ok scSwCols (fun vs H Q E h=>?_) (fun cdv A0 outer s H vs Q E hr h=>?_)
  · obtain ⟨H0,A,h,w,x,y,a,r,rfl,_⟩:=h
    rfl
  · obtain ⟨H0,A,h,wd,x,y,a,r,rfl,W,hx,hy,q⟩:=h
    refine ⟨_,(pss_cons (ps_for PassesOwn.never rfl (pi_range1 (by rfl) T.n_range (pa_cons (pe_callB call_len_seq (by rfl) T.n_len PySem.boot_len (pa_cons (pe_fld (pv 0) rfl) pa_nil)) pa_nil)) (pg_name (i:=3) nd rfl (Or.inl rfl)) (pss_one (ps_expr (pe_call (G_exchange.mono (by decide)) hr rfl A_exchange.mg A_exchange.kp b_exchange .nil pass0 (pa_cons (pe_ix ix_list (pe_fld (pv 0) rfl) (pv 3) (fun _ _=>rfl)) (pa_cons (pv 1) (pa_cons (pv 2) pa_nil)))))))
      (pss_cons (ps_expr (pe_call (G_exchange.mono (by decide)) hr rfl A_exchange.mg A_exchange.kp b_exchange .nil pass0 (pa_cons (pe_fld (pv 0) rfl) (pa_cons (pv 1) (pa_cons (pv 2) pa_nil)))))
      (pss_one (ps_expr (pe_call (G_exchange.mono (by decide)) hr rfl A_exchange.mg A_exchange.kp b_exchange .nil pass0 (pa_cons (pe_fld (pv 0) rfl) (pa_cons (pv 1) (pa_cons (pv 2) pa_nil)))))))),?_⟩
    have h3:=W.h3
    have hlen:((mapR h r).map V.ref).length=h:=by rw [List.length_map,mapR_len]
    refine ⟨_,rfl,A.x,C,A.dx,_,_,rfl,W.ob,T.cl,T.nb,lk_body A wd,A.bd,_,rfl,.inl (SqL.of W.bo),_,rfl,by rw [hlen]; omega,by rw [hlen]; omega,?_⟩
    rw [hlen,Int.toNat_natCast]
    refine for_range (lo:=0) (n:=h) (fun i σ H'=>(∃ v:Option V,σ=[some (.ref A.x),some (.int x),some (.int y),v])∧Wk C H0 H' A h wd (fun k j=>if k < i then M4.swC a x y k j else a k j) r) ⟨⟨none,rfl⟩,W.to fun i j _ _=>(if_neg (Nat.not_lt_zero _)).symm⟩ ?_ ?_
    · rintro i σ H1 hi ⟨⟨v,rfl⟩,W1⟩
      have ri:=W1.ro i hi
      have er:(mapR wd fun j=>if i < i then M4.swC a x y i j else a i j)=mapR wd (a i):=mapR_ext fun j _=>if_neg (Nat.lt_irrefl _)
      rw [er] at ri
      refine ⟨_,rfl,A.x,C,A.dx,_,_,rfl,W1.ob,T.cl,T.nb,lk_body A wd,_,rfl,A.bd,_,_,V.ref (r i),rfl,rfl,SqL.of W1.bo,at_nat0 (mrefR hi),?_⟩
      refine ⟨_,rfl,_,rfl,r i,_,x,y,_,_,rfl,ri,mintR hx,mintR hy,fun H2 b2 e2=>⟨⟨_,rfl⟩,?_⟩⟩
      rw [← List.map_set,← List.map_set,swap_mapR hx hy] at e2
      refine (W1.row hi b2 e2).to fun k j hk hj=>?_
      show (if k=i then a i (M4.sw x y j) else if k < i then M4.swC a x y k j else a k j)=if k < i + 1 then M4.swC a x y k j else a k j
      by_cases e:k=i
      · rw [if_pos e,if_pos (by omega),e]; rfl
      · rw [if_neg e]
        by_cases e2:k < i
        · rw [if_pos e2,if_pos (by omega)]
        · rw [if_neg e2,if_neg (by omega)]
    · rintro σ H2 ⟨⟨v,rfl⟩,W1⟩
      have W2:Wk C H0 H2 A h wd (M4.swC a x y) r:=W1.to fun i j hi _=>if_pos hi
      clear W1 W
      obtain ⟨rs,t1,t2,t3⟩:=W2.tb (A.R,wd) (by simp [Ad.tabs])
      have lx:x < rs.length:=by rw [t1]; exact hx
      have ly:y < rs.length:=by rw [t1]; exact hy
      refine ⟨_,rfl,A.x,C,A.dx,_,_,rfl,W2.ob,T.cl,T.nr,lk_right A wd,_,rfl,_,rfl,A.R,_,x,y,_,_,rfl,t2,mref lx,mref ly,fun H3 b3 e3=>?_⟩
      have W3:=W2.tabSwap (p:=(A.R,wd)) (by simp [Ad.tabs]) t1 t3 lx ly b3 e3
      clear W2 t3 t2 lx ly t1 e3 b3
      obtain ⟨rs,t1,t2,t3⟩:=W3.tb (A.N,wd) (by simp [Ad.tabs])
      have lx:x < rs.length:=by rw [t1]; exact hx
      have ly:y < rs.length:=by rw [t1]; exact hy
      refine ⟨_,rfl,A.x,C,A.dx,_,_,rfl,W3.ob,T.cl,T.nv,lk_unr A wd,_,rfl,_,rfl,A.N,_,x,y,_,_,rfl,t2,mref lx,mref ly,fun H4 b4 e4=>?_⟩
      exact q _ _ (W3.tabSwap (p:=(A.N,wd)) (by simp [Ad.tabs]) t1 t3 lx ly b4 e4)
def spTurn (C:Addr):Sp:=fun vs H Q _=>∃ (H0:Hp) (A:Ad) (h w x:Nat) (a:M4.Mt) (r:Nat→Addr),vs=[.ref A.x,.int x]∧Wk C H0 H A h w a r∧x < h∧∀ H' r',Wk C H0 H' A h w (M4.negR a x) r'→Q .non H'
theorem scTurn:FnScope ["self","at"] ["self","at"] (defScope (inClass (top 5) 5)):=⟨rfl,rfl,rfl,by decide +kernel,rfl,by decide +kernel,by decide +kernel⟩
theorem compNeg {K:PySem.W.Frag} {c:Addr} {ns:List Int} {ix:List (Option Nat)} {g:TG} {te:TE} {σ:L2.St} {H:Hp} {Q:VK} (hc:H c=some (.lst (ns.map V.int))) (hz:ns.length≤1000)
    (hs:∀ (n:Int) (H1:Hp) (R:VK),R (.int (-n)) H1→g (.int n) (capS ix σ) H1 fun σ2 H2=>StLe (capS ix σ) σ2∧te σ2 H2 R)
    (hd:∀ l,H l=none→Q (.ref l) (upd H l (.lst ((ns.map fun n=>-n).map V.int)))):CompB (Itl K c) ix g te σ H Q:=by
  have ln:(ns.map V.int).length=ns.length:=List.length_map ..
  refine compL (K:=K) (a:=c) (xs:=ns.map V.int) (fun i ys H1=>H1=H∧ys=((ns.take i).map fun n=>-n).map V.int) ⟨rfl,rfl⟩ ?_ (by rw [ln]; exact small1000' hz) ?_ ?_
  · rintro i ys H1 hi ⟨rfl,rfl⟩
    rw [ln] at hi
    exact ⟨SqL.of hc,by simp; omega⟩
  · rintro i x ys H1 R hx ⟨rfl,rfl⟩ kR
    obtain ⟨n,hn,rfl⟩:=getI_map hx
    refine hs n _ R (kR _ _ ⟨rfl,?_⟩)
    rw [take_succ' hn]
    simp
  · rintro ys H1 ⟨rfl,rfl⟩ l hl
    rw [ln,List.take_length]
    exact hd l hl
set_option maxHeartbeats 8000000 in
theorem ok_turn {f:Addr} {fd:FuncData} (F:MfAt K "turn_line" "Turning.turn_line" (inClass (top 5) 5) .none f fd) (T:TxtF K mg C CF):FnOk P w K mg base CX0 1 f fd ["self","at"] (spTurn C):=by
  have nd:=scTurn.nd
  refine F.ok scTurn (fun vs H Q E h=>?_) (fun cdv A0 outer s H vs Q E hr h=>?_)
  · obtain ⟨H0,A,h,w,x,a,r,rfl,_⟩:=h
    rfl
  · obtain ⟨H0,A,h,wd,x,a,r,rfl,W,hx,q⟩:=h
    refine ⟨_,(pss_cons (ps_asg (pe_comp (by rfl) (compOk (N:=["number"]) (ix:=[none])) (pi_list (pe_ix ix_list (pe_fld (pv 0) rfl) (pv 1) (fun _ _=>rfl))) (by intro _ _ _ _ _; exact PG.to (pg_name (i:=0) (show (["number"]:List Str).Nodup by decide +kernel) rfl (Or.inl rfl)) (by (try simp only [inX_K]); rfl)) (by intro _ _ _ _ _; exact PE.to (pe_un un_neg (pv 0)) (by (try simp only [inX_K]); rfl))) (pg_sub (pe_fld (pv 0) rfl) (pv 1) set_list))
      (pss_cons (ps_asg (pe_comp (by rfl) (compOk (N:=["number"]) (ix:=[none])) (pi_list (pe_ix ix_list (pe_fld (pv 0) rfl) (pv 1) (fun _ _=>rfl))) (by intro _ _ _ _ _; exact PG.to (pg_name (i:=0) (show (["number"]:List Str).Nodup by decide +kernel) rfl (Or.inl rfl)) (by (try simp only [inX_K]); rfl)) (by intro _ _ _ _ _; exact PE.to (pe_un un_neg (pv 0)) (by (try simp only [inX_K]); rfl))) (pg_sub (pe_fld (pv 0) rfl) (pv 1) set_list))
      (pss_one (ps_asg (pe_comp (by rfl) (compOk (N:=["number"]) (ix:=[none])) (pi_list (pe_ix ix_list (pe_fld (pv 0) rfl) (pv 1) (fun _ _=>rfl))) (by intro _ _ _ _ _; exact PG.to (pg_name (i:=0) (show (["number"]:List Str).Nodup by decide +kernel) rfl (Or.inl rfl)) (by (try simp only [inX_K]); rfl)) (by intro _ _ _ _ _; exact PE.to (pe_un un_neg (pv 0)) (by (try simp only [inX_K]); rfl))) (pg_sub (pe_fld (pv 0) rfl) (pv 1) set_list))))),?_⟩
    have h3:=W.h3
    have w3:=W.w3
    refine ⟨_,rfl,A.x,C,A.dx,_,_,rfl,W.ob,T.cl,T.nb,lk_body A wd,_,rfl,A.bd,_,_,V.ref (r x),rfl,rfl,SqL.of W.bo,at_nat (mrefR hx),r x,rfl,⟨_,SqL.of (W.ro x hx)⟩,?_⟩
    refine compNeg (W.ro x hx) (by rw [mapR_len]; omega) (fun n H1 R hR=>⟨StLe.set rfl,_,rfl,n,rfl,hR⟩) fun l hl=>?_
    have s1:=same_upd (o:=.lst (((mapR wd (a x)).map fun n=>-n).map V.int)) hl
    have hl1:upd H l (.lst (((mapR wd (a x)).map fun n=>-n).map V.int)) l=some (.lst ((mapR wd (M4.negR a x x)).map V.int)):=by
      rw [upd_same,mapR_map]
      exact congrArg _ (congrArg _ (congrArg _ (mapR_ext fun j _=>(if_pos rfl).symm)))
    generalize upd H l (.lst (((mapR wd (a x)).map fun n=>-n).map V.int))=H1 at *
    have W1:=W.same s1
    refine ⟨_,rfl,A.x,C,A.dx,_,_,rfl,W1.ob,T.cl,T.nb,lk_body A wd,_,rfl,A.bd,_,_,x,rfl,rfl,W1.bo,ixN_nat (by rw [List.length_map,mapR_len]; exact hx),?_⟩
    have W2:=W1.setRow (a':=M4.negR a x) hx hl1 (fun i j z=>if_neg z) (W.sm.free hl) (fun i hi z=>by rw [z,W.ro i hi] at hl; cases hl)
    generalize upd H1 A.bd (.lst (((mapR h r).map V.ref).set x (.ref l)))=H2 at *
    clear W1 W s1 hl1 hl
    obtain ⟨rs,t1,t2,t3⟩:=W2.tb (A.L,h) (by simp [Ad.tabs])
    have lx:x < rs.length:=by rw [t1]; exact hx
    obtain ⟨ns,n1,n2⟩:=t3 rs[x] (List.getElem_mem lx)
    refine ⟨_,rfl,A.x,C,A.dx,_,_,rfl,W2.ob,T.cl,T.nl,lk_left A wd,_,rfl,A.L,_,_,V.ref rs[x],rfl,rfl,SqL.of t2,at_nat (mref lx),rs[x],rfl,⟨_,SqL.of n2⟩,?_⟩
    refine compNeg n2 (by rw [n1]; show h≤1000; omega) (fun n H1 R hR=>⟨StLe.set rfl,_,rfl,n,rfl,hR⟩) fun l3 hl3=>?_
    have s3:=same_upd (o:=.lst ((ns.map fun n=>-n).map V.int)) hl3
    have W3:=W2.same s3
    refine ⟨_,rfl,A.x,C,A.dx,_,_,rfl,W3.ob,T.cl,T.nl,lk_left A wd,_,rfl,A.L,_,_,x,rfl,rfl,s3 _ _ t2,ixN_nat (by rw [List.length_map]; exact lx),?_⟩
    have W4:=W3.tabSet (p:=(A.L,h)) (i:=x) (by simp [Ad.tabs]) t1 (fun c hc=>by obtain ⟨ks,e1,e2⟩:=t3 c hc; exact ⟨ks,e1,s3 _ _ e2⟩) (upd_same (o:=.lst ((ns.map fun n=>-n).map V.int))) (by rw [List.length_map]; exact n1)
    generalize upd (upd H2 l3 (.lst ((ns.map fun n=>-n).map V.int))) A.L (.lst ((rs.map V.ref).set x (.ref l3)))=H4 at *
    clear W3 W2 s3 hl3 t3 t2 n2 n1 lx t1
    obtain ⟨rs,t1,t2,t3⟩:=W4.tb (A.U,h) (by simp [Ad.tabs])
    have lx:x < rs.length:=by rw [t1]; exact hx
    obtain ⟨ns,n1,n2⟩:=t3 rs[x] (List.getElem_mem lx)
    refine ⟨_,rfl,A.x,C,A.dx,_,_,rfl,W4.ob,T.cl,T.nu,lk_unl A wd,_,rfl,A.U,_,_,V.ref rs[x],rfl,rfl,SqL.of t2,at_nat (mref lx),rs[x],rfl,⟨_,SqL.of n2⟩,?_⟩
    refine compNeg n2 (by rw [n1]; show h≤1000; omega) (fun n H1 R hR=>⟨StLe.set rfl,_,rfl,n,rfl,hR⟩) fun l5 hl5=>?_
    have s5:=same_upd (o:=.lst ((ns.map fun n=>-n).map V.int)) hl5
    have W5:=W4.same s5
    refine ⟨_,rfl,A.x,C,A.dx,_,_,rfl,W5.ob,T.cl,T.nu,lk_unl A wd,_,rfl,A.U,_,_,x,rfl,rfl,s5 _ _ t2,ixN_nat (by rw [List.length_map]; exact lx),?_⟩
    exact q _ _ (W5.tabSet (p:=(A.U,h)) (i:=x) (by simp [Ad.tabs]) t1 (fun c hc=>by obtain ⟨ks,e1,e2⟩:=t3 c hc; exact ⟨ks,e1,s5 _ _ e2⟩) (upd_same (o:=.lst ((ns.map fun n=>-n).map V.int))) (by rw [List.length_map]; exact n1))
end
end KF
namespace KF
open PySem L2 PyProof.Rows K01 KW
structure Scan (z:Nat) (a:M4.Mt) (Pr:Nat→Nat→Prop) (H:Hp) (least:Int) (pl:V):Prop where
  no1:∀ i j,Pr i j→(a i j).natAbs≠1
  fst:∀ i j,Pr i j→Pr z z
  got:(pl=.non∧∀ i j,Pr i j→a i j=0)∨∃ (T:Addr) (li co:Nat),pl=.ref T∧H T=some (.tup [.int li,.int co])∧Pr li co∧a li co≠0∧least=((a li co).natAbs:Int)∧(∀ i j,Pr i j→a i j≠0→(a li co).natAbs≤(a i j).natAbs)∧(a z z≠0→(li=z∧co=z)∨(a li co).natAbs < (a z z).natAbs)
theorem Scan.iff {z:Nat} {a:M4.Mt} {Pr Pr':Nat→Nat→Prop} {H:Hp} {least:Int} {pl:V} (S:Scan z a Pr H least pl) (e:∀ i j,Pr i j↔Pr' i j):Scan z a Pr' H least pl:=by
  have:Pr=Pr':=by funext i j; exact propext (e i j)
  rw [← this]; exact S
section
variable {z:Nat} {a:M4.Mt} {Pr:Nat→Nat→Prop} {H:Hp} {least:Int} {pl:V} {x y:Nat}
theorem Scan.pass (S:Scan z a Pr H least pl) (hf:Pr z z∨(x=z∧y=z)) (n1:(a x y).natAbs≠1) (h:a x y=0∨(pl≠.non∧least≤((a x y).natAbs:Int))):Scan z a (fun i j=>Pr i j∨(i=x∧j=y)) H least pl:=by
  refine ⟨fun i j p=>?_,fun i j p=>?_,?_⟩
  · rcases p with p | ⟨rfl,rfl⟩
    · exact S.no1 i j p
    · exact n1
  · rcases hf with f | ⟨rfl,rfl⟩
    · exact .inl f
    · exact .inr ⟨rfl,rfl⟩
  · rcases S.got with ⟨e,g⟩ | ⟨T,li,co,e,t,p,ne,el,le,f⟩
    · refine .inl ⟨e,fun i j p=>?_⟩
      rcases p with p | ⟨rfl,rfl⟩
      · exact g i j p
      · rcases h with h | ⟨h,_⟩
        · exact h
        · exact absurd e h
    · refine .inr ⟨T,li,co,e,t,.inl p,ne,el,fun i j q hn=>?_,f⟩
      rcases q with q | ⟨rfl,rfl⟩
      · exact le i j q hn
      · rcases h with h | ⟨_,h⟩
        · exact absurd h hn
        · omega
theorem Scan.take (S:Scan z a Pr H least pl) {T:Addr} {H':Hp} (hf:Pr z z∨(x=z∧y=z)) (n1:(a x y).natAbs≠1) (n0:a x y≠0) (h:pl=.non∨((a x y).natAbs:Int) < least) (t:H' T=some (.tup [.int x,.int y])):Scan z a (fun i j=>Pr i j∨(i=x∧j=y)) H' ((a x y).natAbs:Int) (.ref T):=by
  refine ⟨fun i j p=>?_,fun i j p=>?_,.inr ⟨T,x,y,rfl,t,.inr ⟨rfl,rfl⟩,n0,rfl,fun i j q hn=>?_,fun hz=>?_⟩⟩
  · rcases p with p | ⟨rfl,rfl⟩
    · exact S.no1 i j p
    · exact n1
  · rcases hf with f | ⟨rfl,rfl⟩
    · exact .inl f
    · exact .inr ⟨rfl,rfl⟩
  · rcases q with q | ⟨rfl,rfl⟩
    · rcases S.got with ⟨e,g⟩ | ⟨T,li,co,e,_,p,ne,el,le,f⟩
      · exact absurd (g i j q) hn
      · have:=le i j q hn
        rcases h with h | h
        · rw [h] at e; cases e
        · omega
    · exact Nat.le_refl _
  · rcases hf with f | f
    · right
      rcases S.got with ⟨e,g⟩ | ⟨T,li,co,e,_,p,ne,el,le,_⟩
      · exact absurd (g _ _ f) hz
      · have:=le _ _ f hz
        rcases h with h | h
        · rw [h] at e; cases e
        · omega
    · exact .inl f
end
theorem abs_nat (x:Int):(if x < 0 then -x else x)=((x.natAbs:Nat):Int):=by split <;> omega
section
variable {P:Program} {w:World} {K:PySem.W.Frag} {mg:Str→Option Value} {base:Heap} {C CF:Addr}
def spLeast:Sp:=fun vs H Q _=>∃ (bd:Addr) (z h w:Nat) (a:M4.Mt) (r:Nat→Addr),vs=[.ref bd,.int z]∧H bd=some (.lst ((mapR h r).map V.ref))∧(∀ i,i < h→H (r i)=some (.lst ((mapR w (a i)).map V.int)))∧z≤3∧h≤3∧w≤3 ∧
  (∀ H',Same H H'→(∀ i j,M4.Blk z h w i j→a i j=0)→Q .non H')∧∀ (T:Addr) (li co:Nat) (H':Hp),Same H H'→M4.Pl z h w a li co→H' T=some (.tup [.int li,.int co])→Q (.ref T) H'
theorem scLeast:FnScope ["body","at","least","place","line","column","bulk"] ["body","at"] (defScope (top 6)):=⟨rfl,rfl,rfl,by decide +kernel,rfl,by decide +kernel,by decide +kernel⟩
set_option maxHeartbeats 8000000 in
theorem ok_least {f:Addr} {fd:FuncData} (F:FnAt K mg "least_place" "least_place" (top 6) .none f fd) (T:TxtF K mg C CF):FnOk P w K mg base CX0 1 f fd ["body","at"] spLeast:=by
  have nd:=scLeast.nd
  refine F.ok scLeast (fun vs H Q E h=>?_) (fun cdv A0 outer s H vs Q E hr h=>?_)
  · obtain ⟨bd,z,h,w,a,r,rfl,_⟩:=h
    rfl
  · obtain ⟨bd, z,h,wd,a,r,rfl,hb,ro,z3,h3,w3,q1,q2⟩:=h
    refine ⟨_,(pss_cons (ps_set (i:=2) nd rfl (Or.inl rfl) pe_int)
      (pss_cons (ps_set (i:=3) nd rfl (Or.inl rfl) pe_non)
      (pss_cons (ps_for PassesOwn.never rfl (pi_range2 (by rfl) T.n_range (pa_cons (pv 1) (pa_cons (pe_callB call_len_seq (by rfl) T.n_len PySem.boot_len (pa_cons (pv 0) pa_nil)) pa_nil))) (pg_name (i:=4) nd rfl (Or.inl rfl)) (pss_one (ps_for PassesOwn.never rfl (pi_range2 (by rfl) T.n_range (pa_cons (pv 1) (pa_cons (pe_callB call_len_seq (by rfl) T.n_len PySem.boot_len (pa_cons (pe_ix ix_list (pv 0) (pv 4) (fun _ _=>rfl)) pa_nil)) pa_nil))) (pg_name (i:=5) nd rfl (Or.inl rfl)) (pss_cons (ps_set (i:=6) nd rfl (Or.inl rfl) (pe_callB call_abs (by rfl) T.n_abs boot_abs (pa_cons (pe_ix ix_list (pe_ix ix_list (pv 0) (pv 4) (fun _ _=>rfl)) (pv 5) (fun _ _=>rfl)) pa_nil)))
      (pss_cons (ps_if (pt_cmpR op_eq (pv 6) pe_int (nomark _)) (pss_one (ps_ret (pe_tup (pa_cons (pv 4) (pa_cons (pv 5) pa_nil))))) pss_nil)
      (pss_one (ps_if (PW.pt (pw_and (pt_cmpR op_ne (pv 6) pe_int (nomark _)) (pw_and1 (PW.pt (pw_or (pt_cmpR op_isN (pv 3) pe_non (nomark _)) (pw_or1 (pt_cmpR op_lt (pv 6) (pv 2) (nomark _)))))))) (pss_cons (ps_set (i:=2) nd rfl (Or.inl rfl) (pv 6))
      (pss_one (ps_set (i:=3) nd rfl (Or.inl rfl) (pe_tup (pa_cons (pv 4) (pa_cons (pv 5) pa_nil)))))) pss_nil)))))))
      (pss_one (ps_ret (pv 3)))))),?_⟩
    have hlen:((mapR h r).map V.ref).length=h:=by rw [List.length_map,mapR_len]
    refine ⟨_,rfl,_,rfl,bd,_,rfl,.inl (SqL.of hb),_,_,rfl,⟨by omega,by omega,by rw [hlen]; omega,by rw [hlen]; omega⟩,?_⟩
    rw [hlen]
    refine for_range (lo:=(z:Int)) (n:=((h:Int) - (z:Int)).toNat) (fun i σ H1=>Same H H1∧∃ (least:Int) (pl:V) (v1 v2 v3:Option V),σ=[some (.ref bd),some (.int z),some (.int least),some pl,v1,v2,v3]∧Scan z a (fun k l=>z≤k∧k < z + i∧z≤l∧l < wd) H1 least pl) ⟨Same.refl _,0,.non,none,none,none,rfl,⟨fun i j p=>by omega,fun i j p=>by omega,.inl ⟨rfl,fun i j p=>by omega⟩⟩⟩ ?_ ?_
    · rintro i σ H1 hi ⟨s1,least,pl,v1,v2,v3,rfl,S⟩
      have hk:z + i < h:=by omega
      have ri:=s1 _ _ (ro _ hk)
      have rl:((mapR wd (a (z + i))).map V.int).length=wd:=by rw [List.length_map,mapR_len]
      rw [← Int.natCast_add]
      refine ⟨_,rfl,_,rfl,_,rfl,bd,_,_,V.ref (r (z + i)),rfl,rfl,SqL.of (s1 _ _ hb),at_nat (mrefR hk),r (z + i),_,rfl,.inl (SqL.of ri),_,_,rfl,⟨by omega,by omega,by rw [rl]; omega,by rw [rl]; omega⟩,?_⟩
      rw [rl]
      refine for_range (lo:=(z:Int)) (n:=((wd:Int) - (z:Int)).toNat) (fun j σ H2=>Same H H2∧∃ (least:Int) (pl:V) (v2 v3:Option V),σ=[some (.ref bd),some (.int z),some (.int least),some pl,some (.int ((z + i:Nat):Int)),v2,v3]∧Scan z a (fun k l=>(z≤k∧k < z + i∧z≤l∧l < wd)∨(k=z + i∧z≤l∧l < z + j)) H2 least pl) ⟨s1,least,pl,v2,v3,rfl,S.iff fun k l=>⟨fun p=>.inl p,fun p=>by omega⟩⟩ ?_ ?_
      · rintro j σ H2 hj ⟨s2,least,pl,v2,v3,rfl,S⟩
        have hl:z + j < wd:=by omega
        have ri:=s2 _ _ (ro _ hk)
        rw [← Int.natCast_add]
        have hf:((z≤z∧z < z + i∧z≤z∧z < wd)∨(z=z + i∧z≤z∧z < z + j))∨(z + i=z∧z + j=z):=by omega
        have next:∀ {least:Int} {pl:V} {H3:Hp},Scan z a (fun k l=>((z≤k∧k < z + i∧z≤l∧l < wd)∨(k=z + i∧z≤l∧l < z + j))∨(k=z + i∧l=z + j)) H3 least pl→Scan z a (fun k l=>(z≤k∧k < z + i∧z≤l∧l < wd)∨(k=z + i∧z≤l∧l < z + (j + 1))) H3 least pl:=fun S=>S.iff fun k l=>by omega
        refine ⟨_,rfl,_,rfl,bd,_,_,V.ref (r (z + i)),rfl,rfl,SqL.of (s2 _ _ hb),at_nat (mrefR hk),_,rfl,r (z + i),_,_,V.int (a (z + i) (z + j)),rfl,rfl,SqL.of ri,at_nat (mintR hl),_,rfl,?_⟩
        rw [abs_nat]
        refine ⟨_,rfl,rfl,_,rfl,ite2 (fun hc=>?_) (fun hc=>?_)⟩
        · have h1:(((a (z + i) (z + j)).natAbs:Nat):Int)=1:=V.int.inj (of_decide_eq_true hc)
          refine ⟨_,rfl,_,rfl,(show 2≤sizeLine by decide),fun U hU=>?_⟩
          refine q2 U (z + i) (z + j) _ (s2.trans (same_upd hU)) ⟨⟨by omega,hk,by omega,hl⟩,by omega,fun k l _ hn=>by omega,fun hz hle=>?_⟩ upd_same
          rcases hf with f | f
          · have:=S.no1 z z f
            omega
          · exact f
        · have n1:(a (z + i) (z + j)).natAbs≠1:=fun e=>hc (decide_eq_true (congrArg V.int (by omega)))
          refine ⟨_,rfl,rfl,_,rfl,?_⟩
          by_cases h0:a (z + i) (z + j)=0
          · have e0:decide (V.int (((a (z + i) (z + j)).natAbs:Nat):Int)=V.int 0)=true:=decide_eq_true (congrArg V.int (by omega))
            rw [e0]
            refine iteF (iteF ?_)
            exact ⟨s2,least,pl,_,_,rfl,next (S.pass hf n1 (.inl h0))⟩
          · have e0:decide (V.int (((a (z + i) (z + j)).natAbs:Nat):Int)=V.int 0)=false:=decide_eq_false fun e=>h0 (by have:=V.int.inj e; omega)
            rw [e0]
            refine iteT ⟨_,rfl,rfl,_,rfl,?_⟩
            have took:∀ {H3:Hp},Same H H3→Scan z a (fun k l=>(z≤k∧k < z + i∧z≤l∧l < wd)∨(k=z + i∧z≤l∧l < z + j)) H3 least pl→(pl=.non∨(((a (z + i) (z + j)).natAbs:Nat):Int) < least)→∀ U,H3 U=none→Scan z a (fun k l=>(z≤k∧k < z + i∧z≤l∧l < wd)∨(k=z + i∧z≤l∧l < z + (j + 1))) (upd H3 U (.tup [.int ((z + i:Nat):Int),.int ((z + j:Nat):Int)])) (((a (z + i) (z + j)).natAbs:Nat):Int) (.ref U):=fun _ S h U _=>next (S.take hf n1 h0 h upd_same)
            by_cases hp:pl=.non
            · rw [decide_eq_true hp]
              refine iteT (iteT ?_)
              refine ⟨_,rfl,_,rfl,_,rfl,(show 2≤sizeLine by decide),fun U hU=>?_⟩
              exact ⟨s2.trans (same_upd hU),_,_,_,_,rfl,took s2 S (.inl hp) U hU⟩
            · rw [decide_eq_false hp]
              refine iteF ⟨_,rfl,_,rfl,_,_,rfl,rfl,_,rfl,?_⟩
              refine ite2 (fun hlt=>?_) (fun hlt=>?_)
              · refine ⟨_,rfl,_,rfl,_,rfl,(show 2≤sizeLine by decide),fun U hU=>?_⟩
                exact ⟨s2.trans (same_upd hU),_,_,_,_,rfl,took s2 S (.inr (of_decide_eq_true hlt)) U hU⟩
              · refine ⟨s2,least,pl,_,_,rfl,next (S.pass hf n1 (.inr ⟨hp,?_⟩))⟩
                have:¬ (((a (z + i) (z + j)).natAbs:Nat):Int) < least:=fun e=>hlt (decide_eq_true e)
                omega
      · rintro σ H2 ⟨s2,least,pl,v2,v3,rfl,S⟩
        exact ⟨s2,least,pl,_,v2,v3,rfl,S.iff fun k l=>by omega⟩
    · rintro σ H1 ⟨s1,least,pl,v1,v2,v3,rfl,S⟩
      refine ⟨_,rfl,?_⟩
      rcases S.got with ⟨rfl,g⟩ | ⟨U,li,co,rfl,t,p,ne,el,le,fz⟩
      · exact q1 _ s1 fun i j b=>g i j (by obtain ⟨b1,b2,b3,b4⟩:=b; omega)
      · refine q2 U li co _ s1 ⟨⟨by omega,by omega,by omega,by omega⟩,ne,fun i j b hn=>le i j (by obtain ⟨b1,b2,b3,b4⟩:=b; omega) hn,fun hz hle=>?_⟩ t
        rcases fz hz with f | f
        · exact f
        · omega
end
end KF
namespace KF
open PySem L2 PyProof.Rows K01 KW
theorem nl_sl (A:Ad) (w:Nat):(A.fs w).lookup (Str.ofString "exchange_lines")=none:=rfl
theorem nl_sc (A:Ad) (w:Nat):(A.fs w).lookup (Str.ofString "exchange_columns")=none:=rfl
theorem nl_tl (A:Ad) (w:Nat):(A.fs w).lookup (Str.ofString "turn_line")=none:=rfl
theorem nl_al (A:Ad) (w:Nat):(A.fs w).lookup (Str.ofString "add_line")=none:=rfl
theorem nl_ac (A:Ad) (w:Nat):(A.fs w).lookup (Str.ofString "add_column")=none:=rfl
section
variable {P:Program} {w:World} {K:PySem.W.Frag} {mg:Str→Option Value} {base:Heap} {C CF:Addr}
def spBring (C:Addr):Sp:=fun vs H Q _=>∃ (H0:Hp) (A:Ad) (h w z:Nat) (a:M4.Mt) (r:Nat→Addr),vs=[.ref A.x,.int z]∧Wk C H0 H A h w a r∧z≤3 ∧
  (∀ H',Wk C H0 H' A h w a r→(∀ i j,M4.Blk z h w i j→a i j=0)→Q (.bl false) H')∧∀ (li co:Nat) (H':Hp) (r':Nat→Addr),M4.Pl z h w a li co→Wk C H0 H' A h w (M4.brought a z li co) r'→Q (.bl true) H'
theorem scBring:FnScope ["work","at","place","line","column"] ["work","at"] (defScope (top 7)):=⟨rfl,rfl,rfl,by decide +kernel,rfl,by decide +kernel,by decide +kernel⟩
set_option maxHeartbeats 8000000 in
theorem ok_bring {f:Addr} {fd:FuncData} (F:FnAt K mg "bring_least" "bring_least" (top 7) .none f fd) (T:TxtF K mg C CF)
    {f_least_place:Addr} {d_least_place:FuncData} (A_least_place:FnAt K mg "least_place" "least_place" (top 6) .none f_least_place d_least_place) (b_least_place:L2.Binds K d_least_place ["body","at"] []) (G_least_place:FnOk P w K mg base CX0 1 f_least_place d_least_place ["body","at"] (spLeast)) {f_exchange_lines:Addr} {d_exchange_lines:FuncData} (m_exchange_lines:Meth K C "exchange_lines" f_exchange_lines) (b_exchange_lines:L2.Binds K d_exchange_lines ["self","one","other"] []) (G_exchange_lines:FnOk P w K mg base CX0 2 f_exchange_lines d_exchange_lines ["self","one","other"] (spSwLines C)) {f_exchange_columns:Addr} {d_exchange_columns:FuncData} (m_exchange_columns:Meth K C "exchange_columns" f_exchange_columns) (b_exchange_columns:L2.Binds K d_exchange_columns ["self","one","other"] []) (G_exchange_columns:FnOk P w K mg base CX0 2 f_exchange_columns d_exchange_columns ["self","one","other"] (spSwCols C)) {f_turn_line:Addr} {d_turn_line:FuncData} (m_turn_line:Meth K C "turn_line" f_turn_line) (b_turn_line:L2.Binds K d_turn_line ["self","at"] []) (G_turn_line:FnOk P w K mg base CX0 1 f_turn_line d_turn_line ["self","at"] (spTurn C)):FnOk P w K mg base CX0 3 f fd ["work","at"] (spBring C):=by
  have nd:=scBring.nd
  refine F.ok scBring (fun vs H Q E h=>?_) (fun cdv A0 outer s H vs Q E hr h=>?_)
  · obtain ⟨H0,A,h,w,z,a,r,rfl,_⟩:=h
    rfl
  · obtain ⟨H0,A,h,wd,z,a,r,rfl,W,z3,q1,q2⟩:=h
    refine ⟨_,(pss_cons (ps_set (i:=2) nd rfl (Or.inl rfl) (pe_call (G_least_place.mono (by decide)) hr rfl A_least_place.mg A_least_place.kp b_least_place .nil pass0 (pa_cons (pe_fld (pv 0) rfl) (pa_cons (pv 1) pa_nil))))
      (pss_cons (ps_if (pt_cmpR op_isN (pv 2) pe_non (nomark _)) (pss_one (ps_ret pe_bl)) pss_nil)
      (pss_cons (ps_asg (pv 2) (pg_tup (n:=2) (by rfl) (pgs_cons (pg_name (i:=3) nd rfl (Or.inl rfl)) (pgs_cons (pg_name (i:=4) nd rfl (Or.inl rfl)) pgs_nil))))
      (pss_cons (ps_expr (pe_meth (pv 0) T.cl m_exchange_lines (G_exchange_lines.mono (by decide)) hr b_exchange_lines .nil pass0 (pa_cons (pv 1) (pa_cons (pv 3) pa_nil))))
      (pss_cons (ps_expr (pe_meth (pv 0) T.cl m_exchange_columns (G_exchange_columns.mono (by decide)) hr b_exchange_columns .nil pass0 (pa_cons (pv 1) (pa_cons (pv 4) pa_nil))))
      (pss_cons (ps_if (pt_cmpR op_lt (pe_ix ix_list (pe_ix ix_list (pe_fld (pv 0) rfl) (pv 1) (fun _ _=>rfl)) (pv 1) (fun _ _=>rfl)) pe_int (nomark _)) (pss_one (ps_expr (pe_meth (pv 0) T.cl m_turn_line (G_turn_line.mono (by decide)) hr b_turn_line .nil pass0 (pa_cons (pv 1) pa_nil)))) pss_nil)
      (pss_one (ps_ret pe_bl)))))))),?_⟩
    refine ⟨_,rfl,A.x,C,A.dx,_,_,rfl,W.ob,T.cl,T.nb,lk_body A wd,_,rfl,A.bd,z,h,wd,a,r,rfl,W.bo,W.ro,z3,W.h3,W.w3,fun H1 s1 z0=>?_,fun U li co H1 s1 pl t=>?_⟩
    · refine ⟨_,rfl,rfl,_,rfl,iteT ?_⟩
      exact q1 _ (W.same s1) z0
    · have W1:=W.same s1
      obtain ⟨b1,b2,b3,b4⟩:=pl.b
      refine ⟨_,rfl,rfl,_,rfl,iteF ?_⟩
      refine ⟨_,rfl,U,_,rfl,SqT.of t,rfl,_,_,rfl,_,_,rfl,rfl,?_⟩
      refine ⟨_,rfl,A.x,A.dx,_,rfl,W1.ob,nl_sl A wd,_,rfl,_,rfl,H0,A,h,wd,z,li,a,r,rfl,W1,by omega,b2,fun H2 r2 W2=>?_⟩
      refine ⟨_,rfl,A.x,A.dx,_,rfl,W2.ob,nl_sc A wd,_,rfl,_,rfl,H0,A,h,wd,z,co,_,r2,rfl,W2,by omega,b4,fun H3 r3 W3=>?_⟩
      refine ⟨_,rfl,A.x,C,A.dx,_,_,rfl,W3.ob,T.cl,T.nb,lk_body A wd,_,rfl,A.bd,_,_,V.ref (r3 z),rfl,rfl,SqL.of W3.bo,at_nat (mrefR (by omega)),?_⟩
      refine ⟨_,rfl,r3 z,_,_,V.int (M4.swC (M4.swR a z li) z co z z),rfl,rfl,SqL.of (W3.ro z (by omega)),at_nat (mintR (by omega)),_,_,rfl,rfl,_,rfl,?_⟩
      refine ite2 (fun hc=>?_) (fun hc=>?_)
      · have hc:=of_decide_eq_true hc
        refine ⟨_,rfl,A.x,A.dx,_,rfl,W3.ob,nl_tl A wd,_,rfl,H0,A,h,wd,z,_,r3,rfl,W3,by omega,fun H4 r4 W4=>?_⟩
        refine q2 li co _ r4 pl ?_
        have e:M4.brought a z li co=M4.negR (M4.swC (M4.swR a z li) z co) z:=if_pos hc
        rw [e]; exact W4
      · have hc:¬ M4.swC (M4.swR a z li) z co z z < 0:=fun e=>hc (decide_eq_true e)
        refine q2 li co _ r3 pl ?_
        have e:M4.brought a z li co=M4.swC (M4.swR a z li) z co:=if_neg hc
        rw [e]; exact W3
def spNear:Sp:=fun vs H Q _=>∃ n p:Int,vs=[.int n,.int p]∧0 < p∧p.natAbs < 2 ^ 100∧Q (.int (M4.near n p)) H
theorem scNear:FnScope ["number","step"] ["number","step"] (defScope (top 8)):=⟨rfl,rfl,rfl,by decide +kernel,rfl,by decide +kernel,by decide +kernel⟩
theorem ok_near {f:Addr} {fd:FuncData} (F:FnAt K mg "nearest" "nearest" (top 8) .none f fd):FnOk P w K mg base CX0 1 f fd ["number","step"] spNear:=by
  have nd:=scNear.nd
  refine F.ok scNear (fun vs H Q E h=>?_) (fun cdv A0 outer s H vs Q E hr h=>?_)
  · obtain ⟨n,p,rfl,_⟩:=h
    rfl
  · obtain ⟨n,p,rfl,hp,hb,q⟩:=h
    refine ⟨_,(pss_one (ps_ret (pe_op op_fdivX (pe_op op_add (pe_op op_mulX pe_int (pv 0)) (pv 1)) (pe_op op_mulX pe_int (pv 1))))),?_⟩
    refine ⟨_,rfl,_,_,rfl,rfl,mulL' (by decide),_,rfl,_,_,rfl,rfl,_,rfl,_,_,rfl,rfl,mulL' (by decide),_,_,rfl,rfl,⟨by omega,log_small (Nat.lt_of_le_of_lt (show (2 * p).natAbs≤2 * 2 ^ 100 by omega) (by decide))⟩,q⟩
def spBar (C:Addr):Sp:=fun vs H Q _=>∃ (H0:Hp) (A:Ad) (h w z:Nat) (a:M4.Mt) (r:Nat→Addr),vs=[.ref A.x,.int z]∧Wk C H0 H A h w a r∧z < h∧z < w∧0 < a z z ∧
  (∀ H',Wk C H0 H' A h w a r→(∀ i j,z < i→i < h→j < w→a z z ∣ a i j)→Q .non H')∧∀ (b j:Nat) (H':Hp),Wk C H0 H' A h w a r→z < b→b < h→j < w→¬ a z z ∣ a b j→Q (.int b) H'
theorem scBar:FnScope ["work","at","step","line"] ["work","at"] (defScope (top 10)):=⟨rfl,rfl,rfl,by decide +kernel,rfl,by decide +kernel,by decide +kernel⟩
theorem any_mod {n:Nat} {f:Nat→Int} {p:Int} (hp:0 < p):(((mapR n fun j=>(f j).fmod p).map V.int).any truB=true↔∃ j,j < n∧¬ p ∣ f j):=by
  rw [List.any_eq_true]
  constructor
  · rintro ⟨y,hy,ht⟩
    obtain ⟨x,hx,rfl⟩:=List.mem_map.mp hy
    obtain ⟨j,hj,rfl⟩:=mapR_mem hx
    refine ⟨j,hj,fun hd=>?_⟩
    have:(f j).fmod p≠0:=by simpa [truB] using ht
    exact this (Int.fmod_eq_zero_of_dvd hd)
  · rintro ⟨j,hj,hd⟩
    refine ⟨_,List.mem_map.mpr ⟨_,List.mem_of_getElem? (mapR_get hj),rfl⟩,?_⟩
    have:(f j).fmod p≠0:=fun e=>hd (Int.dvd_of_fmod_eq_zero e)
    simpa [truB] using this
set_option maxHeartbeats 8000000 in
theorem ok_bar {f:Addr} {fd:FuncData} (F:FnAt K mg "barring_line" "barring_line" (top 10) .none f fd) (T:TxtF K mg C CF):FnOk P w K mg base CX0 1 f fd ["work","at"] (spBar C):=by
  have nd:=scBar.nd
  refine F.ok scBar (fun vs H Q E h=>?_) (fun cdv A0 outer s H vs Q E hr h=>?_)
  · obtain ⟨H0,A,h,w,z,a,r,rfl,_⟩:=h
    rfl
  · obtain ⟨H0,A,h,wd,z,a,r,rfl,W,zh,zw,hp,q1,q2⟩:=h
    refine ⟨_,(pss_cons (ps_set (i:=2) nd rfl (Or.inr rfl) (pe_ix ix_list (pe_ix ix_list (pe_fld (pv 0) rfl) (pv 1) (fun _ _=>rfl)) (pv 1) (fun _ _=>rfl)))
      (pss_cons (ps_for PassesOwn.never rfl (pi_range2 (by rfl) T.n_range (pa_cons (pe_op op_add (pv 1) pe_int) (pa_cons (pe_callB call_len_seq (by rfl) T.n_len PySem.boot_len (pa_cons (pe_fld (pv 0) rfl) pa_nil)) pa_nil))) (pg_name (i:=3) nd rfl (Or.inl rfl)) (pss_one (ps_if (pt_truth (pe_callB (call_anyL (by rfl)) (by rfl) T.n_any boot_any (pa_cons (pe_comp (by rfl) (compOk (N:=["number","step"]) (ix:=[none,some 2])) (pi_list (pe_ix ix_list (pe_fld (pv 0) rfl) (pv 3) (fun _ _=>rfl))) (by intro _ _ _ _ _; exact PG.to (pg_name (i:=0) (show (["number","step"]:List Str).Nodup by decide +kernel) rfl (Or.inl rfl)) (by (try simp only [inX_K]); rfl)) (by intro _ _ _ _ _; exact PE.to (pe_op op_modN (pv 0) (pv 1)) (by (try simp only [inX_K]); rfl))) pa_nil)) (fun _=>rfl)) (pss_one (ps_ret (pv 3))) pss_nil)))
      (pss_one (ps_ret pe_non)))),?_⟩
    have h3:=W.h3
    have w3:=W.w3
    have hlen:((mapR h r).map V.ref).length=h:=by rw [List.length_map,mapR_len]
    refine ⟨_,rfl,A.x,C,A.dx,_,_,rfl,W.ob,T.cl,T.nb,lk_body A wd,_,rfl,A.bd,_,_,V.ref (r z),rfl,rfl,SqL.of W.bo,at_nat (mrefR zh),?_⟩
    refine ⟨_,rfl,r z,_,_,V.int (a z z),rfl,rfl,SqL.of (W.ro z zh),at_nat (mintR zw),?_⟩
    refine ⟨_,rfl,_,_,rfl,rfl,_,rfl,A.x,C,A.dx,_,_,rfl,W.ob,T.cl,T.nb,lk_body A wd,A.bd,_,rfl,.inl (SqL.of W.bo),_,_,rfl,⟨by omega,by omega,by rw [hlen]; omega,by rw [hlen]; omega⟩,?_⟩
    rw [hlen]
    refine for_range (lo:=(z:Int) + 1) (n:=((h:Int) - ((z:Int) + 1)).toNat) (fun i σ H1=>Wk C H0 H1 A h wd a r∧(∃ v:Option V,σ=[some (.ref A.x),some (.int z),some (.int (a z z)),v])∧∀ k j,z < k→k < z + 1 + i→j < wd→a z z ∣ a k j) ⟨W,⟨none,rfl⟩,fun k j _ _ _=>by omega⟩ ?_ ?_
    · rintro i σ H1 hi ⟨W1,⟨v,rfl⟩,hd⟩
      have hk:z + 1 + i < h:=by omega
      rw [show ((z:Int) + 1 + (i:Int))=((z + 1 + i:Nat):Int) by omega]
      have ri:=W1.ro _ hk
      have ln:((mapR wd (a (z + 1 + i))).map V.int).length=wd:=by rw [List.length_map,mapR_len]
      refine ⟨_,rfl,A.x,C,A.dx,_,_,rfl,W1.ob,T.cl,T.nb,lk_body A wd,_,rfl,A.bd,_,_,V.ref (r (z + 1 + i)),rfl,rfl,SqL.of W1.bo,at_nat (mrefR hk),r (z + 1 + i),rfl,⟨_,SqL.of ri⟩,?_⟩
      refine compL (K:=K) (a:=r (z + 1 + i)) (xs:=(mapR wd (a (z + 1 + i))).map V.int) (fun j ys H2=>H2=H1∧ys=(mapR j fun k=>(a (z + 1 + i) k).fmod (a z z)).map V.int) ⟨rfl,rfl⟩ ?_ (by rw [ln]; exact small1000' (by omega)) ?_ ?_
      · rintro j ys H2 hj ⟨rfl,rfl⟩
        exact ⟨SqL.of ri,by rw [List.length_map,mapR_len]⟩
      · rintro j x ys H2 R hx ⟨rfl,rfl⟩ kR
        obtain ⟨n,hn,rfl⟩:=getI_map hx
        obtain ⟨_,rfl⟩:=mapR_get' hn
        refine ⟨StLe.set rfl,_,rfl,_,rfl,_,_,rfl,rfl,by omega,kR _ _ ⟨rfl,?_⟩⟩
        rw [mapR_succ]
        simp
      · rintro ys H2 ⟨rfl,rfl⟩ l hl
        rw [ln]
        have s1:=same_upd (o:=.lst ((mapR wd fun k=>(a (z + 1 + i) k).fmod (a z z)).map V.int)) hl
        refine ⟨l,_,rfl,SqL.of upd_same,fun y hy=>by obtain ⟨n,_,rfl⟩:=List.mem_map.mp hy; rfl,_,rfl,?_⟩
        refine ite2 (fun hc=>?_) (fun hc=>?_)
        · obtain ⟨j,hj,nd⟩:=(any_mod hp).mp hc
          exact ⟨_,rfl,q2 (z + 1 + i) j _ (W1.same s1) (by omega) hk hj nd⟩
        · refine ⟨W1.same s1,⟨_,rfl⟩,fun k j h1 h2 hj=>?_⟩
          by_cases e:k=z + 1 + i
          · subst e
            exact Classical.byContradiction fun nd=>hc ((any_mod hp).mpr ⟨j,hj,nd⟩)
          · exact hd k j h1 (by omega) hj
    · rintro σ H1 ⟨W1,⟨v,rfl⟩,hd⟩
      exact q1 _ W1 fun i j h1 h2 hj=>hd i j h1 (by omega) hj
end
end KF
namespace KF
open PySem L2 PyProof.Rows K01 KW
theorem cut_drop {xs:List V} {j:Nat} (h:j≤xs.length):cutV xs (some (j:Int)) none=xs.drop j:=by
  unfold cutV
  rw [HT.sIx_none,HT.sIx_nat,Nat.min_eq_left h]
  exact List.take_of_length_le (by rw [List.length_drop]; exact Nat.le_refl _)
theorem any_ints {xs:List Int}:((xs.map V.int).any truB=true↔∃ x∈xs,x≠0):=by
  rw [List.any_eq_true]
  constructor
  · rintro ⟨y,hy,ht⟩
    obtain ⟨x,hx,rfl⟩:=List.mem_map.mp hy
    exact ⟨x,hx,by simpa [truB] using ht⟩
  · rintro ⟨x,hx,h⟩
    exact ⟨_,List.mem_map.mpr ⟨x,hx,rfl⟩,by simpa [truB] using h⟩
theorem drop_mem {n k:Nat} {f:Nat→Int} {x:Int}:x∈(mapR n f).drop k↔∃ j,k≤j∧j < n∧x=f j:=by
  constructor
  · intro h
    obtain ⟨i,hi⟩:=List.mem_iff_getElem?.mp h
    rw [List.getElem?_drop] at hi
    obtain ⟨h1,h2⟩:=mapR_get' hi
    exact ⟨_,by omega,h1,h2⟩
  · rintro ⟨j,h1,h2,rfl⟩
    refine List.mem_iff_getElem?.mpr ⟨j - k,?_⟩
    rw [List.getElem?_drop,show k + (j - k)=j by omega]
    exact mapR_get h2
section
variable {P:Program} {w:World} {K:PySem.W.Frag} {mg:Str→Option Value} {base:Heap} {C CF:Addr}
def spClear (C:Addr):Sp:=fun vs H Q _=>∃ (H0:Hp) (A:Ad) (h w z:Nat) (a:M4.Mt) (r:Nat→Addr),vs=[.ref A.x,.int z]∧Wk C H0 H A h w a r∧z < h∧z < w∧0 < a z z∧M4.Zr h w a∧(∀ i j,i < 3→j < 3→(a i j).natAbs≤1099511627776) ∧
  ∀ (b:Bool) (H':Hp) (r':Nat→Addr),Wk C H0 H' A h w (M4.T a z 3 3) r'→(b=true↔M4.Cross z h w (M4.T a z 3 3))→Q (.bl b) H'
theorem scClear:FnScope ["work","at","step","line","column","below"] ["work","at"] (defScope (top 9)):=⟨rfl,rfl,rfl,by decide +kernel,rfl,by decide +kernel,by decide +kernel⟩
theorem near64 {n p:Int} (hp:0 < p) (hn:n.natAbs≤1099511627776):(-(M4.near n p)).natAbs < 2 ^ 64:=by
  have:=M4.near_small (n:=n) hp
  rw [Int.natAbs_neg]
  exact Nat.lt_of_le_of_lt (show (M4.near n p).natAbs≤1099511627777 by omega) (by decide)
set_option maxHeartbeats 8000000 in
theorem ok_clear {f:Addr} {fd:FuncData} (F:FnAt K mg "clear_cross" "clear_cross" (top 9) .none f fd) (T:TxtF K mg C CF)
    {f_nearest:Addr} {d_nearest:FuncData} (A_nearest:FnAt K mg "nearest" "nearest" (top 8) .none f_nearest d_nearest) (b_nearest:L2.Binds K d_nearest ["number","step"] []) (G_nearest:FnOk P w K mg base CX0 1 f_nearest d_nearest ["number","step"] (spNear)) {f_add_line:Addr} {d_add_line:FuncData} (m_add_line:Meth K C "add_line" f_add_line) (b_add_line:L2.Binds K d_add_line ["self","to","source","times"] []) (G_add_line:FnOk P w K mg base CX0 2 f_add_line d_add_line ["self","to","source","times"] (spAddLine C)) {f_add_column:Addr} {d_add_column:FuncData} (m_add_column:Meth K C "add_column" f_add_column) (b_add_column:L2.Binds K d_add_column ["self","to","source","times"] []) (G_add_column:FnOk P w K mg base CX0 2 f_add_column d_add_column ["self","to","source","times"] (spAddCol C)):FnOk P w K mg base CX0 3 f fd ["work","at"] (spClear C):=by
  have nd:=scClear.nd
  refine F.ok scClear (fun vs H Q E h=>?_) (fun cdv A0 outer s H vs Q E hr h=>?_)
  · obtain ⟨H0,A,h,w,z,a,r,rfl,_⟩:=h
    rfl
  · obtain ⟨H0, A,h,wd,z,a,r,rfl,W,zh,zw,hp,zr,he,q⟩:=h
    refine ⟨_,(pss_cons (ps_set (i:=2) nd rfl (Or.inl rfl) (pe_ix ix_list (pe_ix ix_list (pe_fld (pv 0) rfl) (pv 1) (fun _ _=>rfl)) (pv 1) (fun _ _=>rfl)))
      (pss_cons (ps_for PassesOwn.never rfl (pi_range2 (by rfl) T.n_range (pa_cons (pe_op op_add (pv 1) pe_int) (pa_cons (pe_callB call_len_seq (by rfl) T.n_len PySem.boot_len (pa_cons (pe_fld (pv 0) rfl) pa_nil)) pa_nil))) (pg_name (i:=3) nd rfl (Or.inl rfl)) (pss_one (ps_expr (pe_meth (pv 0) T.cl m_add_line (G_add_line.mono (by decide)) hr b_add_line .nil pass0 (pa_cons (pv 3) (pa_cons (pv 1) (pa_cons (pe_un un_neg (pe_call (G_nearest.mono (by decide)) hr rfl A_nearest.mg A_nearest.kp b_nearest .nil pass0 (pa_cons (pe_ix ix_list (pe_ix ix_list (pe_fld (pv 0) rfl) (pv 3) (fun _ _=>rfl)) (pv 1) (fun _ _=>rfl)) (pa_cons (pv 2) pa_nil)))) pa_nil)))))))
      (pss_cons (ps_for PassesOwn.never rfl (pi_range2 (by rfl) T.n_range (pa_cons (pe_op op_add (pv 1) pe_int) (pa_cons (pe_fld (pv 0) rfl) pa_nil))) (pg_name (i:=4) nd rfl (Or.inl rfl)) (pss_one (ps_expr (pe_meth (pv 0) T.cl m_add_column (G_add_column.mono (by decide)) hr b_add_column .nil pass0 (pa_cons (pv 4) (pa_cons (pv 1) (pa_cons (pe_un un_neg (pe_call (G_nearest.mono (by decide)) hr rfl A_nearest.mg A_nearest.kp b_nearest .nil pass0 (pa_cons (pe_ix ix_list (pe_ix ix_list (pe_fld (pv 0) rfl) (pv 1) (fun _ _=>rfl)) (pv 4) (fun _ _=>rfl)) (pa_cons (pv 2) pa_nil)))) pa_nil)))))))
      (pss_cons (ps_setComp (i:=5) nd rfl (Or.inl rfl) rfl (by rfl) (compOk (N:=["line","work","at"]) (ix:=[none,some 0,some 1])) (pi_range2 (by rfl) T.n_range (pa_cons (pe_op op_add (pv 1) pe_int) (pa_cons (pe_callB call_len_seq (by rfl) T.n_len PySem.boot_len (pa_cons (pe_fld (pv 0) rfl) pa_nil)) pa_nil))) (by intro _ _ _ _ _; exact PG.to (pg_name (i:=0) (show (["line","work","at"]:List Str).Nodup by decide +kernel) rfl (Or.inl rfl)) (by (try simp only [inX_K]); rfl)) (by intro _ _ _ _ _; exact PE.to (pe_ix ix_list (pe_ix ix_list (pe_fld (pv 1) rfl) (pv 0) (fun _ _=>rfl)) (pv 2) (fun _ _=>rfl)) (by (try simp only [inX_K]); rfl)))
      (pss_one (ps_ret (pe_and (pe_not (pe_callB (call_anyL (by rfl)) (by rfl) T.n_any boot_any (pa_cons (pv 5) pa_nil))) (pe_one (pe_not (pe_callB (call_anyL (by rfl)) (by rfl) T.n_any boot_any (pa_cons (pe_slice sl_list (pe_ix ix_list (pe_fld (pv 0) rfl) (pv 1) (fun _ _=>rfl)) (po_some (pe_op op_add (pv 1) pe_int)) po_none) pa_nil))))))))))),?_⟩
    have h3:=W.h3
    have w3:=W.w3
    have p100:(a z z).natAbs < 2 ^ 100:=Nat.lt_of_le_of_lt (he z z (by omega) (by omega)) (by decide)
    have hlen:∀ r:Nat→Addr,((mapR h r).map V.ref).length=h:=fun r=>by rw [List.length_map,mapR_len]
    refine ⟨_,rfl,A.x,C,A.dx,_,_,rfl,W.ob,T.cl,T.nb,lk_body A wd,_,rfl,A.bd,_,_,V.ref (r z),rfl,rfl,SqL.of W.bo,at_nat (mrefR zh),?_⟩
    refine ⟨_,rfl,r z,_,_,V.int (a z z),rfl,rfl,SqL.of (W.ro z zh),at_nat (mintR zw),?_⟩
    refine ⟨_,rfl,_,_,rfl,rfl,_,rfl,A.x,C,A.dx,_,_,rfl,W.ob,T.cl,T.nb,lk_body A wd,A.bd,_,rfl,.inl (SqL.of W.bo),_,_,rfl,⟨by omega,by omega,by rw [hlen]; omega,by rw [hlen]; omega⟩,?_⟩
    rw [hlen]
    generalize hq:(fun i=>M4.near (a i z) (a z z))=qr
    refine for_range (lo:=(z:Int) + 1) (n:=((h:Int) - ((z:Int) + 1)).toNat) (fun i σ H1=>(∃ r1,Wk C H0 H1 A h wd (M4.rowU a z qr (z + 1 + i)) r1)∧∃ v:Option V,σ=[some (.ref A.x),some (.int z),some (.int (a z z)),v,none,none]) ⟨⟨r,by rw [show z + 1 + 0=z + 1 from rfl,M4.rowU_start]; exact W⟩,none,rfl⟩ ?_ ?_
    · rintro i σ H1 hi ⟨⟨r1,W1⟩,v,rfl⟩
      have hk:z + 1 + i < h:=by omega
      rw [show ((z:Int) + 1 + (i:Int))=((z + 1 + i:Nat):Int) by omega]
      have ev:M4.rowU a z qr (z + 1 + i) (z + 1 + i) z=a (z + 1 + i) z:=by unfold M4.rowU; rw [if_neg (by omega)]
      refine ⟨_,rfl,A.x,A.dx,_,rfl,W1.ob,nl_al A wd,_,rfl,_,rfl,?_⟩
      refine ⟨_,rfl,A.x,C,A.dx,_,_,rfl,W1.ob,T.cl,T.nb,lk_body A wd,_,rfl,A.bd,_,_,V.ref (r1 (z + 1 + i)),rfl,rfl,SqL.of W1.bo,at_nat (mrefR hk),?_⟩
      refine ⟨_,rfl,r1 (z + 1 + i),_,_,V.int (a (z + 1 + i) z),rfl,rfl,SqL.of (W1.ro _ hk),at_nat (by rw [mintR zw,ev]),_,rfl,_,_,rfl,hp,p100,_,rfl,?_⟩
      refine ⟨H0,A,h,wd,z + 1 + i,z,_,_,r1,rfl,W1,hk,zh,by omega,near64 hp (he _ _ (by omega) (by omega)),fun H2 r2 W2=>⟨⟨r2,?_⟩,_,rfl⟩⟩
      have e:M4.near (a (z + 1 + i) z) (a z z)=qr (z + 1 + i):=by rw [← hq]
      rw [e,M4.rowU_step (by omega)] at W2
      exact W2
    · rintro σ H1 ⟨⟨r1,W1⟩,v,rfl⟩
      rw [show z + 1 + ((h:Int) - ((z:Int) + 1)).toNat=h by omega] at W1
      have eb:∀ j,M4.rowU a z qr h z j=a z j:=fun j=>by unfold M4.rowU; rw [if_neg (by omega)]
      have eT:M4.T a z 3 3=M4.colU (M4.rowU a z qr h) z (fun j=>M4.near (a z j) (a z z)) wd:=by rw [← hq]; exact (M4.T_three zr hp h3 w3).symm
      generalize M4.rowU a z qr h=b at *
      generalize hq2:(fun j=>M4.near (a z j) (a z z))=qc at *
      refine ⟨_,rfl,_,_,rfl,rfl,_,rfl,A.x,C,A.dx,_,_,rfl,W1.ob,T.cl,T.nw,lk_wide A wd,_,_,rfl,⟨by omega,by omega,by omega,by omega⟩,?_⟩
      refine for_range (lo:=(z:Int) + 1) (n:=((wd:Int) - ((z:Int) + 1)).toNat) (fun i σ H2=>(∃ r2,Wk C H0 H2 A h wd (M4.colU b z qc (z + 1 + i)) r2)∧∃ v4:Option V,σ=[some (.ref A.x),some (.int z),some (.int (a z z)),v,v4,none]) ⟨⟨r1,by rw [show z + 1 + 0=z + 1 from rfl,M4.colU_start]; exact W1⟩,none,rfl⟩ ?_ ?_
      · rintro i σ H2 hi ⟨⟨r2,W2⟩,v4,rfl⟩
        have hk:z + 1 + i < wd:=by omega
        rw [show ((z:Int) + 1 + (i:Int))=((z + 1 + i:Nat):Int) by omega]
        have ev:M4.colU b z qc (z + 1 + i) z (z + 1 + i)=a z (z + 1 + i):=by unfold M4.colU; rw [if_neg (by omega),eb]
        refine ⟨_,rfl,A.x,A.dx,_,rfl,W2.ob,nl_ac A wd,_,rfl,_,rfl,?_⟩
        refine ⟨_,rfl,A.x,C,A.dx,_,_,rfl,W2.ob,T.cl,T.nb,lk_body A wd,_,rfl,A.bd,_,_,V.ref (r2 z),rfl,rfl,SqL.of W2.bo,at_nat (mrefR zh),?_⟩
        refine ⟨_,rfl,r2 z,_,_,V.int (a z (z + 1 + i)),rfl,rfl,SqL.of (W2.ro _ zh),at_nat (by rw [mintR hk,ev]),_,rfl,_,_,rfl,hp,p100,_,rfl,?_⟩
        refine ⟨H0,A,h,wd,z + 1 + i,z,_,_,r2,rfl,W2,hk,zw,by omega,near64 hp (he _ _ (by omega) (by omega)),fun H3 r3 W3=>⟨⟨r3,?_⟩,_,rfl⟩⟩
        have e:M4.near (a z (z + 1 + i)) (a z z)=qc (z + 1 + i):=by rw [← hq2]
        rw [e,M4.colU_step (by omega)] at W3
        exact W3
      · rintro σ H2 ⟨⟨r2,W2⟩,v4,rfl⟩
        rw [show z + 1 + ((wd:Int) - ((z:Int) + 1)).toNat=wd by omega,← eT] at W2
        generalize M4.T a z 3 3=c at *
        clear eT W1 W
        refine ⟨_,rfl,_,_,rfl,rfl,_,rfl,A.x,C,A.dx,_,_,rfl,W2.ob,T.cl,T.nb,lk_body A wd,A.bd,_,rfl,.inl (SqL.of W2.bo),_,_,rfl,⟨by omega,by omega,by rw [hlen]; omega,by rw [hlen]; omega⟩,?_⟩
        rw [hlen]
        refine compR (lo:=(z:Int) + 1) (n:=((h:Int) - ((z:Int) + 1)).toNat) (fun i ys H3=>H3=H2∧ys=(mapR i fun k=>c (z + 1 + k) z).map V.int) ⟨rfl,rfl⟩ ?_ (small1000' (by omega)) ?_ ?_
        · rintro i ys H3 hi ⟨rfl,rfl⟩
          rw [List.length_map,mapR_len]
        · rintro i ys H3 R hi ⟨rfl,rfl⟩ kR
          have hk:z + 1 + i < h:=by omega
          rw [show ((z:Int) + 1 + (i:Int))=((z + 1 + i:Nat):Int) by omega]
          refine ⟨StLe.set rfl,_,rfl,A.x,C,A.dx,_,_,rfl,W2.ob,T.cl,T.nb,lk_body A wd,_,rfl,A.bd,_,_,V.ref (r2 (z + 1 + i)),rfl,rfl,SqL.of W2.bo,at_nat (mrefR hk),?_⟩
          refine ⟨_,rfl,r2 (z + 1 + i),_,_,V.int (c (z + 1 + i) z),rfl,rfl,SqL.of (W2.ro _ hk),at_nat (mintR zw),kR _ _ ⟨rfl,?_⟩⟩
          rw [mapR_succ]
          simp
        · rintro ys H3 ⟨rfl,rfl⟩ l hl
          have s3:=same_upd (o:=.lst ((mapR ((h:Int) - ((z:Int) + 1)).toNat fun k=>c (z + 1 + k) z).map V.int)) hl
          have hl3:=upd_same (H:=H3) (a:=l) (o:=.lst ((mapR ((h:Int) - ((z:Int) + 1)).toNat fun k=>c (z + 1 + k) z).map V.int))
          have W3:=W2.same s3
          generalize upd H3 l (.lst ((mapR ((h:Int) - ((z:Int) + 1)).toNat fun k=>c (z + 1 + k) z).map V.int))=H4 at *
          have c1:(((mapR ((h:Int) - ((z:Int) + 1)).toNat fun k=>c (z + 1 + k) z).map V.int).any truB=true)↔¬ ∀ i,z < i→i < h→c i z=0:=by
            rw [any_ints]
            constructor
            · rintro ⟨x,hx,hn⟩ g
              obtain ⟨i,hi,rfl⟩:=mapR_mem hx
              exact hn (g _ (by omega) (by omega))
            · intro g
              refine Classical.byContradiction fun n=>g fun i h1 h2=>Classical.byContradiction fun h0=>n ⟨_,List.mem_of_getElem? (mapR_get (i:=i - (z + 1)) (by omega)),?_⟩
              rw [show z + 1 + (i - (z + 1))=i by omega]
              exact h0
          refine ⟨_,rfl,l,_,rfl,SqL.of hl3,fun y hy=>by obtain ⟨n,_,rfl⟩:=List.mem_map.mp hy; rfl,_,rfl,?_⟩
          refine ⟨_,rfl,ite2 (fun hc=>?_) (fun hc=>?_)⟩
          · have hc1:∀ i,z < i→i < h→c i z=0:=Classical.byContradiction fun n=>by rw [c1.mpr n] at hc; cases hc
            refine ⟨_,rfl,A.x,C,A.dx,_,_,rfl,W3.ob,T.cl,T.nb,lk_body A wd,_,rfl,A.bd,_,_,V.ref (r2 z),rfl,rfl,SqL.of W3.bo,at_nat (mrefR zh),?_⟩
            refine ⟨_,rfl,_,_,rfl,rfl,_,rfl,r2 z,_,rfl,SqL.of (W3.ro z zh),fun l5 hl5=>?_⟩
            have ec:cutV ((mapR wd (c z)).map V.int) (some ((z:Int) + 1)) none=((mapR wd (c z)).drop (z + 1)).map V.int:=by
              rw [show ((z:Int) + 1)=((z + 1:Nat):Int) by omega,cut_drop (by rw [List.length_map,mapR_len]; omega),List.map_drop]
            have c2:(((mapR wd (c z)).drop (z + 1)).map V.int).any truB=true↔¬ ∀ j,z < j→j < wd→c z j=0:=by
              rw [any_ints]
              constructor
              · rintro ⟨x,hx,hn⟩ g
                obtain ⟨j,h1,h2,rfl⟩:=drop_mem.mp hx
                exact hn (g j (by omega) h2)
              · intro g
                exact Classical.byContradiction fun n=>g fun j h1 h2=>Classical.byContradiction fun h0=>n ⟨_,drop_mem.mpr ⟨j,by omega,h2,rfl⟩,h0⟩
            refine ⟨l5,_,rfl,SqL.of upd_same,fun y hy=>?_,_,rfl,q _ _ r2 (W3.same (same_upd hl5)) ?_⟩
            · rw [ec] at hy
              obtain ⟨n,_,rfl⟩:=List.mem_map.mp hy
              rfl
            · rw [ec]
              constructor
              · intro g
                refine ⟨hc1,Classical.byContradiction fun n=>?_⟩
                rw [c2.mpr n] at g
                cases g
              · intro g
                cases e:(((mapR wd (c z)).drop (z + 1)).map V.int).any truB with
                | false=>rfl
                | true=>exact absurd g.2 (c2.mp e)
          · refine q _ _ r2 W3 ⟨fun e=>(by cases e),fun g=>?_⟩
            refine absurd ?_ hc
            cases e:((mapR ((h:Int) - ((z:Int) + 1)).toNat fun k=>c (z + 1 + k) z).map V.int).any truB with
            | false=>rfl
            | true=>exact absurd g.1 (c1.mp e)
end
end KF
namespace M4
theorem start_ok {h w:Nat} {a:Mt} (hh:h≤3) (hw:w≤3) (z:Zr h w a) (he:∀ i j,(a i j).natAbs≤300):Lp h w a 0 601 a:=by
  have mb:∀ i k j l,(mn a i k j l).natAbs≤180000:=fun i k j l=>by
    have h1:=mulb (he i j) (he k l)
    have h2:=mulb (he i l) (he k j)
    have h3:=abs_sub (a i j * a k l) (a i l * a k j)
    show (a i j * a k l - a i l * a k j).natAbs≤180000
    omega
  have db:(det a).natAbs≤162000000:=by
    have h1:=mulb (he 0 0) (mb 1 2 1 2)
    have h2:=mulb (he 0 1) (mb 1 2 0 2)
    have h3:=mulb (he 0 2) (mb 1 2 0 1)
    have h4:=abs_sub (a 0 0 * mn a 1 2 1 2) (a 0 1 * mn a 1 2 0 2)
    have h5:=abs_add (a 0 0 * mn a 1 2 1 2 - a 0 1 * mn a 1 2 0 2) (a 0 2 * mn a 1 2 0 1)
    show (a 0 0 * mn a 1 2 1 2 - a 0 1 * mn a 1 2 0 2 + a 0 2 * mn a 1 2 0 1).natAbs≤162000000
    omega
  refine ⟨hh,hw,Nat.zero_le _,Nat.zero_le _,db,z,Eqv.refl a,fun k hk=>absurd hk (Nat.not_lt_zero _),⟨fun _=>⟨Nat.le_refl _,⟨fun i j _ _=>?_,fun i k j l _ _ _ _=>?_⟩⟩,fun e=>absurd e (by decide),fun e=>absurd e (by decide)⟩,?_⟩
  · have:=he i j
    omega
  · have:=mb i k j l
    omega
  · by_cases zz:∀ i j,Blk 0 h w i j→a i j=0
    · exact .inl zz
    · obtain ⟨i,zz⟩:=Classical.not_forall.mp zz
      obtain ⟨j,zz⟩:=Classical.not_forall.mp zz
      obtain ⟨g,zz⟩:=Classical.not_imp.mp zz
      have:=he i j
      exact .inr (.inl ⟨i,j,g,zz,by omega⟩)
structure Done (h w:Nat) (a0:Mt) (k:Nat) (a:Mt):Prop where
  kh:k≤h
  kw:k≤w
  k3:k≤3
  eq:Eqv a0 a
  off:∀ i j,i≠j→a i j=0
  pos:∀ i,i < k→0 < a i i
  zer:∀ i,k≤i→a i i=0
  dv:∀ i j,i < j→j < 3→a i i ∣ a j j
theorem done_of {h w k m:Nat} {a0 a:Mt} (L:Lp h w a0 k m a) (z:∀ i j,Blk k h w i j→a i j=0):Done h w a0 k a:=by
  have hh:=L.hh
  have ah:=L.ah
  have zb:∀ i j,k≤i→k≤j→a i j=0:=fun i j hi hj=>by
    by_cases g:i < h∧j < w
    · exact z i j ⟨hi,g.1,hj,g.2⟩
    · exact L.zr i j (by omega)
  refine ⟨L.ah,L.aw,by omega,L.eq,fun i j hij=>?_,fun i hi=>(L.cl i hi).1,fun i hi=>zb i i hi hi,fun i j hij hj=>?_⟩
  · by_cases g:i < k
    · exact ((L.cl i g).2.1 j (Ne.symm hij)).1
    · by_cases g2:j < k
      · exact ((L.cl j g2).2.1 i hij).2
      · exact zb i j (by omega) (by omega)
  · by_cases g:i < k
    · exact (L.cl i g).2.2 j j hj hj hij hij
    · rw [zb j j (by omega) (by omega)]
      exact Int.dvd_zero _
end M4
namespace KF
open PySem L2 PyProof.Rows K01 KW
section
variable {P:Program} {w:World} {K:PySem.W.Frag} {mg:Str→Option Value} {base:Heap} {C CF:Addr}
def spSettle (C:Addr):Sp:=fun vs H Q _=>∃ (H0:Hp) (A:Ad) (h w:Nat) (a:M4.Mt) (r:Nat→Addr),vs=[.ref A.x]∧Wk C H0 H A h w a r∧M4.Zr h w a∧(∀ i j,(a i j).natAbs≤300) ∧
  ∀ (k:Nat) (a':M4.Mt) (H':Hp) (r':Nat→Addr),Wk C H0 H' A h w a' r'→M4.Done h w a k a'→Q (.int k) H'
theorem scSettle:FnScope ["work","at","barring"] ["work"] (defScope (top 11)):=⟨rfl,rfl,rfl,by decide +kernel,rfl,by decide +kernel,by decide +kernel⟩
def Lw (C:Addr) (H0:Hp) (A:Ad) (h w:Nat) (a:M4.Mt) (μ:Nat) (σ:L2.St) (H:Hp):Prop:=∃ (z m:Nat) (a':M4.Mt) (r':Nat→Addr) (v:Option V),σ=[some (.ref A.x),some (.int z),v]∧μ=(3 - z) * 17592186044416 + m∧m < 17592186044416∧M4.Lp h w a z m a'∧Wk C H0 H A h w a' r'
set_option maxHeartbeats 8000000 in
theorem ok_settle {f:Addr} {fd:FuncData} (F:FnAt K mg "settle" "settle" (top 11) .none f fd) (T:TxtF K mg C CF)
    {f_bring_least:Addr} {d_bring_least:FuncData} (A_bring_least:FnAt K mg "bring_least" "bring_least" (top 7) .none f_bring_least d_bring_least) (b_bring_least:L2.Binds K d_bring_least ["work","at"] []) (G_bring_least:FnOk P w K mg base CX0 3 f_bring_least d_bring_least ["work","at"] (spBring C)) {f_clear_cross:Addr} {d_clear_cross:FuncData} (A_clear_cross:FnAt K mg "clear_cross" "clear_cross" (top 9) .none f_clear_cross d_clear_cross) (b_clear_cross:L2.Binds K d_clear_cross ["work","at"] []) (G_clear_cross:FnOk P w K mg base CX0 3 f_clear_cross d_clear_cross ["work","at"] (spClear C)) {f_barring_line:Addr} {d_barring_line:FuncData} (A_barring_line:FnAt K mg "barring_line" "barring_line" (top 10) .none f_barring_line d_barring_line) (b_barring_line:L2.Binds K d_barring_line ["work","at"] []) (G_barring_line:FnOk P w K mg base CX0 1 f_barring_line d_barring_line ["work","at"] (spBar C)) {f_add_line:Addr} {d_add_line:FuncData} (m_add_line:Meth K C "add_line" f_add_line) (b_add_line:L2.Binds K d_add_line ["self","to","source","times"] []) (G_add_line:FnOk P w K mg base CX0 2 f_add_line d_add_line ["self","to","source","times"] (spAddLine C)):FnOk P w K mg base CX0 4 f fd ["work"] (spSettle C):=by
  have nd:=scSettle.nd
  refine F.ok scSettle (fun vs H Q E h=>?_) (fun cdv A0 outer s H vs Q E hr h=>?_)
  · obtain ⟨H0,A,h,w,a,r,rfl,_⟩:=h
    rfl
  · obtain ⟨H0,A,h,wd,a,r,rfl,W,zr,he,q⟩:=h
    refine ⟨_,(pss_cons (ps_set (i:=1) nd rfl (Or.inl rfl) pe_int)
      (pss_cons (ps_while PassesOwn.never (pt_truth (pe_call (G_bring_least.mono (by decide)) hr rfl A_bring_least.mg A_bring_least.kp b_bring_least .nil pass0 (pa_cons (pv 0) (pa_cons (pv 1) pa_nil))) (fun _=>rfl)) (pss_cons (ps_if (pt_not (pt_truth (pe_call (G_clear_cross.mono (by decide)) hr rfl A_clear_cross.mg A_clear_cross.kp b_clear_cross .nil pass0 (pa_cons (pv 0) (pa_cons (pv 1) pa_nil))) (fun _=>rfl))) (pss_one ps_continue) pss_nil)
      (pss_cons (ps_set (i:=2) nd rfl (Or.inl rfl) (pe_call (G_barring_line.mono (by decide)) hr rfl A_barring_line.mg A_barring_line.kp b_barring_line .nil pass0 (pa_cons (pv 0) (pa_cons (pv 1) pa_nil))))
      (pss_one (ps_if (pt_cmpR op_isN (pv 2) pe_non (nomark _)) (pss_one (ps_aug (i:=1) nd rfl (Or.inl rfl) pe_int ip_add)) (pss_one (ps_expr (pe_meth (pv 0) T.cl m_add_line (G_add_line.mono (by decide)) hr b_add_line .nil pass0 (pa_cons (pv 1) (pa_cons (pv 2) (pa_cons pe_int pa_nil)))))))))))
      (pss_one (ps_ret (pv 1))))),?_⟩
    refine ⟨Lw C H0 A h wd a,⟨_,0,601,a,r,none,rfl,rfl,by decide,M4.start_ok W.h3 W.w3 zr he,W⟩,?_⟩
    rintro μ σ H1 ⟨z,m,a1,r1,v,rfl,hμ,hm,L,W1⟩
    have z3:z≤3:=Nat.le_trans L.ah L.hh
    refine ⟨_,rfl,_,rfl,H0,A,h,wd,z,a1,r1,rfl,W1,z3,fun H2 W2 z0=>⟨false,rfl,iteF ⟨_,rfl,q z a1 H2 r1 W2 (M4.done_of L z0)⟩⟩,fun li co H2 r2 pl W2=>⟨true,rfl,iteT ⟨fun σ' H'=>∃ m',m' < μ∧Lw C H0 A h wd a m' σ' H',fun _ _ n=>n,?_⟩⟩⟩
    have B:=M4.brought_ok L pl
    generalize M4.brought a1 z li co=b at *
    clear W1 L
    have step:∀ {m':Nat} {a':M4.Mt} {r':Nat→Addr} {v:Option V} {H':Hp},m' < m→M4.Lp h wd a z m' a'→Wk C H0 H' A h wd a' r'→∃ m',m' < μ∧Lw C H0 A h wd a m' [some (.ref A.x),some (.int z),v] H':=fun hl L W=>⟨_,by rw [hμ]; exact Nat.add_lt_add_left hl _,z,_,_,_,_,rfl,rfl,Nat.lt_trans hl hm,L,W⟩
    refine ⟨_,rfl,_,rfl,H0,A,h,wd,z,b,r2,rfl,W2,B.ah,B.aw,B.hp,B.zr,B.bd.ent,fun bb H3 r3 W3 hb=>⟨bb,rfl,?_⟩⟩
    cases bb with
    | false =>
      refine iteT ?_
      obtain ⟨m',hl,L⟩:=M4.stepA B (fun c=>by cases hb.mpr c)
      exact step hl L W3
    | true =>
      refine iteF ?_
      have cr:=hb.mp rfl
      refine ⟨_,rfl,_,rfl,H0,A,h,wd,z,_,r3,rfl,W3,B.ah,B.aw,by rw [M4.T_at]; exact B.hp,fun H4 W4 dv=>?_,fun bl j H4 W4 h1 h2 hj nd=>?_⟩
      · refine ⟨_,rfl,rfl,_,rfl,iteT ?_⟩
        rw [M4.T_at] at dv
        obtain ⟨m',hl,L⟩:=M4.stepB B cr dv
        refine ⟨_,rfl,_,_,rfl,rfl,?_⟩
        refine ⟨(3 - (z + 1)) * 17592186044416 + m',?_,z + 1,m',_,r3,_,rfl,rfl,hl,L,W4⟩
        rw [hμ]
        have:z < 3:=Nat.lt_of_lt_of_le B.ah B.hh
        have e:3 - z=(3 - (z + 1)) + 1:=by omega
        rw [e,Nat.add_mul]
        omega
      · rw [M4.T_at] at nd
        obtain ⟨m',hl,L⟩:=M4.stepC B cr h1 h2 hj nd
        refine ⟨_,rfl,rfl,_,rfl,iteF ?_⟩
        refine ⟨_,rfl,A.x,A.dx,_,rfl,W4.ob,nl_al A wd,_,rfl,_,rfl,H0,A,h,wd,z,bl,1,_,r3,rfl,W4,B.ah,h2,by omega,by decide,fun H5 r5 W5=>?_⟩
        exact step hl L W5
end
end KF
namespace KF
open PySem L2 PyProof.Rows K01 KW
structure Pre (C:Addr) (H0 H:Hp) (x dx bd:Addr) (fs:List (Str × V)) (h w:Nat) (a:M4.Mt) (r:Nat→Addr) (ts:List (Addr × Nat)):Prop where
  sm:Same H0 H
  ob:H x=some (.ins C dx fs)
  bo:H bd=some (.lst ((mapR h r).map V.ref))
  ro:∀ i,i < h→H (r i)=some (.lst ((mapR w (a i)).map V.int))
  inj:∀ i j,i < h→j < h→r i=r j→i=j
  tb:∀ p∈ts,TabAt H p.1 p.2
  nd:(bd :: ts.map (·.1)).Nodup
  fx:H0 x=none
  fb:H0 bd=none
  ft:∀ p∈ts,H0 p.1=none
  fr:∀ i,i < h→H0 (r i)=none
section
variable {C:Addr} {H0 H H':Hp} {x dx bd:Addr} {fs:List (Str × V)} {h w:Nat} {a:M4.Mt} {r:Nat→Addr} {ts:List (Addr × Nat)}
theorem Pre.same (p:Pre C H0 H x dx bd fs h w a r ts) (s:Same H H'):Pre C H0 H' x dx bd fs h w a r ts :=
  ⟨p.sm.trans s,s _ _ p.ob,s _ _ p.bo,fun i hi=>s _ _ (p.ro i hi),p.inj,fun q hq=>(p.tb q hq).same s,p.nd,p.fx,p.fb,p.ft,p.fr⟩
theorem Pre.set (p:Pre C H0 H x dx bd fs h w a r ts) (fs':List (Str × V)):Pre C H0 (upd H x (.ins C dx fs')) x dx bd fs' h w a r ts:=by
  have nl:∀ c (xs:List V),H c=some (.lst xs)→upd H x (.ins C dx fs') c=some (.lst xs):=fun c xs e=>by
    rw [upd_ne (fun z=>by rw [z,p.ob] at e; cases e)]; exact e
  refine ⟨same_but p.sm But.upd p.fx,upd_same,nl _ _ p.bo,fun i hi=>nl _ _ (p.ro i hi),p.inj,fun q hq=>?_,p.nd,p.fx,p.fb,p.ft,p.fr⟩
  obtain ⟨rs,e1,e2,e3⟩:=p.tb q hq
  exact ⟨rs,e1,nl _ _ e2,fun c hc=>by obtain ⟨ns,g1,g2⟩:=e3 c hc; exact ⟨ns,g1,nl _ _ g2⟩⟩
theorem Pre.tab (p:Pre C H0 H x dx bd fs h w a r ts) {t n:Nat} (s:Same H H') (ft:H t=none) (T:TabAt H' t n):Pre C H0 H' x dx bd fs h w a r (ts ++ [(t,n)]):=by
  have q:=p.same s
  have ne:∀ c o,H c=some o→c≠t:=fun c o e z=>by rw [z,ft] at e; cases e
  refine ⟨q.sm,q.ob,q.bo,q.ro,q.inj,fun u hu=>?_,?_,q.fx,q.fb,fun u hu=>?_,q.fr⟩
  · rcases List.mem_append.mp hu with hu | hu
    · exact q.tb u hu
    · rw [List.mem_singleton.mp hu]; exact T
  · rw [List.map_append,← List.cons_append]
    refine List.nodup_append.mpr ⟨p.nd,by simp,fun c hc d hd=>?_⟩
    rw [show d=t by simpa using hd]
    rcases List.mem_cons.mp hc with rfl | hc
    · exact ne _ _ p.bo
    · obtain ⟨u,hu,rfl⟩:=List.mem_map.mp hc
      obtain ⟨rs,_,e2,_⟩:=p.tb u hu
      exact ne _ _ e2
  · rcases List.mem_append.mp hu with hu | hu
    · exact p.ft u hu
    · rw [List.mem_singleton.mp hu]; exact p.sm.free ft
end
section
variable {P:Program} {w:World} {K:PySem.W.Frag} {mg:Str→Option Value} {base:Heap} {C CF:Addr}
def spInitT (C:Addr):Sp:=fun vs H Q _=>∃ (H0:Hp) (x dx t:Addr) (h w:Nat) (a:M4.Mt) (tr:Nat→Addr),vs=[.ref x,.ref t,.int w]∧H x=some (.ins C dx [])∧Same H0 H∧H0 x=none∧H t=some (.lst ((mapR h tr).map V.ref))∧(∀ i,i < h→H (tr i)=some (.lst ((mapR w (a i)).map V.int)))∧1≤h∧h≤3∧1≤w∧w≤3 ∧
  ∀ (A:Ad) (r:Nat→Addr) (H':Hp),A.x=x→Wk C H0 H' A h w a r→Q .non H'
theorem scInitT:FnScope ["self","table","wide"] ["self","table","wide"] (defScope (inClass (top 5) 0)):=⟨rfl,rfl,rfl,by decide +kernel,rfl,by decide +kernel,by decide +kernel⟩
set_option maxHeartbeats 8000000 in
theorem ok_initT {f:Addr} {fd:FuncData} (F:MfAt K "__init__" "Turning.__init__" (inClass (top 5) 0) .none f fd) (T:TxtF K mg C CF)
    {f_slope_table:Addr} {d_slope_table:FuncData} (A_slope_table:FnAt K mg "slope_table" "slope_table" (top 1) .none f_slope_table d_slope_table) (b_slope_table:L2.Binds K d_slope_table ["wide"] []) (G_slope_table:FnOk P w K mg base CX0 1 f_slope_table d_slope_table ["wide"] (spSlope)):FnOk P w K mg base CX0 2 f fd ["self","table","wide"] (spInitT C):=by
  have nd:=scInitT.nd
  refine F.ok scInitT (fun vs H Q E h=>?_) (fun cdv A0 outer s H vs Q E hr h=>?_)
  · obtain ⟨H0,x,dx,t,h,w,a,tr,rfl,_⟩:=h
    rfl
  · obtain ⟨H0,x,dx,t,h,wd,a,tr,rfl,hx,sm,fx,ht,hrow,h1,h3,w1,w3,q⟩:=h
    refine ⟨_,(pss_cons (ps_fld (pv 0) (pe_comp (by rfl) (compOk (N:=["line"]) (ix:=[none])) (pi_list (pv 1)) (by intro _ _ _ _ _; exact PG.to (pg_name (i:=0) (show (["line"]:List Str).Nodup by decide +kernel) rfl (Or.inl rfl)) (by (try simp only [inX_K]); rfl)) (by intro _ _ _ _ _; exact PE.to (pe_callTy call_list_of (by rfl) T.n_list boot_list (pa_cons (pv 0) pa_nil)) (by (try simp only [inX_K]); rfl))) rfl)
      (pss_cons (ps_fld (pv 0) (pv 2) rfl)
      (pss_cons (ps_fld (pv 0) (pe_call (G_slope_table.mono (by decide)) hr rfl A_slope_table.mg A_slope_table.kp b_slope_table .nil pass0 (pa_cons (pe_callB call_len_seq (by rfl) T.n_len PySem.boot_len (pa_cons (pv 1) pa_nil)) pa_nil)) rfl)
      (pss_cons (ps_fld (pv 0) (pe_call (G_slope_table.mono (by decide)) hr rfl A_slope_table.mg A_slope_table.kp b_slope_table .nil pass0 (pa_cons (pe_callB call_len_seq (by rfl) T.n_len PySem.boot_len (pa_cons (pv 1) pa_nil)) pa_nil)) rfl)
      (pss_cons (ps_fld (pv 0) (pe_call (G_slope_table.mono (by decide)) hr rfl A_slope_table.mg A_slope_table.kp b_slope_table .nil pass0 (pa_cons (pv 2) pa_nil)) rfl)
      (pss_one (ps_fld (pv 0) (pe_call (G_slope_table.mono (by decide)) hr rfl A_slope_table.mg A_slope_table.kp b_slope_table .nil pass0 (pa_cons (pv 2) pa_nil)) rfl))))))),?_⟩
    have hlen:((mapR h tr).map V.ref).length=h:=by rw [List.length_map,mapR_len]
    refine ⟨_,rfl,t,rfl,⟨_,SqL.of ht⟩,?_⟩
    refine compL (K:=K) (a:=t) (xs:=(mapR h tr).map V.ref) (fun i ys H1=>Same H H1∧∃ r:Nat→Addr,ys=(mapR i r).map V.ref∧(∀ k,k < i→H (r k)=none∧H1 (r k)=some (.lst ((mapR wd (a k)).map V.int)))∧∀ k l,k < i→l < i→r k=r l→k=l) ⟨Same.refl _,fun _=>t,rfl,fun k hk=>absurd hk (Nat.not_lt_zero _),fun k l hk=>absurd hk (Nat.not_lt_zero _)⟩ ?_ (by rw [hlen]; exact small1000' (by omega)) ?_ ?_
    · rintro i ys H1 hi ⟨s1,r,rfl,_⟩
      exact ⟨SqL.of (s1 _ _ ht),by rw [List.length_map,mapR_len]⟩
    · rintro i v ys H1 R hv ⟨s1,r,rfl,hr1,hr2⟩ kR
      have hi:i < h:=by rw [← hlen]; exact (List.getElem?_eq_some_iff.mp hv).1
      rw [mrefR hi] at hv
      cases hv
      refine ⟨StLe.set rfl,_,rfl,tr i,_,rfl,.inl (SqL.of (s1 _ _ (hrow i hi))),fun l hl=>?_⟩
      have s2:=same_upd (o:=.lst ((mapR wd (a i)).map V.int)) hl
      refine kR _ _ ⟨s1.trans s2,fun k=>if k=i then l else r k,?_,fun k hk=>?_,fun k m hk hm e=>?_⟩
      · rw [mapR_succ,if_pos rfl,List.map_append]
        have:(mapR i fun k=>if k=i then l else r k)=mapR i r:=mapR_ext fun k hk=>if_neg (by omega)
        rw [this]
        rfl
      · dsimp only
        by_cases z:k=i
        · subst z
          rw [if_pos rfl]
          exact ⟨s1.free hl,upd_same⟩
        · rw [if_neg z]
          exact ⟨(hr1 k (by omega)).1,s2 _ _ (hr1 k (by omega)).2⟩
      · dsimp only at e
        by_cases z:k=i <;> by_cases y:m=i
        · rw [z,y]
        · rw [if_pos z,if_neg y] at e
          rw [e,(hr1 m (by omega)).2] at hl
          cases hl
        · rw [if_neg z,if_pos y] at e
          rw [← e,(hr1 k (by omega)).2] at hl
          cases hl
        · rw [if_neg z,if_neg y] at e
          exact hr2 k m (by omega) (by omega) e
    · rintro ys H1 ⟨s1,r,rfl,hr1,hr2⟩ bd hbd
      rw [hlen] at hr1 hr2 ⊢
      have s2:=same_upd (o:=.lst ((mapR h r).map V.ref)) hbd
      have p0:Pre C H0 (upd H1 bd (.lst ((mapR h r).map V.ref))) x dx bd [] h wd a r []:=⟨sm.trans (s1.trans s2),s2 _ _ (s1 _ _ hx),upd_same,fun i hi=>s2 _ _ (hr1 i hi).2,hr2,fun p hp=>absurd hp (by simp),by simp,fx,sm.free (s1.free hbd),fun p hp=>absurd hp (by simp),fun i hi=>sm.free (hr1 i hi).1⟩
      have ht2:=s2 _ _ (s1 _ _ ht)
      have ntx:∀ {H':Hp} {fs},H' x=some (.ins C dx fs)→H' t=some (.lst ((mapR h tr).map V.ref))→∀ fs',upd H' x (.ins C dx fs') t=some (.lst ((mapR h tr).map V.ref)):=fun e1 e2 fs'=>by rw [upd_ne (fun z=>by rw [z,e1] at e2; cases e2)]; exact e2
      generalize upd H1 bd (.lst ((mapR h r).map V.ref))=H2 at *
      refine ⟨_,rfl,x,C,dx,[],rfl,p0.ob,T.cl,T.nb,by decide,?_⟩
      have p1:=p0.set (putF "body" (.ref bd) [])
      have ht3:=ntx p0.ob ht2 (putF "body" (.ref bd) [])
      generalize upd H2 x (.ins C dx (putF "body" (.ref bd) []))=H3 at *
      refine ⟨_,rfl,_,rfl,x,C,dx,_,rfl,p1.ob,T.cl,T.nw,(show 1 < 1000 by decide),?_⟩
      have p2:=p1.set (putF "wide" (.int wd) (putF "body" (.ref bd) []))
      have ht4:=ntx p1.ob ht3 (putF "wide" (.int wd) (putF "body" (.ref bd) []))
      generalize upd H3 x (.ins C dx (putF "wide" (.int wd) (putF "body" (.ref bd) [])))=H4 at *
      refine ⟨_,rfl,t,_,rfl,.inl (SqL.of ht4),h,by rw [hlen]; rfl,by omega,fun L H5 s5 fL tL=>?_⟩
      have p3:=p2.tab s5 fL tL
      have ht5:=s5 _ _ ht4
      refine ⟨_,rfl,x,C,dx,_,rfl,p3.ob,T.cl,T.nl,(show 2 < 1000 by decide),?_⟩
      have p4:=p3.set (putF "left" (.ref L) (putF "wide" (.int wd) (putF "body" (.ref bd) [])))
      have ht6:=ntx p3.ob ht5 (putF "left" (.ref L) (putF "wide" (.int wd) (putF "body" (.ref bd) [])))
      generalize upd H5 x (.ins C dx (putF "left" (.ref L) (putF "wide" (.int wd) (putF "body" (.ref bd) []))))=H6 at *
      refine ⟨_,rfl,t,_,rfl,.inl (SqL.of ht6),h,by rw [hlen]; rfl,by omega,fun U H7 s7 fU tU=>?_⟩
      have p5:=p4.tab s7 fU tU
      refine ⟨_,rfl,x,C,dx,_,rfl,p5.ob,T.cl,T.nu,(show 3 < 1000 by decide),?_⟩
      have p6:=p5.set (putF "unleft_flipped" (.ref U) (putF "left" (.ref L) (putF "wide" (.int wd) (putF "body" (.ref bd) []))))
      generalize upd H7 x (.ins C dx (putF "unleft_flipped" (.ref U) (putF "left" (.ref L) (putF "wide" (.int wd) (putF "body" (.ref bd) [])))))=H8 at *
      refine ⟨_,rfl,wd,rfl,by omega,fun R H9 s9 fR tR=>?_⟩
      have p7:=p6.tab s9 fR tR
      refine ⟨_,rfl,x,C,dx,_,rfl,p7.ob,T.cl,T.nr,(show 4 < 1000 by decide),?_⟩
      have p8:=p7.set (putF "right_flipped" (.ref R) (putF "unleft_flipped" (.ref U) (putF "left" (.ref L) (putF "wide" (.int wd) (putF "body" (.ref bd) [])))))
      generalize upd H9 x (.ins C dx (putF "right_flipped" (.ref R) (putF "unleft_flipped" (.ref U) (putF "left" (.ref L) (putF "wide" (.int wd) (putF "body" (.ref bd) []))))))=HA at *
      refine ⟨_,rfl,wd,rfl,by omega,fun N HB sB fN tN=>?_⟩
      have p9:=p8.tab sB fN tN
      refine ⟨_,rfl,x,C,dx,_,rfl,p9.ob,T.cl,T.nv,(show 5 < 1000 by decide),?_⟩
      have pA:=p9.set (putF "unright" (.ref N) (putF "right_flipped" (.ref R) (putF "unleft_flipped" (.ref U) (putF "left" (.ref L) (putF "wide" (.int wd) (putF "body" (.ref bd) []))))))
      refine q ⟨x,dx,bd,L,U,R,N⟩ r _ rfl ⟨pA.sm,pA.ob,pA.bo,pA.ro,pA.inj,fun p hp=>pA.tb p hp,pA.nd,fun c hc=>?_,pA.fr,h1,w1,h3,w3⟩
      simp only [List.mem_cons,List.not_mem_nil,or_false] at hc
      rcases hc with e | e | e | e | e | e
      · rw [e]; exact pA.fx
      · rw [e]; exact pA.fb
      · rw [e]; exact pA.ft (L,h) (by simp)
      · rw [e]; exact pA.ft (U,h) (by simp)
      · rw [e]; exact pA.ft (R,wd) (by simp)
      · rw [e]; exact pA.ft (N,wd) (by simp)
end
end KF
namespace KF
open PySem L2 PyProof.Rows K01 KW
theorem TabAt.ins {H H':Hp} {t x C dx:Addr} {fs:List (Str × V)} {n:Nat} (T:TabAt H t n) (hx:H x=some (.ins C dx fs)) (b:But x H H'):TabAt H' t n:=by
  obtain ⟨rs,e1,e2,e3⟩:=T
  refine ⟨rs,e1,b _ _ e2 (fun z=>by rw [z,hx] at e2; cases e2),fun c hc=>?_⟩
  obtain ⟨ns,g1,g2⟩:=e3 c hc
  exact ⟨ns,g1,b _ _ g2 (fun z=>by rw [z,hx] at g2; cases g2)⟩
def formF (sl st lf ul rt ur:Addr):List (Str × V):=[("slope",.ref sl),("steps",.ref st),("left",.ref lf),("unleft",.ref ul),("right",.ref rt),("unright",.ref ur)]
theorem formF_steps (sl st lf ul rt ur:Addr):(formF sl st lf ul rt ur).lookup (Str.ofString "steps")=some (V.ref st):=rfl
section
variable {P:Program} {w:World} {K:PySem.W.Frag} {mg:Str→Option Value} {base:Heap} {C CF:Addr}
def spFlip:Sp:=fun vs H Q _=>∃ (t:Addr) (n:Nat),vs=[.ref t]∧TabAt H t n∧1≤n∧n≤3∧∀ l H',Same H H'→Q (.ref l) H'
def spInitF (CF:Addr):Sp:=fun vs H Q _=>∃ (x dx t:Addr) (h w:Nat) (a:M4.Mt) (tr:Nat→Addr),vs=[.ref x,.ref t,.int w]∧H x=some (.ins CF dx [])∧H t=some (.lst ((mapR h tr).map V.ref))∧(∀ i,i < h→H (tr i)=some (.lst ((mapR w (a i)).map V.int)))∧1≤h∧h≤3∧1≤w∧w≤3∧M4.Zr h w a∧(∀ i j,(a i j).natAbs≤300) ∧
  ∀ (k:Nat) (a':M4.Mt) (sl st lf ul rt ur:Addr) (H':Hp),M4.Done h w a k a'→H' x=some (.ins CF dx (formF sl st lf ul rt ur))→H' st=some (.lst ((mapR k fun i=>a' i i).map V.int))→But x H H'→Q .non H'
theorem scInitF:FnScope ["self","table","wide","work","many"] ["self","table","wide"] (defScope (inClass (top 12) 0)):=⟨rfl,rfl,rfl,by decide +kernel,rfl,by decide +kernel,by decide +kernel⟩
set_option maxHeartbeats 8000000 in
theorem ok_initF {f fT:Addr} {fd fdT:FuncData} (F:MfAt K "__init__" "Form.__init__" (inClass (top 12) 0) .none f fd) (T:TxtF K mg C CF)
    (M_Turning:Mk K C fT) (b_Turning___init__:L2.Binds K fdT ["self","table","wide"] []) (G_Turning___init__:FnOk P w K mg base CX0 2 fT fdT ["self","table","wide"] (spInitT C))
    {f_settle:Addr} {d_settle:FuncData} (A_settle:FnAt K mg "settle" "settle" (top 11) .none f_settle d_settle) (b_settle:L2.Binds K d_settle ["work"] []) (G_settle:FnOk P w K mg base CX0 4 f_settle d_settle ["work"] (spSettle C)) {f_flipped:Addr} {d_flipped:FuncData} (A_flipped:FnAt K mg "flipped" "flipped" (top 2) .none f_flipped d_flipped) (b_flipped:L2.Binds K d_flipped ["table"] []) (G_flipped:FnOk P w K mg base CX0 1 f_flipped d_flipped ["table"] (spFlip)):FnOk P w K mg base CX0 5 f fd ["self","table","wide"] (spInitF CF):=by
  have nd:=scInitF.nd
  refine F.ok scInitF (fun vs H Q E h=>?_) (fun cdv A0 outer s H vs Q E hr h=>?_)
  · obtain ⟨x,dx,t,h,w,a,tr,rfl,_⟩:=h
    rfl
  · obtain ⟨x,dx,t,h,wd,a,tr,rfl,hx,ht,hrow,h1,h3,w1,w3,zr,he,q⟩:=h
    refine ⟨_,(pss_cons (ps_set (i:=3) nd rfl (Or.inr rfl) (pe_make M_Turning (G_Turning___init__.mono (by decide)) hr rfl T.mg_Turning b_Turning___init__ .nil pass0 (pa_cons (pv 1) (pa_cons (pv 2) pa_nil))))
      (pss_cons (ps_set (i:=4) nd rfl (Or.inl rfl) (pe_call (G_settle.mono (by decide)) hr rfl A_settle.mg A_settle.kp b_settle .nil pass0 (pa_cons (pv 3) pa_nil)))
      (pss_cons (ps_fld (pv 0) (pe_callTy call_tuple_of (by rfl) T.n_tuple boot_tuple (pa_cons (pe_comp (by rfl) (compOk (N:=["at","work"]) (ix:=[none,some 3])) (pi_range1 (by rfl) T.n_range (pa_cons (pv 4) pa_nil)) (by intro _ _ _ _ _; exact PG.to (pg_name (i:=0) (show (["at","work"]:List Str).Nodup by decide +kernel) rfl (Or.inl rfl)) (by (try simp only [inX_K]); rfl)) (by intro _ _ _ _ _; exact PE.to (pe_ix ix_list (pe_ix ix_list (pe_fld (pv 1) rfl) (pv 0) (fun _ _=>rfl)) (pv 0) (fun _ _=>rfl)) (by (try simp only [inX_K]); rfl))) pa_nil)) rfl)
      (pss_cons (ps_fld (pv 0) (pe_callTy call_list_of (by rfl) T.n_list boot_list (pa_cons (pe_fld (pv 0) rfl) pa_nil)) rfl)
      (pss_cons (ps_fld (pv 0) (pe_fld (pv 3) rfl) rfl)
      (pss_cons (ps_fld (pv 0) (pe_call (G_flipped.mono (by decide)) hr rfl A_flipped.mg A_flipped.kp b_flipped .nil pass0 (pa_cons (pe_fld (pv 3) rfl) pa_nil)) rfl)
      (pss_cons (ps_fld (pv 0) (pe_call (G_flipped.mono (by decide)) hr rfl A_flipped.mg A_flipped.kp b_flipped .nil pass0 (pa_cons (pe_fld (pv 3) rfl) pa_nil)) rfl)
      (pss_one (ps_fld (pv 0) (pe_fld (pv 3) rfl) rfl))))))))),?_⟩
    refine ⟨_,rfl,_,rfl,fun y dy hy hdy ne=>?_⟩
    have s1:Same H (upd (upd H dy (.own y)) y (.ins C dy [])):=fun b o e=>by
      rw [upd_ne (ne_of_none e hy),upd_ne (ne_of_none e hdy)]; exact e
    refine ⟨H,y,dy,t,h,wd,a,tr,rfl,upd_same,s1,hy,s1 _ _ ht,fun i hi=>s1 _ _ (hrow i hi),h1,h3,w1,w3,fun A r H2 hA W=>⟨rfl,?_⟩⟩
    subst hA
    refine ⟨_,rfl,H,A,h,wd,a,r,rfl,W,zr,he,fun k a' H3 r3 W3 D=>?_⟩
    have k3:=D.k3
    have kh:=D.kh
    have kw:=D.kw
    refine ⟨_,rfl,k,rfl,by omega,by omega,?_⟩
    rw [Int.toNat_natCast]
    refine compR (lo:=0) (n:=k) (fun i ys H4=>H4=H3∧ys=(mapR i fun j=>a' j j).map V.int) ⟨rfl,rfl⟩ ?_ (small1000' (by omega)) ?_ ?_
    · rintro i ys H4 hi ⟨rfl,rfl⟩
      rw [List.length_map,mapR_len]
    · rintro i ys H4 R hi ⟨rfl,rfl⟩ kR
      refine ⟨StLe.set rfl,_,rfl,A.x,C,A.dx,_,_,rfl,W3.ob,T.cl,T.nb,lk_body A wd,_,rfl,A.bd,_,_,V.ref (r3 i),rfl,rfl,SqL.of W3.bo,at_nat0 (mrefR (by omega)),?_⟩
      refine ⟨_,rfl,r3 i,_,_,V.int (a' i i),rfl,rfl,SqL.of (W3.ro i (by omega)),at_nat0 (mintR (by omega)),kR _ _ ⟨rfl,?_⟩⟩
      rw [mapR_succ]
      simp
    · rintro ys H4 ⟨rfl,rfl⟩ l hl
      have s4:=same_upd (o:=.lst ((mapR k fun j=>a' j j).map V.int)) hl
      have W4:=W3.same s4
      refine ⟨l,_,rfl,.inl ⟨SqL.of upd_same,fun sl hsl=>?_⟩⟩
      have s5:=same_upd (o:=.tup ((mapR k fun j=>a' j j).map V.int)) hsl
      have W5:=W4.same s5
      have hsl5:=upd_same (H:=upd H4 l (.lst ((mapR k fun j=>a' j j).map V.int))) (a:=sl) (o:=.tup ((mapR k fun j=>a' j j).map V.int))
      generalize upd (upd H4 l (.lst ((mapR k fun j=>a' j j).map V.int))) sl (.tup ((mapR k fun j=>a' j j).map V.int))=H5 at *
      clear W4 W3 W s4 s5 s1
      have hx5:=W5.sm _ _ hx
      have nxA:A.x≠x:=fun z=>by have:=W5.f0 A.x (by simp); rw [z,hx] at this; cases this
      have b5:But x H H5:=W5.sm.but
      have tU:=W5.tb (A.U,h) (by simp [Ad.tabs])
      have tR:=W5.tb (A.R,wd) (by simp [Ad.tabs])
      have ob:=W5.ob
      clear W5
      refine ⟨_,rfl,x,CF,dx,[],rfl,hx5,T.clF,T.fs,by decide,?_⟩
      have hx6:=upd_same (H:=H5) (a:=x) (o:=.ins CF dx (putF "slope" (.ref sl) []))
      have b6:But x H5 (upd H5 x (.ins CF dx (putF "slope" (.ref sl) []))):=But.upd
      have hsl6:=b6 _ _ hsl5 (fun z=>by rw [z,hx5] at hsl5; cases hsl5)
      have ob6:=b6 _ _ ob nxA
      have tU6:=tU.ins hx5 b6
      have tR6:=tR.ins hx5 b6
      have bb:=b5.trans b6
      generalize upd H5 x (.ins CF dx (putF "slope" (.ref sl) []))=H6 at *
      refine ⟨_,rfl,x,CF,dx,_,V.ref sl,rfl,hx6,T.clF,T.fs,rfl,sl,_,rfl,.inr (SqT.of hsl6),fun st hst=>?_⟩
      have s7:=same_upd (o:=.lst ((mapR k fun j=>a' j j).map V.int)) hst
      have hst7:=upd_same (H:=H6) (a:=st) (o:=.lst ((mapR k fun j=>a' j j).map V.int))
      have hx7:=s7 _ _ hx6
      have ob7:=s7 _ _ ob6
      have tU7:=tU6.same s7
      have tR7:=tR6.same s7
      have bb:=bb.trans s7.but
      generalize upd H6 st (.lst ((mapR k fun j=>a' j j).map V.int))=H7 at *
      refine ⟨_,rfl,x,CF,dx,_,rfl,hx7,T.clF,T.ft,(show 1 < 1000 by decide),?_⟩
      have hx8:=upd_same (H:=H7) (a:=x) (o:=.ins CF dx (putF "steps" (.ref st) (putF "slope" (.ref sl) [])))
      have b8:But x H7 (upd H7 x (.ins CF dx (putF "steps" (.ref st) (putF "slope" (.ref sl) [])))):=But.upd
      have hst8:=b8 _ _ hst7 (fun z=>by rw [z,hx7] at hst7; cases hst7)
      have ob8:=b8 _ _ ob7 nxA
      have tU8:=tU7.ins hx7 b8
      have tR8:=tR7.ins hx7 b8
      have bb:=bb.trans b8
      generalize upd H7 x (.ins CF dx (putF "steps" (.ref st) (putF "slope" (.ref sl) [])))=H8 at *
      refine ⟨_,rfl,A.x,C,A.dx,_,V.ref A.L,rfl,ob8,T.cl,T.nl,lk_left A wd,_,rfl,x,CF,dx,_,rfl,hx8,T.clF,T.fl,(show 2 < 1000 by decide),?_⟩
      have hx9:=upd_same (H:=H8) (a:=x) (o:=.ins CF dx (putF "left" (.ref A.L) (putF "steps" (.ref st) (putF "slope" (.ref sl) []))))
      have b9:But x H8 (upd H8 x (.ins CF dx (putF "left" (.ref A.L) (putF "steps" (.ref st) (putF "slope" (.ref sl) []))))):=But.upd
      have hst9:=b9 _ _ hst8 (fun z=>by rw [z,hx8] at hst8; cases hst8)
      have ob9:=b9 _ _ ob8 nxA
      have tU9:=tU8.ins hx8 b9
      have tR9:=tR8.ins hx8 b9
      have bb:=bb.trans b9
      generalize upd H8 x (.ins CF dx (putF "left" (.ref A.L) (putF "steps" (.ref st) (putF "slope" (.ref sl) []))))=H9 at *
      refine ⟨_,rfl,A.x,C,A.dx,_,V.ref A.U,rfl,ob9,T.cl,T.nu,lk_unl A wd,A.U,h,rfl,tU9,h1,h3,fun ul HA sA=>?_⟩
      have hxA:=sA _ _ hx9
      have hstA:=sA _ _ hst9
      have obA:=sA _ _ ob9
      have tRA:=tR9.same sA
      have bb:=bb.trans sA.but
      refine ⟨_,rfl,x,CF,dx,_,rfl,hxA,T.clF,T.fu,(show 3 < 1000 by decide),?_⟩
      have hxB:=upd_same (H:=HA) (a:=x) (o:=.ins CF dx (putF "unleft" (.ref ul) (putF "left" (.ref A.L) (putF "steps" (.ref st) (putF "slope" (.ref sl) [])))))
      have bB:But x HA (upd HA x (.ins CF dx (putF "unleft" (.ref ul) (putF "left" (.ref A.L) (putF "steps" (.ref st) (putF "slope" (.ref sl) [])))))):=But.upd
      have hstB:=bB _ _ hstA (fun z=>by rw [z,hxA] at hstA; cases hstA)
      have obB:=bB _ _ obA nxA
      have tRB:=tRA.ins hxA bB
      have bb:=bb.trans bB
      generalize upd HA x (.ins CF dx (putF "unleft" (.ref ul) (putF "left" (.ref A.L) (putF "steps" (.ref st) (putF "slope" (.ref sl) [])))))=HB at *
      refine ⟨_,rfl,A.x,C,A.dx,_,V.ref A.R,rfl,obB,T.cl,T.nr,lk_right A wd,A.R,wd,rfl,tRB,w1,w3,fun rt HC sC=>?_⟩
      have hxC:=sC _ _ hxB
      have hstC:=sC _ _ hstB
      have obC:=sC _ _ obB
      have bb:=bb.trans sC.but
      refine ⟨_,rfl,x,CF,dx,_,rfl,hxC,T.clF,T.fr,(show 4 < 1000 by decide),?_⟩
      have hxD:=upd_same (H:=HC) (a:=x) (o:=.ins CF dx (putF "right" (.ref rt) (putF "unleft" (.ref ul) (putF "left" (.ref A.L) (putF "steps" (.ref st) (putF "slope" (.ref sl) []))))))
      have bD:But x HC (upd HC x (.ins CF dx (putF "right" (.ref rt) (putF "unleft" (.ref ul) (putF "left" (.ref A.L) (putF "steps" (.ref st) (putF "slope" (.ref sl) []))))))):=But.upd
      have hstD:=bD _ _ hstC (fun z=>by rw [z,hxC] at hstC; cases hstC)
      have obD:=bD _ _ obC nxA
      have bb:=bb.trans bD
      generalize upd HC x (.ins CF dx (putF "right" (.ref rt) (putF "unleft" (.ref ul) (putF "left" (.ref A.L) (putF "steps" (.ref st) (putF "slope" (.ref sl) []))))))=HD at *
      refine ⟨_,rfl,A.x,C,A.dx,_,V.ref A.N,rfl,obD,T.cl,T.nv,lk_unr A wd,_,rfl,x,CF,dx,_,rfl,hxD,T.clF,T.fv,(show 5 < 1000 by decide),?_⟩
      exact q k a' sl st A.L ul rt A.N _ D upd_same (But.upd (H:=HD) _ _ hstD (fun z=>by rw [z,hxD] at hstD; cases hstD)) (bb.trans But.upd)
end
end KF
namespace KF
open PySem L2 PyProof.Rows K01 KW
section
variable {P:Program} {w:World} {K:PySem.W.Frag} {mg:Str→Option Value} {base:Heap} {C CF:Addr}
def spFew:Sp:=fun vs H Q _=>∃ (B S:Addr) (m c:Nat),vs=[.ref B,.int m,.int c]∧Box H B S∧m≤100∧c≤10000∧∀ (ns:List Int) (l:Addr) (H':Hp),ns.length=m→(∀ n∈ns,n.natAbs≤c)→Box H' B S→But B H H'→H l=none→H' l=some (.lst (ns.map V.int))→l≠B→Q (.ref l) H'
theorem scFew:FnScope ["_law_box_here","_law_many","_law_most"] ["_law_box_here","_law_many","_law_most"] (defScope (top 18)):=⟨rfl,rfl,rfl,by decide +kernel,rfl,by decide +kernel,by decide +kernel⟩
set_option maxHeartbeats 4000000 in
theorem ok_few {f:Addr} {fd:FuncData} (F:FnAt K mg "_law_few" "_law_few" (top 18) .none f fd) (T:Txt mg) {f__law_take:Addr} {d__law_take:FuncData} (A__law_take:FnAt K mg "_law_take" "_law_take" (top 16) .none f__law_take d__law_take) (b__law_take:L2.Binds K d__law_take ["_law_box_here","_law_many"] []) (G__law_take:FnOk P w K mg base CX0 2 f__law_take d__law_take ["_law_box_here","_law_many"] (spTake)):FnOk P w K mg base CX0 3 f fd ["_law_box_here","_law_many","_law_most"] spFew:=by
  have nd:=scFew.nd
  refine F.ok scFew (fun vs H Q E h=>?_) (fun cdv A outer s H vs Q E hr h=>?_)
  · obtain ⟨B,S,m,c,rfl,_⟩:=h
    rfl
  · obtain ⟨B,S,m,c,rfl,bx,hm,hc,k⟩:=h
    refine ⟨_,(pss_one (ps_ret (pe_comp (by rfl) (compOk (N:=["_law_k","_law_box_here","_law_most"]) (ix:=[none,some 0,some 2])) (pi_range1 (by rfl) T.n_range (pa_cons (pv 1) pa_nil)) (by intro _ _ _ _ _; exact PG.to (pg_name (i:=0) (show (["_law_k","_law_box_here","_law_most"]:List Str).Nodup by decide +kernel) rfl (Or.inl rfl)) (by (try simp only [inX_K]); rfl)) (by intro _ _ _ _ _; exact PE.to (pe_op op_sub (pe_call (G__law_take.mono (by decide)) hr rfl A__law_take.mg A__law_take.kp b__law_take .nil pass0 (pa_cons (pv 1) (pa_cons (pe_op op_add (pe_op op_mulX pe_int (pv 2)) pe_int) pa_nil))) (pv 2)) (by (try simp only [inX_K]); rfl))))),?_⟩
    refine ⟨_,rfl,m,rfl,by omega,by omega,?_⟩
    rw [Int.toNat_natCast]
    refine compR (lo:=0) (n:=m) (fun i ys H1=>∃ ns:List Int,ys=ns.map V.int∧ns.length=i∧(∀ n∈ns,n.natAbs≤c)∧Box H1 B S∧But B H H1) ⟨[],rfl,rfl,fun _ h=>absurd h (by simp),bx,But.refl _ _⟩ ?_ (small1000' (by omega)) ?_ ?_
    · rintro i ys H1 hi ⟨ns,rfl,hl,_⟩
      rw [List.length_map,hl]
    · rintro i ys H1 R hi ⟨ns,rfl,hl,hn,bx1,b1⟩ kR
      refine ⟨StLe.set rfl,_,rfl,_,rfl,_,_,rfl,rfl,mulR (Nat.lt_of_le_of_lt (show (c:Int).natAbs≤10000 by omega) (by decide)),_,_,rfl,rfl,B,S,_,rfl,bx1,by omega,Nat.lt_of_le_of_lt (show (2 * (c:Int) + 1).natAbs≤20001 by omega) (by decide),fun r H2 r0 r1 bx2 b2=>⟨_,rfl,_,_,rfl,rfl,kR _ _ ⟨ns ++ [r - c],by simp,by simp [hl],fun z hz=>?_,bx2,b1.trans b2⟩⟩⟩
      rcases List.mem_append.mp hz with hz | hz
      · exact hn z hz
      · rw [List.mem_singleton.mp hz]
        omega
    · rintro ys H1 ⟨ns,rfl,hl,hn,bx1,b1⟩ l hl'
      exact k ns l _ hl hn (bx1.but (same_upd hl')) (b1.trans (same_upd hl').but) (b1.free hl' (bx1.at hl')) upd_same (bx1.at hl')
theorem iteDT2 {c A B:Prop} [Decidable c] (hc:c) (h:A):if decide c=true then A else B:=by rw [decide_eq_true hc]; exact iteT h
theorem iteDF2 {c A B:Prop} [Decidable c] (hc:¬ c) (h:B):if decide c=true then A else B:=by rw [decide_eq_false hc]; exact iteF h
structure Tb (H:Hp) (B t:Addr) (h w M:Nat) (rows:List (Addr × List Int)):Prop where
  tt:H t=some (.lst (rows.map fun p=>V.ref p.1))
  ln:rows.length=h
  nt:t≠B
  rw':∀ p∈rows,H p.1=some (.lst (p.2.map V.int))∧p.1≠B∧p.2.length=w∧∀ n∈p.2,n.natAbs≤M
theorem Tb.but {H H':Hp} {B t:Addr} {h w M:Nat} {rows:List (Addr × List Int)} (T:Tb H B t h w M rows) (b:But B H H'):Tb H' B t h w M rows :=
  ⟨b _ _ T.tt T.nt,T.ln,T.nt,fun p hp=>⟨b _ _ (T.rw' p hp).1 (T.rw' p hp).2.1,(T.rw' p hp).2⟩⟩
theorem Tb.same {H H':Hp} {B t:Addr} {h w M:Nat} {rows:List (Addr × List Int)} (T:Tb H B t h w M rows) (s:Same H H'):Tb H' B t h w M rows :=
  ⟨s _ _ T.tt,T.ln,T.nt,fun p hp=>⟨s _ _ (T.rw' p hp).1,(T.rw' p hp).2⟩⟩
theorem Tb.mono {H:Hp} {B t:Addr} {h w M N:Nat} {rows:List (Addr × List Int)} (T:Tb H B t h w M rows) (l:M≤N):Tb H B t h w N rows :=
  ⟨T.tt,T.ln,T.nt,fun p hp=>⟨(T.rw' p hp).1,(T.rw' p hp).2.1,(T.rw' p hp).2.2.1,fun n hn=>Nat.le_trans ((T.rw' p hp).2.2.2 n hn) l⟩⟩
theorem Tb.put {H:Hp} {B t l:Addr} {h w M i:Nat} {rows:List (Addr × List Int)} {ns:List Int} (T:Tb H B t h w M rows) (h1:1≤h) (hl:H l=some (.lst (ns.map V.int))) (nl:l≠B) (hn:ns.length=w) (hM:∀ n∈ns,n.natAbs≤M) :
    Tb (upd H t (.lst ((rows.map fun p=>V.ref p.1).set i (.ref l)))) B t h w M (rows.set i (l,ns)):=by
  have nr:∀ c (ks:List Int),H c=some (.lst (ks.map V.int))→c≠t:=fun c ks e z=>by
    rw [z,T.tt] at e
    have e:=lst_inj e
    have:(rows.map (·.1)).map V.ref=ks.map V.int:=by rw [List.map_map]; exact e
    exact ref_int this (by rw [List.length_map,T.ln]; exact h1)
  refine ⟨by rw [upd_same,List.map_set],by rw [List.length_set,T.ln],T.nt,fun p hp=>?_⟩
  rcases List.mem_or_eq_of_mem_set hp with hp | rfl
  · obtain ⟨e1,e2⟩:=T.rw' p hp
    exact ⟨by rw [upd_ne (nr _ _ e1)]; exact e1,e2⟩
  · exact ⟨by rw [upd_ne (nr _ _ hl)]; exact hl,nl,hn,hM⟩
def spTable:Sp:=fun vs H Q _=>∃ (B S:Addr) (h w:Nat),vs=[.ref B,.int h,.int w]∧Box H B S∧1≤h∧h≤3∧1≤w∧w≤3∧∀ (t:Addr) (rows:List (Addr × List Int)) (H':Hp),Box H' B S→But B H H'→Tb H' B t h w 300 rows→Q (.ref t) H'
theorem scTable:FnScope ["_law_box_here","_law_high","_law_wide","_law_way","_law_most","_law_table_here","_law_by","_law_at"] ["_law_box_here","_law_high","_law_wide"] (defScope (top 19)):=⟨rfl,rfl,rfl,by decide +kernel,rfl,by decide +kernel,by decide +kernel⟩
theorem rowAt {rows:List (Addr × List Int)} {i:Nat} (h:i < rows.length):(rows.map fun p=>V.ref p.1)[i]?=some (V.ref rows[i].1):=by rw [List.getElem?_map,List.getElem?_eq_getElem h]; rfl
set_option maxHeartbeats 8000000 in
theorem ok_table {f:Addr} {fd:FuncData} (F:FnAt K mg "_law_table" "_law_table" (top 19) .none f fd) (T:Txt mg) {f__law_take:Addr} {d__law_take:FuncData} (A__law_take:FnAt K mg "_law_take" "_law_take" (top 16) .none f__law_take d__law_take) (b__law_take:L2.Binds K d__law_take ["_law_box_here","_law_many"] []) (G__law_take:FnOk P w K mg base CX0 2 f__law_take d__law_take ["_law_box_here","_law_many"] (spTake)) {f__law_few:Addr} {d__law_few:FuncData} (A__law_few:FnAt K mg "_law_few" "_law_few" (top 18) .none f__law_few d__law_few) (b__law_few:L2.Binds K d__law_few ["_law_box_here","_law_many","_law_most"] []) (G__law_few:FnOk P w K mg base CX0 3 f__law_few d__law_few ["_law_box_here","_law_many","_law_most"] (spFew)):FnOk P w K mg base CX0 4 f fd ["_law_box_here","_law_high","_law_wide"] spTable:=by
  have nd:=scTable.nd
  refine F.ok scTable (fun vs H Q E h=>?_) (fun cdv A outer s H vs Q E hr h=>?_)
  · obtain ⟨B,S,h,w,rfl,_⟩:=h
    rfl
  · obtain ⟨B,S,h,wd,rfl,bx,h1,h3,w1,w3,q⟩:=h
    obtain ⟨t2,p2,q2⟩:∃ t2,PSs (cxOf CX0 P w K mg base ["_law_box_here","_law_high","_law_wide","_law_way","_law_most","_law_table_here","_law_by","_law_at"] "_law_table" (defScope (top 19)) f cdv A outer s H E).nox ((defBody (top 19)).drop 4) t2∧∀ (t:Addr) (rows:List (Addr × List Int)) (H4:Hp) (v1 v2:Option V),H t=none→Tb H4 B t h wd 50 rows→Box H4 B S→But B H H4→t2 { nx:=fun _ H'=>Q .non H',rt:=Q } [some (.ref B),some (.int h),some (.int wd),v1,v2,some (.ref t),none,none] H4:=by
      refine ⟨_,(pss_cons (ps_if (PW.pt (pw_and (pt_cmpR op_gt (pv 1) pe_int (nomark _)) (pw_and1 (pt_cmpR op_eq (pe_call (G__law_take.mono (by decide)) hr rfl A__law_take.mg A__law_take.kp b__law_take .nil pass0 (pa_cons (pv 0) (pa_cons pe_int pa_nil))) pe_int (nomark _))))) (pss_cons (ps_set (i:=6) nd rfl (Or.inr rfl) (pe_op op_add pe_int (pe_call (G__law_take.mono (by decide)) hr rfl A__law_take.mg A__law_take.kp b__law_take .nil pass0 (pa_cons (pv 0) (pa_cons pe_int pa_nil)))))
      (pss_cons (ps_set (i:=7) nd rfl (Or.inl rfl) (pe_call (G__law_take.mono (by decide)) hr rfl A__law_take.mg A__law_take.kp b__law_take .nil pass0 (pa_cons (pv 0) (pa_cons (pv 1) pa_nil))))
      (pss_one (ps_asg (pe_comp (by rfl) (compOk (N:=["_law_number","_law_by"]) (ix:=[none,some 6])) (pi_list (pe_ix ix_list (pv 5) (pv 7) (fun _ _=>rfl))) (by intro _ _ _ _ _; exact PG.to (pg_name (i:=0) (show (["_law_number","_law_by"]:List Str).Nodup by decide +kernel) rfl (Or.inl rfl)) (by (try simp only [inX_K]); rfl)) (by intro _ _ _ _ _; exact PE.to (pe_op op_mulX (pv 1) (pv 0)) (by (try simp only [inX_K]); rfl))) (pg_sub (pv 5) (pv 7) set_list))))) pss_nil)
      (pss_one (ps_ret (pv 5)))),fun t rows H4 v1 v2 tf T4 bx4 b4=>?_⟩
      refine ⟨_,rfl,_,_,rfl,rfl,_,rfl,iteDT2 (by omega) ?_⟩
      refine ⟨_,rfl,B,S,_,rfl,bx4,by decide,by decide,fun r H5 r0 r1 bx5 b5=>⟨rfl,_,rfl,ite2 (fun _=>?_) (fun _=>?_)⟩⟩
      · refine ⟨_,rfl,B,S,_,rfl,bx5,by decide,by decide,fun r2 H6 r20 r21 bx6 b6=>⟨_,_,rfl,rfl,?_⟩⟩
        refine ⟨_,rfl,_,rfl,B,S,_,rfl,bx6,by omega,Nat.lt_of_le_of_lt (show (h:Int).natAbs≤3 by omega) (by decide),fun r3 H7 r30 r31 bx7 b7=>?_⟩
        obtain ⟨j,rfl⟩:=Int.eq_ofNat_of_zero_le r30
        have T7:=((T4.but b5).but b6).but b7
        have hj:j < rows.length:=by rw [T7.ln]; omega
        have b8:=b4.trans (b5.trans (b6.trans b7))
        obtain ⟨e1,e2,e3,e4⟩:=T7.rw' rows[j] (List.getElem_mem hj)
        refine ⟨_,rfl,_,rfl,t,_,_,V.ref rows[j].1,rfl,rfl,SqL.of T7.tt,at_nat (rowAt hj),rows[j].1,rfl,⟨_,SqL.of e1⟩,?_⟩
        generalize rows[j].2=ns at *
        have ln:(ns.map V.int).length=ns.length:=List.length_map ..
        refine compL (K:=K) (a:=rows[j].1) (xs:=ns.map V.int) (fun i ys H8=>H8=H7∧ys=((ns.take i).map fun n=>(2 + r2) * n).map V.int) ⟨rfl,rfl⟩ ?_ (by rw [ln]; exact small1000' (by omega)) ?_ ?_
        · rintro i ys H8 hi ⟨rfl,rfl⟩
          rw [ln] at hi
          exact ⟨SqL.of e1,by simp; omega⟩
        · rintro i x ys H8 R hx ⟨rfl,rfl⟩ kR
          obtain ⟨n,hn,rfl⟩:=getI_map hx
          refine ⟨StLe.set rfl,_,rfl,_,rfl,_,_,rfl,rfl,mulL' (Nat.lt_of_le_of_lt (show (2 + r2).natAbs≤10 by omega) (by decide)),kR _ _ ⟨rfl,?_⟩⟩
          rw [take_succ' hn]
          simp
        · rintro ys H8 ⟨rfl,rfl⟩ l hl
          rw [ln,List.take_length]
          have s9:=same_upd (o:=.lst ((ns.map fun n=>(2 + r2) * n).map V.int)) hl
          have T9:=(T7.mono (show 50≤300 by decide)).same s9
          refine ⟨_,rfl,_,rfl,t,_,_,j,rfl,rfl,T9.tt,ixN_nat (by rw [List.length_map]; exact hj),?_⟩
          refine ⟨_,rfl,?_⟩
          have T10:=T9.put (i:=j) (by omega) (upd_same (o:=.lst ((ns.map fun n=>(2 + r2) * n).map V.int))) (bx7.at hl) (by rw [List.length_map]; exact e3) (fun n hn=>by
            obtain ⟨m,hm,rfl⟩:=List.mem_map.mp hn
            have:=e4 m hm
            rw [Int.natAbs_mul]
            exact Nat.mul_le_mul (show (2 + r2).natAbs≤6 by omega) this)
          have nt:=T7.nt
          exact q t _ _ ((bx7.but s9).keep (fun o e=>by rw [upd_ne nt.symm]; exact e) (fun o e=>by rw [upd_ne (bx.at2 tf).symm]; exact e)) (fun c o e n=>by rw [upd_ne (ne_of_none e tf)]; exact (b8.trans s9.but) c o e n) T10
      · refine ⟨_,rfl,q t rows _ bx5 (b4.trans b5) ((T4.but b5).mono (by decide))⟩
    refine ⟨_,(pss_cons (ps_set (i:=3) nd rfl (Or.inl rfl) (pe_call (G__law_take.mono (by decide)) hr rfl A__law_take.mg A__law_take.kp b__law_take .nil pass0 (pa_cons (pv 0) (pa_cons pe_int pa_nil))))
      (pss_cons (ps_set (i:=4) nd rfl (Or.inr rfl) (pe_ix ix_list (pe_lst (pa_cons pe_int (pa_cons pe_int (pa_cons pe_int (pa_cons pe_int pa_nil))))) (pv 3) (fun _ _=>rfl)))
      (pss_cons (ps_setComp (i:=5) nd rfl (Or.inl rfl) rfl (by rfl) (compOk (N:=["_law_k","_law_box_here","_law_wide","_law_most"]) (ix:=[none,some 0,some 2,some 4])) (pi_range1 (by rfl) T.n_range (pa_cons (pv 1) pa_nil)) (by intro _ _ _ _ _; exact PG.to (pg_name (i:=0) (show (["_law_k","_law_box_here","_law_wide","_law_most"]:List Str).Nodup by decide +kernel) rfl (Or.inl rfl)) (by (try simp only [inX_K]); rfl)) (by intro _ _ _ _ _; exact PE.to (pe_call (G__law_few.mono (by decide)) hr rfl A__law_few.mg A__law_few.kp b__law_few .nil pass0 (pa_cons (pv 1) (pa_cons (pv 2) (pa_cons (pv 3) pa_nil)))) (by (try simp only [inX_K]); rfl)))
      (pss_cons (ps_if (PW.pt (pw_and (pt_cmpR op_gt (pv 1) pe_int (nomark _)) (pw_and1 (pt_cmpR op_eq (pe_call (G__law_take.mono (by decide)) hr rfl A__law_take.mg A__law_take.kp b__law_take .nil pass0 (pa_cons (pv 0) (pa_cons pe_int pa_nil))) pe_int (nomark _))))) (pss_one (ps_asg (pe_callTy call_list_of (by rfl) T.n_list boot_list (pa_cons (pe_ix ix_list (pv 5) (pe_call (G__law_take.mono (by decide)) hr rfl A__law_take.mg A__law_take.kp b__law_take .nil pass0 (pa_cons (pv 0) (pa_cons (pv 1) pa_nil))) (fun _ _=>rfl)) pa_nil)) (pg_sub (pv 5) (pe_call (G__law_take.mono (by decide)) hr rfl A__law_take.mg A__law_take.kp b__law_take .nil pass0 (pa_cons (pv 0) (pa_cons (pv 1) pa_nil))) set_list))) pss_nil)
      p2)))),?_⟩
    refine ⟨_,rfl,B,S,_,rfl,bx,by decide,by decide,fun r H1 r0 r1 bx1 b1=>?_⟩
    refine ⟨(show 4≤sizeLine by decide),fun W hW=>?_⟩
    have s2:=same_upd (o:=.lst [V.int 1,V.int 3,V.int 9,V.int 50]) hW
    have hW2:=upd_same (H:=H1) (a:=W) (o:=.lst [V.int 1,V.int 3,V.int 9,V.int 50])
    have bx2:=bx1.but s2
    have b2:=b1.trans s2.but
    generalize upd H1 W (.lst [V.int 1,V.int 3,V.int 9,V.int 50])=H2 at *
    obtain ⟨c,hc,hat⟩:∃ c:Nat,c≤50∧atI [V.int 1,V.int 3,V.int 9,V.int 50] r=some (V.int c):=by
      obtain ⟨j,rfl⟩:=Int.eq_ofNat_of_zero_le r0
      match j,r1 with
      | 0,_=>exact ⟨1,by decide,atI_nat (j:=0) rfl⟩
      | 1,_=>exact ⟨3,by decide,atI_nat (j:=1) rfl⟩
      | 2,_=>exact ⟨9,by decide,atI_nat (j:=2) rfl⟩
      | 3,_=>exact ⟨50,by decide,atI_nat (j:=3) rfl⟩
      | j + 4,h=>omega
    refine ⟨_,rfl,W,_,_,V.int c,rfl,rfl,SqL.of hW2,hat,?_⟩
    refine ⟨_,rfl,h,rfl,by omega,by omega,?_⟩
    rw [Int.toNat_natCast]
    refine compR (lo:=0) (n:=h) (fun i ys H3=>∃ rows:List (Addr × List Int),ys=(rows.map fun p=>V.ref p.1)∧rows.length=i∧(∀ p∈rows,H3 p.1=some (.lst (p.2.map V.int))∧p.1≠B∧p.2.length=wd∧∀ n∈p.2,n.natAbs≤50)∧Box H3 B S∧But B H H3) ⟨[],rfl,rfl,fun _ h=>absurd h (by simp),bx2,b2⟩ ?_ (small1000' (by omega)) ?_ ?_
    · rintro i ys H3 hi ⟨rows,rfl,hl,_⟩
      rw [List.length_map,hl]
    · rintro i ys H3 R hi ⟨rows,rfl,hl,hr1,bx3,b3⟩ kR
      refine ⟨StLe.set rfl,_,rfl,_,rfl,_,rfl,B,S,wd,c,rfl,bx3,by omega,by omega,fun ns l H4 hn hm bx4 b4 fl hl4 nl=>kR _ _ ⟨rows ++ [(l,ns)],by simp,by simp [hl],fun p hp=>?_,bx4,b3.trans b4⟩⟩
      rcases List.mem_append.mp hp with hp | hp
      · obtain ⟨e1,e2⟩:=hr1 p hp
        exact ⟨b4 _ _ e1 e2.1,e2⟩
      · rw [List.mem_singleton.mp hp]
        exact ⟨hl4,nl,hn,fun n hn'=>Nat.le_trans (hm n hn') hc⟩
    · rintro ys H3 ⟨rows,rfl,hl,hr1,bx3,b3⟩ t ht
      have s4:=same_upd (o:=.lst (rows.map fun p=>V.ref p.1)) ht
      have T4:Tb (upd H3 t (.lst (rows.map fun p=>V.ref p.1))) B t h wd 50 rows:=⟨upd_same,hl,bx3.at ht,fun p hp=>⟨s4 _ _ (hr1 p hp).1,(hr1 p hp).2⟩⟩
      have bx4:=bx3.but s4
      have tf:H t=none:=b3.free ht (bx3.at ht)
      have b4:=b3.trans s4.but
      generalize upd H3 t (.lst (rows.map fun p=>V.ref p.1))=H4 at *
      clear hr1 s4 b3 bx3 hl
      refine ⟨_,rfl,_,_,rfl,rfl,_,rfl,ite2 (fun _=>?_) (fun _=>iteF (q2 t rows H4 _ _ tf T4 bx4 b4))⟩
      refine ⟨_,rfl,B,S,_,rfl,bx4,by decide,by decide,fun r H5 r0 r1 bx5 b5=>⟨rfl,_,rfl,ite2 (fun _=>?_) (fun _=>q2 t rows H5 _ _ tf (T4.but b5) bx5 (b4.trans b5))⟩⟩
      refine ⟨_,rfl,_,rfl,_,rfl,B,S,_,rfl,bx5,by omega,Nat.lt_of_le_of_lt (show (h:Int).natAbs≤3 by omega) (by decide),fun r3 H7 r30 r31 bx7 b7=>?_⟩
      obtain ⟨j,rfl⟩:=Int.eq_ofNat_of_zero_le r30
      have T7:=(T4.but b5).but b7
      have hj:j < rows.length:=by rw [T7.ln]; omega
      obtain ⟨e1,e2,e3,e4⟩:=T7.rw' rows[j] (List.getElem_mem hj)
      refine ⟨t,_,_,V.ref rows[j].1,rfl,rfl,SqL.of T7.tt,at_nat (rowAt hj),rows[j].1,_,rfl,.inl (SqL.of e1),fun l hl=>?_⟩
      have s8:=same_upd (o:=.lst (rows[j].2.map V.int)) hl
      have T8:=T7.same s8
      refine ⟨_,rfl,_,rfl,_,rfl,B,S,_,rfl,bx7.but s8,by omega,Nat.lt_of_le_of_lt (show (h:Int).natAbs≤3 by omega) (by decide),fun r4 H9 r40 r41 bx9 b9=>?_⟩
      obtain ⟨i,rfl⟩:=Int.eq_ofNat_of_zero_le r40
      have T9:=T8.but b9
      refine ⟨t,_,_,i,rfl,rfl,T9.tt,ixN_nat (by rw [List.length_map,T9.ln]; omega),?_⟩
      have T10:=T9.put (i:=i) (by omega) (b9 _ _ (upd_same (o:=.lst (rows[j].2.map V.int))) (bx7.at hl)) (bx7.at hl) e3 e4
      exact q2 t _ _ _ _ tf T10 (bx9.keep (fun o e=>by rw [upd_ne T9.nt.symm]; exact e) (fun o e=>by rw [upd_ne (bx.at2 tf).symm]; exact e)) (fun c o e n=>by rw [upd_ne (ne_of_none e tf)]; exact (b4.trans (b5.trans (b7.trans (s8.but.trans b9)))) c o e n)
end
end KF
namespace M4
structure EI (F N t f o:Nat):Prop where
  dv:∀ d:Nat,(d ∣ f∧d ∣ o)↔(d ∣ F∧d ∣ N)
  s0:t=0→o≤18446744073709551616
  s1:1≤t→o=0∨(o < f∧f * o * 2 ^ (t - 1)≤340282366920938463463374607431768211456)
theorem EI.start {F N:Nat} (h:N≤18446744073709551616):EI F N 0 F N:=⟨fun d=>Iff.rfl,fun _=>h,fun h=>absurd h (by decide)⟩
theorem EI.stay {F N t f:Nat} (h:EI F N t f 0):EI F N (t + 1) f 0:=⟨h.dv,fun e=>absurd e (by omega),fun _=>.inl rfl⟩
theorem EI.step {F N t f o:Nat} (h:EI F N t f o) (ho:o≠0):EI F N (t + 1) o (f % o):=by
  have hr:f % o < o:=Nat.mod_lt _ (by omega)
  refine ⟨fun d=>Iff.trans ⟨fun g=>⟨(Nat.dvd_mod_iff g.1).mp g.2,g.1⟩,fun g=>⟨g.2,(Nat.dvd_mod_iff g.2).mpr g.1⟩⟩ (h.dv d),fun e=>absurd e (by omega),fun _=>?_⟩
  by_cases z:f % o=0
  · exact .inl z
  · right
    refine ⟨hr,?_⟩
    by_cases t0:t=0
    · subst t0
      have h1:=h.s0 rfl
      show o * (f % o) * 1≤_
      rw [Nat.mul_one]
      exact Nat.le_trans (Nat.mul_le_mul h1 (Nat.le_trans (Nat.le_of_lt hr) h1)) (by decide)
    · rcases h.s1 (by omega) with e | ⟨h1,h2⟩
      · exact absurd e ho
      · have e:t + 1 - 1=(t - 1) + 1:=by omega
        rw [e,Nat.pow_succ]
        have h3:2 * (f % o)≤f:=by
          have:=Nat.mod_add_div f o
          have:1≤f / o:=(Nat.one_le_div_iff (by omega)).mpr (by omega)
          have:=Nat.mul_le_mul_left o this
          omega
        have h4:o * (f % o) * (2 ^ (t - 1) * 2)=o * (2 * (f % o)) * 2 ^ (t - 1):=by grind
        rw [h4]
        refine Nat.le_trans (Nat.mul_le_mul_right _ ?_) h2
        rw [Nat.mul_comm f o]
        exact Nat.mul_le_mul_left _ h3
theorem EI.last {F N f o:Nat} (h:EI F N 200 f o):o=0:=by
  rcases h.s1 (by decide) with e | ⟨h1,h2⟩
  · exact e
  · by_cases z:o=0
    · exact z
    · have:1 * 1≤f * o:=Nat.mul_le_mul (by omega) (by omega)
      have:=Nat.mul_le_mul_right (2 ^ (200 - 1)) this
      have e:(2:Nat) ^ (200 - 1)=803469022129495137770981046170581301261101496891396417650688:=by decide
      rw [e] at this h2
      omega
theorem EI.dvd {F N f:Nat} (h:EI F N 200 f 0) (d:Nat):d ∣ f↔d ∣ F∧d ∣ N:=⟨fun g=>(h.dv d).mp ⟨g,Nat.dvd_zero d⟩,fun g=>((h.dv d).mpr g).1⟩
def subs:Nat→List (List Nat)
  | 0=>[[]]
  | n + 1=>subs n ++ (subs n).map fun l=>l ++ [n]
def chs (n k:Nat):List (List Nat):=(subs n).filter fun l=>decide (l.length=k)
def sumR:Nat→(Nat→Int)→Int
  | 0,_=>0
  | n + 1,f=>sumR n f + f n
def sq (a:Mt):List Nat→List Nat→Int
  | [],_=>0
  | [l],cs=>a l (cs.getD 0 0)
  | l :: m :: ls,cs=>sumR (ls.length + 2) fun k=>(1 - 2 * ((k % 2:Nat):Int)) * a l (cs.getD k 0) * sq a (m :: ls) (cs.take k ++ cs.drop (k + 1))
def squares (a:Mt) (h w k:Nat):List Int:=(chs h k).flatMap fun l=>(chs w k).map fun c=>sq a l c
end M4
namespace L2
open PySem PySem.Spec PyProof.Rows
theorem compLI {K:PySem.W.Frag} {a:PySem.Addr} {xs:List V} {ix:List (Option Nat)} {g:TG} {tt:TT} {te:TE} {σ:L2.St} {H:Hp} {Q:VK} (Pv:Nat→List V→Hp→Prop) (h0:Pv 0 [] H) (hl:∀ i ys H,i≤xs.length→Pv i ys H→SqL K H a xs∧ys.length≤i) (hz:xs.length≤PySem.sizeLine)
    (hs:∀ i x ys H (R1:VK) (R2:Hp→Prop),xs[i]?=some x→Pv i ys H→(∀ y H3,Pv (i + 1) (ys ++ [y]) H3→R1 y H3)→(∀ H3,Pv (i + 1) ys H3→R2 H3)→g x (capS ix σ) H fun σ2 H2=>StLe (capS ix σ) σ2∧tt σ2 H2 fun b H3=>match b with
      | true=>te σ2 H3 R1
      | false=>R2 H3)
    (hd:∀ ys H,Pv xs.length ys H→∀ l,H l=none→Q (.ref l) (upd H l (.lst ys))) :
    CompBI (Itl K a) ix g tt te σ H Q:=by
  refine ⟨fun i m ys H=>m=xs.length - i∧i≤xs.length∧Pv i ys H,⟨xs.length,by simp,Nat.zero_le _,h0⟩,?_⟩
  rintro i m ys H ⟨rfl,hi,p⟩
  obtain ⟨q,ql⟩:=hl i ys H hi p
  by_cases hlt:i < xs.length
  · refine .inr ⟨⟨xs,xs[i],q,by simp [hlt]⟩,by omega,fun x H' y=>?_⟩
    obtain ⟨e,y⟩:=y
    subst e
    exact hs i x ys _ _ _ (y xs q) p (fun v H3 z2=>⟨xs.length - (i + 1),by omega,rfl,hlt,z2⟩) fun H3 z2=>⟨xs.length - (i + 1),by omega,rfl,hlt,z2⟩
  · have e:i=xs.length:=by omega
    subst e
    exact .inl ⟨⟨xs,q,Nat.le_refl _⟩,by omega,hd ys H p⟩
end L2
namespace KF
open PySem L2 PyProof.Rows K01 KW
section
variable {P:Program} {w:World} {K:PySem.W.Frag} {mg:Str→Option Value} {base:Heap} {C CF:Addr}
def spDiv (K:PySem.W.Frag):Sp:=fun vs H Q _=>∃ (l:Addr) (ns:List Int),vs=[.ref l]∧SqL K H l (ns.map V.int)∧ns.length≤1000∧(∀ n∈ns,n.natAbs≤18446744073709551616)∧∀ (g:Nat) (H':Hp),Same H H'→(∀ d:Nat,d ∣ g↔∀ n∈ns,d ∣ n.natAbs)→Q (.int g) H'
theorem scDiv:FnScope ["_law_numbers","_law_found","_law_number","_law_one","_law_turn","_law_rest_of"] ["_law_numbers"] (defScope (top 20)):=⟨rfl,rfl,rfl,by decide +kernel,rfl,by decide +kernel,by decide +kernel⟩
theorem fmodN (a b:Nat):((a:Int)).fmod (b:Int)=((a % b:Nat):Int):=by
  rw [Int.fmod_eq_emod_of_nonneg _ (by omega)]
  rfl
set_option maxHeartbeats 4000000 in
theorem ok_div {f:Addr} {fd:FuncData} (F:FnAt K mg "_law_divisor" "_law_divisor" (top 20) .none f fd) (T:TxtF K mg C CF):FnOk P w K mg base CX0 1 f fd ["_law_numbers"] (spDiv K):=by
  have nd:=scDiv.nd
  refine F.ok scDiv (fun vs H Q E h=>?_) (fun cdv A outer s H vs Q E hr h=>?_)
  · obtain ⟨l,ns,rfl,_⟩:=h
    rfl
  · obtain ⟨l,ns,rfl,hq,hz,hb,q⟩:=h
    refine ⟨_,(pss_cons (ps_set (i:=1) nd rfl (Or.inl rfl) pe_int)
      (pss_cons (ps_for PassesOwn.never rfl (pi_list (pv 0)) (pg_name (i:=2) nd rfl (Or.inl rfl)) (pss_cons (ps_set (i:=3) nd rfl (Or.inl rfl) (pe_callB call_abs (by rfl) T.n_abs boot_abs (pa_cons (pv 2) pa_nil)))
      (pss_one (ps_for PassesOwn.never rfl (pi_range1 (by rfl) T.n_range (pa_cons pe_int pa_nil)) (pg_name (i:=4) nd rfl (Or.inl rfl)) (pss_one (ps_if (pt_cmpR op_ne (pv 3) pe_int (nomark _)) (pss_cons (ps_set (i:=5) nd rfl (Or.inl rfl) (pe_op op_modN (pv 1) (pv 3)))
      (pss_cons (ps_set (i:=1) nd rfl (Or.inl rfl) (pv 3))
      (pss_one (ps_set (i:=3) nd rfl (Or.inl rfl) (pv 5))))) pss_nil))))))
      (pss_one (ps_ret (pv 1))))),?_⟩
    refine ⟨_,rfl,l,rfl,⟨_,hq⟩,?_⟩
    refine for_list (K:=K) (a:=l) (xs:=ns.map V.int) (fun i σ H1=>H1=H∧∃ (g:Nat) (v1 v2 v3 v4:Option V),σ=[some (.ref l),some (.int g),v1,v2,v3,v4]∧∀ d:Nat,d ∣ g↔∀ n∈ns.take i,d ∣ n.natAbs) ⟨rfl,0,none,none,none,none,rfl,fun d=>⟨fun _ n hn=>absurd hn (by simp),fun _=>Nat.dvd_zero d⟩⟩ ?_ ?_ ?_
    · rintro i σ H1 _ ⟨rfl,_⟩
      exact hq
    · rintro i x σ H1 hx ⟨rfl,g,v1,v2,v3,v4,rfl,hg⟩
      obtain ⟨n,hn,rfl⟩:=getI_map hx
      refine ⟨_,rfl,_,rfl,?_⟩
      rw [abs_nat]
      refine ⟨200,rfl,by decide,by decide,?_⟩
      refine for_range (lo:=0) (n:=200) (fun t σ H2=>H2=H1∧∃ (f o:Nat) (v3 v4:Option V),σ=[some (.ref l),some (.int f),some (.int n),some (.int o),v3,v4]∧M4.EI g n.natAbs t f o) ⟨rfl,g,n.natAbs,v3,v4,rfl,M4.EI.start (hb n (List.mem_of_getElem? hn))⟩ ?_ ?_
      · rintro t σ H2 ht ⟨rfl,f,o,v3,v4,rfl,I⟩
        refine ⟨_,rfl,rfl,_,rfl,?_⟩
        by_cases ho:o=0
        · subst ho
          refine iteNS rfl ?_
          exact ⟨rfl,f,0,_,_,rfl,I.stay⟩
        · show (if (!decide (V.int (o:Int)=V.int 0))=true then _ else _)
          rw [decide_eq_false (fun e=>ho (by have:=V.int.inj e; omega))]
          refine iteT ?_
          refine ⟨_,rfl,_,rfl,_,_,rfl,rfl,by omega,?_⟩
          dsimp only
          rw [fmodN]
          exact ⟨_,rfl,_,rfl,rfl,o,f % o,_,_,rfl,I.step ho⟩
      · rintro σ H2 ⟨rfl,f,o,v3,v4,rfl,I⟩
        have:=I.last
        subst this
        refine ⟨rfl,f,_,_,_,_,rfl,fun d=>?_⟩
        rw [I.dvd d,hg d,take_succ' hn]
        constructor
        · rintro ⟨h1,h2⟩ m hm
          rcases List.mem_append.mp hm with hm | hm
          · exact h1 m hm
          · rw [List.mem_singleton.mp hm]; exact h2
        · intro h
          exact ⟨fun m hm=>h m (List.mem_append_left _ hm),h n (by simp)⟩
    · rintro σ H1 ⟨rfl,g,v1,v2,v3,v4,rfl,hg⟩
      rw [List.length_map,List.take_length] at hg
      exact ⟨_,rfl,q g _ (Same.refl _) hg⟩
def LsAt (H:Hp) (ps:List (Addr × List Nat)):Prop:=∀ p∈ps,H p.1=some (.lst (p.2.map fun k:Nat=>V.int (k:Int)))
def refsP (ps:List (Addr × List Nat)):List V:=ps.map fun p=>V.ref p.1
def spChoices:Sp:=fun vs H Q _=>∃ n k:Nat,vs=[.int n,.int k]∧n≤3∧∀ (l:Addr) (ps:List (Addr × List Nat)) (H':Hp),Same H H'→H' l=some (.lst (refsP ps))→LsAt H' ps→ps.map (·.2)=M4.chs n k→Q (.ref l) H'
theorem scChoices:FnScope ["_law_many","_law_size","_law_found","_law_at"] ["_law_many","_law_size"] (defScope (top 22)):=⟨rfl,rfl,rfl,by decide +kernel,rfl,by decide +kernel,by decide +kernel⟩
theorem subs_len:∀ n,n≤3→(M4.subs n).length≤8∧∀ l∈M4.subs n,l.length≤3:=by decide
set_option maxHeartbeats 4000000 in
theorem ok_choices {f:Addr} {fd:FuncData} (F:FnAt K mg "_law_choices" "_law_choices" (top 22) .none f fd) (T:TxtF K mg C CF):FnOk P w K mg base CX0 1 f fd ["_law_many","_law_size"] spChoices:=by
  have nd:=scChoices.nd
  refine F.ok scChoices (fun vs H Q E h=>?_) (fun cdv A outer s H vs Q E hr h=>?_)
  · obtain ⟨n,k,rfl,_⟩:=h
    rfl
  · obtain ⟨n,k,rfl,hn,q⟩:=h
    refine ⟨_,(pss_cons (ps_set (i:=2) nd rfl (Or.inl rfl) (pe_lst (pa_cons (pe_lst pa_nil) pa_nil)))
      (pss_cons (ps_for PassesOwn.never rfl (pi_range1 (by rfl) T.n_range (pa_cons (pv 0) pa_nil)) (pg_name (i:=3) nd rfl (Or.inr rfl)) (pss_one (ps_set (i:=2) nd rfl (Or.inl rfl) (pe_op (op_cat) (pv 2) (pe_comp (by rfl) (compOk (N:=["_law_some","_law_at"]) (ix:=[none,some 3])) (pi_list (pv 2)) (by intro _ _ _ _ _; exact PG.to (pg_name (i:=0) (show (["_law_some","_law_at"]:List Str).Nodup by decide +kernel) rfl (Or.inl rfl)) (by (try simp only [inX_K]); rfl)) (by intro _ _ _ _ _; exact PE.to (pe_op (op_cat) (pv 0) (pe_lst (pa_cons (pv 1) pa_nil))) (by (try simp only [inX_K]); rfl)))))))
      (pss_one (ps_ret (pe_compI (by rfl) (compOk (N:=["_law_some","_law_size"]) (ix:=[none,some 1])) (pi_list (pv 2)) (by intro _ _ _ _ _; exact PG.to (pg_name (i:=0) (show (["_law_some","_law_size"]:List Str).Nodup by decide +kernel) rfl (Or.inl rfl)) (by (try simp only [inX_K]); rfl)) (by intro _ _ _ _ _; exact PT.to (pt_cmpR op_eq (pe_callB call_len_seq (by rfl) T.n_len PySem.boot_len (pa_cons (pv 0) pa_nil)) (pv 1) (nomark _)) (by (try simp only [inX_K]); rfl)) (by intro _ _ _ _ _; exact PE.to (pv 0) (by (try simp only [inX_K]); rfl))))))),?_⟩
    refine ⟨(show 0≤sizeLine by decide),fun e he=>⟨(show 1≤sizeLine by decide),fun l hl=>?_⟩⟩
    have s1:=same_upd (o:=.lst []) he
    have s2:=same_upd (o:=.lst [V.ref e]) hl
    refine ⟨_,rfl,n,rfl,by omega,by omega,?_⟩
    rw [Int.toNat_natCast]
    refine for_range (lo:=0) (n:=n) (fun i σ H1=>Same H H1∧∃ (fl:Addr) (ps:List (Addr × List Nat)) (v:Option V),σ=[some (.int n),some (.int k),some (.ref fl),v]∧H1 fl=some (.lst (refsP ps))∧LsAt H1 ps∧ps.map (·.2)=M4.subs i) ⟨s1.trans s2,l,[(e,[])],none,rfl,upd_same,fun p hp=>by rw [List.mem_singleton.mp hp]; exact s2 _ _ upd_same,rfl⟩ ?_ ?_
    · rintro i σ H1 hi ⟨s3,fl,ps,v,rfl,hf,hp,he⟩
      obtain ⟨n8,l3⟩:=subs_len i (by omega)
      have pl:ps.length≤8:=by have:=congrArg List.length he; rw [List.length_map] at this; omega
      have rl:(refsP ps).length=ps.length:=List.length_map ..
      refine ⟨_,rfl,_,rfl,fl,rfl,⟨_,SqL.of hf⟩,?_⟩
      refine compL (K:=K) (a:=fl) (xs:=refsP ps) (fun j ys H2=>Same H1 H2∧∃ qs:List (Addr × List Nat),ys=refsP qs∧LsAt H2 qs∧qs.map (·.2)=((M4.subs i).take j).map fun l=>l ++ [i]) ⟨Same.refl _,[],rfl,fun p hp=>absurd hp (by simp),rfl⟩ ?_ (by rw [rl]; exact small1000' (by omega)) ?_ ?_
      · rintro j ys H2 hj ⟨s4,qs,rfl,_,e⟩
        refine ⟨SqL.of (s4 _ _ hf),?_⟩
        have:=congrArg List.length e
        rw [List.length_map,List.length_map,List.length_take,← he,List.length_map] at this
        show (qs.map _).length=j
        rw [List.length_map,this]
        rw [rl] at hj
        omega
      · rintro j x ys H2 R hx ⟨s4,qs,rfl,hqs,e⟩ kR
        have hj:j < ps.length:=by rw [← rl]; exact (List.getElem?_eq_some_iff.mp hx).1
        have hx':x=V.ref ps[j].1:=by
          unfold refsP at hx
          rw [List.getElem?_map,List.getElem?_eq_getElem hj] at hx
          exact (Option.some.inj hx).symm
        subst hx'
        have pj:=s4 _ _ (hp ps[j] (List.getElem_mem hj))
        have sj:(M4.subs i)[j]?=some ps[j].2:=by rw [← he,List.getElem?_map,List.getElem?_eq_getElem hj]; rfl
        have l3':=l3 _ (List.mem_of_getElem? sj)
        refine ⟨StLe.set rfl,_,rfl,_,rfl,(show 1≤sizeLine by decide),fun c hc=>?_⟩
        have s5:=same_upd (o:=.lst [V.int (0 + (i:Int))]) hc
        refine ⟨ps[j].1,c,_,_,rfl,rfl,s5 _ _ pj,upd_same,small1000' (by rw [List.length_map]; simp; omega),fun d hd=>?_⟩
        have s6:=same_upd (o:=.lst ((ps[j].2.map fun k:Nat=>V.int (k:Int)) ++ [V.int (0 + (i:Int))])) hd
        refine kR _ _ ⟨s4.trans (s5.trans s6),qs ++ [(d,ps[j].2 ++ [i])],by simp [refsP],fun p hp'=>?_,?_⟩
        · rcases List.mem_append.mp hp' with hp' | hp'
          · exact (s5.trans s6) _ _ (hqs p hp')
          · rw [List.mem_singleton.mp hp']
            show upd _ d _ d=_
            rw [upd_same,List.map_append,Int.zero_add]
            rfl
        · rw [List.map_append,e,take_succ' sj,List.map_append]
          rfl
      · rintro ys H2 ⟨s4,qs,rfl,hqs,e⟩ c hc
        have s5:=same_upd (o:=.lst (refsP qs)) hc
        rw [rl,List.take_of_length_le (by rw [← he,List.length_map]; exact Nat.le_refl _)] at e
        have ql:qs.length≤8:=by have:=congrArg List.length e; rw [List.length_map,List.length_map] at this; omega
        refine ⟨fl,c,_,_,rfl,rfl,s5 _ _ (s4 _ _ hf),upd_same,small1000' (by rw [rl]; unfold refsP; rw [List.length_map]; omega),fun d hd=>?_⟩
        have s6:=same_upd (o:=.lst (refsP ps ++ refsP qs)) hd
        have s7:=s4.trans (s5.trans s6)
        refine ⟨s3.trans s7,d,ps ++ qs,_,rfl,by rw [upd_same]; simp [refsP],fun p hp'=>?_,by rw [List.map_append,he,e]; rfl⟩
        rcases List.mem_append.mp hp' with hp' | hp'
        · exact s7 _ _ (hp p hp')
        · exact (s5.trans s6) _ _ (hqs p hp')
    · rintro σ H1 ⟨s3,fl,ps,v,rfl,hf,hp,he⟩
      obtain ⟨n8,l3⟩:=subs_len n hn
      have pl:ps.length≤8:=by have:=congrArg List.length he; rw [List.length_map] at this; omega
      have rl:(refsP ps).length=ps.length:=List.length_map ..
      refine ⟨_,rfl,fl,rfl,⟨_,SqL.of hf⟩,?_⟩
      refine compLI (K:=K) (a:=fl) (xs:=refsP ps) (fun j ys H2=>H2=H1∧ys=refsP ((ps.take j).filter fun p=>decide (p.2.length=k))) ⟨rfl,rfl⟩ ?_ (by rw [rl]; exact small1000' (by omega)) ?_ ?_
      · rintro j ys H2 hj ⟨rfl,rfl⟩
        refine ⟨SqL.of hf,?_⟩
        show (List.map _ _).length≤j
        rw [List.length_map]
        exact Nat.le_trans (List.length_filter_le _ _) (by rw [List.length_take]; omega)
      · rintro j x ys H2 R1 R2 hx ⟨rfl,rfl⟩ kR1 kR2
        have hj:j < ps.length:=by rw [← rl]; exact (List.getElem?_eq_some_iff.mp hx).1
        have hx':x=V.ref ps[j].1:=by
          unfold refsP at hx
          rw [List.getElem?_map,List.getElem?_eq_getElem hj] at hx
          exact (Option.some.inj hx).symm
        subst hx'
        have pj:=hp ps[j] (List.getElem_mem hj)
        have tk:ps.take (j + 1)=ps.take j ++ [ps[j]]:=take_succ' (List.getElem?_eq_getElem hj)
        refine ⟨StLe.set rfl,_,rfl,ps[j].1,_,rfl,.inl (SqL.of pj),_,rfl,rfl,_,rfl,?_⟩
        rw [List.length_map]
        by_cases e:ps[j].2.length=k
        · rw [decide_eq_true (show V.int ((ps[j].2.length:Nat):Int)=V.int (k:Int) by rw [e])]
          refine ⟨_,rfl,kR1 _ _ ⟨rfl,?_⟩⟩
          rw [tk,List.filter_append,show [ps[j]].filter (fun p=>decide (p.2.length=k))=[ps[j]] by simp [e]]
          unfold refsP
          rw [List.map_append]
          rfl
        · rw [decide_eq_false (show ¬ V.int ((ps[j].2.length:Nat):Int)=V.int (k:Int) from fun z=>e (by have:=V.int.inj z; omega))]
          refine kR2 _ ⟨rfl,?_⟩
          rw [tk,List.filter_append,show [ps[j]].filter (fun p=>decide (p.2.length=k))=[] by simp [e],List.append_nil]
      · rintro ys H2 ⟨rfl,rfl⟩ c hc
        rw [rl,List.take_length]
        have s5:=same_upd (o:=.lst (refsP (ps.filter fun p=>decide (p.2.length=k)))) hc
        refine q c _ _ (s3.trans s5) upd_same (fun p hp'=>s5 _ _ (hp p (List.mem_filter.mp hp').1)) ?_
        unfold M4.chs
        rw [← he,List.filter_map]
        rfl
end
end KF
namespace M4
theorem chs1:∀ n,n≤3→(∀ l∈chs n 1,∃ i,i < n∧l=[i])∧∀ i,i < n→[i]∈chs n 1:=by decide
theorem chs2v:chs 0 2=[]∧chs 1 2=[]∧chs 2 2=[[0,1]]∧chs 3 2=[[0,1],[0,2],[1,2]]:=by decide
theorem chs2 (n:Nat) (hn:n≤3):(∀ l∈chs n 2,∃ i,i < n∧∃ k,k < n∧i < k∧l=[i,k])∧∀ i,i < n→∀ k,k < n→i < k→[i,k]∈chs n 2:=by
  obtain ⟨v0,v1,v2,v3⟩:=chs2v
  have hn:n=0∨n=1∨n=2∨n=3:=by omega
  rcases hn with rfl | rfl | rfl | rfl
  · rw [v0]; exact ⟨fun l hl=>absurd hl (by simp),fun i hi=>absurd hi (Nat.not_lt_zero _)⟩
  · rw [v1]; exact ⟨fun l hl=>absurd hl (by simp),fun i hi k hk=>by omega⟩
  · rw [v2]
    refine ⟨fun l hl=>?_,fun i hi k hk hik=>?_⟩
    · rw [List.mem_singleton.mp hl]; exact ⟨0,by decide,1,by decide,by decide,rfl⟩
    · rw [show i=0 by omega,show k=1 by omega]; simp
  · rw [v3]
    refine ⟨fun l hl=>?_,fun i hi k hk hik=>?_⟩
    · simp only [List.mem_cons,List.not_mem_nil,or_false] at hl
      rcases hl with rfl | rfl | rfl
      · exact ⟨0,by decide,1,by decide,by decide,rfl⟩
      · exact ⟨0,by decide,2,by decide,by decide,rfl⟩
      · exact ⟨1,by decide,2,by decide,by decide,rfl⟩
    · have:(i=0∧k=1)∨(i=0∧k=2)∨(i=1∧k=2):=by omega
      rcases this with ⟨rfl,rfl⟩ | ⟨rfl,rfl⟩ | ⟨rfl,rfl⟩ <;> simp
theorem chs3:∀ n,n≤3→(∀ l∈chs n 3,n=3∧l=[0,1,2])∧(n=3→[0,1,2]∈chs n 3):=by decide
theorem sq2 (a:Mt) (i k j l:Nat):sq a [i,k] [j,l]=mn a i k j l:=by
  show (0 + (1 - 2 * ((0 % 2:Nat):Int)) * a i j * a k l) + (1 - 2 * ((1 % 2:Nat):Int)) * a i l * a k j=_
  unfold mn
  simp
  grind
theorem sq3 (a:Mt):sq a [0,1,2] [0,1,2]=det a:=by
  show ((0 + (1 - 2 * ((0 % 2:Nat):Int)) * a 0 0 * sq a [1,2] [1,2]) + (1 - 2 * ((1 % 2:Nat):Int)) * a 0 1 * sq a [1,2] [0,2]) + (1 - 2 * ((2 % 2:Nat):Int)) * a 0 2 * sq a [1,2] [0,1]=_
  rw [sq2,sq2,sq2]
  unfold det
  simp
  grind
def IsG (a:Mt) (h w k g:Nat):Prop:=∀ d:Nat,d ∣ g↔∀ n∈squares a h w k,d ∣ n.natAbs
theorem mem_sq {a:Mt} {h w k:Nat} {n:Int}:n∈squares a h w k↔∃ l∈chs h k,∃ c∈chs w k,n=sq a l c:=by
  unfold squares
  rw [List.mem_flatMap]
  constructor
  · rintro ⟨l,hl,hn⟩
    obtain ⟨c,hc,e⟩:=List.mem_map.mp hn
    exact ⟨l,hl,c,hc,e.symm⟩
  · rintro ⟨l,hl,c,hc,e⟩
    exact ⟨l,hl,List.mem_map.mpr ⟨c,hc,e.symm⟩⟩
theorem nat_dvd {d:Nat} {x:Int}:d ∣ x.natAbs↔(d:Int) ∣ x:=by
  rw [← Int.natAbs_dvd_natAbs,Int.natAbs_natCast]
theorem G1 {a:Mt} {h w g:Nat} (hh:h≤3) (hw:w≤3) (z:Zr h w a) (G:IsG a h w 1 g) (d:Nat):d ∣ g↔D1 d a:=by
  rw [G d]
  constructor
  · intro H i j _ _
    by_cases b:i < h∧j < w
    · exact nat_dvd.mp (H _ (mem_sq.mpr ⟨_,(chs1 h hh).2 i b.1,_,(chs1 w hw).2 j b.2,rfl⟩))
    · rw [z i j (by omega)]; exact Int.dvd_zero _
  · intro H n hn
    obtain ⟨l,hl,c,hc,rfl⟩:=mem_sq.mp hn
    obtain ⟨i,hi,rfl⟩:=(chs1 h hh).1 l hl
    obtain ⟨j,hj,rfl⟩:=(chs1 w hw).1 c hc
    exact nat_dvd.mpr (H i j (by omega) (by omega))
theorem mn_zero {a:Mt} {h w i k j l:Nat} (z:Zr h w a) (b:h≤i∨h≤k∨w≤j∨w≤l):mn a i k j l=0:=by
  unfold mn
  rcases b with b | b | b | b
  · rw [z i j (.inl b),z i l (.inl b)]; grind
  · rw [z k l (.inl b),z k j (.inl b)]; grind
  · rw [z i j (.inr b),z k j (.inr b)]; grind
  · rw [z k l (.inr b),z i l (.inr b)]; grind
theorem G2 {a:Mt} {h w g:Nat} (hh:h≤3) (hw:w≤3) (z:Zr h w a) (G:IsG a h w 2 g) (d:Nat):d ∣ g↔D2 d a:=by
  rw [G d]
  constructor
  · intro H
    have ord:∀ i k j l,i < k→k < 3→j < l→l < 3→(d:Int) ∣ mn a i k j l:=fun i k j l hik hk hjl hl=>by
      by_cases b:k < h∧l < w
      · rw [← sq2]
        exact nat_dvd.mp (H _ (mem_sq.mpr ⟨_,(chs2 h hh).2 i (by omega) k b.1 hik,_,(chs2 w hw).2 j (by omega) l b.2 hjl,rfl⟩))
      · rw [mn_zero z (by omega)]; exact Int.dvd_zero _
    have step:∀ i k j l,i < k→k < 3→j < 3→l < 3→(d:Int) ∣ mn a i k j l:=fun i k j l hik hk hj hl=>by
      rcases Nat.lt_trichotomy j l with e | e | e
      · exact ord _ _ _ _ hik hk e hl
      · rw [e,mn_same2]; exact Int.dvd_zero _
      · exact (dvd_abs (mn_anti2 a i k l j)).mpr (ord _ _ _ _ hik hk e hj)
    intro i k j l hi hk hj hl
    rcases Nat.lt_trichotomy i k with e | e | e
    · exact step _ _ _ _ e hk hj hl
    · rw [e,mn_same]; exact Int.dvd_zero _
    · exact (dvd_abs (mn_anti1 a k i j l)).mpr (step _ _ _ _ e hi hj hl)
  · intro H n hn
    obtain ⟨l,hl,c,hc,rfl⟩:=mem_sq.mp hn
    obtain ⟨i,hi,k,hk,_,rfl⟩:=(chs2 h hh).1 l hl
    obtain ⟨j,hj,m,hm,_,rfl⟩:=(chs2 w hw).1 c hc
    rw [sq2]
    exact nat_dvd.mpr (H i k j m (by omega) (by omega) (by omega) (by omega))
theorem G3 {a:Mt} {g:Nat} (G:IsG a 3 3 3 g) (d:Nat):d ∣ g↔(d:Int) ∣ det a:=by
  rw [G d]
  constructor
  · intro H
    rw [← sq3]
    exact nat_dvd.mp (H _ (mem_sq.mpr ⟨_,(chs3 3 (by decide)).2 rfl,_,(chs3 3 (by decide)).2 rfl,rfl⟩))
  · intro H n hn
    obtain ⟨l,hl,c,hc,rfl⟩:=mem_sq.mp hn
    obtain ⟨_,rfl⟩:=(chs3 3 (by decide)).1 l hl
    obtain ⟨_,rfl⟩:=(chs3 3 (by decide)).1 c hc
    rw [sq3]
    exact nat_dvd.mpr H
theorem dvd_unique {g m:Nat} (h:∀ d:Nat,d ∣ g↔d ∣ m):g=m:=Nat.dvd_antisymm ((h g).mp (Nat.dvd_refl g)) ((h m).mpr (Nat.dvd_refl m))
section
variable {h w k:Nat} {a0 a:Mt}
theorem done1 (D:Done h w a0 k a) (d:Int):D1 d a0↔d ∣ a 0 0:=by
  rw [D.eq.e1 d]
  constructor
  · intro H; exact H 0 0 (by decide) (by decide)
  · intro H i j hi hj
    by_cases e:i=j
    · subst e
      by_cases e0:i=0
      · rw [e0]; exact H
      · exact Int.dvd_trans H (D.dv 0 i (by omega) hi)
    · rw [D.off i j e]; exact Int.dvd_zero _
theorem pp (D:Done h w a0 k a) {i m:Nat} (hi:i < 3) (hm:m < 3) (ne:i≠m):a 0 0 * a 1 1 ∣ a i i * a m m:=by
  have d01:=D.dv 0 1 (by decide) (by decide)
  have d12:=D.dv 1 2 (by decide) (by decide)
  have key:∀ i m,i < m→m < 3→a 0 0 * a 1 1 ∣ a i i * a m m:=fun i m him hm=>by
    have:(i=0∧m=1)∨(i=0∧m=2)∨(i=1∧m=2):=by omega
    rcases this with ⟨rfl,rfl⟩ | ⟨rfl,rfl⟩ | ⟨rfl,rfl⟩
    · exact Int.dvd_refl _
    · exact Int.mul_dvd_mul (Int.dvd_refl _) d12
    · exact Int.mul_dvd_mul d01 d12
  rcases Nat.lt_or_gt_of_ne ne with e | e
  · exact key i m e hm
  · rw [Int.mul_comm (a i i)]; exact key m i e hi
theorem done2 (D:Done h w a0 k a) (d:Int):D2 d a0↔d ∣ a 0 0 * a 1 1:=by
  rw [D.eq.e2 d]
  constructor
  · intro H
    have:=H 0 1 0 1 (by decide) (by decide) (by decide) (by decide)
    unfold mn at this
    rw [D.off 0 1 (by decide)] at this
    have e:a 0 0 * a 1 1 - 0 * a 1 0=a 0 0 * a 1 1:=by grind
    rwa [e] at this
  · intro H i m j l hi hm hj hl
    by_cases e:i=m
    · rw [e,mn_same]; exact Int.dvd_zero _
    · have q:=Int.dvd_trans H (pp D hi hm e)
      have t:∀ j l,d ∣ a i j * a m l:=fun j l=>by
        by_cases e1:i=j
        · by_cases e2:m=l
          · rw [← e1,← e2]; exact q
          · rw [D.off m l e2,Int.mul_zero]; exact Int.dvd_zero _
        · rw [D.off i j e1,Int.zero_mul]; exact Int.dvd_zero _
      exact Int.dvd_sub (t j l) (t l j)
theorem done3 (D:Done h w a0 k a):(det a0).natAbs=(a 0 0 * a 1 1 * a 2 2).natAbs:=by
  rw [D.eq.e3]
  unfold det mn
  rw [D.off 0 1 (by decide),D.off 0 2 (by decide),D.off 1 2 (by decide)]
  congr 1
  grind
def dueStep (p:Int × List Int) (g:Nat):Int × List Int:=if 0 < g then ((g:Int),p.2 ++ [(g:Int).fdiv p.1]) else p
def dueS (gs:List Nat):Int × List Int:=gs.foldl dueStep (1,[])
theorem fdiv_one (x:Int):x.fdiv 1=x:=by rw [Int.fdiv_eq_ediv_of_nonneg _ (by decide),Int.ediv_one]
theorem fdiv_cancel {x y:Int} (hx:0 < x):(x * y).fdiv x=y:=by rw [Int.fdiv_eq_ediv_of_nonneg _ (by omega)]; exact Int.mul_ediv_cancel_left y (by omega)
theorem g1_eq (D:Done h w a0 k a) {g:Nat} (hh:h≤3) (hw:w≤3) (z:Zr h w a0) (G:IsG a0 h w 1 g):g=(a 0 0).natAbs:=dvd_unique fun d=>by rw [G1 hh hw z G d,done1 D,nat_dvd]
theorem g2_eq (D:Done h w a0 k a) {g:Nat} (hh:h≤3) (hw:w≤3) (z:Zr h w a0) (G:IsG a0 h w 2 g):g=(a 0 0 * a 1 1).natAbs:=dvd_unique fun d=>by rw [G2 hh hw z G d,done2 D,nat_dvd]
theorem g3_eq (D:Done 3 3 a0 k a) {g:Nat} (G:IsG a0 3 3 3 g):g=(a 0 0 * a 1 1 * a 2 2).natAbs:=dvd_unique fun d=>by rw [G3 G d,← nat_dvd,done3 D]
theorem abs_pos {x:Int} (h:0 < x):((x.natAbs:Nat):Int)=x:=by omega
theorem due1 {x:Int} (h:0 < x):dueStep (1,[]) x.natAbs=(x,[x]):=by
  unfold dueStep
  rw [if_pos (by omega),abs_pos h,fdiv_one]
  rfl
theorem due0 (p:Int × List Int):dueStep p 0=p:=if_neg (by decide)
theorem dueN {x y:Int} {l:List Int} (hx:0 < x) (hy:0 < y):dueStep (x,l) (x * y).natAbs=(x * y,l ++ [y]):=by
  have:=Int.mul_pos hx hy
  unfold dueStep
  rw [if_pos (by omega),abs_pos this,fdiv_cancel hx]
theorem due_ok (D:Done h w a0 k a) (hh:h≤3) (hw:w≤3) (z:Zr h w a0) (h1:1≤h) (w1:1≤w) {gs:List Nat} (hl:gs.length=min h w) (G:∀ i g,gs[i]?=some g→IsG a0 h w (i + 1) g):(dueS gs).2=(List.range k).map fun i=>a i i:=by
  have kh:=D.kh
  have kw:=D.kw
  have e1:∀ g,gs[0]?=some g→g=(a 0 0).natAbs:=fun g e=>g1_eq D hh hw z (G 0 _ e)
  have e2:∀ g,gs[1]?=some g→g=(a 0 0 * a 1 1).natAbs:=fun g e=>g2_eq D hh hw z (G 1 _ e)
  have e3:∀ g,gs[2]?=some g→g=(a 0 0 * a 1 1 * a 2 2).natAbs:=fun g e=>by
    have:2 < gs.length:=(List.getElem?_eq_some_iff.mp e).1
    have ih:h=3:=by omega
    have iw:w=3:=by omega
    subst ih iw
    exact g3_eq D (G 2 _ e)
  have z0:k=0→a 0 0=0:=fun e=>D.zer 0 (by omega)
  have z1:k≤1→a 1 1=0:=fun e=>D.zer 1 (by omega)
  have z2:k≤2→a 2 2=0:=fun e=>D.zer 2 (by omega)
  have hm:1≤gs.length:=by omega
  have hk:k≤gs.length:=by omega
  have hm3:gs.length≤3:=by omega
  have p0:0 < k→0 < a 0 0:=D.pos 0
  have p1:1 < k→0 < a 1 1:=D.pos 1
  have p2:2 < k→0 < a 2 2:=D.pos 2
  clear hl G
  match gs,hm,hk,hm3,e1,e2,e3 with
  | [g1],_,hk,_,e1,_,_ =>
    have q1:=e1 _ rfl
    rw [q1]
    show (dueStep (1,[]) _).2=_
    have:k=0∨k=1:=by have:k≤1:=hk; omega
    rcases this with rfl | rfl
    · rw [z0 rfl,Int.natAbs_zero,due0]; rfl
    · rw [due1 (p0 (by decide))]; rfl
  | [g1,g2],_,hk,_,e1,e2,_ =>
    have q1:=e1 _ rfl
    have q2:=e2 _ rfl
    rw [q1,q2]
    show (dueStep (dueStep (1,[]) _) _).2=_
    have:k=0∨k=1∨k=2:=by have:k≤2:=hk; omega
    rcases this with rfl | rfl | rfl
    · rw [z0 rfl,Int.zero_mul,Int.natAbs_zero,due0,due0]; rfl
    · rw [z1 (by decide),Int.mul_zero,Int.natAbs_zero,due0,due1 (p0 (by decide))]; rfl
    · rw [due1 (p0 (by decide)),dueN (p0 (by decide)) (p1 (by decide))]; rfl
  | [g1,g2,g3],_,hk,_,e1,e2,e3 =>
    have q1:=e1 _ rfl
    have q2:=e2 _ rfl
    have q3:=e3 _ rfl
    rw [q1,q2,q3]
    show (dueStep (dueStep (dueStep (1,[]) _) _) _).2=_
    have:k=0∨k=1∨k=2∨k=3:=by have:k≤3:=hk; omega
    rcases this with rfl | rfl | rfl | rfl
    · rw [z0 rfl,Int.zero_mul,Int.zero_mul,Int.natAbs_zero,due0,due0,due0]; rfl
    · rw [z1 (by decide),Int.mul_zero,Int.zero_mul,Int.natAbs_zero,due0,due0,due1 (p0 (by decide))]; rfl
    · rw [z2 (by decide),Int.mul_zero,Int.natAbs_zero,due0,due1 (p0 (by decide)),dueN (p0 (by decide)) (p1 (by decide))]; rfl
    · rw [due1 (p0 (by decide)),dueN (p0 (by decide)) (p1 (by decide)),dueN (Int.mul_pos (p0 (by decide)) (p1 (by decide))) (p2 (by decide))]; rfl
end
theorem sq_bound {a:Mt} (he:∀ i j,(a i j).natAbs≤300) {ls cs:List Nat} (h:ls.length≤3):(sq a ls cs).natAbs≤162000000:=by
  have s1:∀ l cs,(sq a [l] cs).natAbs≤300:=fun l cs=>he _ _
  have t:∀ (k:Nat) (x y:Int) (B:Nat),x.natAbs≤300→y.natAbs≤B→((1 - 2 * ((k % 2:Nat):Int)) * x * y).natAbs≤300 * B:=fun k x y B hx hy=>by
    rw [Int.mul_assoc,Int.natAbs_mul]
    have e:(1 - 2 * ((k % 2:Nat):Int)).natAbs=1:=by omega
    rw [e,Nat.one_mul]
    exact mulb hx hy
  have s2:∀ l m cs,(sq a [l,m] cs).natAbs≤180000:=fun l m cs=>by
    show ((0 + _) + _:Int).natAbs≤_
    have a0:=t 0 (a l (cs.getD 0 0)) _ 300 (he _ _) (s1 m (cs.take 0 ++ cs.drop 1))
    have a1:=t 1 (a l (cs.getD 1 0)) _ 300 (he _ _) (s1 m (cs.take 1 ++ cs.drop 2))
    have b:=abs_add (0 + (1 - 2 * ((0 % 2:Nat):Int)) * a l (cs.getD 0 0) * sq a [m] (cs.take 0 ++ cs.drop 1)) ((1 - 2 * ((1 % 2:Nat):Int)) * a l (cs.getD 1 0) * sq a [m] (cs.take 1 ++ cs.drop 2))
    rw [Int.zero_add] at b
    exact Nat.le_trans (by rw [Int.zero_add]; exact b) (by omega)
  match ls,h with
  | [],_=>exact Nat.zero_le _
  | [l],_=>exact Nat.le_trans (s1 l cs) (by decide)
  | [l,m],_=>exact Nat.le_trans (s2 l m cs) (by decide)
  | [l,m,n],_ =>
    show (((0 + _) + _) + _:Int).natAbs≤_
    have a0:=t 0 (a l (cs.getD 0 0)) _ 180000 (he _ _) (s2 m n (cs.take 0 ++ cs.drop 1))
    have a1:=t 1 (a l (cs.getD 1 0)) _ 180000 (he _ _) (s2 m n (cs.take 1 ++ cs.drop 2))
    have a2:=t 2 (a l (cs.getD 2 0)) _ 180000 (he _ _) (s2 m n (cs.take 2 ++ cs.drop 3))
    have b:=abs_add ((1 - 2 * ((0 % 2:Nat):Int)) * a l (cs.getD 0 0) * sq a [m,n] (cs.take 0 ++ cs.drop 1)) ((1 - 2 * ((1 % 2:Nat):Int)) * a l (cs.getD 1 0) * sq a [m,n] (cs.take 1 ++ cs.drop 2))
    have c:=abs_add ((1 - 2 * ((0 % 2:Nat):Int)) * a l (cs.getD 0 0) * sq a [m,n] (cs.take 0 ++ cs.drop 1) + (1 - 2 * ((1 % 2:Nat):Int)) * a l (cs.getD 1 0) * sq a [m,n] (cs.take 1 ++ cs.drop 2)) ((1 - 2 * ((2 % 2:Nat):Int)) * a l (cs.getD 2 0) * sq a [m,n] (cs.take 2 ++ cs.drop 3))
    exact Nat.le_trans (by rw [Int.zero_add]; exact c) (by omega)
theorem g_small {a:Mt} {h w k g:Nat} (he:∀ i j,(a i j).natAbs≤300) (hk:∀ l∈chs h k,l.length≤3) (G:IsG a h w k g):g≤162000000:=by
  by_cases z:∀ n∈squares a h w k,n=0
  · have:∀ d:Nat,d ∣ g:=fun d=>(G d).mpr fun n hn=>by rw [z n hn]; exact Nat.dvd_zero d
    have:g=0:=Nat.eq_zero_of_zero_dvd (this 0)
    omega
  · obtain ⟨n,z⟩:=Classical.not_forall.mp z
    obtain ⟨hn,z⟩:=Classical.not_imp.mp z
    have h1:=(G g).mp (Nat.dvd_refl g) n hn
    have h2:=Nat.le_of_dvd (by omega) h1
    obtain ⟨l,hl,c,hc,rfl⟩:=mem_sq.mp hn
    exact Nat.le_trans h2 (sq_bound he (hk l hl))
end M4
namespace KF
open PySem L2 PyProof.Rows K01 KW
def entF (rows:List (Addr × List Int)):M4.Mt:=fun i j=>((rows.map (·.2)).getD i []).getD j 0
theorem gD {α:Type} (l:List α) (d:α) {i:Nat} (h:i < l.length):l.getD i d=l[i]:=by rw [List.getD_eq_getElem?_getD,List.getElem?_eq_getElem h]; rfl
theorem gD0 {α:Type} (l:List α) (d:α) {i:Nat} (h:l.length≤i):l.getD i d=d:=by rw [List.getD_eq_getElem?_getD,List.getElem?_eq_none h]; rfl
abbrev vN (ls:List Nat):List V:=ls.map fun k:Nat=>V.int (k:Int)
theorem cut_take {xs:List V} {j:Nat} (h:j≤xs.length):cutV xs none (some (j:Int))=xs.take j:=by
  unfold cutV
  rw [HT.sIx_none,HT.sIx_nat,Nat.min_eq_left h]
  simp
theorem vN_get {ls:List Nat} {i:Nat} (h:i < ls.length):(vN ls)[i]?=some (V.int ((ls.getD i 0:Nat):Int)):=by
  show (ls.map _)[i]?=_
  rw [List.getElem?_map,List.getElem?_eq_getElem h,gD _ _ h]
  rfl
theorem getD_mem {ls:List Nat} {i:Nat} (h:i < ls.length):ls.getD i 0∈ls:=by rw [gD _ _ h]; exact List.getElem_mem h
section
variable {H:Hp} {B t:Addr} {h w M:Nat} {rows:List (Addr × List Int)}
theorem Tb.get (T:Tb H B t h w M rows) {i j:Nat} (hi:i < h) (hj:j < w):∃ (hr:i < rows.length),H rows[i].1=some (.lst (rows[i].2.map V.int))∧(rows[i].2.map V.int)[j]?=some (V.int (entF rows i j)):=by
  have hr:i < rows.length:=by rw [T.ln]; exact hi
  obtain ⟨e1,e2,e3,e4⟩:=T.rw' rows[i] (List.getElem_mem hr)
  refine ⟨hr,e1,?_⟩
  have e:entF rows i j=rows[i].2[j]'(by omega):=by
    unfold entF
    rw [gD (rows.map (·.2)) [] (by rw [List.length_map]; exact hr),List.getElem_map,gD _ _ (by omega)]
  rw [e,List.getElem?_map,List.getElem?_eq_getElem (by omega)]
  rfl
theorem Tb.zr (T:Tb H B t h w M rows):M4.Zr h w (entF rows):=fun i j hij=>by
  unfold entF
  by_cases hr:i < rows.length
  · rw [gD (rows.map (·.2)) [] (by rw [List.length_map]; exact hr),List.getElem_map]
    obtain ⟨e1,e2,e3,e4⟩:=T.rw' rows[i] (List.getElem_mem hr)
    rcases hij with q | q
    · rw [T.ln] at hr; omega
    · rw [gD0 _ _ (by omega)]
  · rw [gD0 (rows.map (·.2)) _ (by rw [List.length_map]; omega)]
    rfl
theorem Tb.le (T:Tb H B t h w M rows) (i j:Nat):(entF rows i j).natAbs≤M:=by
  unfold entF
  by_cases hr:i < rows.length
  · rw [gD (rows.map (·.2)) [] (by rw [List.length_map]; exact hr),List.getElem_map]
    obtain ⟨e1,e2,e3,e4⟩:=T.rw' rows[i] (List.getElem_mem hr)
    by_cases hj:j < rows[i].2.length
    · rw [gD _ _ hj]; exact e4 _ (List.getElem_mem hj)
    · rw [gD0 _ _ (by omega)]; exact Nat.zero_le _
  · rw [gD0 (rows.map (·.2)) _ (by rw [List.length_map]; omega)]
    exact Nat.zero_le _
theorem Tb.row (T:Tb H B t h w M rows) {i:Nat} (hr:i < rows.length):rows[i].2=mapR w (entF rows i):=by
  obtain ⟨e1,e2,e3,e4⟩:=T.rw' rows[i] (List.getElem_mem hr)
  refine mapR_of e3 fun j hj=>?_
  have e:entF rows i j=rows[i].2[j]'(by omega):=by
    unfold entF
    rw [gD (rows.map (·.2)) [] (by rw [List.length_map]; exact hr),List.getElem_map,gD _ _ (by omega)]
  rw [e,List.getElem?_eq_getElem (by omega)]
end
section
variable {P:Program} {w:World} {K:PySem.W.Frag} {mg:Str→Option Value} {base:Heap} {C CF:Addr}
def spSquare (n:Nat):Sp:=fun vs H Q _=>∃ (B t la ca:Addr) (h w:Nat) (rows:List (Addr × List Int)) (ls cs:List Nat),vs=[.ref t,.ref la,.ref ca]∧Tb H B t h w 300 rows∧H la=some (.lst (vN ls))∧H ca=some (.lst (vN cs))∧ls.length=cs.length∧1≤ls.length∧ls.length≤n∧ls.length≤3∧(∀ l∈ls,l < h)∧(∀ c∈cs,c < w)∧∀ H',Same H H'→Q (.int (M4.sq (entF rows) ls cs)) H'
theorem scSquare:FnScope ["_law_table_here","_law_lines","_law_columns","_law_found","_law_at","_law_rest_of"] ["_law_table_here","_law_lines","_law_columns"] (defScope (top 21)):=⟨rfl,rfl,rfl,by decide +kernel,rfl,by decide +kernel,by decide +kernel⟩
set_option maxHeartbeats 8000000 in
theorem ok_square {f:Addr} {fd:FuncData} (A__law_square:FnAt K mg "_law_square" "_law_square" (top 21) .none f fd) (b__law_square:L2.Binds K fd ["_law_table_here","_law_lines","_law_columns"] []) (T:TxtF K mg C CF):∀ n:Nat,FnOk P w K mg base CX0 n f fd ["_law_table_here","_law_lines","_law_columns"] (spSquare n)
  | 0=>⟨fun _ _ _ _ ⟨_,_,_,_,_,_,_,_,_,_,_,_,_,_,h1,h0,_⟩=>absurd (Nat.le_trans h1 h0) (by decide),fun _ _ _ _ _ _ _ _ _ _ _ _ _ ⟨_,_,_,_,_,_,_,_,_,_,_,_,_,_,h1,h0,_⟩=>absurd (Nat.le_trans h1 h0) (by decide)⟩
  | n + 1 => by
    have nd:=scSquare.nd
    have G__law_square:FnOk P w K mg base CX0 n f fd ["_law_table_here","_law_lines","_law_columns"] (spSquare n):=ok_square A__law_square b__law_square T n
    refine A__law_square.ok scSquare (fun vs H Q E h=>?_) (fun cdv A outer s H vs Q E hr h=>?_)
    · obtain ⟨B,t,la,ca,h,w,rows,ls,cs,rfl,_⟩:=h
      rfl
    · obtain ⟨B,t,la,ca,h,wd,rows,ls,cs,rfl,tb,hla,hca,hlc,l1,ln,l3,hls,hcs,q⟩:=h
      refine ⟨_,(pss_cons (ps_if (pt_cmpR op_eq (pe_callB call_len_seq (by rfl) T.n_len PySem.boot_len (pa_cons (pv 1) pa_nil)) pe_int (nomark _)) (pss_one (ps_ret (pe_ix ix_list (pe_ix ix_list (pv 0) (pe_ix ix_list (pv 1) pe_int (fun _ _=>rfl)) (fun _ _=>rfl)) (pe_ix ix_list (pv 2) pe_int (fun _ _=>rfl)) (fun _ _=>rfl)))) pss_nil)
      (pss_cons (ps_set (i:=3) nd rfl (Or.inl rfl) pe_int)
      (pss_cons (ps_for PassesOwn.never rfl (pi_range1 (by rfl) T.n_range (pa_cons (pe_callB call_len_seq (by rfl) T.n_len PySem.boot_len (pa_cons (pv 1) pa_nil)) pa_nil)) (pg_name (i:=4) nd rfl (Or.inl rfl)) (pss_cons (ps_set (i:=5) nd rfl (Or.inl rfl) (pe_call G__law_square hr rfl A__law_square.mg A__law_square.kp b__law_square .nil pass0 (pa_cons (pv 0) (pa_cons (pe_slice sl_list (pv 1) (po_some pe_int) po_none) (pa_cons (pe_op op_cat (pe_slice sl_list (pv 2) po_none (po_some (pv 4))) (pe_slice sl_list (pv 2) (po_some (pe_op op_add (pv 4) pe_int)) po_none)) pa_nil)))))
      (pss_one (ps_aug (i:=3) nd rfl (Or.inl rfl) (pe_op op_mulX (pe_op op_mulX (pe_op op_sub pe_int (pe_op op_mulX pe_int (pe_op op_modN (pv 4) pe_int))) (pe_ix ix_list (pe_ix ix_list (pv 0) (pe_ix ix_list (pv 1) pe_int (fun _ _=>rfl)) (fun _ _=>rfl)) (pe_ix ix_list (pv 2) (pv 4) (fun _ _=>rfl)) (fun _ _=>rfl))) (pv 5)) ip_add))))
      (pss_one (ps_ret (pv 3)))))),?_⟩
      have vl:(vN ls).length=ls.length:=List.length_map ..
      have vc:(vN cs).length=cs.length:=List.length_map ..
      refine ⟨_,rfl,la,_,rfl,.inl (SqL.of hla),rfl,_,rfl,?_⟩
      rw [vl]
      match ls,l1,hla,vl,hlc,ln,l3,hls,q with
      | [l],_,hla,vl,hlc,_,_,hls,q =>
        refine iteDT2 rfl ?_
        have hl:=hls l (by simp)
        have h0:0 < cs.length:=by rw [← hlc]; exact Nat.one_pos
        have hc:=hcs _ (getD_mem h0)
        obtain ⟨hr0,g1,g2⟩:=tb.get hl hc
        refine ⟨_,rfl,_,rfl,la,_,_,V.int ((l:Nat):Int),rfl,rfl,SqL.of hla,atI_nat (j:=0) rfl,t,_,_,V.ref rows[l].1,rfl,rfl,SqL.of tb.tt,at_nat (rowAt hr0),?_⟩
        exact ⟨_,rfl,ca,_,_,V.int ((cs.getD 0 0:Nat):Int),rfl,rfl,SqL.of hca,atI_nat (j:=0) (vN_get h0),rows[l].1,_,_,_,rfl,rfl,SqL.of g1,at_nat g2,q _ (Same.refl _)⟩
      | l :: m :: ls,_,hla,vl,hlc,ln,l3,hls,q =>
        have hlen:(l :: m :: ls).length=ls.length + 2:=rfl
        have hcl:cs.length=ls.length + 2:=by rw [← hlc]; rfl
        have ls3:ls.length≤1:=by omega
        refine iteDF2 (fun e=>?_) ?_
        · have:=V.int.inj e
          rw [hlen] at this
          omega
        have hl:=hls l (by simp)
        refine ⟨_,rfl,la,_,rfl,.inl (SqL.of hla),_,rfl,by rw [vl]; omega,by rw [vl]; omega,?_⟩
        rw [vl,Int.toNat_natCast,hlen]
        refine for_range (lo:=0) (n:=ls.length + 2) (fun i σ H1=>Same H H1∧∃ v v':Option V,σ=[some (.ref t),some (.ref la),some (.ref ca),some (.int (M4.sumR i fun k=>(1 - 2 * ((k % 2:Nat):Int)) * entF rows l (cs.getD k 0) * M4.sq (entF rows) (m :: ls) (cs.take k ++ cs.drop (k + 1)))),v,v']) ⟨Same.refl _,none,none,rfl⟩ ?_ ?_
        · rintro i σ H1 hi ⟨s1,v,v',rfl⟩
          have ic:i < cs.length:=by omega
          refine ⟨_,rfl,_,rfl,1,rfl,la,_,rfl,SqL.of (s1 _ _ hla),fun p1 hp1=>?_⟩
          have e1:cutV (vN (l :: m :: ls)) (some 1) none=vN (m :: ls):=cut_drop (j:=1) (by rw [vl]; omega)
          rw [e1]
          have s2:=same_upd (o:=.lst (vN (m :: ls))) hp1
          refine ⟨_,rfl,_,rfl,_,rfl,ca,_,rfl,SqL.of ((s1.trans s2) _ _ hca),fun p2 hp2=>?_⟩
          have e2:cutV (vN cs) none (some (0 + (i:Int)))=vN (cs.take i):=by
            rw [Int.zero_add,cut_take (by rw [vc]; omega),← List.map_take]
          rw [e2]
          have s3:=same_upd (o:=.lst (vN (cs.take i))) hp2
          refine ⟨_,rfl,_,rfl,_,_,rfl,rfl,_,rfl,ca,_,rfl,SqL.of ((s1.trans (s2.trans s3)) _ _ hca),fun p3 hp3=>?_⟩
          have e3:cutV (vN cs) (some (0 + (i:Int) + 1)) none=vN (cs.drop (i + 1)):=by
            rw [show (0 + (i:Int) + 1)=((i + 1:Nat):Int) by omega,cut_drop (by rw [vc]; omega),← List.map_drop]
          rw [e3]
          have s4:=same_upd (o:=.lst (vN (cs.drop (i + 1)))) hp3
          refine ⟨p2,p3,_,_,rfl,rfl,s4 _ _ upd_same,upd_same,small1000' (by rw [List.length_map,List.length_map,List.length_take,List.length_drop]; omega),fun p4 hp4=>?_⟩
          have s5:=same_upd (o:=.lst (vN (cs.take i) ++ vN (cs.drop (i + 1)))) hp4
          have e4:vN (cs.take i) ++ vN (cs.drop (i + 1))=vN (cs.take i ++ cs.drop (i + 1)):=List.map_append.symm
          have s6:=s1.trans (s2.trans (s3.trans (s4.trans s5)))
          refine ⟨B,t,p1,p4,h,wd,rows,m :: ls,cs.take i ++ cs.drop (i + 1),rfl,tb.same s6,(s3.trans (s4.trans s5)) _ _ upd_same,by rw [upd_same,e4],?_,Nat.succ_le_succ (Nat.zero_le _),by simp at ln ⊢; omega,by simp at l3 ⊢; omega,fun c hc=>hls c (List.mem_cons_of_mem _ hc),fun c hc=>?_,fun H7 s7=>?_⟩
          · rw [List.length_append,List.length_take,List.length_drop,List.length_cons]
            omega
          · rcases List.mem_append.mp hc with hc | hc
            · exact hcs c (List.mem_of_mem_take hc)
            · exact hcs c (List.mem_of_mem_drop hc)
          · have s8:=s6.trans s7
            have tb8:=tb.same s8
            have hc:=hcs _ (getD_mem ic)
            obtain ⟨hr0,g1,g2⟩:=tb8.get hl hc
            have hb:=tb.le l (cs.getD i 0)
            refine ⟨_,rfl,_,rfl,_,_,rfl,rfl,(show (2:Int)≠0 by decide),_,_,rfl,rfl,mulL' (by decide),_,_,rfl,rfl,?_⟩
            refine ⟨_,rfl,_,rfl,la,_,_,V.int ((l:Nat):Int),rfl,rfl,SqL.of (s8 _ _ hla),atI_nat (j:=0) rfl,t,_,_,V.ref rows[l].1,rfl,rfl,SqL.of tb8.tt,at_nat (rowAt hr0),?_⟩
            refine ⟨_,rfl,_,rfl,ca,_,_,V.int ((cs.getD i 0:Nat):Int),rfl,rfl,SqL.of (s8 _ _ hca),at_nat0 (vN_get ic),rows[l].1,_,_,_,rfl,rfl,SqL.of g1,at_nat g2,?_⟩
            have fm:(0 + (i:Int)).fmod 2=((i % 2:Nat):Int):=by rw [Int.zero_add]; exact fmodN i 2
            rw [fm]
            have b1:(1 - 2 * ((i % 2:Nat):Int)).natAbs≤1:=by omega
            refine ⟨_,_,rfl,rfl,mulL' (Nat.lt_of_le_of_lt b1 (by decide)),_,rfl,_,_,rfl,rfl,mulL' (Nat.lt_of_le_of_lt (Nat.le_trans (M4.mulb b1 hb) (show 1 * 300≤300 by decide)) (by decide)),_,_,rfl,rfl,?_⟩
            exact ⟨s8,_,_,rfl⟩
        · rintro σ H1 ⟨s1,v,v',rfl⟩
          exact ⟨_,rfl,q _ s1⟩
def spAlkI:Sp:=fun vs H Q _=>∃ n:Int,vs=[.int n,.int n]∧Q (.bl true) H
def spAlkL:Sp:=fun vs H Q _=>∃ (a b:Addr) (ns:List Int),vs=[.ref a,.ref b]∧H a=some (.lst (ns.map V.int))∧H b=some (.lst (ns.map V.int))∧ns.length≤1000∧∀ H',Same H H'→Q (.bl true) H'
theorem scAlk:FnScope ["_law_found","_law_due"] ["_law_found","_law_due"] (defScope (top 17)):=⟨rfl,rfl,rfl,by decide +kernel,rfl,by decide +kernel,by decide +kernel⟩
set_option maxHeartbeats 4000000 in
theorem ok_alkI {f:Addr} {fd:FuncData} (A__law_alike:FnAt K mg "_law_alike" "_law_alike" (top 17) .none f fd) (b__law_alike:L2.Binds K fd ["_law_found","_law_due"] []) (T:KW.Txt mg):FnOk P w K mg base CX0 1 f fd ["_law_found","_law_due"] spAlkI:=by
  have nd:=scAlk.nd
  have G__law_alike:FnOk P w K mg base CX0 0 f fd ["_law_found","_law_due"] (fun _ _ _ _=>False):=⟨fun _ _ _ _ h=>h.elim,fun _ _ _ _ _ _ _ _ _ _ _ _ _ h=>h.elim⟩
  refine A__law_alike.ok scAlk (fun vs H Q E h=>?_) (fun cdv A outer s H vs Q E hr h=>?_)
  · obtain ⟨n,rfl,_⟩:=h
    rfl
  · obtain ⟨n,rfl,k⟩:=h
    refine ⟨_,(pss_cons (ps_if (PW.pt (pw_or (pt_truth (pe_callB isi_list (by rfl) T.n_isinstance boot_isinstance (pa_cons (pv 1) (pa_cons (pe_bltn (v:=.ty "list") (by rfl) T.n_list boot_list rfl) pa_nil))) (fun _=>rfl)) (pw_or1 (pt_truth (pe_callB isi_tuple (by rfl) T.n_isinstance boot_isinstance (pa_cons (pv 1) (pa_cons (pe_bltn (v:=.ty "tuple") (by rfl) T.n_tuple boot_tuple rfl) pa_nil))) (fun _=>rfl))))) (pss_cons (ps_if (PW.pt (pw_or (pt_cmpR op_ne (pe_callB isi_list (by rfl) T.n_isinstance boot_isinstance (pa_cons (pv 0) (pa_cons (pe_bltn (v:=.ty "list") (by rfl) T.n_list boot_list rfl) pa_nil))) (pe_callB isi_list (by rfl) T.n_isinstance boot_isinstance (pa_cons (pv 1) (pa_cons (pe_bltn (v:=.ty "list") (by rfl) T.n_list boot_list rfl) pa_nil))) (nomark _)) (pw_or1 (pt_cmpR op_ne (pe_callB isi_tuple (by rfl) T.n_isinstance boot_isinstance (pa_cons (pv 0) (pa_cons (pe_bltn (v:=.ty "tuple") (by rfl) T.n_tuple boot_tuple rfl) pa_nil))) (pe_callB isi_tuple (by rfl) T.n_isinstance boot_isinstance (pa_cons (pv 1) (pa_cons (pe_bltn (v:=.ty "tuple") (by rfl) T.n_tuple boot_tuple rfl) pa_nil))) (nomark _))))) (pss_one (ps_ret pe_bl)) pss_nil)
      (pss_one (ps_ret (pe_and (pe_cmpR op_eq (pe_callB call_len_seq (by rfl) T.n_len PySem.boot_len (pa_cons (pv 0) pa_nil)) (pe_callB call_len_seq (by rfl) T.n_len PySem.boot_len (pa_cons (pv 1) pa_nil)) (nomark _)) (pe_one (pe_callB (call_allL (by rfl)) (by rfl) T.n_all boot_all (pa_cons (pe_comp (by rfl) (compOk (N:=["_law_one","_law_other"]) (ix:=[none,none])) (pi_zip (by rfl) T.n_zip (pa_cons (pv 0) (pa_cons (pv 1) pa_nil))) (by intro _ _ _ _ _; exact PG.to (pg_tup (n:=2) (by rfl) (pgs_cons (pg_name (i:=0) (show (["_law_one","_law_other"]:List Str).Nodup by decide +kernel) rfl (Or.inl rfl)) (pgs_cons (pg_name (i:=1) (show (["_law_one","_law_other"]:List Str).Nodup by decide +kernel) rfl (Or.inl rfl)) pgs_nil))) (by (try simp only [inX_K]); rfl)) (by intro _ _ _ _ _; exact PE.to (pe_call G__law_alike hr rfl A__law_alike.mg A__law_alike.kp b__law_alike .nil pass0 (pa_cons (pv 0) (pa_cons (pv 1) pa_nil))) (by (try simp only [inX_K]); rfl))) pa_nil))))))) pss_nil)
      (pss_cons (ps_if (PW.pt (pw_or (pt_cmpR op_isN (pv 1) pe_non (nomark _)) (pw_or1 (pt_cmpR op_isN (pv 0) pe_non (nomark _))))) (pss_one (ps_ret (pe_and (pe_cmpR op_isN (pv 0) pe_non (nomark _)) (pe_one (pe_cmpR op_isN (pv 1) pe_non (nomark _)))))) pss_nil)
      (pss_cons (ps_if (PW.pt (pw_or (pt_cmpR op_ne (pe_callB isi_bool (by rfl) T.n_isinstance boot_isinstance (pa_cons (pv 0) (pa_cons (pe_bltn (v:=.ty "bool") (by rfl) T.n_bool boot_bool rfl) pa_nil))) (pe_callB isi_bool (by rfl) T.n_isinstance boot_isinstance (pa_cons (pv 1) (pa_cons (pe_bltn (v:=.ty "bool") (by rfl) T.n_bool boot_bool rfl) pa_nil))) (nomark _)) (pw_or1 (pt_cmpR op_ne (pe_callB isi_int (by rfl) T.n_isinstance boot_isinstance (pa_cons (pv 0) (pa_cons (pe_bltn (v:=.ty "int") (by rfl) T.n_int boot_int rfl) pa_nil))) (pe_callB isi_int (by rfl) T.n_isinstance boot_isinstance (pa_cons (pv 1) (pa_cons (pe_bltn (v:=.ty "int") (by rfl) T.n_int boot_int rfl) pa_nil))) (nomark _))))) (pss_one (ps_ret pe_bl)) pss_nil)
      (pss_one (ps_ret (pe_and (pe_cmpR op_eq (pe_callB isi_str (by rfl) T.n_isinstance boot_isinstance (pa_cons (pv 0) (pa_cons (pe_bltn (v:=.ty "str") (by rfl) T.n_str boot_str rfl) pa_nil))) (pe_callB isi_str (by rfl) T.n_isinstance boot_isinstance (pa_cons (pv 1) (pa_cons (pe_bltn (v:=.ty "str") (by rfl) T.n_str boot_str rfl) pa_nil))) (nomark _)) (pe_one (pe_cmpR op_eq (pv 0) (pv 1) (nomark _))))))))),?_⟩
    refine ⟨_,rfl,_,.int,rfl,rfl,_,rfl,iteF ⟨_,rfl,_,.int,rfl,rfl,_,rfl,iteF ?_⟩⟩
    refine ⟨_,rfl,rfl,_,rfl,iteF ⟨_,rfl,rfl,_,rfl,iteF ?_⟩⟩
    refine ⟨_,rfl,_,.int,rfl,rfl,_,rfl,_,.int,rfl,rfl,rfl,_,rfl,iteNS rfl ⟨_,rfl,_,.int,rfl,rfl,_,rfl,_,.int,rfl,rfl,rfl,_,rfl,iteNS rfl ?_⟩⟩
    refine ⟨_,rfl,_,.int,rfl,rfl,_,rfl,_,.int,rfl,rfl,rfl,_,rfl,iteDT2 rfl ⟨_,rfl,_,rfl,rfl,?_⟩⟩
    rw [decide_eq_true rfl]
    exact k
theorem all_true:∀ n:Nat,((List.replicate n (V.bl true)).all truB)=true
  | 0=>rfl
  | n + 1=>by rw [List.replicate_succ,List.all_cons,all_true n]; rfl
set_option maxHeartbeats 4000000 in
theorem ok_alkL {f:Addr} {fd:FuncData} (A__law_alike:FnAt K mg "_law_alike" "_law_alike" (top 17) .none f fd) (b__law_alike:L2.Binds K fd ["_law_found","_law_due"] []) (T:KW.Txt mg):FnOk P w K mg base CX0 2 f fd ["_law_found","_law_due"] spAlkL:=by
  have nd:=scAlk.nd
  have G__law_alike:FnOk P w K mg base CX0 1 f fd ["_law_found","_law_due"] spAlkI:=ok_alkI A__law_alike b__law_alike T
  refine A__law_alike.ok scAlk (fun vs H Q E h=>?_) (fun cdv A outer s H vs Q E hr h=>?_)
  · obtain ⟨a,b,ns,rfl,_⟩:=h
    rfl
  · obtain ⟨a,b,ns,rfl,ha,hb,hz,k⟩:=h
    refine ⟨_,(pss_cons (ps_if (PW.pt (pw_or (pt_truth (pe_callB isi_list (by rfl) T.n_isinstance boot_isinstance (pa_cons (pv 1) (pa_cons (pe_bltn (v:=.ty "list") (by rfl) T.n_list boot_list rfl) pa_nil))) (fun _=>rfl)) (pw_or1 (pt_truth (pe_callB isi_tuple (by rfl) T.n_isinstance boot_isinstance (pa_cons (pv 1) (pa_cons (pe_bltn (v:=.ty "tuple") (by rfl) T.n_tuple boot_tuple rfl) pa_nil))) (fun _=>rfl))))) (pss_cons (ps_if (PW.pt (pw_or (pt_cmpR op_ne (pe_callB isi_list (by rfl) T.n_isinstance boot_isinstance (pa_cons (pv 0) (pa_cons (pe_bltn (v:=.ty "list") (by rfl) T.n_list boot_list rfl) pa_nil))) (pe_callB isi_list (by rfl) T.n_isinstance boot_isinstance (pa_cons (pv 1) (pa_cons (pe_bltn (v:=.ty "list") (by rfl) T.n_list boot_list rfl) pa_nil))) (nomark _)) (pw_or1 (pt_cmpR op_ne (pe_callB isi_tuple (by rfl) T.n_isinstance boot_isinstance (pa_cons (pv 0) (pa_cons (pe_bltn (v:=.ty "tuple") (by rfl) T.n_tuple boot_tuple rfl) pa_nil))) (pe_callB isi_tuple (by rfl) T.n_isinstance boot_isinstance (pa_cons (pv 1) (pa_cons (pe_bltn (v:=.ty "tuple") (by rfl) T.n_tuple boot_tuple rfl) pa_nil))) (nomark _))))) (pss_one (ps_ret pe_bl)) pss_nil)
      (pss_one (ps_ret (pe_and (pe_cmpR op_eq (pe_callB call_len_seq (by rfl) T.n_len PySem.boot_len (pa_cons (pv 0) pa_nil)) (pe_callB call_len_seq (by rfl) T.n_len PySem.boot_len (pa_cons (pv 1) pa_nil)) (nomark _)) (pe_one (pe_callB (call_allL (by rfl)) (by rfl) T.n_all boot_all (pa_cons (pe_comp (by rfl) (compOk (N:=["_law_one","_law_other"]) (ix:=[none,none])) (pi_zip (by rfl) T.n_zip (pa_cons (pv 0) (pa_cons (pv 1) pa_nil))) (by intro _ _ _ _ _; exact PG.to (pg_tup (n:=2) (by rfl) (pgs_cons (pg_name (i:=0) (show (["_law_one","_law_other"]:List Str).Nodup by decide +kernel) rfl (Or.inl rfl)) (pgs_cons (pg_name (i:=1) (show (["_law_one","_law_other"]:List Str).Nodup by decide +kernel) rfl (Or.inl rfl)) pgs_nil))) (by (try simp only [inX_K]); rfl)) (by intro _ _ _ _ _; exact PE.to (pe_call G__law_alike hr rfl A__law_alike.mg A__law_alike.kp b__law_alike .nil pass0 (pa_cons (pv 0) (pa_cons (pv 1) pa_nil))) (by (try simp only [inX_K]); rfl))) pa_nil))))))) pss_nil)
      (pss_cons (ps_if (PW.pt (pw_or (pt_cmpR op_isN (pv 1) pe_non (nomark _)) (pw_or1 (pt_cmpR op_isN (pv 0) pe_non (nomark _))))) (pss_one (ps_ret (pe_and (pe_cmpR op_isN (pv 0) pe_non (nomark _)) (pe_one (pe_cmpR op_isN (pv 1) pe_non (nomark _)))))) pss_nil)
      (pss_cons (ps_if (PW.pt (pw_or (pt_cmpR op_ne (pe_callB isi_bool (by rfl) T.n_isinstance boot_isinstance (pa_cons (pv 0) (pa_cons (pe_bltn (v:=.ty "bool") (by rfl) T.n_bool boot_bool rfl) pa_nil))) (pe_callB isi_bool (by rfl) T.n_isinstance boot_isinstance (pa_cons (pv 1) (pa_cons (pe_bltn (v:=.ty "bool") (by rfl) T.n_bool boot_bool rfl) pa_nil))) (nomark _)) (pw_or1 (pt_cmpR op_ne (pe_callB isi_int (by rfl) T.n_isinstance boot_isinstance (pa_cons (pv 0) (pa_cons (pe_bltn (v:=.ty "int") (by rfl) T.n_int boot_int rfl) pa_nil))) (pe_callB isi_int (by rfl) T.n_isinstance boot_isinstance (pa_cons (pv 1) (pa_cons (pe_bltn (v:=.ty "int") (by rfl) T.n_int boot_int rfl) pa_nil))) (nomark _))))) (pss_one (ps_ret pe_bl)) pss_nil)
      (pss_one (ps_ret (pe_and (pe_cmpR op_eq (pe_callB isi_str (by rfl) T.n_isinstance boot_isinstance (pa_cons (pv 0) (pa_cons (pe_bltn (v:=.ty "str") (by rfl) T.n_str boot_str rfl) pa_nil))) (pe_callB isi_str (by rfl) T.n_isinstance boot_isinstance (pa_cons (pv 1) (pa_cons (pe_bltn (v:=.ty "str") (by rfl) T.n_str boot_str rfl) pa_nil))) (nomark _)) (pe_one (pe_cmpR op_eq (pv 0) (pv 1) (nomark _))))))))),?_⟩
    have la:isTy K (.ref a) H .list:=.inl ⟨rfl,_,SqL.of ha⟩
    have lb:isTy K (.ref b) H .list:=.inl ⟨rfl,_,SqL.of hb⟩
    refine ⟨_,rfl,_,.list,rfl,lb,_,rfl,iteT (iteT ?_)⟩
    refine ⟨_,rfl,_,.list,rfl,la,_,rfl,_,.list,rfl,lb,rfl,_,rfl,iteNS rfl ⟨_,rfl,_,.list,rfl,la,_,rfl,_,.list,rfl,lb,rfl,_,rfl,iteNS rfl ?_⟩⟩
    refine ⟨_,rfl,a,_,rfl,.inl (SqL.of ha),_,rfl,b,_,rfl,.inl (SqL.of hb),rfl,_,rfl,?_⟩
    refine iteDT2 rfl ?_
    refine ⟨_,rfl,_,rfl,a,b,rfl,⟨_,SqL.of ha⟩,⟨_,SqL.of hb⟩,?_⟩
    refine compZ (K:=K) (a:=a) (b:=b) (xs:=ns.map V.int) (zs:=ns.map V.int) (fun i zs H1=>Same H H1∧zs=List.replicate i (V.bl true)) ⟨Same.refl _,rfl⟩ rfl ?_ (by rw [List.length_map]; exact small1000' hz) ?_ ?_
    · rintro i zs H1 hi ⟨s1,rfl⟩
      exact ⟨SqL.of (s1 _ _ ha),SqL.of (s1 _ _ hb),List.length_replicate⟩
    · rintro i x z zs H1 U R hx hz' ⟨s1,rfl⟩ hU kR
      obtain ⟨n,hn,rfl⟩:=getI_map hx
      rw [hx] at hz'
      cases hz'
      have s2:=s1.trans (same_upd (o:=.tup [V.int n,V.int n]) hU)
      refine ⟨U,_,rfl,SqT.of upd_same,rfl,_,_,rfl,_,_,rfl,rfl,StLe.trans (StLe.set rfl) (StLe.set rfl),_,rfl,_,rfl,n,rfl,?_⟩
      exact kR _ _ ⟨s2,List.replicate_succ'.symm⟩
    · rintro zs H1 ⟨s1,rfl⟩ l hl'
      refine ⟨l,_,rfl,SqL.of upd_same,fun y hy=>?_,?_⟩
      · rw [(List.mem_replicate.mp hy).2]
        rfl
      · rw [all_true]
        exact k _ (s1.trans (same_upd hl'))
end
end KF
namespace KF
open PySem L2 PyProof.Rows K01 KW
theorem chs_ok:∀ n,n≤3→∀ k,k≤3→(M4.chs n k).length≤8∧∀ l∈M4.chs n k,l.length=k∧∀ x∈l,x < n:=by decide
theorem flat_len {α β:Type} {f:α→List β} {m:Nat}:∀ (l:List α),(∀ x∈l,(f x).length≤m)→(l.flatMap f).length≤l.length * m
  | [],_=>by simp
  | x :: l,h=>by
    rw [List.flatMap_cons,List.length_append,List.length_cons,Nat.succ_mul]
    have:=flat_len l (fun y hy=>h y (List.mem_cons_of_mem _ hy))
    have:=h x List.mem_cons_self
    omega
theorem dueS_snoc (gs:List Nat) (g:Nat):M4.dueS (gs ++ [g])=M4.dueStep (M4.dueS gs) g:=by unfold M4.dueS; rw [List.foldl_append]; rfl
theorem dueS_pos:∀ {gs:List Nat} (p:Int × List Int),(∀ g∈gs,g≤162000000)→0 < p.1→p.1≤162000000→0 < (gs.foldl M4.dueStep p).1∧(gs.foldl M4.dueStep p).1≤162000000
  | [],p,_,h1,h2=>⟨h1,h2⟩
  | g :: gs,p,h,h1,h2=>by
    have hg:=h g List.mem_cons_self
    have k:0 < (M4.dueStep p g).1∧(M4.dueStep p g).1≤162000000:=by
      unfold M4.dueStep
      split
      · rename_i e
        exact ⟨by show (0:Int) < (g:Int); omega,by show (g:Int)≤162000000; omega⟩
      · exact ⟨h1,h2⟩
    exact dueS_pos (gs:=gs) (M4.dueStep p g) (fun x hx=>h x (List.mem_cons_of_mem _ hx)) k.1 k.2
theorem dueS_len:∀ {gs:List Nat} (p:Int × List Int),(gs.foldl M4.dueStep p).2.length≤p.2.length + gs.length
  | [],p=>by simp
  | g :: gs,p=>by
    have h:=dueS_len (gs:=gs) (M4.dueStep p g)
    have k:(M4.dueStep p g).2.length≤p.2.length + 1:=by
      unfold M4.dueStep
      split
      · simp
      · omega
    rw [List.foldl_cons,List.length_cons]
    omega
section
variable {P:Program} {w:World} {K:PySem.W.Frag} {mg:Str→Option Value} {base:Heap} {C CF:Addr}
def spLaw (K:PySem.W.Frag):Sp:=fun vs H Q _=>∃ (a:Addr) (ns:List Int),vs=[.ref a]∧SqL K H a (ns.map V.int)∧ns.length≤63∧∀ H',Q (.bl true) H'
theorem scLaw:FnScope ["_law_script","_law_box_here","_law_high","_law_wide","_law_table_here","_law_due","_law_ahead","_law_size","_law_squares","_law_lines","_law_both"] ["_law_script"] (defScope (top 23)):=⟨rfl,rfl,rfl,by decide +kernel,rfl,by decide +kernel,by decide +kernel⟩
theorem Tb.re {H:Hp} {B B' t:Addr} {h w M:Nat} {rows:List (Addr × List Int)} (T:Tb H B t h w M rows) (ne:∀ c o,H c=some o→c≠B'):Tb H B' t h w M rows :=
  ⟨T.tt,T.ln,ne _ _ T.tt,fun p hp=>⟨(T.rw' p hp).1,ne _ _ (T.rw' p hp).1,(T.rw' p hp).2.2⟩⟩
set_option maxHeartbeats 16000000 in
theorem ok_law {f fF:Addr} {fd fdF:FuncData} (F:FnAt K mg "law" "law" (top 23) .none f fd) (T:TxtF K mg C CF)
    {f__law_box:Addr} {d__law_box:FuncData} (A__law_box:FnAt K mg "_law_box" "_law_box" (top 14) .none f__law_box d__law_box) (b__law_box:L2.Binds K d__law_box ["_law_script"] []) (G__law_box:FnOk P w K mg base CX0 1 f__law_box d__law_box ["_law_script"] (spBox K)) {f__law_take:Addr} {d__law_take:FuncData} (A__law_take:FnAt K mg "_law_take" "_law_take" (top 16) .none f__law_take d__law_take) (b__law_take:L2.Binds K d__law_take ["_law_box_here","_law_many"] []) (G__law_take:FnOk P w K mg base CX0 2 f__law_take d__law_take ["_law_box_here","_law_many"] (spTake)) {f__law_table:Addr} {d__law_table:FuncData} (A__law_table:FnAt K mg "_law_table" "_law_table" (top 19) .none f__law_table d__law_table) (b__law_table:L2.Binds K d__law_table ["_law_box_here","_law_high","_law_wide"] []) (G__law_table:FnOk P w K mg base CX0 4 f__law_table d__law_table ["_law_box_here","_law_high","_law_wide"] (spTable)) {f__law_choices:Addr} {d__law_choices:FuncData} (A__law_choices:FnAt K mg "_law_choices" "_law_choices" (top 22) .none f__law_choices d__law_choices) (b__law_choices:L2.Binds K d__law_choices ["_law_many","_law_size"] []) (G__law_choices:FnOk P w K mg base CX0 1 f__law_choices d__law_choices ["_law_many","_law_size"] (spChoices)) {f__law_square:Addr} {d__law_square:FuncData} (A__law_square:FnAt K mg "_law_square" "_law_square" (top 21) .none f__law_square d__law_square) (b__law_square:L2.Binds K d__law_square ["_law_table_here","_law_lines","_law_columns"] []) (G__law_square:FnOk P w K mg base CX0 3 f__law_square d__law_square ["_law_table_here","_law_lines","_law_columns"] (spSquare 3)) {f__law_divisor:Addr} {d__law_divisor:FuncData} (A__law_divisor:FnAt K mg "_law_divisor" "_law_divisor" (top 20) .none f__law_divisor d__law_divisor) (b__law_divisor:L2.Binds K d__law_divisor ["_law_numbers"] []) (G__law_divisor:FnOk P w K mg base CX0 1 f__law_divisor d__law_divisor ["_law_numbers"] (spDiv K)) {f__law_alike:Addr} {d__law_alike:FuncData} (A__law_alike:FnAt K mg "_law_alike" "_law_alike" (top 17) .none f__law_alike d__law_alike) (b__law_alike:L2.Binds K d__law_alike ["_law_found","_law_due"] []) (G__law_alike:FnOk P w K mg base CX0 2 f__law_alike d__law_alike ["_law_found","_law_due"] (spAlkL))
    (M_Form:Mk K CF fF) (b_Form___init__:L2.Binds K fdF ["self","table","wide"] []) (G_Form___init__:FnOk P w K mg base CX0 5 fF fdF ["self","table","wide"] (spInitF CF)):FnOk P w K mg base CX0 7 f fd ["_law_script"] (spLaw K):=by
  have nd:=scLaw.nd
  refine F.ok scLaw (fun vs H Q E h=>?_) (fun cdv A outer s H vs Q E hr h=>?_)
  · obtain ⟨a,ns,rfl,_⟩:=h
    rfl
  · obtain ⟨a,ns,rfl,ha,hlen,q⟩:=h
    refine ⟨_,(pss_cons (ps_set (i:=1) nd rfl (Or.inl rfl) (pe_call (G__law_box.mono (by decide)) hr rfl A__law_box.mg A__law_box.kp b__law_box .nil pass0 (pa_cons (pv 0) pa_nil)))
      (pss_cons (ps_set (i:=2) nd rfl (Or.inl rfl) (pe_op op_add pe_int (pe_call (G__law_take.mono (by decide)) hr rfl A__law_take.mg A__law_take.kp b__law_take .nil pass0 (pa_cons (pv 1) (pa_cons pe_int pa_nil)))))
      (pss_cons (ps_set (i:=3) nd rfl (Or.inl rfl) (pe_op op_add pe_int (pe_call (G__law_take.mono (by decide)) hr rfl A__law_take.mg A__law_take.kp b__law_take .nil pass0 (pa_cons (pv 1) (pa_cons pe_int pa_nil)))))
      (pss_cons (ps_set (i:=4) nd rfl (Or.inr rfl) (pe_call (G__law_table.mono (by decide)) hr rfl A__law_table.mg A__law_table.kp b__law_table .nil pass0 (pa_cons (pv 1) (pa_cons (pv 2) (pa_cons (pv 3) pa_nil)))))
      (pss_cons (ps_set (i:=5) nd rfl (Or.inl rfl) (pe_lst pa_nil))
      (pss_cons (ps_set (i:=6) nd rfl (Or.inl rfl) pe_int)
      (pss_cons (ps_for PassesOwn.never rfl (pi_range2 (by rfl) T.n_range (pa_cons pe_int (pa_cons (pe_op op_add (pe_callB (call_min2 (by rfl)) (by rfl) T.n_min boot_min (pa_cons (pv 2) (pa_cons (pv 3) pa_nil))) pe_int) pa_nil))) (pg_name (i:=7) nd rfl (Or.inl rfl)) (pss_cons (ps_set (i:=8) nd rfl (Or.inl rfl) (pe_lst pa_nil))
      (pss_cons (ps_for PassesOwn.never rfl (pi_list (pe_call (G__law_choices.mono (by decide)) hr rfl A__law_choices.mg A__law_choices.kp b__law_choices .nil pass0 (pa_cons (pv 2) (pa_cons (pv 7) pa_nil)))) (pg_name (i:=9) nd rfl (Or.inr rfl)) (pss_one (ps_set (i:=8) nd rfl (Or.inl rfl) (pe_op (op_cat) (pv 8) (pe_comp (by rfl) (compOk (N:=["_law_columns","_law_table_here","_law_lines"]) (ix:=[none,some 4,some 9])) (pi_list (pe_call (G__law_choices.mono (by decide)) hr rfl A__law_choices.mg A__law_choices.kp b__law_choices .nil pass0 (pa_cons (pv 3) (pa_cons (pv 7) pa_nil)))) (by intro _ _ _ _ _; exact PG.to (pg_name (i:=0) (show (["_law_columns","_law_table_here","_law_lines"]:List Str).Nodup by decide +kernel) rfl (Or.inl rfl)) (by (try simp only [inX_K]); rfl)) (by intro _ _ _ _ _; exact PE.to (pe_call (G__law_square.mono (by decide)) hr rfl A__law_square.mg A__law_square.kp b__law_square .nil pass0 (pa_cons (pv 1) (pa_cons (pv 2) (pa_cons (pv 0) pa_nil)))) (by (try simp only [inX_K]); rfl)))))))
      (pss_cons (ps_set (i:=10) nd rfl (Or.inl rfl) (pe_call (G__law_divisor.mono (by decide)) hr rfl A__law_divisor.mg A__law_divisor.kp b__law_divisor .nil pass0 (pa_cons (pv 8) pa_nil)))
      (pss_one (ps_if (pt_cmpR op_gt (pv 10) pe_int (nomark _)) (pss_cons (ps_expr (pe_bm PySem.F.plainAttrs_list PySem.F.slot_list_append PySem.F.type_list_append mt_append (pv 5) (pa_cons (pe_op op_fdivX (pv 10) (pv 6)) pa_nil)))
      (pss_one (ps_set (i:=6) nd rfl (Or.inl rfl) (pv 10)))) pss_nil))))))
      (pss_one (ps_ret (pe_call (G__law_alike.mono (by decide)) hr rfl A__law_alike.mg A__law_alike.kp b__law_alike .nil pass0 (pa_cons (pe_callTy call_list_of (by rfl) T.n_list boot_list (pa_cons (pe_fld (pe_make M_Form (G_Form___init__.mono (by decide)) hr rfl T.mg_Form b_Form___init__ .nil pass0 (pa_cons (pe_comp (by rfl) (compOk (N:=["_law_line"]) (ix:=[none])) (pi_list (pv 4)) (by intro _ _ _ _ _; exact PG.to (pg_name (i:=0) (show (["_law_line"]:List Str).Nodup by decide +kernel) rfl (Or.inl rfl)) (by (try simp only [inX_K]); rfl)) (by intro _ _ _ _ _; exact PE.to (pe_callTy call_list_of (by rfl) T.n_list boot_list (pa_cons (pv 0) pa_nil)) (by (try simp only [inX_K]); rfl))) (pa_cons (pv 3) pa_nil))) rfl) pa_nil)) (pa_cons (pv 5) pa_nil)))))))))))),?_⟩
    refine ⟨_,rfl,a,ns,rfl,ha,hlen,fun B S H1 z1 hB0 hS0 bx1=>?_⟩
    refine ⟨_,rfl,B,S,_,rfl,bx1,by decide,by decide,fun r H2 r0 r1 bx2 b2=>⟨_,_,rfl,rfl,?_⟩⟩
    obtain ⟨j,rfl⟩:=Int.eq_ofNat_of_zero_le r0
    dsimp only
    rw [show (1 + (j:Int))=((1 + j:Nat):Int) by omega]
    generalize eh:1 + j=h
    have h1:1≤h:=by omega
    have h3:h≤3:=by omega
    clear eh r1 r0 j
    refine ⟨_,rfl,B,S,_,rfl,bx2,by decide,by decide,fun r H3 r0 r1 bx3 b3=>⟨_,_,rfl,rfl,?_⟩⟩
    obtain ⟨j,rfl⟩:=Int.eq_ofNat_of_zero_le r0
    dsimp only
    rw [show (1 + (j:Int))=((1 + j:Nat):Int) by omega]
    generalize eh:1 + j=wd
    have w1:1≤wd:=by omega
    have w3:wd≤3:=by omega
    clear eh r1 r0 j
    refine ⟨_,rfl,_,rfl,_,rfl,B,S,h,wd,rfl,bx3,h1,h3,w1,w3,fun t rows H4 bx4 b4 tb=>?_⟩
    refine ⟨(show 0≤sizeLine by decide),fun du hdu=>?_⟩
    have s5:=same_upd (o:=.lst []) hdu
    have tb5:Tb (upd H4 du (.lst [])) du t h wd 300 rows:=(tb.re (B':=du) (fun c o e z=>by rw [z,hdu] at e; cases e)).same s5
    have zr:=tb.zr
    have le:=tb.le
    have hdu5:=upd_same (H:=H4) (a:=du) (o:=.lst [])
    generalize upd H4 du (.lst [])=H5 at *
    clear tb s5 hdu bx4 b4 b3 b2 bx2 bx3 bx1 z1 hB0 hS0
    have mn:(if (wd:Int) < (h:Int) then (wd:Int) else (h:Int))=((min h wd:Nat):Int):=by
      split <;> omega
    refine ⟨_,rfl,_,rfl,_,_,rfl,?_⟩
    rw [mn]
    refine ⟨_,_,rfl,rfl,_,_,rfl,⟨by decide,by decide,by omega,by omega⟩,?_⟩
    rw [show (((min h wd:Nat):Int) + 1 - 1).toNat=min h wd by omega]
    refine for_range (lo:=1) (n:=min h wd) (fun i σ H'=>Tb H' du t h wd 300 rows∧∃ gs:List Nat,gs.length=i∧(∀ k g,gs[k]?=some g→M4.IsG (entF rows) h wd (k + 1) g)∧H' du=some (.lst ((M4.dueS gs).2.map V.int))∧∃ v7 v8 v9 v10:Option V,σ=[some (.ref a),some (.ref B),some (.int h),some (.int wd),some (.ref t),some (.ref du),some (.int (M4.dueS gs).1),v7,v8,v9,v10]) ⟨tb5,[],rfl,fun k g e=>(by cases e),hdu5,none,none,none,none,rfl⟩ ?_ ?_
    · rintro i σ H6 hi ⟨tb6,gs,hgl,hG,hdu6,v7,v8,v9,v10,rfl⟩
      have k3:i + 1≤3:=by omega
      rw [show (1 + (i:Int))=((i + 1:Nat):Int) by omega]
      obtain ⟨ch8,chl⟩:=chs_ok h h3 (i + 1) k3
      obtain ⟨cw8,cwl⟩:=chs_ok wd w3 (i + 1) k3
      refine ⟨(show 0≤sizeLine by decide),fun s0 hs0=>?_⟩
      have s7:=same_upd (o:=.lst []) hs0
      have hs7:=upd_same (H:=H6) (a:=s0) (o:=.lst [])
      generalize upd H6 s0 (.lst [])=H7 at *
      refine ⟨_,rfl,_,rfl,h,i + 1,rfl,h3,fun cl ps H8 s8 hcl lsA eps=>?_⟩
      refine ⟨cl,rfl,⟨_,SqL.of hcl⟩,?_⟩
      have rl:(refsP ps).length=ps.length:=List.length_map ..
      refine for_list (K:=K) (a:=cl) (xs:=refsP ps) (fun j σ H9=>Same H8 H9∧∃ (sa:Addr) (v9:Option V),σ=[some (.ref a),some (.ref B),some (.int h),some (.int wd),some (.ref t),some (.ref du),some (.int (M4.dueS gs).1),some (.int ((i + 1:Nat):Int)),some (.ref sa),v9,v10]∧H9 sa=some (.lst ((((M4.chs h (i + 1)).take j).flatMap fun l=>(M4.chs wd (i + 1)).map fun c=>M4.sq (entF rows) l c).map V.int))) ⟨Same.refl _,s0,v9,rfl,s8 _ _ hs7⟩ ?_ ?_ ?_
      · rintro j σ H9 _ ⟨s9,_⟩
        exact SqL.of (s9 _ _ hcl)
      · rintro j x σ H9 hx ⟨s9,sa,v9,rfl,hsa⟩
        have hj:j < ps.length:=by rw [← rl]; exact (List.getElem?_eq_some_iff.mp hx).1
        have hx':x=V.ref ps[j].1:=by
          unfold refsP at hx
          rw [List.getElem?_map,List.getElem?_eq_getElem hj] at hx
          exact (Option.some.inj hx).symm
        subst hx'
        have sj:(M4.chs h (i + 1))[j]?=some ps[j].2:=by rw [← eps,List.getElem?_map,List.getElem?_eq_getElem hj]; rfl
        obtain ⟨lj,ljh⟩:=chl _ (List.mem_of_getElem? sj)
        have pj:=lsA ps[j] (List.getElem_mem hj)
        have sl:(((M4.chs h (i + 1)).take j).flatMap (fun l=>(M4.chs wd (i + 1)).map fun c=>M4.sq (entF rows) l c)).length≤8 * 8:=by
          have:=flat_len (f:=fun l=>(M4.chs wd (i + 1)).map fun c=>M4.sq (entF rows) l c) (m:=8) ((M4.chs h (i + 1)).take j) (fun l _=>by rw [List.length_map]; exact cw8)
          refine Nat.le_trans this (Nat.mul_le_mul_right _ ?_)
          rw [List.length_take]; omega
        refine ⟨_,rfl,_,rfl,_,rfl,wd,i + 1,rfl,w3,fun c2 qs H10 s10 hc2 lq eq2=>?_⟩
        refine ⟨c2,rfl,⟨_,SqL.of hc2⟩,?_⟩
        have ql:(refsP qs).length=qs.length:=List.length_map ..
        have ql8:qs.length≤8:=by have:=congrArg List.length eq2; rw [List.length_map] at this; omega
        have tb10:=((tb6.same s7).same s8).same (s9.trans s10)
        refine compL (K:=K) (a:=c2) (xs:=refsP qs) (fun m ys H11=>Same H10 H11∧ys=(((M4.chs wd (i + 1)).take m).map fun c=>M4.sq (entF rows) ps[j].2 c).map V.int) ⟨Same.refl _,rfl⟩ ?_ (by rw [ql]; exact small1000' (by omega)) ?_ ?_
        · rintro m ys H11 hm ⟨s11,rfl⟩
          refine ⟨SqL.of (s11 _ _ hc2),?_⟩
          rw [List.length_map,List.length_map,List.length_take,← eq2,List.length_map]
          rw [ql] at hm
          omega
        · rintro m x ys H11 R hx ⟨s11,rfl⟩ kR
          have hm:m < qs.length:=by rw [← ql]; exact (List.getElem?_eq_some_iff.mp hx).1
          have hx':x=V.ref qs[m].1:=by
            unfold refsP at hx
            rw [List.getElem?_map,List.getElem?_eq_getElem hm] at hx
            exact (Option.some.inj hx).symm
          subst hx'
          have sm:(M4.chs wd (i + 1))[m]?=some qs[m].2:=by rw [← eq2,List.getElem?_map,List.getElem?_eq_getElem hm]; rfl
          obtain ⟨lm,lmw⟩:=cwl _ (List.mem_of_getElem? sm)
          refine ⟨StLe.set rfl,_,rfl,_,rfl,_,rfl,du,t,ps[j].1,qs[m].1,h,wd,rows,ps[j].2,qs[m].2,rfl,tb10.same s11,(s9.trans (s10.trans s11)) _ _ pj,s11 _ _ (lq qs[m] (List.getElem_mem hm)),by omega,by omega,by omega,by omega,ljh,lmw,fun H12 s12=>kR _ _ ⟨s11.trans s12,?_⟩⟩
          rw [take_succ' sm]
          simp
        · rintro ys H11 ⟨s11,rfl⟩ d hd
          rw [ql,List.take_of_length_le (by rw [← eq2,List.length_map]; exact Nat.le_refl _)]
          have s12:=same_upd (o:=.lst (((M4.chs wd (i + 1)).map fun c=>M4.sq (entF rows) ps[j].2 c).map V.int)) hd
          refine ⟨sa,d,_,_,rfl,rfl,(s10.trans (s11.trans s12)) _ _ hsa,upd_same,small1000' (by rw [List.length_map,List.length_map,List.length_map]; omega),fun e he=>?_⟩
          have s13:=same_upd (o:=.lst (((((M4.chs h (i + 1)).take j).flatMap fun l=>(M4.chs wd (i + 1)).map fun c=>M4.sq (entF rows) l c).map V.int) ++ (((M4.chs wd (i + 1)).map fun c=>M4.sq (entF rows) ps[j].2 c).map V.int))) he
          refine ⟨s9.trans (s10.trans (s11.trans (s12.trans s13))),e,_,rfl,?_⟩
          rw [upd_same,take_succ' sj,List.flatMap_append,List.map_append]
          simp
      · rintro σ H9 ⟨s9,sa,v9,rfl,hsa⟩
        rw [rl,List.take_of_length_le (by rw [← eps,List.length_map]; exact Nat.le_refl _)] at hsa
        have hsq:H9 sa=some (.lst ((M4.squares (entF rows) h wd (i + 1)).map V.int)):=hsa
        have sql:(M4.squares (entF rows) h wd (i + 1)).length≤1000:=by
          have:=flat_len (f:=fun l=>(M4.chs wd (i + 1)).map fun c=>M4.sq (entF rows) l c) (m:=8) (M4.chs h (i + 1)) (fun l _=>by rw [List.length_map]; exact cw8)
          have h2:=Nat.mul_le_mul_right 8 ch8
          exact Nat.le_trans this (by omega)
        refine ⟨_,rfl,sa,_,rfl,SqL.of hsq,sql,fun n hn=>?_,fun g H10 s10 hg=>?_⟩
        · obtain ⟨l,hl,c,_,rfl⟩:=M4.mem_sq.mp hn
          have:=M4.sq_bound le (cs:=c) (show l.length≤3 by rw [(chl l hl).1]; exact k3)
          omega
        · have hGg:M4.IsG (entF rows) h wd (i + 1) g:=hg
          have gsm:g≤162000000:=M4.g_small le (fun l hl=>by rw [(chl l hl).1]; exact k3) hGg
          have hG':∀ k x,(gs ++ [g])[k]?=some x→M4.IsG (entF rows) h wd (k + 1) x:=fun k x e=>by
            by_cases hk:k < gs.length
            · rw [List.getElem?_append_left hk] at e
              exact hG k x e
            · have:k=gs.length:=by
                have:=(List.getElem?_eq_some_iff.mp e).1
                rw [List.length_append,List.length_singleton] at this
                omega
              subst this
              rw [List.getElem?_append_right (Nat.le_refl _),Nat.sub_self] at e
              cases e
              rw [hgl]; exact hGg
          have gall:∀ x∈gs,x≤162000000:=fun x hx=>by
            obtain ⟨k,hk⟩:=List.mem_iff_getElem?.mp hx
            have kl:=(List.getElem?_eq_some_iff.mp hk).1
            exact M4.g_small le (fun l hl=>by rw [((chs_ok h h3 (k + 1) (by omega)).2 l hl).1]; omega) (hG k x hk)
          obtain ⟨ap,al⟩:=dueS_pos (gs:=gs) (1,[]) gall (by decide) (by decide)
          have sA:=s7.trans (s8.trans (s9.trans s10))
          have tb10:=tb6.same sA
          have hdu10:=sA _ _ hdu6
          have dl:=dueS_len (gs:=gs) (1,[])
          refine ⟨_,rfl,_,_,rfl,rfl,_,rfl,ite2 (fun hc=>?_) (fun hc=>?_)⟩
          · have hc:(0:Int) < (g:Int):=of_decide_eq_true hc
            refine ⟨_,rfl,.inl ⟨rfl,_,SqL.of hdu10⟩,_,rfl,_,rfl,_,_,rfl,rfl,⟨by show (M4.dueS gs).1≠0; unfold M4.dueS; omega,log_small (Nat.lt_of_le_of_lt (show (M4.dueS gs).1.natAbs≤162000000 by unfold M4.dueS; omega) (by decide))⟩,du,_,_,rfl,rfl,hdu10,small1000 (by rw [List.length_map]; show (M4.dueS gs).2.length≤1000; unfold M4.dueS; simp at dl; omega),?_⟩
            refine ⟨_,rfl,tb10.but But.upd,gs ++ [g],by simp [hgl],hG',?_,some (.int ((i + 1:Nat):Int)),some (.ref sa),v9,some (.int g),?_⟩
            · rw [upd_same,dueS_snoc]
              unfold M4.dueStep
              rw [if_pos (by omega),List.map_append]
              rfl
            · rw [dueS_snoc]
              unfold M4.dueStep
              rw [if_pos (by omega)]
              rfl
          · have hc:¬ (0:Int) < (g:Int):=fun e=>hc (decide_eq_true e)
            refine ⟨tb10,gs ++ [g],by simp [hgl],hG',?_,some (.int ((i + 1:Nat):Int)),some (.ref sa),v9,some (.int g),?_⟩
            · rw [dueS_snoc]
              unfold M4.dueStep
              rw [if_neg (by omega)]
              exact hdu10
            · rw [dueS_snoc]
              unfold M4.dueStep
              rw [if_neg (by omega)]
              rfl
    · rintro σ H6 ⟨tb6,gs,hgl,hG,hdu6,v7,v8,v9,v10,rfl⟩
      have rlen:(rows.map fun p=>V.ref p.1).length=h:=by rw [List.length_map,tb6.ln]
      refine ⟨_,rfl,t,rfl,⟨_,SqL.of tb6.tt⟩,?_⟩
      refine compL (K:=K) (a:=t) (xs:=rows.map fun p=>V.ref p.1) (fun i ys H7=>Same H6 H7∧∃ r:Nat→Addr,ys=(mapR i r).map V.ref∧∀ k,k < i→H7 (r k)=some (.lst ((mapR wd (entF rows k)).map V.int))) ⟨Same.refl _,fun _=>t,rfl,fun k hk=>absurd hk (Nat.not_lt_zero _)⟩ ?_ (by rw [rlen]; exact small1000' (by omega)) ?_ ?_
      · rintro i ys H7 hi ⟨s7,r,rfl,_⟩
        exact ⟨SqL.of (s7 _ _ tb6.tt),by rw [List.length_map,mapR_len]⟩
      · rintro i v ys H7 R hv ⟨s7,r,rfl,hr7⟩ kR
        have hi:i < rows.length:=by rw [tb6.ln,← rlen]; exact (List.getElem?_eq_some_iff.mp hv).1
        rw [rowAt hi] at hv
        cases hv
        obtain ⟨e1,_⟩:=tb6.rw' rows[i] (List.getElem_mem hi)
        rw [tb6.row hi] at e1
        refine ⟨StLe.set rfl,_,rfl,rows[i].1,_,rfl,.inl (SqL.of (s7 _ _ e1)),fun l hl=>?_⟩
        have s8:=same_upd (o:=.lst ((mapR wd (entF rows i)).map V.int)) hl
        refine kR _ _ ⟨s7.trans s8,fun k=>if k=i then l else r k,?_,fun k hk=>?_⟩
        · rw [mapR_succ,if_pos rfl,List.map_append]
          have:(mapR i fun k=>if k=i then l else r k)=mapR i r:=mapR_ext fun k hk=>if_neg (by omega)
          rw [this]
          rfl
        · dsimp only
          by_cases z:k=i
          · subst z
            rw [if_pos rfl]
            exact upd_same
          · rw [if_neg z]
            exact s8 _ _ (hr7 k (by omega))
      · rintro ys H7 ⟨s7,r,rfl,hr7⟩ lt hlt
        rw [rlen] at hr7 ⊢
        have s8:=same_upd (o:=.lst ((mapR h r).map V.ref)) hlt
        have hlt8:=upd_same (H:=H7) (a:=lt) (o:=.lst ((mapR h r).map V.ref))
        have hdu8:=(s7.trans s8) _ _ hdu6
        have hr8:∀ k,k < h→upd H7 lt (.lst ((mapR h r).map V.ref)) (r k)=some (.lst ((mapR wd (entF rows k)).map V.int)):=fun k hk=>s8 _ _ (hr7 k hk)
        generalize upd H7 lt (.lst ((mapR h r).map V.ref))=H8 at *
        refine ⟨_,rfl,fun y dy hy hdy ne=>?_⟩
        have s9:Same H8 (upd (upd H8 dy (.own y)) y (.ins CF dy [])):=fun b o e=>by
          rw [upd_ne (ne_of_none e hy),upd_ne (ne_of_none e hdy)]; exact e
        refine ⟨y,dy,lt,h,wd,entF rows,r,rfl,upd_same,s9 _ _ hlt8,fun k hk=>s9 _ _ (hr8 k hk),h1,h3,w1,w3,zr,le,fun k a' sl st lf ul rt ur H9 D hy9 hst bt=>⟨rfl,?_⟩⟩
        refine ⟨y,CF,dy,_,V.ref st,rfl,hy9,T.clF,T.ft,formF_steps sl st lf ul rt ur,st,_,rfl,.inl (SqL.of hst),fun l hl=>?_⟩
        have s10:=same_upd (o:=.lst ((mapR k fun i=>a' i i).map V.int)) hl
        have hdu9:=bt _ _ (s9 _ _ hdu8) (ne_of_none hdu8 hy)
        rw [M4.due_ok D h3 w3 zr h1 w1 hgl hG] at hdu9
        have k3:=D.k3
        exact ⟨_,rfl,l,du,mapR k fun i=>a' i i,rfl,upd_same,s10 _ _ hdu9,by rw [mapR_len]; omega,fun H11 _=>q _⟩
end
end KF
namespace L2
open PySem PySem.Spec PyProof.Rows
def OkF (f0 f1:Value):Prop:=(f0=.none∨∃ a t,f0=.int a t)∧∃ b,f1=.bool b
section
variable {prog:Program} {w:World} {A:Around} {E:Value→Shared→Prop} {s:Shared}
theorem wp_alive {a:Addr} {Q:Option Obj→Shared→Prop} (h:Q (s.heap.get? a) s):wpAny (model prog w) A (loadIfAlive a) Q E s:=fun Γ p _=>by
  unfold loadIfAlive
  rw [Sem.wp_loadIfAlive,Sem.wp_pure]
  exact h
theorem free_t {z TI TO:Addr} {f0 f1:Value} (hz:s.heap.get? z=some { cls:=.type "zip",dict:=none,data:=.fields #[f0,f1,.bool false,.ref TI,.ref TO],slots:=#[] }) (hf:f0=.none∨∃ a t,f0=.int a t∧s.heap.get? a.toNat=none) (R:Bool→Shared→Prop) (h:R true s):wpAny (model prog w) A (Builtin.SmallTypes.ownedTupleIsFree (.ref z)) R E s:=by
  unfold Builtin.SmallTypes.ownedTupleIsFree
  rcases hf with rfl | ⟨a,t,rfl,ha⟩
  · exact wpAny_bind (wpAny_field hz rfl (x:=.none) rfl (wpAny_pure h))
  · refine wpAny_bind (wpAny_field hz rfl (x:=.int a t) rfl ?_)
    refine wpAny_bind (wp_alive ?_)
    rw [ha]
    exact wpAny_pure h
theorem free_f {z TI TO:Addr} {a:Int} {t:Tok} {b:Bool} {o:Obj} (hz:s.heap.get? z=some { cls:=.type "zip",dict:=none,data:=.fields #[.int a t,.bool b,.bool false,.ref TI,.ref TO],slots:=#[] }) (ho:s.heap.get? a.toNat=some o) (R:Bool→Shared→Prop)
    (h:∀ h' b,h'.get? z=some { cls:=.type "zip",dict:=none,data:=.fields #[.int a t,.bool b,.bool false,.ref TI,.ref TO],slots:=#[] }→Heap.SameBut z s.heap h'→R false { s with heap:=h' }):wpAny (model prog w) A (Builtin.SmallTypes.ownedTupleIsFree (.ref z)) R E s:=by
  unfold Builtin.SmallTypes.ownedTupleIsFree
  refine wpAny_bind (wpAny_field hz rfl (x:=.int a t) rfl ?_)
  refine wpAny_bind (wp_alive ?_)
  rw [ho]
  simp only [Option.isNone_some,Bool.false_eq_true,if_false]
  refine wpAny_bind (wpAny_field hz rfl (x:=.bool b) rfl ?_)
  cases b with
  | true=>exact wpAny_bind (wpAny_pure (wpAny_pure (h s.heap true hz (Heap.SameBut.refl _ _))))
  | false =>
    refine wpAny_bind (wpAny_setField_rec hz (by simp) fun g y c=>wpAny_pure ?_)
    exact h g true y c
def ItZ (K:PySem.W.Frag) (N:Nat) (ls:List Addr):It :=
  ⟨fun i H=>i < N∧∀ l∈ls,∃ xs,SqL K H l xs∧xs.length=N,fun _ H p H'=>∃ T xs,p=.ref T∧H T=none∧H'=upd H T (.tup xs),fun i H=>i=N∧∀ l∈ls,∃ xs,SqL K H l xs∧xs.length=N⟩
structure ZA1 (z TI TO i1 l1:Addr):Prop where
  z_TI:z≠TI
  z_TO:z≠TO
  z_i1:z≠i1
  TI_z:TI≠z
  TI_TO:TI≠TO
  TI_i1:TI≠i1
  TO_z:TO≠z
  TO_TI:TO≠TI
  TO_i1:TO≠i1
  i1_z:i1≠z
  i1_TI:i1≠TI
  i1_TO:i1≠TO
  l1_z:l1≠z
  l1_TI:l1≠TI
  l1_TO:l1≠TO
  l1_i1:l1≠i1
theorem zipA1 {z TI TO i1 l1:Addr} {k:Nat} {xs1:Array Value} {x1 a1:Value} {f0 f1:Value} {Q:Value→Shared→Prop} (D:ZA1 z TI TO i1 l1) (hI:s.heap.get? TI=some { cls:=.type "tuple",data:=.seq #[.ref i1] }) (hO:s.heap.get? TO=some { cls:=.type "tuple",data:=.seq #[a1] }) (h1:s.heap.IsListIter i1 l1 k) (L1:s.heap.IsList l1 xs1) (e1:xs1[k]?=some x1) (hz:s.heap.get? z=some { cls:=.type "zip",dict:=none,data:=.fields #[f0,f1,.bool false,.ref TI,.ref TO],slots:=#[] }) (hfree:∀ (R:Bool→Shared→Prop),R true s→wpAny (model prog w) A (Builtin.SmallTypes.ownedTupleIsFree (.ref z)) R E s)
    (q:∀ h' tk f0 f1 b1,h'.get? z=some { cls:=.type "zip",dict:=none,data:=.fields #[f0,f1,.bool false,.ref TI,.ref TO],slots:=#[] }→OkF f0 f1→h'.get? TI=some { cls:=.type "tuple",data:=.seq #[.ref i1] }→h'.get? TO=some { cls:=.type "tuple",data:=.seq #[b1] }→h'.IsListIter i1 l1 (k + 1)→h'.get? s.heap.objs.size=some { cls:=.type "tuple",data:=.seq #[x1] }→(∀ c o,c≠z→c≠TO→c≠i1→s.heap.get? c=some o→h'.get? c=some o)→Q (.ref s.heap.objs.size) { s with heap:=h',toks:=tk }) :
    wpAny (model prog w) A (Builtin.«zip.__next__» ⟨[.ref z],[]⟩) (fun fin s'=>∃ v,fin=.done (.ret v)∧Q v s') E s:=by
  show wpAny (model prog w) A (field (.ref z) 2 >>= _) _ _ _
  refine wpAny_bind (wpAny_field hz rfl (x:=.bool false) rfl ?_)
  show wpAny (model prog w) A (field (.ref z) 3 >>= _) _ _ _
  refine wpAny_bind (wpAny_field hz rfl (x:=.ref TI) rfl ?_)
  refine wpAny_bind (wpAny_seqItems hI rfl ?_)
  show wpAny (model prog w) A (Builtin.SmallTypes.ownedTupleIsFree (.ref z) >>= _) _ _ _
  refine wpAny_bind (hfree _ ?_)
  simp only [if_true]
  refine wpAny_bind (wpAny_rule ?_)
  refine wpAny_bind (wpAny_field hz rfl (x:=.ref TO) rfl ?_)
  refine wpAny_bind (wpAny_setField_rec hz (by simp) fun g0 z0 c0=>?_)
  replace z0:g0.get? z=some { cls:=.type "zip",dict:=none,data:=.fields #[.ellipsis,f1,.bool false,.ref TI,.ref TO],slots:=#[] }:=z0
  have up0:∀ c o,c≠z→s.heap.get? c=some o→g0.get? c=some o:=fun c o e1 e=>c0.extBut _ _ e1 e
  have o0:=up0 _ _ D.TO_z hO
  have h1:=h1.at fun o e=>up0 _ _ D.i1_z e
  have L1:=L1.at fun o e=>up0 _ _ D.l1_z e
  refine wpAny_bind ?_
  simp only [List.zipIdx_cons,List.zipIdx_nil,List.forIn_cons,List.forIn_nil]
  refine wpAny_bind (wpAny_bind (wpAny_onRaise ?_))
  show wpAny (model prog w) _ (Builtin.SmallTypes.nextOf (.ref i1) >>= _) _ _ _
  refine wpAny_bind (wpAny_nextOf_list_item h1 L1 e1 fun p1 t1 c1a=>wpAny_pure ?_)
  have o1a:p1.get? TO=some { cls:=.type "tuple",data:=.seq #[a1] }:=c1a.extBut _ _ D.TO_i1 o0
  refine wpAny_bind (wpAny_seqItems o1a rfl ?_)
  refine wpAny_bind (wpAny_updateSeq o1a rfl ?_)
  have c1b:=Heap.SameBut.update p1 TO (Obj.mapSeq fun r=>r.setIfInBounds 0 x1)
  have o1:(p1.update TO (Obj.mapSeq fun r=>r.setIfInBounds 0 x1)).get? TO=some { cls:=.type "tuple",data:=.seq #[x1] }:=by rw [Heap.get?_update_self _ o1a rfl]; simp [Obj.mapSeq]
  generalize p1.update TO (Obj.mapSeq fun r=>r.setIfInBounds 0 x1)=g1 at *
  have up1:∀ c o,c≠i1→c≠TO→g0.get? c=some o→g1.get? c=some o:=fun c o e1 e2 e=>c1b.extBut _ _ e2 (c1a.extBut _ _ e1 e)
  have t1:=t1.at fun o e=>c1b.extBut _ _ D.i1_TO e
  have z1:=up1 _ _ D.z_i1 D.z_TO z0
  refine wpAny_bind (wpAny_letGo (wpAny_pure (wpAny_pure ?_)))
  refine wpAny_bind (wpAny_seqItems o1 rfl ?_)
  refine wpAny_bind (wpAny_newTuple ?_)
  have sz:g1.objs.size=s.heap.objs.size:=by rw [c1b.1,c1a.1,c0.1]
  have kp:∀ c o,c≠z→c≠TO→c≠i1→s.heap.get? c=some o→g1.get? c=some o:=fun c o nz nTO ni1 e=>up1 _ _ ni1 nTO (up0 _ _ nz e)
  have TIg:g1.get? TI=some { cls:=.type "tuple",data:=.seq #[.ref i1] }:=kp _ _ D.TI_z D.TI_TO D.TI_i1 hI
  have lz:z < g1.objs.size:=Heap.lt_size z1
  show wpAny (model prog w) A (Builtin.SmallTypes.ownedTupleHandOut (.ref z) (.ref g1.objs.size) >>= _) _ _ _
  refine wpAny_bind ?_
  unfold Builtin.SmallTypes.ownedTupleHandOut
  have y6:(g1.push { cls:=.type "tuple",data:=.seq #[x1] }).get? z=some { cls:=.type "zip",dict:=none,data:=.fields #[.ellipsis,f1,.bool false,.ref TI,.ref TO],slots:=#[] }:=Heap.get?_push_of_some _ z1
  refine wpAny_bind (wpAny_setField_rec y6 (by simp) fun g7 y7 d7=>?_)
  replace y7:g7.get? z=some { cls:=.type "zip",dict:=none,data:=.fields #[(rawInt g1.objs.size),f1,.bool false,.ref TI,.ref TO],slots:=#[] }:=y7
  refine wpAny_setField_rec y7 (by simp) fun g8 y8 d8=>?_
  replace y8:g8.get? z=some { cls:=.type "zip",dict:=none,data:=.fields #[(rawInt g1.objs.size),(.bool false),.bool false,.ref TI,.ref TO],slots:=#[] }:=y8
  have up8:∀ c o,c≠z→g1.get? c=some o→g8.get? c=some o:=fun c o e1 e=>d8.extBut _ _ e1 (d7.extBut _ _ e1 (Heap.get?_push_of_some _ e))
  have p8:g8.get? g1.objs.size=some { cls:=.type "tuple",data:=.seq #[x1] }:=d8.extBut _ _ (Nat.ne_of_gt lz) (d7.extBut _ _ (Nat.ne_of_gt lz) (Heap.get?_push_size _ rfl))
  rw [sz] at p8
  refine wpAny_pure ⟨_,rfl,?_⟩
  show Q (.ref g1.objs.size) _
  rw [sz]
  exact q g8 _ _ _ x1 y8 ⟨.inr ⟨_,_,rfl⟩,⟨_,rfl⟩⟩ (up8 _ _ D.TI_z TIg) (up8 _ _ D.TO_z o1) (t1.at fun o e=>up8 _ _ D.i1_z e) p8 fun c o nz nTO ni1 e=>up8 _ _ nz (kp c o nz nTO ni1 e)
theorem zipB1 {z TI TO i1 l1:Addr} {k:Nat} {xs1:Array Value} {x1 a1:Value} {f0 f1:Value} {Q:Value→Shared→Prop} (D:ZA1 z TI TO i1 l1) (hI:s.heap.get? TI=some { cls:=.type "tuple",data:=.seq #[.ref i1] }) (hO:s.heap.get? TO=some { cls:=.type "tuple",data:=.seq #[a1] }) (h1:s.heap.IsListIter i1 l1 k) (L1:s.heap.IsList l1 xs1) (e1:xs1[k]?=some x1) (hz:s.heap.get? z=some { cls:=.type "zip",dict:=none,data:=.fields #[f0,f1,.bool false,.ref TI,.ref TO],slots:=#[] }) (hf:OkF f0 f1) (hfree:∀ (R:Bool→Shared→Prop),(∀ h' b,h'.get? z=some { cls:=.type "zip",dict:=none,data:=.fields #[f0,(.bool b),.bool false,.ref TI,.ref TO],slots:=#[] }→Heap.SameBut z s.heap h'→R false { s with heap:=h' })→wpAny (model prog w) A (Builtin.SmallTypes.ownedTupleIsFree (.ref z)) R E s)
    (q:∀ h' tk f0 f1 b1,h'.get? z=some { cls:=.type "zip",dict:=none,data:=.fields #[f0,f1,.bool false,.ref TI,.ref TO],slots:=#[] }→OkF f0 f1→h'.get? TI=some { cls:=.type "tuple",data:=.seq #[.ref i1] }→h'.get? TO=some { cls:=.type "tuple",data:=.seq #[b1] }→h'.IsListIter i1 l1 (k + 1)→h'.get? s.heap.objs.size=some { cls:=.type "tuple",data:=.seq #[x1] }→(∀ c o,c≠z→c≠TO→c≠i1→s.heap.get? c=some o→h'.get? c=some o)→Q (.ref s.heap.objs.size) { s with heap:=h',toks:=tk }) :
    wpAny (model prog w) A (Builtin.«zip.__next__» ⟨[.ref z],[]⟩) (fun fin s'=>∃ v,fin=.done (.ret v)∧Q v s') E s:=by
  show wpAny (model prog w) A (field (.ref z) 2 >>= _) _ _ _
  refine wpAny_bind (wpAny_field hz rfl (x:=.bool false) rfl ?_)
  show wpAny (model prog w) A (field (.ref z) 3 >>= _) _ _ _
  refine wpAny_bind (wpAny_field hz rfl (x:=.ref TI) rfl ?_)
  refine wpAny_bind (wpAny_seqItems hI rfl ?_)
  show wpAny (model prog w) A (Builtin.SmallTypes.ownedTupleIsFree (.ref z) >>= _) _ _ _
  refine wpAny_bind (hfree _ fun g0 b z0 c0=>?_)
  simp only [Bool.false_eq_true,if_false]
  have up0:∀ c o,c≠z→s.heap.get? c=some o→g0.get? c=some o:=fun c o e1 e=>c0.extBut _ _ e1 e
  have h1:=h1.at fun o e=>up0 _ _ D.i1_z e
  have L1:=L1.at fun o e=>up0 _ _ D.l1_z e
  refine wpAny_bind ?_
  simp only [List.forIn_toArray,List.forIn_cons,List.forIn_nil]
  refine wpAny_bind (wpAny_bind (wpAny_holding ?_))
  show wpAny (model prog w) _ (Builtin.SmallTypes.nextOf (.ref i1) >>= _) _ _ _
  refine wpAny_bind (wpAny_nextOf_list_item h1 L1 e1 fun g1 t1 c1=>wpAny_pure ?_)
  have up1:∀ c o,c≠i1→g0.get? c=some o→g1.get? c=some o:=fun c o e1 e=>c1.extBut _ _ e1 e
  have z1:=up1 _ _ D.z_i1 z0
  refine wpAny_pure (wpAny_pure ?_)
  have sz:g1.objs.size=s.heap.objs.size:=by rw [c1.1,c0.1]
  refine wpAny_bind (wpAny_newTuple ?_ (show 1≤sizeLine by decide))
  refine wpAny_pure ⟨_,rfl,?_⟩
  show Q (.ref g1.objs.size) _
  have p8:(g1.push { cls:=.type "tuple",data:=.seq #[x1] }).get? g1.objs.size=some { cls:=.type "tuple",data:=.seq #[x1] }:=Heap.get?_push_size _ rfl
  rw [sz] at p8 ⊢
  have up8:∀ c o,g1.get? c=some o→(g1.push { cls:=.type "tuple",data:=.seq #[x1] }).get? c=some o:=fun c o e=>Heap.get?_push_of_some _ e
  have kp:∀ c o,c≠z→c≠i1→s.heap.get? c=some o→g1.get? c=some o:=fun c o nz ni1 e=>up1 _ _ ni1 (up0 _ _ nz e)
  exact q _ _ _ _ a1 (up8 _ _ z1) ⟨hf.1,⟨_,rfl⟩⟩ (up8 _ _ (kp _ _ D.TI_z D.TI_i1 hI)) (up8 _ _ (kp _ _ D.TO_z D.TO_i1 hO)) (t1.at fun o e=>up8 _ _ e) p8 fun c o nz nTO ni1 e=>up8 _ _ (kp c o nz ni1 e)
theorem zipItem1 {z TI TO i1 l1:Addr} {k:Nat} {xs1:Array Value} {x1 a1:Value} {f0 f1:Value} {Q:Value→Shared→Prop} (D:ZA1 z TI TO i1 l1) (hI:s.heap.get? TI=some { cls:=.type "tuple",data:=.seq #[.ref i1] }) (hO:s.heap.get? TO=some { cls:=.type "tuple",data:=.seq #[a1] }) (h1:s.heap.IsListIter i1 l1 k) (L1:s.heap.IsList l1 xs1) (e1:xs1[k]?=some x1) (hz:s.heap.get? z=some { cls:=.type "zip",dict:=none,data:=.fields #[f0,f1,.bool false,.ref TI,.ref TO],slots:=#[] }) (hf:OkF f0 f1)
    (q:∀ h' tk f0 f1 b1,h'.get? z=some { cls:=.type "zip",dict:=none,data:=.fields #[f0,f1,.bool false,.ref TI,.ref TO],slots:=#[] }→OkF f0 f1→h'.get? TI=some { cls:=.type "tuple",data:=.seq #[.ref i1] }→h'.get? TO=some { cls:=.type "tuple",data:=.seq #[b1] }→h'.IsListIter i1 l1 (k + 1)→h'.get? s.heap.objs.size=some { cls:=.type "tuple",data:=.seq #[x1] }→(∀ c o,c≠z→c≠TO→c≠i1→s.heap.get? c=some o→h'.get? c=some o)→Q (.ref s.heap.objs.size) { s with heap:=h',toks:=tk }) :
    wpAny (model prog w) A (Builtin.«zip.__next__» ⟨[.ref z],[]⟩) (fun fin s'=>∃ v,fin=.done (.ret v)∧Q v s') E s:=by
  obtain ⟨h0,b,rfl⟩:=id hf
  rcases h0 with rfl | ⟨a,t,rfl⟩
  · exact zipA1 D hI hO h1 L1 e1 hz (fun R h=>free_t hz (.inl rfl) R h) q
  · cases ha:s.heap.get? a.toNat with
    | none=>exact zipA1 D hI hO h1 L1 e1 hz (fun R h=>free_t hz (.inr ⟨a,t,rfl,ha⟩) R h) q
    | some o=>exact zipB1 D hI hO h1 L1 e1 hz hf (fun R h=>free_f hz ha R h) q
theorem zipLast1 {z TI TO i1 l1:Addr} {k:Nat} {xs1:Array Value} {f0 f1:Value} {Q:Fin→Shared→Prop} (D:ZA1 z TI TO i1 l1) (hI:s.heap.get? TI=some { cls:=.type "tuple",data:=.seq #[.ref i1] }) (h1:s.heap.IsListIter i1 l1 k) (L1:s.heap.IsList l1 xs1) (e1:xs1[k]?=none) (hh:A.handled=none) (hz:s.heap.get? z=some { cls:=.type "zip",dict:=none,data:=.fields #[f0,f1,.bool false,.ref TI,.ref TO],slots:=#[] }) (hf:OkF f0 f1)
    (q:∀ h' e,(∀ c o,c≠z→c≠TO→c≠i1→s.heap.get? c=some o→h'.get? c=some o)→(∃ o,h'.get? e=some o∧o.cls=.type "StopIteration")→E (.ref e) { s with heap:=h' }) :
    wpAny (model prog w) A (Builtin.«zip.__next__» ⟨[.ref z],[]⟩) Q E s:=by
  show wpAny (model prog w) A (field (.ref z) 2 >>= _) _ _ _
  refine wpAny_bind (wpAny_field hz rfl (x:=.bool false) rfl ?_)
  show wpAny (model prog w) A (field (.ref z) 3 >>= _) _ _ _
  refine wpAny_bind (wpAny_field hz rfl (x:=.ref TI) rfl ?_)
  refine wpAny_bind (wpAny_seqItems hI rfl ?_)
  show wpAny (model prog w) A (Builtin.SmallTypes.ownedTupleIsFree (.ref z) >>= _) _ _ _
  obtain ⟨h0,b,rfl⟩:=id hf
  rcases h0 with rfl | ⟨a,t,rfl⟩
  · refine wpAny_bind (free_t hz (.inl rfl) _ ?_)
    simp only [if_true]
    refine wpAny_bind (wpAny_rule ?_)
    refine wpAny_bind (wpAny_field hz rfl (x:=.ref TO) rfl ?_)
    refine wpAny_bind (wpAny_setField_rec hz (by simp) fun g0 z0 c0=>?_)
    replace z0:g0.get? z=some { cls:=.type "zip",dict:=none,data:=.fields #[.ellipsis,(.bool b),.bool false,.ref TI,.ref TO],slots:=#[] }:=z0
    refine wpAny_bind ?_
    simp only [List.zipIdx_cons,List.zipIdx_nil,List.forIn_cons,List.forIn_nil]
    refine wpAny_bind (wpAny_bind (wpAny_onRaise ?_))
    show wpAny (model prog w) _ (Builtin.SmallTypes.nextOf (.ref i1) >>= _) _ _ _
    refine wpAny_bind (wpAny_nextOf_list_end hh (h1.at fun o e=>c0.extBut _ _ D.i1_z e) (L1.at fun o e=>c0.extBut _ _ D.l1_z e) e1 fun g2 e c2 he=>?_)
    obtain ⟨oe,ge,ce⟩:=he
    have z2:g2.get? z=some { cls:=.type "zip",dict:=none,data:=.fields #[.ellipsis,(.bool b),.bool false,.ref TI,.ref TO],slots:=#[] }:=c2 _ _ D.z_i1 z0
    have ez:e≠z:=fun y=>by subst y; rw [z2] at ge; cases ge; simp at ce
    exact wpAny_setField_rec z2 (by simp) fun g3 _ c3=>q g3 e (fun c o nz nTO ni1 y=>c3.extBut _ _ nz (c2 _ _ ni1 (c0.extBut _ _ nz y))) ⟨oe,c3.extBut _ _ ez ge,ce⟩
  · cases ha:s.heap.get? a.toNat with
    | none =>
      refine wpAny_bind (free_t hz (.inr ⟨a,t,rfl,ha⟩) _ ?_)
      simp only [if_true]
      refine wpAny_bind (wpAny_rule ?_)
      refine wpAny_bind (wpAny_field hz rfl (x:=.ref TO) rfl ?_)
      refine wpAny_bind (wpAny_setField_rec hz (by simp) fun g0 z0 c0=>?_)
      replace z0:g0.get? z=some { cls:=.type "zip",dict:=none,data:=.fields #[.ellipsis,(.bool b),.bool false,.ref TI,.ref TO],slots:=#[] }:=z0
      refine wpAny_bind ?_
      simp only [List.zipIdx_cons,List.zipIdx_nil,List.forIn_cons,List.forIn_nil]
      refine wpAny_bind (wpAny_bind (wpAny_onRaise ?_))
      show wpAny (model prog w) _ (Builtin.SmallTypes.nextOf (.ref i1) >>= _) _ _ _
      refine wpAny_bind (wpAny_nextOf_list_end hh (h1.at fun o e=>c0.extBut _ _ D.i1_z e) (L1.at fun o e=>c0.extBut _ _ D.l1_z e) e1 fun g2 e c2 he=>?_)
      obtain ⟨oe,ge,ce⟩:=he
      have z2:g2.get? z=some { cls:=.type "zip",dict:=none,data:=.fields #[.ellipsis,(.bool b),.bool false,.ref TI,.ref TO],slots:=#[] }:=c2 _ _ D.z_i1 z0
      have ez:e≠z:=fun y=>by subst y; rw [z2] at ge; cases ge; simp at ce
      exact wpAny_setField_rec z2 (by simp) fun g3 _ c3=>q g3 e (fun c o nz nTO ni1 y=>c3.extBut _ _ nz (c2 _ _ ni1 (c0.extBut _ _ nz y))) ⟨oe,c3.extBut _ _ ez ge,ce⟩
    | some o =>
      refine wpAny_bind (free_f hz ha _ fun g0 b z0 c0=>?_)
      simp only [Bool.false_eq_true,if_false]
      refine wpAny_bind ?_
      simp only [List.forIn_toArray,List.forIn_cons,List.forIn_nil]
      refine wpAny_bind (wpAny_bind (wpAny_holding ?_))
      show wpAny (model prog w) _ (Builtin.SmallTypes.nextOf (.ref i1) >>= _) _ _ _
      exact wpAny_bind (wpAny_nextOf_list_end hh (h1.at fun o e=>c0.extBut _ _ D.i1_z e) (L1.at fun o e=>c0.extBut _ _ D.l1_z e) e1 fun g2 e c2 he=>q g2 e (fun c o nz nTO ni1 y=>c2 _ _ ni1 (c0.extBut _ _ nz y)) he)
def zipSt1 (z TI TO i1 l1:Addr) (i:Nat) (h:Heap):Prop:=(∃ f0 f1,h.get? z=some { cls:=.type "zip",dict:=none,data:=.fields #[f0,f1,.bool false,.ref TI,.ref TO],slots:=#[] }∧OkF f0 f1)∧h.get? TI=some { cls:=.type "tuple",data:=.seq #[.ref i1] }∧(∃ a1,h.get? TO=some { cls:=.type "tuple",data:=.seq #[a1] })∧h.IsListIter i1 l1 i
theorem turn_zs1 {P:Program} {w:World} {K:PySem.W.Frag} {N:Nat} {nm:Str} {pos:Pos} {z TI TO i1 l1:Addr} (D:ZA1 z TI TO i1 l1):Turn P w K (.Name nm pos) (ItZ K N [l1]) [z,TI,TO,i1] z (zipSt1 z TI TO i1 l1) where
  mem:=by simp
  obj:=fun i h st c hc=>by
    obtain ⟨⟨f0,f1,hz,_⟩,hI,⟨a1,hO⟩,h1⟩:=st
    simp only [List.mem_cons,List.not_mem_nil,or_false] at hc
    rcases hc with rfl | rfl | rfl | rfl
    · exact ⟨_,hz,fun v q=>by have q':Data.fields _=Data.cell v:=q; cases q'⟩
    · exact ⟨_,hI,fun v q=>by have q':Data.seq _ _=Data.cell v:=q; cases q'⟩
    · exact ⟨_,hO,fun v q=>by have q':Data.seq _ _=Data.cell v:=q; cases q'⟩
    · obtain ⟨o,e,_,d⟩:=h1; exact ⟨o,e,fun v q=>by rw [d] at q; cases q⟩
  keep:=fun i h h' st kp=>by
    obtain ⟨⟨f0,f1,hz,hf⟩,hI,⟨a1,hO⟩,h1⟩:=st
    exact ⟨⟨f0,f1,kp z (by simp) _ hz,hf⟩,kp TI (by simp) _ hI,⟨_,kp TO (by simp) _ hO⟩,h1.at (kp i1 (by simp))⟩
  item:=by
    intro X hP hw hK hc i pins s σ H E I hf st hg
    subst hP hw hK
    obtain ⟨hi,hls⟩:=hg
    obtain ⟨⟨f0,f1,hz,hok⟩,hI,⟨a1,hO⟩,h1⟩:=st
    obtain ⟨xs1,q1,n1⟩:=hls l1 (by simp)
    obtain ⟨its1,r1,P1,Z1⟩:=I.list q1
    have lt1:i < its1.length:=by rw [← r1.length,n1]; exact hi
    obtain ⟨x1,hx1⟩:∃ x,xs1[i]?=some x:=⟨_,List.getElem?_eq_getElem (by rw [n1]; exact hi)⟩
    obtain ⟨u1,hu1,ru1⟩:=r1.get hx1
    have hT:s.TypeIs (.ref z) "zip" := ⟨_,hz,rfl⟩
    unfold pyNext
    refine wpAny_bind (wpAny_attempt (wpAny_callSpecial?_slot (name:=Str.ofString "__next__") hT F.slot_zip_next (wpAny_call_entry F.slot_zip_next hT F.entry_zip_next (zipItem1 D hI hO h1 P1.isList (show its1.toArray[i]?=some u1 by simpa using hu1) hz hok fun h' tk g0 g1 b1 z' ok' TI' TO' t1 T' hk=>wpAny_pure ?_) (F.args_zip_next_1 _))))
    refine ⟨_,rfl,?_⟩
    have hf4:∀ c∈[z,TO,i1],FpOk X pins H c:=fun c hc=>hf c (by simp only [List.mem_cons,List.not_mem_nil,or_false] at hc ⊢; rcases hc with q | q | q <;> simp [q])
    have tup:ObjOk X.prog X.w (upd H s.heap.objs.size (.tup [x1])) h' s.heap.objs.size (.tup [x1]):=⟨(show 1≤sizeLine by decide),[u1],.cons ru1 (.nil),_,T',rfl,_,rfl⟩
    have I1:Inv X pins σ (upd H s.heap.objs.size (.tup [x1])) { s with heap:=h',toks:=tk } :=
      I.turnedNew (t':=tk) hf4 (fun c o hc e=>hk c o (fun y=>hc (by simp [y])) (fun y=>hc (by simp [y])) (fun y=>hc (by simp [y])) e) (Nat.le_refl _) tup
    have fpn:∀ c∈[z,TI,TO,i1],upd H s.heap.objs.size (.tup [x1]) c=none:=fun c hc=>by
      obtain ⟨o,e⟩:∃ o,s.heap.get? c=some o:=by
        have hc:=hc
        simp only [List.mem_cons,List.not_mem_nil,or_false] at hc
        rcases hc with rfl | rfl | rfl | rfl
        · exact ⟨_,hz⟩
        · exact ⟨_,hI⟩
        · exact ⟨_,hO⟩
        · obtain ⟨o,e,_⟩:=h1; exact ⟨o,e⟩
      rw [upd_ne (Nat.ne_of_lt (Heap.lt_size e))]
      exact (hf c hc).1
    show wpAny _ _ (pure ()) _ _ _
    refine wpAny_pure ⟨.ref s.heap.objs.size,_,I1,rfl,⟨_,_,rfl,I.hok.fresh (Nat.le_refl _),rfl⟩,⟨⟨_,_,z',ok'⟩,TI',⟨_,TO'⟩,t1⟩,fpn⟩
  done:=by
    intro X hP hw hK hc i pins s σ H E I hf st hg
    subst hP hw hK
    obtain ⟨hi,hls⟩:=hg
    obtain ⟨⟨f0,f1,hz,hok⟩,hI,⟨a1,hO⟩,h1⟩:=st
    obtain ⟨xs1,q1,n1⟩:=hls l1 (by simp)
    obtain ⟨its1,r1,P1,Z1⟩:=I.list q1
    have hT:s.TypeIs (.ref z) "zip" := ⟨_,hz,rfl⟩
    have hf4:∀ c∈[z,TO,i1],FpOk X pins H c:=fun c hc=>hf c (by simp only [List.mem_cons,List.not_mem_nil,or_false] at hc ⊢; rcases hc with q | q | q <;> simp [q])
    unfold pyNext
    refine wpAny_bind (wpAny_attempt (wpAny_callSpecial?_slot (name:=Str.ofString "__next__") hT F.slot_zip_next (wpAny_call_entry F.slot_zip_next hT F.entry_zip_next (zipLast1 (xs1:=its1.toArray) D hI h1 P1.isList (by rw [List.getElem?_toArray,List.getElem?_eq_none (by rw [← r1.length,n1,hi]; exact Nat.le_refl _)]) (I.ok.hd hc) hz hok fun h' e kp he=>?_) (F.args_zip_next_1 _))))
    obtain ⟨o,ho,hcl⟩:=he
    refine wpAny_bind (wpAny_isInstance (T := "StopIteration") (b:=true) ⟨o,ho,hcl⟩ isSubtype_stop (wpAny_pure ⟨rfl,?_⟩))
    exact I.turnedL (t':=s.toks) hf4 (fun c o hc e=>kp c o (fun y=>hc (by simp [y])) (fun y=>hc (by simp [y])) (fun y=>hc (by simp [y])) e)
  self:=fun A i s Q E st h=>by
    obtain ⟨⟨f0,f1,hz,hok⟩,_⟩:=st
    have hT:s.TypeIs (.ref z) "zip" := ⟨_,hz,rfl⟩
    refine wpAny_pyIter_slot hT F.slot_zip_iter (wpAny_call_entry F.slot_zip_iter hT F.entry_zip_iter ?_ (F.args_zip_iter_1 _))
    show wpAny _ _ (ret (.ref z)) _ _ s
    exact wpAny_pure ⟨_,rfl,"zip",_,hT,F.slot_zip_next.lookup,h⟩
structure ZA2 (z TI TO i1 i2 l1 l2:Addr):Prop where
  z_TI:z≠TI
  z_TO:z≠TO
  z_i1:z≠i1
  z_i2:z≠i2
  TI_z:TI≠z
  TI_TO:TI≠TO
  TI_i1:TI≠i1
  TI_i2:TI≠i2
  TO_z:TO≠z
  TO_TI:TO≠TI
  TO_i1:TO≠i1
  TO_i2:TO≠i2
  i1_z:i1≠z
  i1_TI:i1≠TI
  i1_TO:i1≠TO
  i1_i2:i1≠i2
  i2_z:i2≠z
  i2_TI:i2≠TI
  i2_TO:i2≠TO
  i2_i1:i2≠i1
  l1_z:l1≠z
  l1_TI:l1≠TI
  l1_TO:l1≠TO
  l1_i1:l1≠i1
  l1_i2:l1≠i2
  l2_z:l2≠z
  l2_TI:l2≠TI
  l2_TO:l2≠TO
  l2_i1:l2≠i1
  l2_i2:l2≠i2
theorem zipA2 {z TI TO i1 i2 l1 l2:Addr} {k:Nat} {xs1 xs2:Array Value} {x1 x2 a1 a2:Value} {f0 f1:Value} {Q:Value→Shared→Prop} (D:ZA2 z TI TO i1 i2 l1 l2) (hI:s.heap.get? TI=some { cls:=.type "tuple",data:=.seq #[.ref i1,.ref i2] }) (hO:s.heap.get? TO=some { cls:=.type "tuple",data:=.seq #[a1,a2] }) (h1:s.heap.IsListIter i1 l1 k) (h2:s.heap.IsListIter i2 l2 k) (L1:s.heap.IsList l1 xs1) (L2:s.heap.IsList l2 xs2) (e1:xs1[k]?=some x1) (e2:xs2[k]?=some x2) (hz:s.heap.get? z=some { cls:=.type "zip",dict:=none,data:=.fields #[f0,f1,.bool false,.ref TI,.ref TO],slots:=#[] }) (hfree:∀ (R:Bool→Shared→Prop),R true s→wpAny (model prog w) A (Builtin.SmallTypes.ownedTupleIsFree (.ref z)) R E s)
    (q:∀ h' tk f0 f1 b1 b2,h'.get? z=some { cls:=.type "zip",dict:=none,data:=.fields #[f0,f1,.bool false,.ref TI,.ref TO],slots:=#[] }→OkF f0 f1→h'.get? TI=some { cls:=.type "tuple",data:=.seq #[.ref i1,.ref i2] }→h'.get? TO=some { cls:=.type "tuple",data:=.seq #[b1,b2] }→h'.IsListIter i1 l1 (k + 1)→h'.IsListIter i2 l2 (k + 1)→h'.get? s.heap.objs.size=some { cls:=.type "tuple",data:=.seq #[x1,x2] }→(∀ c o,c≠z→c≠TO→c≠i1→c≠i2→s.heap.get? c=some o→h'.get? c=some o)→Q (.ref s.heap.objs.size) { s with heap:=h',toks:=tk }) :
    wpAny (model prog w) A (Builtin.«zip.__next__» ⟨[.ref z],[]⟩) (fun fin s'=>∃ v,fin=.done (.ret v)∧Q v s') E s:=by
  show wpAny (model prog w) A (field (.ref z) 2 >>= _) _ _ _
  refine wpAny_bind (wpAny_field hz rfl (x:=.bool false) rfl ?_)
  show wpAny (model prog w) A (field (.ref z) 3 >>= _) _ _ _
  refine wpAny_bind (wpAny_field hz rfl (x:=.ref TI) rfl ?_)
  refine wpAny_bind (wpAny_seqItems hI rfl ?_)
  show wpAny (model prog w) A (Builtin.SmallTypes.ownedTupleIsFree (.ref z) >>= _) _ _ _
  refine wpAny_bind (hfree _ ?_)
  simp only [if_true]
  refine wpAny_bind (wpAny_rule ?_)
  refine wpAny_bind (wpAny_field hz rfl (x:=.ref TO) rfl ?_)
  refine wpAny_bind (wpAny_setField_rec hz (by simp) fun g0 z0 c0=>?_)
  replace z0:g0.get? z=some { cls:=.type "zip",dict:=none,data:=.fields #[.ellipsis,f1,.bool false,.ref TI,.ref TO],slots:=#[] }:=z0
  have up0:∀ c o,c≠z→s.heap.get? c=some o→g0.get? c=some o:=fun c o e1 e=>c0.extBut _ _ e1 e
  have o0:=up0 _ _ D.TO_z hO
  have h1:=h1.at fun o e=>up0 _ _ D.i1_z e
  have L1:=L1.at fun o e=>up0 _ _ D.l1_z e
  have h2:=h2.at fun o e=>up0 _ _ D.i2_z e
  have L2:=L2.at fun o e=>up0 _ _ D.l2_z e
  refine wpAny_bind ?_
  simp only [List.zipIdx_cons,List.zipIdx_nil,List.forIn_cons,List.forIn_nil]
  refine wpAny_bind (wpAny_bind (wpAny_onRaise ?_))
  show wpAny (model prog w) _ (Builtin.SmallTypes.nextOf (.ref i1) >>= _) _ _ _
  refine wpAny_bind (wpAny_nextOf_list_item h1 L1 e1 fun p1 t1 c1a=>wpAny_pure ?_)
  have o1a:p1.get? TO=some { cls:=.type "tuple",data:=.seq #[a1,a2] }:=c1a.extBut _ _ D.TO_i1 o0
  refine wpAny_bind (wpAny_seqItems o1a rfl ?_)
  refine wpAny_bind (wpAny_updateSeq o1a rfl ?_)
  have c1b:=Heap.SameBut.update p1 TO (Obj.mapSeq fun r=>r.setIfInBounds 0 x1)
  have o1:(p1.update TO (Obj.mapSeq fun r=>r.setIfInBounds 0 x1)).get? TO=some { cls:=.type "tuple",data:=.seq #[x1,a2] }:=by rw [Heap.get?_update_self _ o1a rfl]; simp [Obj.mapSeq]
  generalize p1.update TO (Obj.mapSeq fun r=>r.setIfInBounds 0 x1)=g1 at *
  have up1:∀ c o,c≠i1→c≠TO→g0.get? c=some o→g1.get? c=some o:=fun c o e1 e2 e=>c1b.extBut _ _ e2 (c1a.extBut _ _ e1 e)
  have t1:=t1.at fun o e=>c1b.extBut _ _ D.i1_TO e
  have h2:=h2.at fun o e=>up1 _ _ D.i2_i1 D.i2_TO e
  have L2:=L2.at fun o e=>up1 _ _ D.l2_i1 D.l2_TO e
  have z1:=up1 _ _ D.z_i1 D.z_TO z0
  refine wpAny_bind (wpAny_letGo (wpAny_pure ?_))
  refine wpAny_bind (wpAny_bind (wpAny_onRaise ?_))
  show wpAny (model prog w) _ (Builtin.SmallTypes.nextOf (.ref i2) >>= _) _ _ _
  refine wpAny_bind (wpAny_nextOf_list_item h2 L2 e2 fun p2 t2 c2a=>wpAny_pure ?_)
  have o2a:p2.get? TO=some { cls:=.type "tuple",data:=.seq #[x1,a2] }:=c2a.extBut _ _ D.TO_i2 o1
  refine wpAny_bind (wpAny_seqItems o2a rfl ?_)
  refine wpAny_bind (wpAny_updateSeq o2a rfl ?_)
  have c2b:=Heap.SameBut.update p2 TO (Obj.mapSeq fun r=>r.setIfInBounds 1 x2)
  have o2:(p2.update TO (Obj.mapSeq fun r=>r.setIfInBounds 1 x2)).get? TO=some { cls:=.type "tuple",data:=.seq #[x1,x2] }:=by rw [Heap.get?_update_self _ o2a rfl]; simp [Obj.mapSeq]
  generalize p2.update TO (Obj.mapSeq fun r=>r.setIfInBounds 1 x2)=g2 at *
  have up2:∀ c o,c≠i2→c≠TO→g1.get? c=some o→g2.get? c=some o:=fun c o e1 e2 e=>c2b.extBut _ _ e2 (c2a.extBut _ _ e1 e)
  have t2:=t2.at fun o e=>c2b.extBut _ _ D.i2_TO e
  have t1:=t1.at fun o e=>up2 _ _ D.i1_i2 D.i1_TO e
  have z2:=up2 _ _ D.z_i2 D.z_TO z1
  refine wpAny_bind (wpAny_letGo (wpAny_pure (wpAny_pure ?_)))
  refine wpAny_bind (wpAny_seqItems o2 rfl ?_)
  refine wpAny_bind (wpAny_newTuple ?_)
  have sz:g2.objs.size=s.heap.objs.size:=by rw [c2b.1,c2a.1,c1b.1,c1a.1,c0.1]
  have kp:∀ c o,c≠z→c≠TO→c≠i1→c≠i2→s.heap.get? c=some o→g2.get? c=some o:=fun c o nz nTO ni1 ni2 e=>up2 _ _ ni2 nTO (up1 _ _ ni1 nTO (up0 _ _ nz e))
  have TIg:g2.get? TI=some { cls:=.type "tuple",data:=.seq #[.ref i1,.ref i2] }:=kp _ _ D.TI_z D.TI_TO D.TI_i1 D.TI_i2 hI
  have lz:z < g2.objs.size:=Heap.lt_size z2
  show wpAny (model prog w) A (Builtin.SmallTypes.ownedTupleHandOut (.ref z) (.ref g2.objs.size) >>= _) _ _ _
  refine wpAny_bind ?_
  unfold Builtin.SmallTypes.ownedTupleHandOut
  have y6:(g2.push { cls:=.type "tuple",data:=.seq #[x1,x2] }).get? z=some { cls:=.type "zip",dict:=none,data:=.fields #[.ellipsis,f1,.bool false,.ref TI,.ref TO],slots:=#[] }:=Heap.get?_push_of_some _ z2
  refine wpAny_bind (wpAny_setField_rec y6 (by simp) fun g7 y7 d7=>?_)
  replace y7:g7.get? z=some { cls:=.type "zip",dict:=none,data:=.fields #[(rawInt g2.objs.size),f1,.bool false,.ref TI,.ref TO],slots:=#[] }:=y7
  refine wpAny_setField_rec y7 (by simp) fun g8 y8 d8=>?_
  replace y8:g8.get? z=some { cls:=.type "zip",dict:=none,data:=.fields #[(rawInt g2.objs.size),(.bool false),.bool false,.ref TI,.ref TO],slots:=#[] }:=y8
  have up8:∀ c o,c≠z→g2.get? c=some o→g8.get? c=some o:=fun c o e1 e=>d8.extBut _ _ e1 (d7.extBut _ _ e1 (Heap.get?_push_of_some _ e))
  have p8:g8.get? g2.objs.size=some { cls:=.type "tuple",data:=.seq #[x1,x2] }:=d8.extBut _ _ (Nat.ne_of_gt lz) (d7.extBut _ _ (Nat.ne_of_gt lz) (Heap.get?_push_size _ rfl))
  rw [sz] at p8
  refine wpAny_pure ⟨_,rfl,?_⟩
  show Q (.ref g2.objs.size) _
  rw [sz]
  exact q g8 _ _ _ x1 x2 y8 ⟨.inr ⟨_,_,rfl⟩,⟨_,rfl⟩⟩ (up8 _ _ D.TI_z TIg) (up8 _ _ D.TO_z o2) (t1.at fun o e=>up8 _ _ D.i1_z e) (t2.at fun o e=>up8 _ _ D.i2_z e) p8 fun c o nz nTO ni1 ni2 e=>up8 _ _ nz (kp c o nz nTO ni1 ni2 e)
theorem zipB2 {z TI TO i1 i2 l1 l2:Addr} {k:Nat} {xs1 xs2:Array Value} {x1 x2 a1 a2:Value} {f0 f1:Value} {Q:Value→Shared→Prop} (D:ZA2 z TI TO i1 i2 l1 l2) (hI:s.heap.get? TI=some { cls:=.type "tuple",data:=.seq #[.ref i1,.ref i2] }) (hO:s.heap.get? TO=some { cls:=.type "tuple",data:=.seq #[a1,a2] }) (h1:s.heap.IsListIter i1 l1 k) (h2:s.heap.IsListIter i2 l2 k) (L1:s.heap.IsList l1 xs1) (L2:s.heap.IsList l2 xs2) (e1:xs1[k]?=some x1) (e2:xs2[k]?=some x2) (hz:s.heap.get? z=some { cls:=.type "zip",dict:=none,data:=.fields #[f0,f1,.bool false,.ref TI,.ref TO],slots:=#[] }) (hf:OkF f0 f1) (hfree:∀ (R:Bool→Shared→Prop),(∀ h' b,h'.get? z=some { cls:=.type "zip",dict:=none,data:=.fields #[f0,(.bool b),.bool false,.ref TI,.ref TO],slots:=#[] }→Heap.SameBut z s.heap h'→R false { s with heap:=h' })→wpAny (model prog w) A (Builtin.SmallTypes.ownedTupleIsFree (.ref z)) R E s)
    (q:∀ h' tk f0 f1 b1 b2,h'.get? z=some { cls:=.type "zip",dict:=none,data:=.fields #[f0,f1,.bool false,.ref TI,.ref TO],slots:=#[] }→OkF f0 f1→h'.get? TI=some { cls:=.type "tuple",data:=.seq #[.ref i1,.ref i2] }→h'.get? TO=some { cls:=.type "tuple",data:=.seq #[b1,b2] }→h'.IsListIter i1 l1 (k + 1)→h'.IsListIter i2 l2 (k + 1)→h'.get? s.heap.objs.size=some { cls:=.type "tuple",data:=.seq #[x1,x2] }→(∀ c o,c≠z→c≠TO→c≠i1→c≠i2→s.heap.get? c=some o→h'.get? c=some o)→Q (.ref s.heap.objs.size) { s with heap:=h',toks:=tk }) :
    wpAny (model prog w) A (Builtin.«zip.__next__» ⟨[.ref z],[]⟩) (fun fin s'=>∃ v,fin=.done (.ret v)∧Q v s') E s:=by
  show wpAny (model prog w) A (field (.ref z) 2 >>= _) _ _ _
  refine wpAny_bind (wpAny_field hz rfl (x:=.bool false) rfl ?_)
  show wpAny (model prog w) A (field (.ref z) 3 >>= _) _ _ _
  refine wpAny_bind (wpAny_field hz rfl (x:=.ref TI) rfl ?_)
  refine wpAny_bind (wpAny_seqItems hI rfl ?_)
  show wpAny (model prog w) A (Builtin.SmallTypes.ownedTupleIsFree (.ref z) >>= _) _ _ _
  refine wpAny_bind (hfree _ fun g0 b z0 c0=>?_)
  simp only [Bool.false_eq_true,if_false]
  have up0:∀ c o,c≠z→s.heap.get? c=some o→g0.get? c=some o:=fun c o e1 e=>c0.extBut _ _ e1 e
  have h1:=h1.at fun o e=>up0 _ _ D.i1_z e
  have L1:=L1.at fun o e=>up0 _ _ D.l1_z e
  have h2:=h2.at fun o e=>up0 _ _ D.i2_z e
  have L2:=L2.at fun o e=>up0 _ _ D.l2_z e
  refine wpAny_bind ?_
  simp only [List.forIn_toArray,List.forIn_cons,List.forIn_nil]
  refine wpAny_bind (wpAny_bind (wpAny_holding ?_))
  show wpAny (model prog w) _ (Builtin.SmallTypes.nextOf (.ref i1) >>= _) _ _ _
  refine wpAny_bind (wpAny_nextOf_list_item h1 L1 e1 fun g1 t1 c1=>wpAny_pure ?_)
  have up1:∀ c o,c≠i1→g0.get? c=some o→g1.get? c=some o:=fun c o e1 e=>c1.extBut _ _ e1 e
  have h2:=h2.at fun o e=>up1 _ _ D.i2_i1 e
  have L2:=L2.at fun o e=>up1 _ _ D.l2_i1 e
  have z1:=up1 _ _ D.z_i1 z0
  refine wpAny_pure ?_
  refine wpAny_bind (wpAny_bind (wpAny_holding ?_))
  show wpAny (model prog w) _ (Builtin.SmallTypes.nextOf (.ref i2) >>= _) _ _ _
  refine wpAny_bind (wpAny_nextOf_list_item h2 L2 e2 fun g2 t2 c2=>wpAny_pure ?_)
  have up2:∀ c o,c≠i2→g1.get? c=some o→g2.get? c=some o:=fun c o e1 e=>c2.extBut _ _ e1 e
  have t1:=t1.at fun o e=>up2 _ _ D.i1_i2 e
  have z2:=up2 _ _ D.z_i2 z1
  refine wpAny_pure (wpAny_pure ?_)
  have sz:g2.objs.size=s.heap.objs.size:=by rw [c2.1,c1.1,c0.1]
  refine wpAny_bind (wpAny_newTuple ?_ (show 2≤sizeLine by decide))
  refine wpAny_pure ⟨_,rfl,?_⟩
  show Q (.ref g2.objs.size) _
  have p8:(g2.push { cls:=.type "tuple",data:=.seq #[x1,x2] }).get? g2.objs.size=some { cls:=.type "tuple",data:=.seq #[x1,x2] }:=Heap.get?_push_size _ rfl
  rw [sz] at p8 ⊢
  have up8:∀ c o,g2.get? c=some o→(g2.push { cls:=.type "tuple",data:=.seq #[x1,x2] }).get? c=some o:=fun c o e=>Heap.get?_push_of_some _ e
  have kp:∀ c o,c≠z→c≠i1→c≠i2→s.heap.get? c=some o→g2.get? c=some o:=fun c o nz ni1 ni2 e=>up2 _ _ ni2 (up1 _ _ ni1 (up0 _ _ nz e))
  exact q _ _ _ _ a1 a2 (up8 _ _ z2) ⟨hf.1,⟨_,rfl⟩⟩ (up8 _ _ (kp _ _ D.TI_z D.TI_i1 D.TI_i2 hI)) (up8 _ _ (kp _ _ D.TO_z D.TO_i1 D.TO_i2 hO)) (t1.at fun o e=>up8 _ _ e) (t2.at fun o e=>up8 _ _ e) p8 fun c o nz nTO ni1 ni2 e=>up8 _ _ (kp c o nz ni1 ni2 e)
theorem zipItem2 {z TI TO i1 i2 l1 l2:Addr} {k:Nat} {xs1 xs2:Array Value} {x1 x2 a1 a2:Value} {f0 f1:Value} {Q:Value→Shared→Prop} (D:ZA2 z TI TO i1 i2 l1 l2) (hI:s.heap.get? TI=some { cls:=.type "tuple",data:=.seq #[.ref i1,.ref i2] }) (hO:s.heap.get? TO=some { cls:=.type "tuple",data:=.seq #[a1,a2] }) (h1:s.heap.IsListIter i1 l1 k) (h2:s.heap.IsListIter i2 l2 k) (L1:s.heap.IsList l1 xs1) (L2:s.heap.IsList l2 xs2) (e1:xs1[k]?=some x1) (e2:xs2[k]?=some x2) (hz:s.heap.get? z=some { cls:=.type "zip",dict:=none,data:=.fields #[f0,f1,.bool false,.ref TI,.ref TO],slots:=#[] }) (hf:OkF f0 f1)
    (q:∀ h' tk f0 f1 b1 b2,h'.get? z=some { cls:=.type "zip",dict:=none,data:=.fields #[f0,f1,.bool false,.ref TI,.ref TO],slots:=#[] }→OkF f0 f1→h'.get? TI=some { cls:=.type "tuple",data:=.seq #[.ref i1,.ref i2] }→h'.get? TO=some { cls:=.type "tuple",data:=.seq #[b1,b2] }→h'.IsListIter i1 l1 (k + 1)→h'.IsListIter i2 l2 (k + 1)→h'.get? s.heap.objs.size=some { cls:=.type "tuple",data:=.seq #[x1,x2] }→(∀ c o,c≠z→c≠TO→c≠i1→c≠i2→s.heap.get? c=some o→h'.get? c=some o)→Q (.ref s.heap.objs.size) { s with heap:=h',toks:=tk }) :
    wpAny (model prog w) A (Builtin.«zip.__next__» ⟨[.ref z],[]⟩) (fun fin s'=>∃ v,fin=.done (.ret v)∧Q v s') E s:=by
  obtain ⟨h0,b,rfl⟩:=id hf
  rcases h0 with rfl | ⟨a,t,rfl⟩
  · exact zipA2 D hI hO h1 h2 L1 L2 e1 e2 hz (fun R h=>free_t hz (.inl rfl) R h) q
  · cases ha:s.heap.get? a.toNat with
    | none=>exact zipA2 D hI hO h1 h2 L1 L2 e1 e2 hz (fun R h=>free_t hz (.inr ⟨a,t,rfl,ha⟩) R h) q
    | some o=>exact zipB2 D hI hO h1 h2 L1 L2 e1 e2 hz hf (fun R h=>free_f hz ha R h) q
theorem zipLast2 {z TI TO i1 i2 l1 l2:Addr} {k:Nat} {xs1:Array Value} {f0 f1:Value} {Q:Fin→Shared→Prop} (D:ZA2 z TI TO i1 i2 l1 l2) (hI:s.heap.get? TI=some { cls:=.type "tuple",data:=.seq #[.ref i1,.ref i2] }) (h1:s.heap.IsListIter i1 l1 k) (L1:s.heap.IsList l1 xs1) (e1:xs1[k]?=none) (hh:A.handled=none) (hz:s.heap.get? z=some { cls:=.type "zip",dict:=none,data:=.fields #[f0,f1,.bool false,.ref TI,.ref TO],slots:=#[] }) (hf:OkF f0 f1)
    (q:∀ h' e,(∀ c o,c≠z→c≠TO→c≠i1→c≠i2→s.heap.get? c=some o→h'.get? c=some o)→(∃ o,h'.get? e=some o∧o.cls=.type "StopIteration")→E (.ref e) { s with heap:=h' }) :
    wpAny (model prog w) A (Builtin.«zip.__next__» ⟨[.ref z],[]⟩) Q E s:=by
  show wpAny (model prog w) A (field (.ref z) 2 >>= _) _ _ _
  refine wpAny_bind (wpAny_field hz rfl (x:=.bool false) rfl ?_)
  show wpAny (model prog w) A (field (.ref z) 3 >>= _) _ _ _
  refine wpAny_bind (wpAny_field hz rfl (x:=.ref TI) rfl ?_)
  refine wpAny_bind (wpAny_seqItems hI rfl ?_)
  show wpAny (model prog w) A (Builtin.SmallTypes.ownedTupleIsFree (.ref z) >>= _) _ _ _
  obtain ⟨h0,b,rfl⟩:=id hf
  rcases h0 with rfl | ⟨a,t,rfl⟩
  · refine wpAny_bind (free_t hz (.inl rfl) _ ?_)
    simp only [if_true]
    refine wpAny_bind (wpAny_rule ?_)
    refine wpAny_bind (wpAny_field hz rfl (x:=.ref TO) rfl ?_)
    refine wpAny_bind (wpAny_setField_rec hz (by simp) fun g0 z0 c0=>?_)
    replace z0:g0.get? z=some { cls:=.type "zip",dict:=none,data:=.fields #[.ellipsis,(.bool b),.bool false,.ref TI,.ref TO],slots:=#[] }:=z0
    refine wpAny_bind ?_
    simp only [List.zipIdx_cons,List.zipIdx_nil,List.forIn_cons,List.forIn_nil]
    refine wpAny_bind (wpAny_bind (wpAny_onRaise ?_))
    show wpAny (model prog w) _ (Builtin.SmallTypes.nextOf (.ref i1) >>= _) _ _ _
    refine wpAny_bind (wpAny_nextOf_list_end hh (h1.at fun o e=>c0.extBut _ _ D.i1_z e) (L1.at fun o e=>c0.extBut _ _ D.l1_z e) e1 fun g2 e c2 he=>?_)
    obtain ⟨oe,ge,ce⟩:=he
    have z2:g2.get? z=some { cls:=.type "zip",dict:=none,data:=.fields #[.ellipsis,(.bool b),.bool false,.ref TI,.ref TO],slots:=#[] }:=c2 _ _ D.z_i1 z0
    have ez:e≠z:=fun y=>by subst y; rw [z2] at ge; cases ge; simp at ce
    exact wpAny_setField_rec z2 (by simp) fun g3 _ c3=>q g3 e (fun c o nz nTO ni1 ni2 y=>c3.extBut _ _ nz (c2 _ _ ni1 (c0.extBut _ _ nz y))) ⟨oe,c3.extBut _ _ ez ge,ce⟩
  · cases ha:s.heap.get? a.toNat with
    | none =>
      refine wpAny_bind (free_t hz (.inr ⟨a,t,rfl,ha⟩) _ ?_)
      simp only [if_true]
      refine wpAny_bind (wpAny_rule ?_)
      refine wpAny_bind (wpAny_field hz rfl (x:=.ref TO) rfl ?_)
      refine wpAny_bind (wpAny_setField_rec hz (by simp) fun g0 z0 c0=>?_)
      replace z0:g0.get? z=some { cls:=.type "zip",dict:=none,data:=.fields #[.ellipsis,(.bool b),.bool false,.ref TI,.ref TO],slots:=#[] }:=z0
      refine wpAny_bind ?_
      simp only [List.zipIdx_cons,List.zipIdx_nil,List.forIn_cons,List.forIn_nil]
      refine wpAny_bind (wpAny_bind (wpAny_onRaise ?_))
      show wpAny (model prog w) _ (Builtin.SmallTypes.nextOf (.ref i1) >>= _) _ _ _
      refine wpAny_bind (wpAny_nextOf_list_end hh (h1.at fun o e=>c0.extBut _ _ D.i1_z e) (L1.at fun o e=>c0.extBut _ _ D.l1_z e) e1 fun g2 e c2 he=>?_)
      obtain ⟨oe,ge,ce⟩:=he
      have z2:g2.get? z=some { cls:=.type "zip",dict:=none,data:=.fields #[.ellipsis,(.bool b),.bool false,.ref TI,.ref TO],slots:=#[] }:=c2 _ _ D.z_i1 z0
      have ez:e≠z:=fun y=>by subst y; rw [z2] at ge; cases ge; simp at ce
      exact wpAny_setField_rec z2 (by simp) fun g3 _ c3=>q g3 e (fun c o nz nTO ni1 ni2 y=>c3.extBut _ _ nz (c2 _ _ ni1 (c0.extBut _ _ nz y))) ⟨oe,c3.extBut _ _ ez ge,ce⟩
    | some o =>
      refine wpAny_bind (free_f hz ha _ fun g0 b z0 c0=>?_)
      simp only [Bool.false_eq_true,if_false]
      refine wpAny_bind ?_
      simp only [List.forIn_toArray,List.forIn_cons,List.forIn_nil]
      refine wpAny_bind (wpAny_bind (wpAny_holding ?_))
      show wpAny (model prog w) _ (Builtin.SmallTypes.nextOf (.ref i1) >>= _) _ _ _
      exact wpAny_bind (wpAny_nextOf_list_end hh (h1.at fun o e=>c0.extBut _ _ D.i1_z e) (L1.at fun o e=>c0.extBut _ _ D.l1_z e) e1 fun g2 e c2 he=>q g2 e (fun c o nz nTO ni1 ni2 y=>c2 _ _ ni1 (c0.extBut _ _ nz y)) he)
def zipSt2 (z TI TO i1 i2 l1 l2:Addr) (i:Nat) (h:Heap):Prop:=(∃ f0 f1,h.get? z=some { cls:=.type "zip",dict:=none,data:=.fields #[f0,f1,.bool false,.ref TI,.ref TO],slots:=#[] }∧OkF f0 f1)∧h.get? TI=some { cls:=.type "tuple",data:=.seq #[.ref i1,.ref i2] }∧(∃ a1 a2,h.get? TO=some { cls:=.type "tuple",data:=.seq #[a1,a2] })∧h.IsListIter i1 l1 i∧h.IsListIter i2 l2 i
theorem turn_zs2 {P:Program} {w:World} {K:PySem.W.Frag} {N:Nat} {nm:Str} {pos:Pos} {z TI TO i1 i2 l1 l2:Addr} (D:ZA2 z TI TO i1 i2 l1 l2):Turn P w K (.Name nm pos) (ItZ K N [l1,l2]) [z,TI,TO,i1,i2] z (zipSt2 z TI TO i1 i2 l1 l2) where
  mem:=by simp
  obj:=fun i h st c hc=>by
    obtain ⟨⟨f0,f1,hz,_⟩,hI,⟨a1,a2,hO⟩,h1,h2⟩:=st
    simp only [List.mem_cons,List.not_mem_nil,or_false] at hc
    rcases hc with rfl | rfl | rfl | rfl | rfl
    · exact ⟨_,hz,fun v q=>by have q':Data.fields _=Data.cell v:=q; cases q'⟩
    · exact ⟨_,hI,fun v q=>by have q':Data.seq _ _=Data.cell v:=q; cases q'⟩
    · exact ⟨_,hO,fun v q=>by have q':Data.seq _ _=Data.cell v:=q; cases q'⟩
    · obtain ⟨o,e,_,d⟩:=h1; exact ⟨o,e,fun v q=>by rw [d] at q; cases q⟩
    · obtain ⟨o,e,_,d⟩:=h2; exact ⟨o,e,fun v q=>by rw [d] at q; cases q⟩
  keep:=fun i h h' st kp=>by
    obtain ⟨⟨f0,f1,hz,hf⟩,hI,⟨a1,a2,hO⟩,h1,h2⟩:=st
    exact ⟨⟨f0,f1,kp z (by simp) _ hz,hf⟩,kp TI (by simp) _ hI,⟨_,_,kp TO (by simp) _ hO⟩,h1.at (kp i1 (by simp)),h2.at (kp i2 (by simp))⟩
  item:=by
    intro X hP hw hK hc i pins s σ H E I hf st hg
    subst hP hw hK
    obtain ⟨hi,hls⟩:=hg
    obtain ⟨⟨f0,f1,hz,hok⟩,hI,⟨a1,a2,hO⟩,h1,h2⟩:=st
    obtain ⟨xs1,q1,n1⟩:=hls l1 (by simp)
    obtain ⟨its1,r1,P1,Z1⟩:=I.list q1
    have lt1:i < its1.length:=by rw [← r1.length,n1]; exact hi
    obtain ⟨x1,hx1⟩:∃ x,xs1[i]?=some x:=⟨_,List.getElem?_eq_getElem (by rw [n1]; exact hi)⟩
    obtain ⟨u1,hu1,ru1⟩:=r1.get hx1
    obtain ⟨xs2,q2,n2⟩:=hls l2 (by simp)
    obtain ⟨its2,r2,P2,Z2⟩:=I.list q2
    have lt2:i < its2.length:=by rw [← r2.length,n2]; exact hi
    obtain ⟨x2,hx2⟩:∃ x,xs2[i]?=some x:=⟨_,List.getElem?_eq_getElem (by rw [n2]; exact hi)⟩
    obtain ⟨u2,hu2,ru2⟩:=r2.get hx2
    have hT:s.TypeIs (.ref z) "zip" := ⟨_,hz,rfl⟩
    unfold pyNext
    refine wpAny_bind (wpAny_attempt (wpAny_callSpecial?_slot (name:=Str.ofString "__next__") hT F.slot_zip_next (wpAny_call_entry F.slot_zip_next hT F.entry_zip_next (zipItem2 D hI hO h1 h2 P1.isList P2.isList (show its1.toArray[i]?=some u1 by simpa using hu1) (show its2.toArray[i]?=some u2 by simpa using hu2) hz hok fun h' tk g0 g1 b1 b2 z' ok' TI' TO' t1 t2 T' hk=>wpAny_pure ?_) (F.args_zip_next_1 _))))
    refine ⟨_,rfl,?_⟩
    have hf4:∀ c∈[z,TO,i1,i2],FpOk X pins H c:=fun c hc=>hf c (by simp only [List.mem_cons,List.not_mem_nil,or_false] at hc ⊢; rcases hc with q | q | q | q <;> simp [q])
    have tup:ObjOk X.prog X.w (upd H s.heap.objs.size (.tup [x1,x2])) h' s.heap.objs.size (.tup [x1,x2]):=⟨(show 2≤sizeLine by decide),[u1,u2],.cons ru1 (.cons ru2 (.nil)),_,T',rfl,_,rfl⟩
    have I1:Inv X pins σ (upd H s.heap.objs.size (.tup [x1,x2])) { s with heap:=h',toks:=tk } :=
      I.turnedNew (t':=tk) hf4 (fun c o hc e=>hk c o (fun y=>hc (by simp [y])) (fun y=>hc (by simp [y])) (fun y=>hc (by simp [y])) (fun y=>hc (by simp [y])) e) (Nat.le_refl _) tup
    have fpn:∀ c∈[z,TI,TO,i1,i2],upd H s.heap.objs.size (.tup [x1,x2]) c=none:=fun c hc=>by
      obtain ⟨o,e⟩:∃ o,s.heap.get? c=some o:=by
        have hc:=hc
        simp only [List.mem_cons,List.not_mem_nil,or_false] at hc
        rcases hc with rfl | rfl | rfl | rfl | rfl
        · exact ⟨_,hz⟩
        · exact ⟨_,hI⟩
        · exact ⟨_,hO⟩
        · obtain ⟨o,e,_⟩:=h1; exact ⟨o,e⟩
        · obtain ⟨o,e,_⟩:=h2; exact ⟨o,e⟩
      rw [upd_ne (Nat.ne_of_lt (Heap.lt_size e))]
      exact (hf c hc).1
    show wpAny _ _ (pure ()) _ _ _
    refine wpAny_pure ⟨.ref s.heap.objs.size,_,I1,rfl,⟨_,_,rfl,I.hok.fresh (Nat.le_refl _),rfl⟩,⟨⟨_,_,z',ok'⟩,TI',⟨_,_,TO'⟩,t1,t2⟩,fpn⟩
  done:=by
    intro X hP hw hK hc i pins s σ H E I hf st hg
    subst hP hw hK
    obtain ⟨hi,hls⟩:=hg
    obtain ⟨⟨f0,f1,hz,hok⟩,hI,⟨a1,a2,hO⟩,h1,h2⟩:=st
    obtain ⟨xs1,q1,n1⟩:=hls l1 (by simp)
    obtain ⟨its1,r1,P1,Z1⟩:=I.list q1
    have hT:s.TypeIs (.ref z) "zip" := ⟨_,hz,rfl⟩
    have hf4:∀ c∈[z,TO,i1,i2],FpOk X pins H c:=fun c hc=>hf c (by simp only [List.mem_cons,List.not_mem_nil,or_false] at hc ⊢; rcases hc with q | q | q | q <;> simp [q])
    unfold pyNext
    refine wpAny_bind (wpAny_attempt (wpAny_callSpecial?_slot (name:=Str.ofString "__next__") hT F.slot_zip_next (wpAny_call_entry F.slot_zip_next hT F.entry_zip_next (zipLast2 (xs1:=its1.toArray) D hI h1 P1.isList (by rw [List.getElem?_toArray,List.getElem?_eq_none (by rw [← r1.length,n1,hi]; exact Nat.le_refl _)]) (I.ok.hd hc) hz hok fun h' e kp he=>?_) (F.args_zip_next_1 _))))
    obtain ⟨o,ho,hcl⟩:=he
    refine wpAny_bind (wpAny_isInstance (T := "StopIteration") (b:=true) ⟨o,ho,hcl⟩ isSubtype_stop (wpAny_pure ⟨rfl,?_⟩))
    exact I.turnedL (t':=s.toks) hf4 (fun c o hc e=>kp c o (fun y=>hc (by simp [y])) (fun y=>hc (by simp [y])) (fun y=>hc (by simp [y])) (fun y=>hc (by simp [y])) e)
  self:=fun A i s Q E st h=>by
    obtain ⟨⟨f0,f1,hz,hok⟩,_⟩:=st
    have hT:s.TypeIs (.ref z) "zip" := ⟨_,hz,rfl⟩
    refine wpAny_pyIter_slot hT F.slot_zip_iter (wpAny_call_entry F.slot_zip_iter hT F.entry_zip_iter ?_ (F.args_zip_iter_1 _))
    show wpAny _ _ (ret (.ref z)) _ _ s
    exact wpAny_pure ⟨_,rfl,"zip",_,hT,F.slot_zip_next.lookup,h⟩
structure ZA3 (z TI TO i1 i2 i3 l1 l2 l3:Addr):Prop where
  z_TI:z≠TI
  z_TO:z≠TO
  z_i1:z≠i1
  z_i2:z≠i2
  z_i3:z≠i3
  TI_z:TI≠z
  TI_TO:TI≠TO
  TI_i1:TI≠i1
  TI_i2:TI≠i2
  TI_i3:TI≠i3
  TO_z:TO≠z
  TO_TI:TO≠TI
  TO_i1:TO≠i1
  TO_i2:TO≠i2
  TO_i3:TO≠i3
  i1_z:i1≠z
  i1_TI:i1≠TI
  i1_TO:i1≠TO
  i1_i2:i1≠i2
  i1_i3:i1≠i3
  i2_z:i2≠z
  i2_TI:i2≠TI
  i2_TO:i2≠TO
  i2_i1:i2≠i1
  i2_i3:i2≠i3
  i3_z:i3≠z
  i3_TI:i3≠TI
  i3_TO:i3≠TO
  i3_i1:i3≠i1
  i3_i2:i3≠i2
  l1_z:l1≠z
  l1_TI:l1≠TI
  l1_TO:l1≠TO
  l1_i1:l1≠i1
  l1_i2:l1≠i2
  l1_i3:l1≠i3
  l2_z:l2≠z
  l2_TI:l2≠TI
  l2_TO:l2≠TO
  l2_i1:l2≠i1
  l2_i2:l2≠i2
  l2_i3:l2≠i3
  l3_z:l3≠z
  l3_TI:l3≠TI
  l3_TO:l3≠TO
  l3_i1:l3≠i1
  l3_i2:l3≠i2
  l3_i3:l3≠i3
theorem zipA3 {z TI TO i1 i2 i3 l1 l2 l3:Addr} {k:Nat} {xs1 xs2 xs3:Array Value} {x1 x2 x3 a1 a2 a3:Value} {f0 f1:Value} {Q:Value→Shared→Prop} (D:ZA3 z TI TO i1 i2 i3 l1 l2 l3) (hI:s.heap.get? TI=some { cls:=.type "tuple",data:=.seq #[.ref i1,.ref i2,.ref i3] }) (hO:s.heap.get? TO=some { cls:=.type "tuple",data:=.seq #[a1,a2,a3] }) (h1:s.heap.IsListIter i1 l1 k) (h2:s.heap.IsListIter i2 l2 k) (h3:s.heap.IsListIter i3 l3 k) (L1:s.heap.IsList l1 xs1) (L2:s.heap.IsList l2 xs2) (L3:s.heap.IsList l3 xs3) (e1:xs1[k]?=some x1) (e2:xs2[k]?=some x2) (e3:xs3[k]?=some x3) (hz:s.heap.get? z=some { cls:=.type "zip",dict:=none,data:=.fields #[f0,f1,.bool false,.ref TI,.ref TO],slots:=#[] }) (hfree:∀ (R:Bool→Shared→Prop),R true s→wpAny (model prog w) A (Builtin.SmallTypes.ownedTupleIsFree (.ref z)) R E s)
    (q:∀ h' tk f0 f1 b1 b2 b3,h'.get? z=some { cls:=.type "zip",dict:=none,data:=.fields #[f0,f1,.bool false,.ref TI,.ref TO],slots:=#[] }→OkF f0 f1→h'.get? TI=some { cls:=.type "tuple",data:=.seq #[.ref i1,.ref i2,.ref i3] }→h'.get? TO=some { cls:=.type "tuple",data:=.seq #[b1,b2,b3] }→h'.IsListIter i1 l1 (k + 1)→h'.IsListIter i2 l2 (k + 1)→h'.IsListIter i3 l3 (k + 1)→h'.get? s.heap.objs.size=some { cls:=.type "tuple",data:=.seq #[x1,x2,x3] }→(∀ c o,c≠z→c≠TO→c≠i1→c≠i2→c≠i3→s.heap.get? c=some o→h'.get? c=some o)→Q (.ref s.heap.objs.size) { s with heap:=h',toks:=tk }) :
    wpAny (model prog w) A (Builtin.«zip.__next__» ⟨[.ref z],[]⟩) (fun fin s'=>∃ v,fin=.done (.ret v)∧Q v s') E s:=by
  show wpAny (model prog w) A (field (.ref z) 2 >>= _) _ _ _
  refine wpAny_bind (wpAny_field hz rfl (x:=.bool false) rfl ?_)
  show wpAny (model prog w) A (field (.ref z) 3 >>= _) _ _ _
  refine wpAny_bind (wpAny_field hz rfl (x:=.ref TI) rfl ?_)
  refine wpAny_bind (wpAny_seqItems hI rfl ?_)
  show wpAny (model prog w) A (Builtin.SmallTypes.ownedTupleIsFree (.ref z) >>= _) _ _ _
  refine wpAny_bind (hfree _ ?_)
  simp only [if_true]
  refine wpAny_bind (wpAny_rule ?_)
  refine wpAny_bind (wpAny_field hz rfl (x:=.ref TO) rfl ?_)
  refine wpAny_bind (wpAny_setField_rec hz (by simp) fun g0 z0 c0=>?_)
  replace z0:g0.get? z=some { cls:=.type "zip",dict:=none,data:=.fields #[.ellipsis,f1,.bool false,.ref TI,.ref TO],slots:=#[] }:=z0
  have up0:∀ c o,c≠z→s.heap.get? c=some o→g0.get? c=some o:=fun c o e1 e=>c0.extBut _ _ e1 e
  have o0:=up0 _ _ D.TO_z hO
  have h1:=h1.at fun o e=>up0 _ _ D.i1_z e
  have L1:=L1.at fun o e=>up0 _ _ D.l1_z e
  have h2:=h2.at fun o e=>up0 _ _ D.i2_z e
  have L2:=L2.at fun o e=>up0 _ _ D.l2_z e
  have h3:=h3.at fun o e=>up0 _ _ D.i3_z e
  have L3:=L3.at fun o e=>up0 _ _ D.l3_z e
  refine wpAny_bind ?_
  simp only [List.zipIdx_cons,List.zipIdx_nil,List.forIn_cons,List.forIn_nil]
  refine wpAny_bind (wpAny_bind (wpAny_onRaise ?_))
  show wpAny (model prog w) _ (Builtin.SmallTypes.nextOf (.ref i1) >>= _) _ _ _
  refine wpAny_bind (wpAny_nextOf_list_item h1 L1 e1 fun p1 t1 c1a=>wpAny_pure ?_)
  have o1a:p1.get? TO=some { cls:=.type "tuple",data:=.seq #[a1,a2,a3] }:=c1a.extBut _ _ D.TO_i1 o0
  refine wpAny_bind (wpAny_seqItems o1a rfl ?_)
  refine wpAny_bind (wpAny_updateSeq o1a rfl ?_)
  have c1b:=Heap.SameBut.update p1 TO (Obj.mapSeq fun r=>r.setIfInBounds 0 x1)
  have o1:(p1.update TO (Obj.mapSeq fun r=>r.setIfInBounds 0 x1)).get? TO=some { cls:=.type "tuple",data:=.seq #[x1,a2,a3] }:=by rw [Heap.get?_update_self _ o1a rfl]; simp [Obj.mapSeq]
  generalize p1.update TO (Obj.mapSeq fun r=>r.setIfInBounds 0 x1)=g1 at *
  have up1:∀ c o,c≠i1→c≠TO→g0.get? c=some o→g1.get? c=some o:=fun c o e1 e2 e=>c1b.extBut _ _ e2 (c1a.extBut _ _ e1 e)
  have t1:=t1.at fun o e=>c1b.extBut _ _ D.i1_TO e
  have h2:=h2.at fun o e=>up1 _ _ D.i2_i1 D.i2_TO e
  have L2:=L2.at fun o e=>up1 _ _ D.l2_i1 D.l2_TO e
  have h3:=h3.at fun o e=>up1 _ _ D.i3_i1 D.i3_TO e
  have L3:=L3.at fun o e=>up1 _ _ D.l3_i1 D.l3_TO e
  have z1:=up1 _ _ D.z_i1 D.z_TO z0
  refine wpAny_bind (wpAny_letGo (wpAny_pure ?_))
  refine wpAny_bind (wpAny_bind (wpAny_onRaise ?_))
  show wpAny (model prog w) _ (Builtin.SmallTypes.nextOf (.ref i2) >>= _) _ _ _
  refine wpAny_bind (wpAny_nextOf_list_item h2 L2 e2 fun p2 t2 c2a=>wpAny_pure ?_)
  have o2a:p2.get? TO=some { cls:=.type "tuple",data:=.seq #[x1,a2,a3] }:=c2a.extBut _ _ D.TO_i2 o1
  refine wpAny_bind (wpAny_seqItems o2a rfl ?_)
  refine wpAny_bind (wpAny_updateSeq o2a rfl ?_)
  have c2b:=Heap.SameBut.update p2 TO (Obj.mapSeq fun r=>r.setIfInBounds 1 x2)
  have o2:(p2.update TO (Obj.mapSeq fun r=>r.setIfInBounds 1 x2)).get? TO=some { cls:=.type "tuple",data:=.seq #[x1,x2,a3] }:=by rw [Heap.get?_update_self _ o2a rfl]; simp [Obj.mapSeq]
  generalize p2.update TO (Obj.mapSeq fun r=>r.setIfInBounds 1 x2)=g2 at *
  have up2:∀ c o,c≠i2→c≠TO→g1.get? c=some o→g2.get? c=some o:=fun c o e1 e2 e=>c2b.extBut _ _ e2 (c2a.extBut _ _ e1 e)
  have t2:=t2.at fun o e=>c2b.extBut _ _ D.i2_TO e
  have t1:=t1.at fun o e=>up2 _ _ D.i1_i2 D.i1_TO e
  have h3:=h3.at fun o e=>up2 _ _ D.i3_i2 D.i3_TO e
  have L3:=L3.at fun o e=>up2 _ _ D.l3_i2 D.l3_TO e
  have z2:=up2 _ _ D.z_i2 D.z_TO z1
  refine wpAny_bind (wpAny_letGo (wpAny_pure ?_))
  refine wpAny_bind (wpAny_bind (wpAny_onRaise ?_))
  show wpAny (model prog w) _ (Builtin.SmallTypes.nextOf (.ref i3) >>= _) _ _ _
  refine wpAny_bind (wpAny_nextOf_list_item h3 L3 e3 fun p3 t3 c3a=>wpAny_pure ?_)
  have o3a:p3.get? TO=some { cls:=.type "tuple",data:=.seq #[x1,x2,a3] }:=c3a.extBut _ _ D.TO_i3 o2
  refine wpAny_bind (wpAny_seqItems o3a rfl ?_)
  refine wpAny_bind (wpAny_updateSeq o3a rfl ?_)
  have c3b:=Heap.SameBut.update p3 TO (Obj.mapSeq fun r=>r.setIfInBounds 2 x3)
  have o3:(p3.update TO (Obj.mapSeq fun r=>r.setIfInBounds 2 x3)).get? TO=some { cls:=.type "tuple",data:=.seq #[x1,x2,x3] }:=by rw [Heap.get?_update_self _ o3a rfl]; simp [Obj.mapSeq]
  generalize p3.update TO (Obj.mapSeq fun r=>r.setIfInBounds 2 x3)=g3 at *
  have up3:∀ c o,c≠i3→c≠TO→g2.get? c=some o→g3.get? c=some o:=fun c o e1 e2 e=>c3b.extBut _ _ e2 (c3a.extBut _ _ e1 e)
  have t3:=t3.at fun o e=>c3b.extBut _ _ D.i3_TO e
  have t1:=t1.at fun o e=>up3 _ _ D.i1_i3 D.i1_TO e
  have t2:=t2.at fun o e=>up3 _ _ D.i2_i3 D.i2_TO e
  have z3:=up3 _ _ D.z_i3 D.z_TO z2
  refine wpAny_bind (wpAny_letGo (wpAny_pure (wpAny_pure ?_)))
  refine wpAny_bind (wpAny_seqItems o3 rfl ?_)
  refine wpAny_bind (wpAny_newTuple ?_)
  have sz:g3.objs.size=s.heap.objs.size:=by rw [c3b.1,c3a.1,c2b.1,c2a.1,c1b.1,c1a.1,c0.1]
  have kp:∀ c o,c≠z→c≠TO→c≠i1→c≠i2→c≠i3→s.heap.get? c=some o→g3.get? c=some o:=fun c o nz nTO ni1 ni2 ni3 e=>up3 _ _ ni3 nTO (up2 _ _ ni2 nTO (up1 _ _ ni1 nTO (up0 _ _ nz e)))
  have TIg:g3.get? TI=some { cls:=.type "tuple",data:=.seq #[.ref i1,.ref i2,.ref i3] }:=kp _ _ D.TI_z D.TI_TO D.TI_i1 D.TI_i2 D.TI_i3 hI
  have lz:z < g3.objs.size:=Heap.lt_size z3
  show wpAny (model prog w) A (Builtin.SmallTypes.ownedTupleHandOut (.ref z) (.ref g3.objs.size) >>= _) _ _ _
  refine wpAny_bind ?_
  unfold Builtin.SmallTypes.ownedTupleHandOut
  have y6:(g3.push { cls:=.type "tuple",data:=.seq #[x1,x2,x3] }).get? z=some { cls:=.type "zip",dict:=none,data:=.fields #[.ellipsis,f1,.bool false,.ref TI,.ref TO],slots:=#[] }:=Heap.get?_push_of_some _ z3
  refine wpAny_bind (wpAny_setField_rec y6 (by simp) fun g7 y7 d7=>?_)
  replace y7:g7.get? z=some { cls:=.type "zip",dict:=none,data:=.fields #[(rawInt g3.objs.size),f1,.bool false,.ref TI,.ref TO],slots:=#[] }:=y7
  refine wpAny_setField_rec y7 (by simp) fun g8 y8 d8=>?_
  replace y8:g8.get? z=some { cls:=.type "zip",dict:=none,data:=.fields #[(rawInt g3.objs.size),(.bool false),.bool false,.ref TI,.ref TO],slots:=#[] }:=y8
  have up8:∀ c o,c≠z→g3.get? c=some o→g8.get? c=some o:=fun c o e1 e=>d8.extBut _ _ e1 (d7.extBut _ _ e1 (Heap.get?_push_of_some _ e))
  have p8:g8.get? g3.objs.size=some { cls:=.type "tuple",data:=.seq #[x1,x2,x3] }:=d8.extBut _ _ (Nat.ne_of_gt lz) (d7.extBut _ _ (Nat.ne_of_gt lz) (Heap.get?_push_size _ rfl))
  rw [sz] at p8
  refine wpAny_pure ⟨_,rfl,?_⟩
  show Q (.ref g3.objs.size) _
  rw [sz]
  exact q g8 _ _ _ x1 x2 x3 y8 ⟨.inr ⟨_,_,rfl⟩,⟨_,rfl⟩⟩ (up8 _ _ D.TI_z TIg) (up8 _ _ D.TO_z o3) (t1.at fun o e=>up8 _ _ D.i1_z e) (t2.at fun o e=>up8 _ _ D.i2_z e) (t3.at fun o e=>up8 _ _ D.i3_z e) p8 fun c o nz nTO ni1 ni2 ni3 e=>up8 _ _ nz (kp c o nz nTO ni1 ni2 ni3 e)
theorem zipB3 {z TI TO i1 i2 i3 l1 l2 l3:Addr} {k:Nat} {xs1 xs2 xs3:Array Value} {x1 x2 x3 a1 a2 a3:Value} {f0 f1:Value} {Q:Value→Shared→Prop} (D:ZA3 z TI TO i1 i2 i3 l1 l2 l3) (hI:s.heap.get? TI=some { cls:=.type "tuple",data:=.seq #[.ref i1,.ref i2,.ref i3] }) (hO:s.heap.get? TO=some { cls:=.type "tuple",data:=.seq #[a1,a2,a3] }) (h1:s.heap.IsListIter i1 l1 k) (h2:s.heap.IsListIter i2 l2 k) (h3:s.heap.IsListIter i3 l3 k) (L1:s.heap.IsList l1 xs1) (L2:s.heap.IsList l2 xs2) (L3:s.heap.IsList l3 xs3) (e1:xs1[k]?=some x1) (e2:xs2[k]?=some x2) (e3:xs3[k]?=some x3) (hz:s.heap.get? z=some { cls:=.type "zip",dict:=none,data:=.fields #[f0,f1,.bool false,.ref TI,.ref TO],slots:=#[] }) (hf:OkF f0 f1) (hfree:∀ (R:Bool→Shared→Prop),(∀ h' b,h'.get? z=some { cls:=.type "zip",dict:=none,data:=.fields #[f0,(.bool b),.bool false,.ref TI,.ref TO],slots:=#[] }→Heap.SameBut z s.heap h'→R false { s with heap:=h' })→wpAny (model prog w) A (Builtin.SmallTypes.ownedTupleIsFree (.ref z)) R E s)
    (q:∀ h' tk f0 f1 b1 b2 b3,h'.get? z=some { cls:=.type "zip",dict:=none,data:=.fields #[f0,f1,.bool false,.ref TI,.ref TO],slots:=#[] }→OkF f0 f1→h'.get? TI=some { cls:=.type "tuple",data:=.seq #[.ref i1,.ref i2,.ref i3] }→h'.get? TO=some { cls:=.type "tuple",data:=.seq #[b1,b2,b3] }→h'.IsListIter i1 l1 (k + 1)→h'.IsListIter i2 l2 (k + 1)→h'.IsListIter i3 l3 (k + 1)→h'.get? s.heap.objs.size=some { cls:=.type "tuple",data:=.seq #[x1,x2,x3] }→(∀ c o,c≠z→c≠TO→c≠i1→c≠i2→c≠i3→s.heap.get? c=some o→h'.get? c=some o)→Q (.ref s.heap.objs.size) { s with heap:=h',toks:=tk }) :
    wpAny (model prog w) A (Builtin.«zip.__next__» ⟨[.ref z],[]⟩) (fun fin s'=>∃ v,fin=.done (.ret v)∧Q v s') E s:=by
  show wpAny (model prog w) A (field (.ref z) 2 >>= _) _ _ _
  refine wpAny_bind (wpAny_field hz rfl (x:=.bool false) rfl ?_)
  show wpAny (model prog w) A (field (.ref z) 3 >>= _) _ _ _
  refine wpAny_bind (wpAny_field hz rfl (x:=.ref TI) rfl ?_)
  refine wpAny_bind (wpAny_seqItems hI rfl ?_)
  show wpAny (model prog w) A (Builtin.SmallTypes.ownedTupleIsFree (.ref z) >>= _) _ _ _
  refine wpAny_bind (hfree _ fun g0 b z0 c0=>?_)
  simp only [Bool.false_eq_true,if_false]
  have up0:∀ c o,c≠z→s.heap.get? c=some o→g0.get? c=some o:=fun c o e1 e=>c0.extBut _ _ e1 e
  have h1:=h1.at fun o e=>up0 _ _ D.i1_z e
  have L1:=L1.at fun o e=>up0 _ _ D.l1_z e
  have h2:=h2.at fun o e=>up0 _ _ D.i2_z e
  have L2:=L2.at fun o e=>up0 _ _ D.l2_z e
  have h3:=h3.at fun o e=>up0 _ _ D.i3_z e
  have L3:=L3.at fun o e=>up0 _ _ D.l3_z e
  refine wpAny_bind ?_
  simp only [List.forIn_toArray,List.forIn_cons,List.forIn_nil]
  refine wpAny_bind (wpAny_bind (wpAny_holding ?_))
  show wpAny (model prog w) _ (Builtin.SmallTypes.nextOf (.ref i1) >>= _) _ _ _
  refine wpAny_bind (wpAny_nextOf_list_item h1 L1 e1 fun g1 t1 c1=>wpAny_pure ?_)
  have up1:∀ c o,c≠i1→g0.get? c=some o→g1.get? c=some o:=fun c o e1 e=>c1.extBut _ _ e1 e
  have h2:=h2.at fun o e=>up1 _ _ D.i2_i1 e
  have L2:=L2.at fun o e=>up1 _ _ D.l2_i1 e
  have h3:=h3.at fun o e=>up1 _ _ D.i3_i1 e
  have L3:=L3.at fun o e=>up1 _ _ D.l3_i1 e
  have z1:=up1 _ _ D.z_i1 z0
  refine wpAny_pure ?_
  refine wpAny_bind (wpAny_bind (wpAny_holding ?_))
  show wpAny (model prog w) _ (Builtin.SmallTypes.nextOf (.ref i2) >>= _) _ _ _
  refine wpAny_bind (wpAny_nextOf_list_item h2 L2 e2 fun g2 t2 c2=>wpAny_pure ?_)
  have up2:∀ c o,c≠i2→g1.get? c=some o→g2.get? c=some o:=fun c o e1 e=>c2.extBut _ _ e1 e
  have t1:=t1.at fun o e=>up2 _ _ D.i1_i2 e
  have h3:=h3.at fun o e=>up2 _ _ D.i3_i2 e
  have L3:=L3.at fun o e=>up2 _ _ D.l3_i2 e
  have z2:=up2 _ _ D.z_i2 z1
  refine wpAny_pure ?_
  refine wpAny_bind (wpAny_bind (wpAny_holding ?_))
  show wpAny (model prog w) _ (Builtin.SmallTypes.nextOf (.ref i3) >>= _) _ _ _
  refine wpAny_bind (wpAny_nextOf_list_item h3 L3 e3 fun g3 t3 c3=>wpAny_pure ?_)
  have up3:∀ c o,c≠i3→g2.get? c=some o→g3.get? c=some o:=fun c o e1 e=>c3.extBut _ _ e1 e
  have t1:=t1.at fun o e=>up3 _ _ D.i1_i3 e
  have t2:=t2.at fun o e=>up3 _ _ D.i2_i3 e
  have z3:=up3 _ _ D.z_i3 z2
  refine wpAny_pure (wpAny_pure ?_)
  have sz:g3.objs.size=s.heap.objs.size:=by rw [c3.1,c2.1,c1.1,c0.1]
  refine wpAny_bind (wpAny_newTuple ?_ (show 3≤sizeLine by decide))
  refine wpAny_pure ⟨_,rfl,?_⟩
  show Q (.ref g3.objs.size) _
  have p8:(g3.push { cls:=.type "tuple",data:=.seq #[x1,x2,x3] }).get? g3.objs.size=some { cls:=.type "tuple",data:=.seq #[x1,x2,x3] }:=Heap.get?_push_size _ rfl
  rw [sz] at p8 ⊢
  have up8:∀ c o,g3.get? c=some o→(g3.push { cls:=.type "tuple",data:=.seq #[x1,x2,x3] }).get? c=some o:=fun c o e=>Heap.get?_push_of_some _ e
  have kp:∀ c o,c≠z→c≠i1→c≠i2→c≠i3→s.heap.get? c=some o→g3.get? c=some o:=fun c o nz ni1 ni2 ni3 e=>up3 _ _ ni3 (up2 _ _ ni2 (up1 _ _ ni1 (up0 _ _ nz e)))
  exact q _ _ _ _ a1 a2 a3 (up8 _ _ z3) ⟨hf.1,⟨_,rfl⟩⟩ (up8 _ _ (kp _ _ D.TI_z D.TI_i1 D.TI_i2 D.TI_i3 hI)) (up8 _ _ (kp _ _ D.TO_z D.TO_i1 D.TO_i2 D.TO_i3 hO)) (t1.at fun o e=>up8 _ _ e) (t2.at fun o e=>up8 _ _ e) (t3.at fun o e=>up8 _ _ e) p8 fun c o nz nTO ni1 ni2 ni3 e=>up8 _ _ (kp c o nz ni1 ni2 ni3 e)
theorem zipItem3 {z TI TO i1 i2 i3 l1 l2 l3:Addr} {k:Nat} {xs1 xs2 xs3:Array Value} {x1 x2 x3 a1 a2 a3:Value} {f0 f1:Value} {Q:Value→Shared→Prop} (D:ZA3 z TI TO i1 i2 i3 l1 l2 l3) (hI:s.heap.get? TI=some { cls:=.type "tuple",data:=.seq #[.ref i1,.ref i2,.ref i3] }) (hO:s.heap.get? TO=some { cls:=.type "tuple",data:=.seq #[a1,a2,a3] }) (h1:s.heap.IsListIter i1 l1 k) (h2:s.heap.IsListIter i2 l2 k) (h3:s.heap.IsListIter i3 l3 k) (L1:s.heap.IsList l1 xs1) (L2:s.heap.IsList l2 xs2) (L3:s.heap.IsList l3 xs3) (e1:xs1[k]?=some x1) (e2:xs2[k]?=some x2) (e3:xs3[k]?=some x3) (hz:s.heap.get? z=some { cls:=.type "zip",dict:=none,data:=.fields #[f0,f1,.bool false,.ref TI,.ref TO],slots:=#[] }) (hf:OkF f0 f1)
    (q:∀ h' tk f0 f1 b1 b2 b3,h'.get? z=some { cls:=.type "zip",dict:=none,data:=.fields #[f0,f1,.bool false,.ref TI,.ref TO],slots:=#[] }→OkF f0 f1→h'.get? TI=some { cls:=.type "tuple",data:=.seq #[.ref i1,.ref i2,.ref i3] }→h'.get? TO=some { cls:=.type "tuple",data:=.seq #[b1,b2,b3] }→h'.IsListIter i1 l1 (k + 1)→h'.IsListIter i2 l2 (k + 1)→h'.IsListIter i3 l3 (k + 1)→h'.get? s.heap.objs.size=some { cls:=.type "tuple",data:=.seq #[x1,x2,x3] }→(∀ c o,c≠z→c≠TO→c≠i1→c≠i2→c≠i3→s.heap.get? c=some o→h'.get? c=some o)→Q (.ref s.heap.objs.size) { s with heap:=h',toks:=tk }) :
    wpAny (model prog w) A (Builtin.«zip.__next__» ⟨[.ref z],[]⟩) (fun fin s'=>∃ v,fin=.done (.ret v)∧Q v s') E s:=by
  obtain ⟨h0,b,rfl⟩:=id hf
  rcases h0 with rfl | ⟨a,t,rfl⟩
  · exact zipA3 D hI hO h1 h2 h3 L1 L2 L3 e1 e2 e3 hz (fun R h=>free_t hz (.inl rfl) R h) q
  · cases ha:s.heap.get? a.toNat with
    | none=>exact zipA3 D hI hO h1 h2 h3 L1 L2 L3 e1 e2 e3 hz (fun R h=>free_t hz (.inr ⟨a,t,rfl,ha⟩) R h) q
    | some o=>exact zipB3 D hI hO h1 h2 h3 L1 L2 L3 e1 e2 e3 hz hf (fun R h=>free_f hz ha R h) q
theorem zipLast3 {z TI TO i1 i2 i3 l1 l2 l3:Addr} {k:Nat} {xs1:Array Value} {f0 f1:Value} {Q:Fin→Shared→Prop} (D:ZA3 z TI TO i1 i2 i3 l1 l2 l3) (hI:s.heap.get? TI=some { cls:=.type "tuple",data:=.seq #[.ref i1,.ref i2,.ref i3] }) (h1:s.heap.IsListIter i1 l1 k) (L1:s.heap.IsList l1 xs1) (e1:xs1[k]?=none) (hh:A.handled=none) (hz:s.heap.get? z=some { cls:=.type "zip",dict:=none,data:=.fields #[f0,f1,.bool false,.ref TI,.ref TO],slots:=#[] }) (hf:OkF f0 f1)
    (q:∀ h' e,(∀ c o,c≠z→c≠TO→c≠i1→c≠i2→c≠i3→s.heap.get? c=some o→h'.get? c=some o)→(∃ o,h'.get? e=some o∧o.cls=.type "StopIteration")→E (.ref e) { s with heap:=h' }) :
    wpAny (model prog w) A (Builtin.«zip.__next__» ⟨[.ref z],[]⟩) Q E s:=by
  show wpAny (model prog w) A (field (.ref z) 2 >>= _) _ _ _
  refine wpAny_bind (wpAny_field hz rfl (x:=.bool false) rfl ?_)
  show wpAny (model prog w) A (field (.ref z) 3 >>= _) _ _ _
  refine wpAny_bind (wpAny_field hz rfl (x:=.ref TI) rfl ?_)
  refine wpAny_bind (wpAny_seqItems hI rfl ?_)
  show wpAny (model prog w) A (Builtin.SmallTypes.ownedTupleIsFree (.ref z) >>= _) _ _ _
  obtain ⟨h0,b,rfl⟩:=id hf
  rcases h0 with rfl | ⟨a,t,rfl⟩
  · refine wpAny_bind (free_t hz (.inl rfl) _ ?_)
    simp only [if_true]
    refine wpAny_bind (wpAny_rule ?_)
    refine wpAny_bind (wpAny_field hz rfl (x:=.ref TO) rfl ?_)
    refine wpAny_bind (wpAny_setField_rec hz (by simp) fun g0 z0 c0=>?_)
    replace z0:g0.get? z=some { cls:=.type "zip",dict:=none,data:=.fields #[.ellipsis,(.bool b),.bool false,.ref TI,.ref TO],slots:=#[] }:=z0
    refine wpAny_bind ?_
    simp only [List.zipIdx_cons,List.zipIdx_nil,List.forIn_cons,List.forIn_nil]
    refine wpAny_bind (wpAny_bind (wpAny_onRaise ?_))
    show wpAny (model prog w) _ (Builtin.SmallTypes.nextOf (.ref i1) >>= _) _ _ _
    refine wpAny_bind (wpAny_nextOf_list_end hh (h1.at fun o e=>c0.extBut _ _ D.i1_z e) (L1.at fun o e=>c0.extBut _ _ D.l1_z e) e1 fun g2 e c2 he=>?_)
    obtain ⟨oe,ge,ce⟩:=he
    have z2:g2.get? z=some { cls:=.type "zip",dict:=none,data:=.fields #[.ellipsis,(.bool b),.bool false,.ref TI,.ref TO],slots:=#[] }:=c2 _ _ D.z_i1 z0
    have ez:e≠z:=fun y=>by subst y; rw [z2] at ge; cases ge; simp at ce
    exact wpAny_setField_rec z2 (by simp) fun g3 _ c3=>q g3 e (fun c o nz nTO ni1 ni2 ni3 y=>c3.extBut _ _ nz (c2 _ _ ni1 (c0.extBut _ _ nz y))) ⟨oe,c3.extBut _ _ ez ge,ce⟩
  · cases ha:s.heap.get? a.toNat with
    | none =>
      refine wpAny_bind (free_t hz (.inr ⟨a,t,rfl,ha⟩) _ ?_)
      simp only [if_true]
      refine wpAny_bind (wpAny_rule ?_)
      refine wpAny_bind (wpAny_field hz rfl (x:=.ref TO) rfl ?_)
      refine wpAny_bind (wpAny_setField_rec hz (by simp) fun g0 z0 c0=>?_)
      replace z0:g0.get? z=some { cls:=.type "zip",dict:=none,data:=.fields #[.ellipsis,(.bool b),.bool false,.ref TI,.ref TO],slots:=#[] }:=z0
      refine wpAny_bind ?_
      simp only [List.zipIdx_cons,List.zipIdx_nil,List.forIn_cons,List.forIn_nil]
      refine wpAny_bind (wpAny_bind (wpAny_onRaise ?_))
      show wpAny (model prog w) _ (Builtin.SmallTypes.nextOf (.ref i1) >>= _) _ _ _
      refine wpAny_bind (wpAny_nextOf_list_end hh (h1.at fun o e=>c0.extBut _ _ D.i1_z e) (L1.at fun o e=>c0.extBut _ _ D.l1_z e) e1 fun g2 e c2 he=>?_)
      obtain ⟨oe,ge,ce⟩:=he
      have z2:g2.get? z=some { cls:=.type "zip",dict:=none,data:=.fields #[.ellipsis,(.bool b),.bool false,.ref TI,.ref TO],slots:=#[] }:=c2 _ _ D.z_i1 z0
      have ez:e≠z:=fun y=>by subst y; rw [z2] at ge; cases ge; simp at ce
      exact wpAny_setField_rec z2 (by simp) fun g3 _ c3=>q g3 e (fun c o nz nTO ni1 ni2 ni3 y=>c3.extBut _ _ nz (c2 _ _ ni1 (c0.extBut _ _ nz y))) ⟨oe,c3.extBut _ _ ez ge,ce⟩
    | some o =>
      refine wpAny_bind (free_f hz ha _ fun g0 b z0 c0=>?_)
      simp only [Bool.false_eq_true,if_false]
      refine wpAny_bind ?_
      simp only [List.forIn_toArray,List.forIn_cons,List.forIn_nil]
      refine wpAny_bind (wpAny_bind (wpAny_holding ?_))
      show wpAny (model prog w) _ (Builtin.SmallTypes.nextOf (.ref i1) >>= _) _ _ _
      exact wpAny_bind (wpAny_nextOf_list_end hh (h1.at fun o e=>c0.extBut _ _ D.i1_z e) (L1.at fun o e=>c0.extBut _ _ D.l1_z e) e1 fun g2 e c2 he=>q g2 e (fun c o nz nTO ni1 ni2 ni3 y=>c2 _ _ ni1 (c0.extBut _ _ nz y)) he)
def zipSt3 (z TI TO i1 i2 i3 l1 l2 l3:Addr) (i:Nat) (h:Heap):Prop:=(∃ f0 f1,h.get? z=some { cls:=.type "zip",dict:=none,data:=.fields #[f0,f1,.bool false,.ref TI,.ref TO],slots:=#[] }∧OkF f0 f1)∧h.get? TI=some { cls:=.type "tuple",data:=.seq #[.ref i1,.ref i2,.ref i3] }∧(∃ a1 a2 a3,h.get? TO=some { cls:=.type "tuple",data:=.seq #[a1,a2,a3] })∧h.IsListIter i1 l1 i∧h.IsListIter i2 l2 i∧h.IsListIter i3 l3 i
theorem turn_zs3 {P:Program} {w:World} {K:PySem.W.Frag} {N:Nat} {nm:Str} {pos:Pos} {z TI TO i1 i2 i3 l1 l2 l3:Addr} (D:ZA3 z TI TO i1 i2 i3 l1 l2 l3):Turn P w K (.Name nm pos) (ItZ K N [l1,l2,l3]) [z,TI,TO,i1,i2,i3] z (zipSt3 z TI TO i1 i2 i3 l1 l2 l3) where
  mem:=by simp
  obj:=fun i h st c hc=>by
    obtain ⟨⟨f0,f1,hz,_⟩,hI,⟨a1,a2,a3,hO⟩,h1,h2,h3⟩:=st
    simp only [List.mem_cons,List.not_mem_nil,or_false] at hc
    rcases hc with rfl | rfl | rfl | rfl | rfl | rfl
    · exact ⟨_,hz,fun v q=>by have q':Data.fields _=Data.cell v:=q; cases q'⟩
    · exact ⟨_,hI,fun v q=>by have q':Data.seq _ _=Data.cell v:=q; cases q'⟩
    · exact ⟨_,hO,fun v q=>by have q':Data.seq _ _=Data.cell v:=q; cases q'⟩
    · obtain ⟨o,e,_,d⟩:=h1; exact ⟨o,e,fun v q=>by rw [d] at q; cases q⟩
    · obtain ⟨o,e,_,d⟩:=h2; exact ⟨o,e,fun v q=>by rw [d] at q; cases q⟩
    · obtain ⟨o,e,_,d⟩:=h3; exact ⟨o,e,fun v q=>by rw [d] at q; cases q⟩
  keep:=fun i h h' st kp=>by
    obtain ⟨⟨f0,f1,hz,hf⟩,hI,⟨a1,a2,a3,hO⟩,h1,h2,h3⟩:=st
    exact ⟨⟨f0,f1,kp z (by simp) _ hz,hf⟩,kp TI (by simp) _ hI,⟨_,_,_,kp TO (by simp) _ hO⟩,h1.at (kp i1 (by simp)),h2.at (kp i2 (by simp)),h3.at (kp i3 (by simp))⟩
  item:=by
    intro X hP hw hK hc i pins s σ H E I hf st hg
    subst hP hw hK
    obtain ⟨hi,hls⟩:=hg
    obtain ⟨⟨f0,f1,hz,hok⟩,hI,⟨a1,a2,a3,hO⟩,h1,h2,h3⟩:=st
    obtain ⟨xs1,q1,n1⟩:=hls l1 (by simp)
    obtain ⟨its1,r1,P1,Z1⟩:=I.list q1
    have lt1:i < its1.length:=by rw [← r1.length,n1]; exact hi
    obtain ⟨x1,hx1⟩:∃ x,xs1[i]?=some x:=⟨_,List.getElem?_eq_getElem (by rw [n1]; exact hi)⟩
    obtain ⟨u1,hu1,ru1⟩:=r1.get hx1
    obtain ⟨xs2,q2,n2⟩:=hls l2 (by simp)
    obtain ⟨its2,r2,P2,Z2⟩:=I.list q2
    have lt2:i < its2.length:=by rw [← r2.length,n2]; exact hi
    obtain ⟨x2,hx2⟩:∃ x,xs2[i]?=some x:=⟨_,List.getElem?_eq_getElem (by rw [n2]; exact hi)⟩
    obtain ⟨u2,hu2,ru2⟩:=r2.get hx2
    obtain ⟨xs3,q3,n3⟩:=hls l3 (by simp)
    obtain ⟨its3,r3,P3,Z3⟩:=I.list q3
    have lt3:i < its3.length:=by rw [← r3.length,n3]; exact hi
    obtain ⟨x3,hx3⟩:∃ x,xs3[i]?=some x:=⟨_,List.getElem?_eq_getElem (by rw [n3]; exact hi)⟩
    obtain ⟨u3,hu3,ru3⟩:=r3.get hx3
    have hT:s.TypeIs (.ref z) "zip" := ⟨_,hz,rfl⟩
    unfold pyNext
    refine wpAny_bind (wpAny_attempt (wpAny_callSpecial?_slot (name:=Str.ofString "__next__") hT F.slot_zip_next (wpAny_call_entry F.slot_zip_next hT F.entry_zip_next (zipItem3 D hI hO h1 h2 h3 P1.isList P2.isList P3.isList (show its1.toArray[i]?=some u1 by simpa using hu1) (show its2.toArray[i]?=some u2 by simpa using hu2) (show its3.toArray[i]?=some u3 by simpa using hu3) hz hok fun h' tk g0 g1 b1 b2 b3 z' ok' TI' TO' t1 t2 t3 T' hk=>wpAny_pure ?_) (F.args_zip_next_1 _))))
    refine ⟨_,rfl,?_⟩
    have hf4:∀ c∈[z,TO,i1,i2,i3],FpOk X pins H c:=fun c hc=>hf c (by simp only [List.mem_cons,List.not_mem_nil,or_false] at hc ⊢; rcases hc with q | q | q | q | q <;> simp [q])
    have tup:ObjOk X.prog X.w (upd H s.heap.objs.size (.tup [x1,x2,x3])) h' s.heap.objs.size (.tup [x1,x2,x3]):=⟨(show 3≤sizeLine by decide),[u1,u2,u3],.cons ru1 (.cons ru2 (.cons ru3 (.nil))),_,T',rfl,_,rfl⟩
    have I1:Inv X pins σ (upd H s.heap.objs.size (.tup [x1,x2,x3])) { s with heap:=h',toks:=tk } :=
      I.turnedNew (t':=tk) hf4 (fun c o hc e=>hk c o (fun y=>hc (by simp [y])) (fun y=>hc (by simp [y])) (fun y=>hc (by simp [y])) (fun y=>hc (by simp [y])) (fun y=>hc (by simp [y])) e) (Nat.le_refl _) tup
    have fpn:∀ c∈[z,TI,TO,i1,i2,i3],upd H s.heap.objs.size (.tup [x1,x2,x3]) c=none:=fun c hc=>by
      obtain ⟨o,e⟩:∃ o,s.heap.get? c=some o:=by
        have hc:=hc
        simp only [List.mem_cons,List.not_mem_nil,or_false] at hc
        rcases hc with rfl | rfl | rfl | rfl | rfl | rfl
        · exact ⟨_,hz⟩
        · exact ⟨_,hI⟩
        · exact ⟨_,hO⟩
        · obtain ⟨o,e,_⟩:=h1; exact ⟨o,e⟩
        · obtain ⟨o,e,_⟩:=h2; exact ⟨o,e⟩
        · obtain ⟨o,e,_⟩:=h3; exact ⟨o,e⟩
      rw [upd_ne (Nat.ne_of_lt (Heap.lt_size e))]
      exact (hf c hc).1
    show wpAny _ _ (pure ()) _ _ _
    refine wpAny_pure ⟨.ref s.heap.objs.size,_,I1,rfl,⟨_,_,rfl,I.hok.fresh (Nat.le_refl _),rfl⟩,⟨⟨_,_,z',ok'⟩,TI',⟨_,_,_,TO'⟩,t1,t2,t3⟩,fpn⟩
  done:=by
    intro X hP hw hK hc i pins s σ H E I hf st hg
    subst hP hw hK
    obtain ⟨hi,hls⟩:=hg
    obtain ⟨⟨f0,f1,hz,hok⟩,hI,⟨a1,a2,a3,hO⟩,h1,h2,h3⟩:=st
    obtain ⟨xs1,q1,n1⟩:=hls l1 (by simp)
    obtain ⟨its1,r1,P1,Z1⟩:=I.list q1
    have hT:s.TypeIs (.ref z) "zip" := ⟨_,hz,rfl⟩
    have hf4:∀ c∈[z,TO,i1,i2,i3],FpOk X pins H c:=fun c hc=>hf c (by simp only [List.mem_cons,List.not_mem_nil,or_false] at hc ⊢; rcases hc with q | q | q | q | q <;> simp [q])
    unfold pyNext
    refine wpAny_bind (wpAny_attempt (wpAny_callSpecial?_slot (name:=Str.ofString "__next__") hT F.slot_zip_next (wpAny_call_entry F.slot_zip_next hT F.entry_zip_next (zipLast3 (xs1:=its1.toArray) D hI h1 P1.isList (by rw [List.getElem?_toArray,List.getElem?_eq_none (by rw [← r1.length,n1,hi]; exact Nat.le_refl _)]) (I.ok.hd hc) hz hok fun h' e kp he=>?_) (F.args_zip_next_1 _))))
    obtain ⟨o,ho,hcl⟩:=he
    refine wpAny_bind (wpAny_isInstance (T := "StopIteration") (b:=true) ⟨o,ho,hcl⟩ isSubtype_stop (wpAny_pure ⟨rfl,?_⟩))
    exact I.turnedL (t':=s.toks) hf4 (fun c o hc e=>kp c o (fun y=>hc (by simp [y])) (fun y=>hc (by simp [y])) (fun y=>hc (by simp [y])) (fun y=>hc (by simp [y])) (fun y=>hc (by simp [y])) e)
  self:=fun A i s Q E st h=>by
    obtain ⟨⟨f0,f1,hz,hok⟩,_⟩:=st
    have hT:s.TypeIs (.ref z) "zip" := ⟨_,hz,rfl⟩
    refine wpAny_pyIter_slot hT F.slot_zip_iter (wpAny_call_entry F.slot_zip_iter hT F.entry_zip_iter ?_ (F.args_zip_iter_1 _))
    show wpAny _ _ (ret (.ref z)) _ _ s
    exact wpAny_pure ⟨_,rfl,"zip",_,hT,F.slot_zip_next.lookup,h⟩
end
end L2
namespace L2
open PySem PySem.Spec PyProof.Rows
def itL (a:Addr):Obj:={ cls:=.type "list_iterator",data:=.fields #[.ref a,.int 0 0] }
theorem ltL {h:Heap} {a:Addr} {its:Array Value} (x:h.IsList a its):a < h.objs.size:=by obtain ⟨o,e,_⟩:=x; exact Heap.lt_size e
section
variable {prog:Program} {w:World} {A:Around} {E:Value→Shared→Prop} {s:Shared}
theorem iterL {a:Addr} {its:Array Value} {Q:Value→Shared→Prop} (h:s.heap.IsList a its) (q:Q (.ref s.heap.objs.size) { s with heap:=s.heap.push (itL a) }):wpAny (model prog w) A (pyIter (.ref a)) Q E s:=wpAny_pyIter_list h q
end
theorem typeCall_z1 (a1:Value):checkTypeCall "zip" ⟨[a1],[]⟩=pure ():=by kernel_rfl
theorem newCall_z1 (a1:Value):checkBuiltinCall "zip.__new__" ⟨[.type "zip",a1],[]⟩=pure ():=by kernel_rfl
abbrev z1h1 (h:Heap) (l1:Addr):Heap:=Heap.push h (itL l1)
abbrev z1h2 (h:Heap) (l1:Addr):Heap:=Heap.push (z1h1 h l1) { cls:=.type "tuple",data:=.seq #[.ref h.objs.size] }
abbrev z1h3 (h:Heap) (l1:Addr):Heap:=Heap.push (z1h2 h l1) { cls:=.type "tuple",data:=.seq #[.none] }
abbrev z1h4 (h:Heap) (l1:Addr):Heap:=Heap.push (z1h3 h l1) { cls:=.type "zip",data:=.fields #[.none,.bool false,.bool false,.ref (z1h1 h l1).objs.size,.ref (z1h2 h l1).objs.size] }
section
variable {prog:Program} {w:World} {A:Around} {E:Value→Shared→Prop} {s:Shared}
theorem iterAllZ1 {l1:Addr} {xs1:Array Value} {Q:List Value→Shared→Prop} (L1:s.heap.IsList l1 xs1) (q:Q [.ref s.heap.objs.size] { s with heap:=(z1h1 s.heap l1) }):wpAny (model prog w) A (Builtin.SmallTypes.iterAll [.ref l1]) Q E s:=by
  unfold Builtin.SmallTypes.iterAll
  refine wpAny_bind ?_
  simp only [List.forIn_cons,List.forIn_nil]
  refine wpAny_bind (wpAny_bind (wpAny_holding (iterL (L1) (wpAny_pure (wpAny_pure (wpAny_pure q))))))
end
theorem meetsZs1 (l1:Addr) (xs1:Array Value) :
    Meets (Builtin.«zip.__new__» ⟨[.type "zip",.ref l1],[]⟩) (fun _ R s=>s.heap.IsList l1 xs1∧R (.ok (.ret (.ref (z1h3 s.heap l1).objs.size))) { s with heap:=(z1h4 s.heap l1) }) :=
  .of_wp fun prog w A R s h=>by
    obtain ⟨hp,g,d,tk,os⟩:=s
    obtain ⟨q1,h⟩:=h
    have hsub:=sub_zip
    wp_walk using iterAllZ1 q1
    exact ⟨_,rfl,h⟩
theorem zaNew1 {k l1:Nat} (h1:l1 < k):ZA1 (k + 3) (k + 1) (k + 2) k l1:=by
  constructor <;> (intro e; try simp only [Addr] at e) <;> omega
section
variable {prog:Program} {w:World} {A:Around} {E:Value→Shared→Prop} {s:Shared}
theorem callZs1 {l1:Addr} {xs1:Array Value} {Q:Value→Shared→Prop} (q1:s.heap.IsList l1 xs1)
    (k:∀ h',IsZip h' (s.heap.objs.size + 3) (s.heap.objs.size + 1) (s.heap.objs.size + 2) .none→zipSt1 (s.heap.objs.size + 3) (s.heap.objs.size + 1) (s.heap.objs.size + 2) s.heap.objs.size l1 0 h'→(∀ c o,s.heap.get? c=some o→h'.get? c=some o)→Q (.ref (s.heap.objs.size + 3)) { s with heap:=h' }) :
    wpAny (model prog w) A (call (.type "zip") [.ref l1]) Q E s:=by
  refine callType_new F.called_zip (by decide) (typeCall_z1 _ ) (newCall_z1 _ ) (fun obj=>F.args_object_init_2 obj _) F.entry_zip_new (meetsZs1 l1 xs1) ⟨q1,?_⟩
  have z1:(z1h1 s.heap l1).objs.size=s.heap.objs.size + 1:=by rw [Heap.size_push]
  have z2:(z1h2 s.heap l1).objs.size=s.heap.objs.size + 2:=by rw [Heap.size_push,z1]
  have z3:(z1h3 s.heap l1).objs.size=s.heap.objs.size + 3:=by rw [Heap.size_push,z2]
  have up:∀ c o,s.heap.get? c=some o→(z1h4 s.heap l1).get? c=some o:=fun c o x=>Heap.get?_push_of_some _ (Heap.get?_push_of_some _ (Heap.get?_push_of_some _ (Heap.get?_push_of_some _ (x))))
  have g0:(z1h4 s.heap l1).get? s.heap.objs.size=some _:=Heap.get?_push_of_some _ (Heap.get?_push_of_some _ (Heap.get?_push_of_some _ (Heap.get?_push_size (o:=itL l1) _ rfl)))
  have g1:(z1h4 s.heap l1).get? (z1h1 s.heap l1).objs.size=some _:=Heap.get?_push_of_some _ (Heap.get?_push_of_some _ (Heap.get?_push_size _ rfl))
  have g2:(z1h4 s.heap l1).get? (z1h2 s.heap l1).objs.size=some _:=Heap.get?_push_of_some _ (Heap.get?_push_size _ rfl)
  have g3:(z1h4 s.heap l1).get? (z1h3 s.heap l1).objs.size=some _:=Heap.get?_push_size _ rfl
  show _∧_
  rw [z1] at g1
  rw [z2] at g2
  rw [z1,z2,z3] at g3
  rw [z3]
  exact ⟨⟨_,g3,rfl⟩,k _ g3 ⟨⟨_,_,g3,.inl rfl,_,rfl⟩,g1,⟨_,g2⟩,⟨_,g0,rfl,rfl⟩⟩ up⟩
end
theorem typeCall_z2 (a b:Value):checkTypeCall "zip" ⟨[a,b],[]⟩=pure ():=F.typeCall_zip_2 a b
theorem newCall_z2 (a b:Value):checkBuiltinCall "zip.__new__" ⟨[.type "zip",a,b],[]⟩=pure ():=F.newCall_zip_2 a b
abbrev z2h1 (h:Heap) (l1 l2:Addr):Heap:=Heap.push h (itL l1)
abbrev z2h2 (h:Heap) (l1 l2:Addr):Heap:=Heap.push (z2h1 h l1 l2) (itL l2)
abbrev z2h3 (h:Heap) (l1 l2:Addr):Heap:=Heap.push (z2h2 h l1 l2) { cls:=.type "tuple",data:=.seq #[.ref h.objs.size,.ref (z2h1 h l1 l2).objs.size] }
abbrev z2h4 (h:Heap) (l1 l2:Addr):Heap:=Heap.push (z2h3 h l1 l2) { cls:=.type "tuple",data:=.seq #[.none,.none] }
abbrev z2h5 (h:Heap) (l1 l2:Addr):Heap:=Heap.push (z2h4 h l1 l2) { cls:=.type "zip",data:=.fields #[.none,.bool false,.bool false,.ref (z2h2 h l1 l2).objs.size,.ref (z2h3 h l1 l2).objs.size] }
section
variable {prog:Program} {w:World} {A:Around} {E:Value→Shared→Prop} {s:Shared}
theorem iterAllZ2 {l1 l2:Addr} {xs1 xs2:Array Value} {Q:List Value→Shared→Prop} (L1:s.heap.IsList l1 xs1) (L2:s.heap.IsList l2 xs2) (q:Q [.ref s.heap.objs.size,.ref (z2h1 s.heap l1 l2).objs.size] { s with heap:=(z2h2 s.heap l1 l2) }):wpAny (model prog w) A (Builtin.SmallTypes.iterAll [.ref l1,.ref l2]) Q E s:=by
  unfold Builtin.SmallTypes.iterAll
  refine wpAny_bind ?_
  simp only [List.forIn_cons,List.forIn_nil]
  refine wpAny_bind (wpAny_bind (wpAny_holding (iterL (L1) (wpAny_pure ?_))))
  refine wpAny_bind (wpAny_bind (wpAny_holding (iterL (s:={ s with heap:=(z2h1 s.heap l1 l2) }) (Heap.IsList.push (L2) _) (wpAny_pure (wpAny_pure (wpAny_pure q))))))
end
theorem meetsZs2 (l1 l2:Addr) (xs1 xs2:Array Value) :
    Meets (Builtin.«zip.__new__» ⟨[.type "zip",.ref l1,.ref l2],[]⟩) (fun _ R s=>s.heap.IsList l1 xs1∧s.heap.IsList l2 xs2∧R (.ok (.ret (.ref (z2h4 s.heap l1 l2).objs.size))) { s with heap:=(z2h5 s.heap l1 l2) }) :=
  .of_wp fun prog w A R s h=>by
    obtain ⟨hp,g,d,tk,os⟩:=s
    obtain ⟨q1,q2,h⟩:=h
    have hsub:=sub_zip
    wp_walk using iterAllZ2 q1 q2
    exact ⟨_,rfl,h⟩
theorem zaNew2 {k l1 l2:Nat} (h1:l1 < k) (h2:l2 < k):ZA2 (k + 4) (k + 2) (k + 3) k (k + 1) l1 l2:=by
  constructor <;> (intro e; try simp only [Addr] at e) <;> omega
section
variable {prog:Program} {w:World} {A:Around} {E:Value→Shared→Prop} {s:Shared}
theorem callZs2 {l1 l2:Addr} {xs1 xs2:Array Value} {Q:Value→Shared→Prop} (q1:s.heap.IsList l1 xs1) (q2:s.heap.IsList l2 xs2)
    (k:∀ h',IsZip h' (s.heap.objs.size + 4) (s.heap.objs.size + 2) (s.heap.objs.size + 3) .none→zipSt2 (s.heap.objs.size + 4) (s.heap.objs.size + 2) (s.heap.objs.size + 3) s.heap.objs.size (s.heap.objs.size + 1) l1 l2 0 h'→(∀ c o,s.heap.get? c=some o→h'.get? c=some o)→Q (.ref (s.heap.objs.size + 4)) { s with heap:=h' }) :
    wpAny (model prog w) A (call (.type "zip") [.ref l1,.ref l2]) Q E s:=by
  refine callType_new F.called_zip (by decide) (typeCall_z2 _ _ ) (newCall_z2 _ _ ) (fun obj=>F.args_object_init_3 obj _ _) F.entry_zip_new (meetsZs2 l1 l2 xs1 xs2) ⟨q1,q2,?_⟩
  have z1:(z2h1 s.heap l1 l2).objs.size=s.heap.objs.size + 1:=by rw [Heap.size_push]
  have z2:(z2h2 s.heap l1 l2).objs.size=s.heap.objs.size + 2:=by rw [Heap.size_push,z1]
  have z3:(z2h3 s.heap l1 l2).objs.size=s.heap.objs.size + 3:=by rw [Heap.size_push,z2]
  have z4:(z2h4 s.heap l1 l2).objs.size=s.heap.objs.size + 4:=by rw [Heap.size_push,z3]
  have up:∀ c o,s.heap.get? c=some o→(z2h5 s.heap l1 l2).get? c=some o:=fun c o x=>Heap.get?_push_of_some _ (Heap.get?_push_of_some _ (Heap.get?_push_of_some _ (Heap.get?_push_of_some _ (Heap.get?_push_of_some _ (x)))))
  have g0:(z2h5 s.heap l1 l2).get? s.heap.objs.size=some _:=Heap.get?_push_of_some _ (Heap.get?_push_of_some _ (Heap.get?_push_of_some _ (Heap.get?_push_of_some _ (Heap.get?_push_size (o:=itL l1) _ rfl))))
  have g1:(z2h5 s.heap l1 l2).get? (z2h1 s.heap l1 l2).objs.size=some _:=Heap.get?_push_of_some _ (Heap.get?_push_of_some _ (Heap.get?_push_of_some _ (Heap.get?_push_size (o:=itL l2) _ rfl)))
  have g2:(z2h5 s.heap l1 l2).get? (z2h2 s.heap l1 l2).objs.size=some _:=Heap.get?_push_of_some _ (Heap.get?_push_of_some _ (Heap.get?_push_size _ rfl))
  have g3:(z2h5 s.heap l1 l2).get? (z2h3 s.heap l1 l2).objs.size=some _:=Heap.get?_push_of_some _ (Heap.get?_push_size _ rfl)
  have g4:(z2h5 s.heap l1 l2).get? (z2h4 s.heap l1 l2).objs.size=some _:=Heap.get?_push_size _ rfl
  show _∧_
  rw [z1] at g1
  rw [z1,z2] at g2
  rw [z3] at g3
  rw [z2,z3,z4] at g4
  rw [z4]
  exact ⟨⟨_,g4,rfl⟩,k _ g4 ⟨⟨_,_,g4,.inl rfl,_,rfl⟩,g2,⟨_,_,g3⟩,⟨_,g0,rfl,rfl⟩,⟨_,g1,rfl,rfl⟩⟩ up⟩
end
theorem typeCall_z3 (a1 a2 a3:Value):checkTypeCall "zip" ⟨[a1,a2,a3],[]⟩=pure ():=by kernel_rfl
theorem newCall_z3 (a1 a2 a3:Value):checkBuiltinCall "zip.__new__" ⟨[.type "zip",a1,a2,a3],[]⟩=pure ():=by kernel_rfl
theorem initArgs_z3 (a b c d:Value):argsOk "object.__init__" ⟨[a,b,c,d],[]⟩:=by
  unfold argsOk; rw [signature?_of (id := "object.__init__") (n:=['_','_','t','i','n','i','_','_']) (o:=['t','c','e','j','b','o']) (by kernel_rfl) F.owner_object]; kernel_rfl
abbrev z3h1 (h:Heap) (l1 l2 l3:Addr):Heap:=Heap.push h (itL l1)
abbrev z3h2 (h:Heap) (l1 l2 l3:Addr):Heap:=Heap.push (z3h1 h l1 l2 l3) (itL l2)
abbrev z3h3 (h:Heap) (l1 l2 l3:Addr):Heap:=Heap.push (z3h2 h l1 l2 l3) (itL l3)
abbrev z3h4 (h:Heap) (l1 l2 l3:Addr):Heap:=Heap.push (z3h3 h l1 l2 l3) { cls:=.type "tuple",data:=.seq #[.ref h.objs.size,.ref (z3h1 h l1 l2 l3).objs.size,.ref (z3h2 h l1 l2 l3).objs.size] }
abbrev z3h5 (h:Heap) (l1 l2 l3:Addr):Heap:=Heap.push (z3h4 h l1 l2 l3) { cls:=.type "tuple",data:=.seq #[.none,.none,.none] }
abbrev z3h6 (h:Heap) (l1 l2 l3:Addr):Heap:=Heap.push (z3h5 h l1 l2 l3) { cls:=.type "zip",data:=.fields #[.none,.bool false,.bool false,.ref (z3h3 h l1 l2 l3).objs.size,.ref (z3h4 h l1 l2 l3).objs.size] }
section
variable {prog:Program} {w:World} {A:Around} {E:Value→Shared→Prop} {s:Shared}
theorem iterAllZ3 {l1 l2 l3:Addr} {xs1 xs2 xs3:Array Value} {Q:List Value→Shared→Prop} (L1:s.heap.IsList l1 xs1) (L2:s.heap.IsList l2 xs2) (L3:s.heap.IsList l3 xs3) (q:Q [.ref s.heap.objs.size,.ref (z3h1 s.heap l1 l2 l3).objs.size,.ref (z3h2 s.heap l1 l2 l3).objs.size] { s with heap:=(z3h3 s.heap l1 l2 l3) }):wpAny (model prog w) A (Builtin.SmallTypes.iterAll [.ref l1,.ref l2,.ref l3]) Q E s:=by
  unfold Builtin.SmallTypes.iterAll
  refine wpAny_bind ?_
  simp only [List.forIn_cons,List.forIn_nil]
  refine wpAny_bind (wpAny_bind (wpAny_holding (iterL (L1) (wpAny_pure ?_))))
  refine wpAny_bind (wpAny_bind (wpAny_holding (iterL (s:={ s with heap:=(z3h1 s.heap l1 l2 l3) }) (Heap.IsList.push (L2) _) (wpAny_pure ?_))))
  refine wpAny_bind (wpAny_bind (wpAny_holding (iterL (s:={ s with heap:=(z3h2 s.heap l1 l2 l3) }) (Heap.IsList.push (Heap.IsList.push (L3) _) _) (wpAny_pure (wpAny_pure (wpAny_pure q))))))
end
theorem meetsZs3 (l1 l2 l3:Addr) (xs1 xs2 xs3:Array Value) :
    Meets (Builtin.«zip.__new__» ⟨[.type "zip",.ref l1,.ref l2,.ref l3],[]⟩) (fun _ R s=>s.heap.IsList l1 xs1∧s.heap.IsList l2 xs2∧s.heap.IsList l3 xs3∧R (.ok (.ret (.ref (z3h5 s.heap l1 l2 l3).objs.size))) { s with heap:=(z3h6 s.heap l1 l2 l3) }) :=
  .of_wp fun prog w A R s h=>by
    obtain ⟨hp,g,d,tk,os⟩:=s
    obtain ⟨q1,q2,q3,h⟩:=h
    have hsub:=sub_zip
    wp_walk using iterAllZ3 q1 q2 q3
    exact ⟨_,rfl,h⟩
theorem zaNew3 {k l1 l2 l3:Nat} (h1:l1 < k) (h2:l2 < k) (h3:l3 < k):ZA3 (k + 5) (k + 3) (k + 4) k (k + 1) (k + 2) l1 l2 l3:=by
  constructor <;> (intro e; try simp only [Addr] at e) <;> omega
section
variable {prog:Program} {w:World} {A:Around} {E:Value→Shared→Prop} {s:Shared}
theorem callZs3 {l1 l2 l3:Addr} {xs1 xs2 xs3:Array Value} {Q:Value→Shared→Prop} (q1:s.heap.IsList l1 xs1) (q2:s.heap.IsList l2 xs2) (q3:s.heap.IsList l3 xs3)
    (k:∀ h',IsZip h' (s.heap.objs.size + 5) (s.heap.objs.size + 3) (s.heap.objs.size + 4) .none→zipSt3 (s.heap.objs.size + 5) (s.heap.objs.size + 3) (s.heap.objs.size + 4) s.heap.objs.size (s.heap.objs.size + 1) (s.heap.objs.size + 2) l1 l2 l3 0 h'→(∀ c o,s.heap.get? c=some o→h'.get? c=some o)→Q (.ref (s.heap.objs.size + 5)) { s with heap:=h' }) :
    wpAny (model prog w) A (call (.type "zip") [.ref l1,.ref l2,.ref l3]) Q E s:=by
  refine callType_new F.called_zip (by decide) (typeCall_z3 _ _ _ ) (newCall_z3 _ _ _ ) (fun obj=>initArgs_z3 obj _ _ _) F.entry_zip_new (meetsZs3 l1 l2 l3 xs1 xs2 xs3) ⟨q1,q2,q3,?_⟩
  have z1:(z3h1 s.heap l1 l2 l3).objs.size=s.heap.objs.size + 1:=by rw [Heap.size_push]
  have z2:(z3h2 s.heap l1 l2 l3).objs.size=s.heap.objs.size + 2:=by rw [Heap.size_push,z1]
  have z3:(z3h3 s.heap l1 l2 l3).objs.size=s.heap.objs.size + 3:=by rw [Heap.size_push,z2]
  have z4:(z3h4 s.heap l1 l2 l3).objs.size=s.heap.objs.size + 4:=by rw [Heap.size_push,z3]
  have z5:(z3h5 s.heap l1 l2 l3).objs.size=s.heap.objs.size + 5:=by rw [Heap.size_push,z4]
  have up:∀ c o,s.heap.get? c=some o→(z3h6 s.heap l1 l2 l3).get? c=some o:=fun c o x=>Heap.get?_push_of_some _ (Heap.get?_push_of_some _ (Heap.get?_push_of_some _ (Heap.get?_push_of_some _ (Heap.get?_push_of_some _ (Heap.get?_push_of_some _ (x))))))
  have g0:(z3h6 s.heap l1 l2 l3).get? s.heap.objs.size=some _:=Heap.get?_push_of_some _ (Heap.get?_push_of_some _ (Heap.get?_push_of_some _ (Heap.get?_push_of_some _ (Heap.get?_push_of_some _ (Heap.get?_push_size (o:=itL l1) _ rfl)))))
  have g1:(z3h6 s.heap l1 l2 l3).get? (z3h1 s.heap l1 l2 l3).objs.size=some _:=Heap.get?_push_of_some _ (Heap.get?_push_of_some _ (Heap.get?_push_of_some _ (Heap.get?_push_of_some _ (Heap.get?_push_size (o:=itL l2) _ rfl))))
  have g2:(z3h6 s.heap l1 l2 l3).get? (z3h2 s.heap l1 l2 l3).objs.size=some _:=Heap.get?_push_of_some _ (Heap.get?_push_of_some _ (Heap.get?_push_of_some _ (Heap.get?_push_size (o:=itL l3) _ rfl)))
  have g3:(z3h6 s.heap l1 l2 l3).get? (z3h3 s.heap l1 l2 l3).objs.size=some _:=Heap.get?_push_of_some _ (Heap.get?_push_of_some _ (Heap.get?_push_size _ rfl))
  have g4:(z3h6 s.heap l1 l2 l3).get? (z3h4 s.heap l1 l2 l3).objs.size=some _:=Heap.get?_push_of_some _ (Heap.get?_push_size _ rfl)
  have g5:(z3h6 s.heap l1 l2 l3).get? (z3h5 s.heap l1 l2 l3).objs.size=some _:=Heap.get?_push_size _ rfl
  show _∧_
  rw [z1] at g1
  rw [z2] at g2
  rw [z1,z2,z3] at g3
  rw [z4] at g4
  rw [z3,z4,z5] at g5
  rw [z5]
  exact ⟨⟨_,g5,rfl⟩,k _ g5 ⟨⟨_,_,g5,.inl rfl,_,rfl⟩,g3,⟨_,_,_,g4⟩,⟨_,g0,rfl,rfl⟩,⟨_,g1,rfl,rfl⟩,⟨_,g2,rfl,rfl⟩⟩ up⟩
end
theorem pieZ1 {X:Cx} {pins:List (Addr × Obj)} {σ:St} {H:Hp} {s:Shared} {R:It→Hp→Prop} {nm:Str} {tp:Pos} {N:Nat} {l1:Addr} (I:Inv X pins σ H s) (q1:∃ xs,SqL X.K H l1 xs) (q:R (ItZ X.K N [l1]) H) :
    wpAny (model X.prog X.w) X.A (call (.type "zip") [.ref l1]) (fun v s1=>wpAny (model X.prog X.w) X.A (pyIter v) (PIE X pins σ (.Name nm tp) R) X.xe s1) X.xe s:=by
  obtain ⟨xs1,q1⟩:=q1
  obtain ⟨its1,r1,P1,Z1⟩:=I.list q1
  have K1:s.heap.IsList l1 its1.toArray:=P1.isList
  refine callZs1 K1 fun h' hz st hk=>?_
  refine wpAny_pyIter_zip (s:={ s with heap:=h' }) hz ?_
  refine ⟨_,_,_,_,H,rfl,I.kept (t':=s.toks) hk,turn_zs1 (N:=N) (zaNew1 (ltL K1)),st,fun c hc=>?_,q⟩
  simp only [List.mem_cons,List.not_mem_nil,or_false] at hc
  have up:∀ k,FpOk X pins H (s.heap.objs.size + k):=fun k=>I.fpOk (Nat.le_add_right _ k) (I.hok.fresh (Nat.le_add_right _ k))
  rcases hc with rfl | rfl | rfl | rfl
  · exact up 3
  · exact up 1
  · exact up 2
  · exact up 0
theorem pieZ2 {X:Cx} {pins:List (Addr × Obj)} {σ:St} {H:Hp} {s:Shared} {R:It→Hp→Prop} {nm:Str} {tp:Pos} {N:Nat} {l1 l2:Addr} (I:Inv X pins σ H s) (q1:∃ xs,SqL X.K H l1 xs) (q2:∃ xs,SqL X.K H l2 xs) (q:R (ItZ X.K N [l1,l2]) H) :
    wpAny (model X.prog X.w) X.A (call (.type "zip") [.ref l1,.ref l2]) (fun v s1=>wpAny (model X.prog X.w) X.A (pyIter v) (PIE X pins σ (.Name nm tp) R) X.xe s1) X.xe s:=by
  obtain ⟨xs1,q1⟩:=q1
  obtain ⟨its1,r1,P1,Z1⟩:=I.list q1
  have K1:s.heap.IsList l1 its1.toArray:=P1.isList
  obtain ⟨xs2,q2⟩:=q2
  obtain ⟨its2,r2,P2,Z2⟩:=I.list q2
  have K2:s.heap.IsList l2 its2.toArray:=P2.isList
  refine callZs2 K1 K2 fun h' hz st hk=>?_
  refine wpAny_pyIter_zip (s:={ s with heap:=h' }) hz ?_
  refine ⟨_,_,_,_,H,rfl,I.kept (t':=s.toks) hk,turn_zs2 (N:=N) (zaNew2 (ltL K1) (ltL K2)),st,fun c hc=>?_,q⟩
  simp only [List.mem_cons,List.not_mem_nil,or_false] at hc
  have up:∀ k,FpOk X pins H (s.heap.objs.size + k):=fun k=>I.fpOk (Nat.le_add_right _ k) (I.hok.fresh (Nat.le_add_right _ k))
  rcases hc with rfl | rfl | rfl | rfl | rfl
  · exact up 4
  · exact up 2
  · exact up 3
  · exact up 0
  · exact up 1
theorem pieZ3 {X:Cx} {pins:List (Addr × Obj)} {σ:St} {H:Hp} {s:Shared} {R:It→Hp→Prop} {nm:Str} {tp:Pos} {N:Nat} {l1 l2 l3:Addr} (I:Inv X pins σ H s) (q1:∃ xs,SqL X.K H l1 xs) (q2:∃ xs,SqL X.K H l2 xs) (q3:∃ xs,SqL X.K H l3 xs) (q:R (ItZ X.K N [l1,l2,l3]) H) :
    wpAny (model X.prog X.w) X.A (call (.type "zip") [.ref l1,.ref l2,.ref l3]) (fun v s1=>wpAny (model X.prog X.w) X.A (pyIter v) (PIE X pins σ (.Name nm tp) R) X.xe s1) X.xe s:=by
  obtain ⟨xs1,q1⟩:=q1
  obtain ⟨its1,r1,P1,Z1⟩:=I.list q1
  have K1:s.heap.IsList l1 its1.toArray:=P1.isList
  obtain ⟨xs2,q2⟩:=q2
  obtain ⟨its2,r2,P2,Z2⟩:=I.list q2
  have K2:s.heap.IsList l2 its2.toArray:=P2.isList
  obtain ⟨xs3,q3⟩:=q3
  obtain ⟨its3,r3,P3,Z3⟩:=I.list q3
  have K3:s.heap.IsList l3 its3.toArray:=P3.isList
  refine callZs3 K1 K2 K3 fun h' hz st hk=>?_
  refine wpAny_pyIter_zip (s:={ s with heap:=h' }) hz ?_
  refine ⟨_,_,_,_,H,rfl,I.kept (t':=s.toks) hk,turn_zs3 (N:=N) (zaNew3 (ltL K1) (ltL K2) (ltL K3)),st,fun c hc=>?_,q⟩
  simp only [List.mem_cons,List.not_mem_nil,or_false] at hc
  have up:∀ k,FpOk X pins H (s.heap.objs.size + k):=fun k=>I.fpOk (Nat.le_add_right _ k) (I.hok.fresh (Nat.le_add_right _ k))
  rcases hc with rfl | rfl | rfl | rfl | rfl | rfl
  · exact up 5
  · exact up 3
  · exact up 4
  · exact up 0
  · exact up 1
  · exact up 2
end L2
namespace L2
open PySem PySem.Spec PyProof.Rows
section
variable {X:Cx}
def iZipS (K:PySem.W.Frag) (t:TE):TI:=fun σ H R=>t σ H fun v H1=>∃ a ls N,v=.ref a∧SqL K H1 a (ls.map .ref)∧1≤ls.length∧ls.length≤3∧(∀ l∈ls,∃ xs,SqL K H1 l xs)∧R (ItZ K N ls) H1
theorem pieZ {pins:List (Addr × Obj)} {σ:St} {H:Hp} {s:Shared} {R:It→Hp→Prop} {nm:Str} {tp:Pos} {N:Nat} {ls:List Addr} {its:List Value} (I:Inv X pins σ H s) (h1:1≤ls.length) (h3:ls.length≤3) (hl:∀ l∈ls,∃ xs,SqL X.K H l xs) (rv:Vals (ls.map .ref) its) (q:R (ItZ X.K N ls) H) :
    wpAny (model X.prog X.w) X.A (call (.type "zip") its) (fun v s1=>wpAny (model X.prog X.w) X.A (pyIter v) (PIE X pins σ (.Name nm tp) R) X.xe s1) X.xe s:=by
  rcases ls with _ | ⟨l1,_ | ⟨l2,_ | ⟨l3,_ | ⟨l4,ls⟩⟩⟩⟩
  · simp at h1
  · obtain ⟨u1,rfl,r1⟩:=Vals.one rv
    cases r1
    exact pieZ1 I (hl l1 (by simp)) q
  · obtain ⟨u1,u2,rfl,r1,r2⟩:=Vals.two rv
    cases r1; cases r2
    exact pieZ2 I (hl l1 (by simp)) (hl l2 (by simp)) q
  · cases rv with
    | cons r1 rv =>
      obtain ⟨u1,u2,rfl,r2,r3⟩:=Vals.two rv
      cases r1; cases r2; cases r3
      exact pieZ3 I (hl l1 (by simp)) (hl l2 (by simp)) (hl l3 (by simp)) q
  · simp only [List.length_cons] at h3; omega
theorem pi_zipS {e:Expr} {t:TE} {p pp pos tp:Pos} {nm:Str} (hg:Gl X "zip") (hm:X.mg "zip" = none) (he:PE X e t) (hs:starEach [.Starred e pp] X.env=[(true,eval e X.env)]:=by rfl) :
    PI X (.Name nm tp) (.Call (.Name "zip" p) [.Starred e pp] [] pos) (iZipS X.K t):=by
  intro pins s σ H R I h
  refine Call_ (ld_blt I hg hm boot_zip ?_)
  rw [hs]
  refine PySem.W.ks_call (P:=fun _=>True) rfl (fun h _=>⟨.machine,.inr (.inl rfl),fun A Q E s _ q=>wpAny_pure q⟩) (PySem.W.ks_lone (thn (he pins s σ H _ I h) fun v s1 ⟨v',H1,I1,r1,q1⟩=>?_))
  obtain ⟨a,ls,N,rfl,hq,h1,h3,hl,q⟩:=q1
  cases r1
  obtain ⟨its,rv,P,Z⟩:=I1.list hq
  unfold PySem.W.StarOf notIterableAtAll
  obtain ⟨o,n,ho,hc,_,hd⟩:=P
  have hT:s1.TypeIs (.ref a) "list" := ⟨o,ho,hc⟩
  refine wpAny_bind (wpAny_specialOf hT PySem.F.slot_list_iter.lookup (wpAny_pure ⟨rfl,?_⟩))
  refine wpAny_collect_seq a (.inl rfl) ho hc hd (fun h' hk=>⟨trivial,?_⟩) (by rw [List.size_toArray,← rv.length]; exact Z)
  have I2:Inv X pins σ H1 { s1 with heap:=h' }:=I1.kept (t':=s1.toks) hk
  exact pieZ I2 h1 h3 hl rv q
end
end L2
namespace L2
open PySem PySem.Spec PyProof.Rows
theorem compZS {K:PySem.W.Frag} {N:Nat} {ls:List Addr} {ix:List (Option Nat)} {g:TG} {te:TE} {σ:St} {H:Hp} {Q:VK} (Pv:Nat→List V→Hp→Prop) (h0:Pv 0 [] H) (hl:∀ i ys H,i≤N→Pv i ys H→(∀ l∈ls,∃ xs,SqL K H l xs∧xs.length=N)∧ys.length=i) (hz:N≤sizeLine)
    (hs:∀ i xs ys H T (R:VK),i < N→Pv i ys H→H T=none→(∀ y H3,Pv (i + 1) (ys ++ [y]) H3→R y H3)→g (.ref T) (capS ix σ) (upd H T (.tup xs)) fun σ2 H2=>StLe (capS ix σ) σ2∧te σ2 H2 R)
    (hd:∀ ys H,Pv N ys H→∀ l,H l=none→Q (.ref l) (upd H l (.lst ys))) :
    CompB (ItZ K N ls) ix g te σ H Q:=by
  refine ⟨fun i m ys H=>m=N - i∧i≤N∧Pv i ys H,⟨N,by simp,Nat.zero_le _,h0⟩,?_⟩
  rintro i m ys H ⟨rfl,hi',p⟩
  obtain ⟨q,ql⟩:=hl i ys H hi' p
  by_cases hlt:i < N
  · refine .inr ⟨⟨hlt,q⟩,by omega,fun x H' y=>?_⟩
    obtain ⟨T,xs,rfl,hT,rfl⟩:=y
    exact hs i xs ys _ T _ hlt p hT fun v H3 z2=>⟨N - (i + 1),by omega,rfl,hlt,z2⟩
  · have e:i=N:=by omega
    subst e
    exact .inl ⟨⟨rfl,q⟩,by omega,hd ys H p⟩
end L2
namespace KF
open PySem L2 PyProof.Rows K01 KW
section
variable {P:Program} {w:World} {K:PySem.W.Frag} {mg:Str→Option Value} {base:Heap}
theorem scFlip:FnScope ["table"] ["table"] (defScope (top 2)):=⟨rfl,rfl,rfl,by decide +kernel,rfl,by decide +kernel,by decide +kernel⟩
set_option maxHeartbeats 4000000 in
theorem ok_flip {f:Addr} {fd:FuncData} (F:FnAt K mg "flipped" "flipped" (top 2) .none f fd) (T:Txt mg):FnOk P w K mg base CX0 1 f fd ["table"] spFlip:=by
  have nd:=scFlip.nd
  refine F.ok scFlip (fun vs H Q E h=>?_) (fun cdv A outer s H vs Q E hr h=>?_)
  · obtain ⟨t,n,rfl,_⟩:=h
    rfl
  · obtain ⟨t,n,rfl,ht,h1,h3,q⟩:=h
    refine ⟨_,(pss_one (ps_ret (pe_comp (by rfl) (compOk (N:=["column"]) (ix:=[none])) (pi_zipS (by rfl) T.n_zip (pv 0)) (by intro _ _ _ _ _; exact PG.to (pg_name (i:=0) (show (["column"]:List Str).Nodup by decide +kernel) rfl (Or.inl rfl)) (by (try simp only [inX_K]); rfl)) (by intro _ _ _ _ _; exact PE.to (pe_callTy call_list_of (by rfl) T.n_list boot_list (pa_cons (pv 0) pa_nil)) (by (try simp only [inX_K]); rfl))))),?_⟩
    obtain ⟨rs,e1,e2,e3⟩:=ht
    have hls:∀ H1,Same H H1→∀ l∈rs,∃ xs,SqL K H1 l xs∧xs.length=n:=fun H1 s1 l hl=>by
      obtain ⟨ns,g1,g2⟩:=e3 l hl
      exact ⟨_,SqL.of (s1 _ _ g2),by rw [List.length_map,g1]⟩
    refine ⟨_,rfl,t,rs,n,rfl,SqL.of e2,by omega,by omega,fun l hl=>by obtain ⟨xs,g,_⟩:=hls _ (Same.refl _) l hl; exact ⟨xs,g⟩,?_⟩
    refine compZS (K:=K) (N:=n) (ls:=rs) (fun i ys H1=>Same H H1∧ys.length=i) ⟨Same.refl _,rfl⟩ (fun i ys H1 hi p=>⟨hls _ p.1,p.2⟩) (small1000' (by omega)) ?_ ?_
    · rintro i xs ys H1 U R hi ⟨s3,hy⟩ hU kR
      have s4:=s3.trans (same_upd (o:=.tup xs) hU)
      exact ⟨StLe.set rfl,_,rfl,U,xs,rfl,.inr (SqT.of upd_same),fun l hl=>kR _ _ ⟨s4.trans (same_upd hl),by simp [hy]⟩⟩
    · rintro ys H1 ⟨s3,hy⟩ l hl'
      exact q l _ (s3.trans (same_upd hl'))
end
end KF
namespace L2
open PySem PySem.Spec PyProof.Rows
section
variable {K:PySem.W.Frag}
structure FnE (K:PySem.W.Frag) (n q:Str) (st:Stmt) (dV kV:Value) (f:Addr):Prop where
  ex:∃ (oc:Value) (od:Option Addr) (doc pm:Value) (an:Option Addr) (cdv ct:Value) (osl:Array (Option Value)),K.lookup f=some ⟨oc,od,.func (PySem.W.fnOf n q (defArgs st) (defBody st) (defScope st) dV kV doc pm an cdv ct),osl⟩∧PySem.W.codeIn K cdv q=true
  kp:PySem.W.keepIn K (.ref f)=true
theorem FnE.mk' {n q:Str} {st:Stmt} {dV kV:Value} {f:Addr} {oc:Value} {od an:Option Addr} {doc pm cdv ct:Value} {osl:Array (Option Value)} (l:K.lookup f=some ⟨oc,od,.func (PySem.W.fnOf n q (defArgs st) (defBody st) (defScope st) dV kV doc pm an cdv ct),osl⟩) (c:PySem.W.codeIn K cdv q=true) (k:PySem.W.keepIn K (.ref f)=true):FnE K n q st dV kV f:=⟨⟨oc,od,doc,pm,an,cdv,ct,osl,l,c⟩,k⟩
theorem FnE.at {mg:Str→Option Value} {n:Str} {st:Stmt} {dV:Value} {f:Addr} (h:∃ kV,FnE K n n st dV kV f) (m:mg n=some (.ref f)):∃ fd,FnAt K mg n n st dV f fd:=by
  obtain ⟨kV,⟨oc,od,doc,pm,an,cdv,ct,osl,l,c⟩,k⟩:=h
  exact ⟨_,⟨oc,od,kV,doc,pm,an,cdv,ct,osl,rfl,l,c⟩,k,m⟩
theorem FnE.mf {n q:Str} {st:Stmt} {dV:Value} {f:Addr} (h:∃ kV,FnE K n q st dV kV f):∃ fd,MfAt K n q st dV f fd:=by
  obtain ⟨kV,⟨oc,od,doc,pm,an,cdv,ct,osl,l,c⟩,k⟩:=h
  exact ⟨_,⟨oc,od,kV,doc,pm,an,cdv,ct,osl,rfl,l,c⟩,k⟩
theorem MfAt.binds {x qual:Str} {st:Stmt} {f:Addr} {fd:FuncData} {ps:List Str} (F:MfAt K x qual st .none f fd)
    (h:∀ (kV doc pm:Value) (an:Option Addr) (cdv ct:Value) (us:List Value),us.length=ps.length→bindArgs (PySem.W.fnOf x qual (defArgs st) (defBody st) (defScope st) .none kV doc pm an cdv ct) ⟨us,[]⟩=pure (ps.zip us)):L2.Binds K fd ps []:=by
  obtain ⟨oc,od,kV,doc,pm,an,cdv,ct,osl,rfl,lk,hcd⟩:=F.ex
  exact .all (h kV doc pm an cdv ct)
end
end L2
namespace KP
open PySem L2 PyProof.Rows K01 KW KF PySem.W
set_option maxHeartbeats 4000000 in
theorem all_mk {l:OpenLaw} {w:World} {K:Frag} {h:Heap} {mg:Str→Option Value} {fa f_slope_table f_flipped f_with_more f_exchange f_least_place f_bring_least f_nearest f_clear_cross f_barring_line f_settle f__law_box f__law_mixed f__law_take f__law_alike f__law_few f__law_table f__law_divisor f__law_square f__law_choices f_law f_Turning_init f_Turning_add_line f_Turning_add_column f_Turning_exchange_lines f_Turning_exchange_columns f_Turning_turn_line f_Form_init C CF:Addr} (X:K.In h) (G:h.Ns mainGlobals mg) (hfa:mg "law" = some (.ref fa))
  (a_slope_table:nsIn K mainGlobals "slope_table" = some (some (.ref f_slope_table)))
  (h_slope_table:∃ kV,FnE K "slope_table" "slope_table" (KW.top 1) .none kV f_slope_table)
  (a_flipped:nsIn K mainGlobals "flipped" = some (some (.ref f_flipped)))
  (h_flipped:∃ kV,FnE K "flipped" "flipped" (KW.top 2) .none kV f_flipped)
  (a_with_more:nsIn K mainGlobals "with_more" = some (some (.ref f_with_more)))
  (h_with_more:∃ kV,FnE K "with_more" "with_more" (KW.top 3) .none kV f_with_more)
  (a_exchange:nsIn K mainGlobals "exchange" = some (some (.ref f_exchange)))
  (h_exchange:∃ kV,FnE K "exchange" "exchange" (KW.top 4) .none kV f_exchange)
  (a_least_place:nsIn K mainGlobals "least_place" = some (some (.ref f_least_place)))
  (h_least_place:∃ kV,FnE K "least_place" "least_place" (KW.top 6) .none kV f_least_place)
  (a_bring_least:nsIn K mainGlobals "bring_least" = some (some (.ref f_bring_least)))
  (h_bring_least:∃ kV,FnE K "bring_least" "bring_least" (KW.top 7) .none kV f_bring_least)
  (a_nearest:nsIn K mainGlobals "nearest" = some (some (.ref f_nearest)))
  (h_nearest:∃ kV,FnE K "nearest" "nearest" (KW.top 8) .none kV f_nearest)
  (a_clear_cross:nsIn K mainGlobals "clear_cross" = some (some (.ref f_clear_cross)))
  (h_clear_cross:∃ kV,FnE K "clear_cross" "clear_cross" (KW.top 9) .none kV f_clear_cross)
  (a_barring_line:nsIn K mainGlobals "barring_line" = some (some (.ref f_barring_line)))
  (h_barring_line:∃ kV,FnE K "barring_line" "barring_line" (KW.top 10) .none kV f_barring_line)
  (a_settle:nsIn K mainGlobals "settle" = some (some (.ref f_settle)))
  (h_settle:∃ kV,FnE K "settle" "settle" (KW.top 11) .none kV f_settle)
  (a__law_box:nsIn K mainGlobals "_law_box" = some (some (.ref f__law_box)))
  (h__law_box:∃ kV,FnE K "_law_box" "_law_box" (KW.top 14) .none kV f__law_box)
  (a__law_mixed:nsIn K mainGlobals "_law_mixed" = some (some (.ref f__law_mixed)))
  (h__law_mixed:∃ kV,FnE K "_law_mixed" "_law_mixed" (KW.top 15) .none kV f__law_mixed)
  (a__law_take:nsIn K mainGlobals "_law_take" = some (some (.ref f__law_take)))
  (h__law_take:∃ kV,FnE K "_law_take" "_law_take" (KW.top 16) .none kV f__law_take)
  (a__law_alike:nsIn K mainGlobals "_law_alike" = some (some (.ref f__law_alike)))
  (h__law_alike:∃ kV,FnE K "_law_alike" "_law_alike" (KW.top 17) .none kV f__law_alike)
  (a__law_few:nsIn K mainGlobals "_law_few" = some (some (.ref f__law_few)))
  (h__law_few:∃ kV,FnE K "_law_few" "_law_few" (KW.top 18) .none kV f__law_few)
  (a__law_table:nsIn K mainGlobals "_law_table" = some (some (.ref f__law_table)))
  (h__law_table:∃ kV,FnE K "_law_table" "_law_table" (KW.top 19) .none kV f__law_table)
  (a__law_divisor:nsIn K mainGlobals "_law_divisor" = some (some (.ref f__law_divisor)))
  (h__law_divisor:∃ kV,FnE K "_law_divisor" "_law_divisor" (KW.top 20) .none kV f__law_divisor)
  (a__law_square:nsIn K mainGlobals "_law_square" = some (some (.ref f__law_square)))
  (h__law_square:∃ kV,FnE K "_law_square" "_law_square" (KW.top 21) .none kV f__law_square)
  (a__law_choices:nsIn K mainGlobals "_law_choices" = some (some (.ref f__law_choices)))
  (h__law_choices:∃ kV,FnE K "_law_choices" "_law_choices" (KW.top 22) .none kV f__law_choices)
  (a_law:nsIn K mainGlobals "law" = some (some (.ref f_law)))
  (h_law:∃ kV,FnE K "law" "law" (KW.top 23) .none kV f_law)
  (aC:nsIn K mainGlobals "Turning" = some (some (.ref C)))
  (a_Turning_init:findIn K (.ref C) "__init__" = some (some (.ref f_Turning_init))) (i_Turning_init:isFn K (.ref f_Turning_init)=true) (h_Turning_init:∃ kV,FnE K "__init__" "Turning.__init__" (inClass (KW.top 5) 0) .none kV f_Turning_init)
  (a_Turning_add_line:findIn K (.ref C) "add_line" = some (some (.ref f_Turning_add_line))) (i_Turning_add_line:isFn K (.ref f_Turning_add_line)=true) (h_Turning_add_line:∃ kV,FnE K "add_line" "Turning.add_line" (inClass (KW.top 5) 1) .none kV f_Turning_add_line)
  (a_Turning_add_column:findIn K (.ref C) "add_column" = some (some (.ref f_Turning_add_column))) (i_Turning_add_column:isFn K (.ref f_Turning_add_column)=true) (h_Turning_add_column:∃ kV,FnE K "add_column" "Turning.add_column" (inClass (KW.top 5) 2) .none kV f_Turning_add_column)
  (a_Turning_exchange_lines:findIn K (.ref C) "exchange_lines" = some (some (.ref f_Turning_exchange_lines))) (i_Turning_exchange_lines:isFn K (.ref f_Turning_exchange_lines)=true) (h_Turning_exchange_lines:∃ kV,FnE K "exchange_lines" "Turning.exchange_lines" (inClass (KW.top 5) 3) .none kV f_Turning_exchange_lines)
  (a_Turning_exchange_columns:findIn K (.ref C) "exchange_columns" = some (some (.ref f_Turning_exchange_columns))) (i_Turning_exchange_columns:isFn K (.ref f_Turning_exchange_columns)=true) (h_Turning_exchange_columns:∃ kV,FnE K "exchange_columns" "Turning.exchange_columns" (inClass (KW.top 5) 4) .none kV f_Turning_exchange_columns)
  (a_Turning_turn_line:findIn K (.ref C) "turn_line" = some (some (.ref f_Turning_turn_line))) (i_Turning_turn_line:isFn K (.ref f_Turning_turn_line)=true) (h_Turning_turn_line:∃ kV,FnE K "turn_line" "Turning.turn_line" (inClass (KW.top 5) 5) .none kV f_Turning_turn_line)
  (pgC:plainGet K C Str.empty=true) (hdC:hasDictIn K C=true) (poC:plainOver K C=true) (saC:findIn K (.ref C) "__setattr__" = some (some (.builtin "object.__setattr__"))) (mkC:makesIn K C=true) (kcC:keepIn K (.ref C)=true)
  (nCbody:findIn K (.ref C) "body" = some none)
  (nCwide:findIn K (.ref C) "wide" = some none)
  (nCleft:findIn K (.ref C) "left" = some none)
  (nCunleft_flipped:findIn K (.ref C) "unleft_flipped" = some none)
  (nCright_flipped:findIn K (.ref C) "right_flipped" = some none)
  (nCunright:findIn K (.ref C) "unright" = some none)
  (aCF:nsIn K mainGlobals "Form" = some (some (.ref CF)))
  (a_Form_init:findIn K (.ref CF) "__init__" = some (some (.ref f_Form_init))) (i_Form_init:isFn K (.ref f_Form_init)=true) (h_Form_init:∃ kV,FnE K "__init__" "Form.__init__" (inClass (KW.top 12) 0) .none kV f_Form_init)
  (pgCF:plainGet K CF Str.empty=true) (hdCF:hasDictIn K CF=true) (poCF:plainOver K CF=true) (saCF:findIn K (.ref CF) "__setattr__" = some (some (.builtin "object.__setattr__"))) (mkCF:makesIn K CF=true) (kcCF:keepIn K (.ref CF)=true)
  (nCFslope:findIn K (.ref CF) "slope" = some none)
  (nCFsteps:findIn K (.ref CF) "steps" = some none)
  (nCFleft:findIn K (.ref CF) "left" = some none)
  (nCFunleft:findIn K (.ref CF) "unleft" = some none)
  (nCFright:findIn K (.ref CF) "right" = some none)
  (nCFunright:findIn K (.ref CF) "unright" = some none)
  (zlen:nsIn K mainGlobals "len" = some none)
  (zsum:nsIn K mainGlobals "sum" = some none)
  (zall:nsIn K mainGlobals "all" = some none)
  (zisinstance:nsIn K mainGlobals "isinstance" = some none)
  (zlist:nsIn K mainGlobals "list" = some none)
  (ztuple:nsIn K mainGlobals "tuple" = some none)
  (zint:nsIn K mainGlobals "int" = some none)
  (zbool:nsIn K mainGlobals "bool" = some none)
  (zstr:nsIn K mainGlobals "str" = some none)
  (zrange:nsIn K mainGlobals "range" = some none)
  (zzip:nsIn K mainGlobals "zip" = some none)
  (zset:nsIn K mainGlobals "set" = some none)
  (zsorted:nsIn K mainGlobals "sorted" = some none)
  (zmin:nsIn K mainGlobals "min" = some none)
  (zany:nsIn K mainGlobals "any" = some none)
  (zabs:nsIn K mainGlobals "abs" = some none) :
    ∃ fd:FuncData,(∀ (s:Shared) (v:Value),BindsTo s fd ⟨[v],[]⟩ [("_law_script",v)])∧∀ base:Heap,K.In base→base.Ns mainGlobals mg→L2.FnOk l.prog w K mg base CX0 7 fa fd ["_law_script"] (spLaw K):=by
  have e:=hfa.symm.trans (mg_of X G a_law)
  cases e
  have T0:KW.Txt mg:=⟨mg_none_of X G zlen,mg_none_of X G zsum,mg_none_of X G zall,mg_none_of X G zisinstance,mg_none_of X G zlist,mg_none_of X G ztuple,mg_none_of X G zint,mg_none_of X G zbool,mg_none_of X G zstr,mg_none_of X G zrange,mg_none_of X G zzip,mg_none_of X G zset,mg_none_of X G zsorted,mg_none_of X G zmin⟩
  obtain ⟨d_slope_table,A_slope_table⟩:=FnE.at h_slope_table (mg_of X G a_slope_table)
  have b_slope_table:L2.Binds K d_slope_table ["wide"] []:=A_slope_table.binds fun _ _ _ _ _ _ us hl=>match us,hl with | [_],_=>rfl
  obtain ⟨d_flipped,A_flipped⟩:=FnE.at h_flipped (mg_of X G a_flipped)
  have b_flipped:L2.Binds K d_flipped ["table"] []:=A_flipped.binds fun _ _ _ _ _ _ us hl=>match us,hl with | [_],_=>rfl
  obtain ⟨d_with_more,A_with_more⟩:=FnE.at h_with_more (mg_of X G a_with_more)
  have b_with_more:L2.Binds K d_with_more ["line","other","times"] []:=A_with_more.binds fun _ _ _ _ _ _ us hl=>match us,hl with | [_,_,_],_=>rfl
  obtain ⟨d_exchange,A_exchange⟩:=FnE.at h_exchange (mg_of X G a_exchange)
  have b_exchange:L2.Binds K d_exchange ["table","one","other"] []:=A_exchange.binds fun _ _ _ _ _ _ us hl=>match us,hl with | [_,_,_],_=>rfl
  obtain ⟨d_least_place,A_least_place⟩:=FnE.at h_least_place (mg_of X G a_least_place)
  have b_least_place:L2.Binds K d_least_place ["body","at"] []:=A_least_place.binds fun _ _ _ _ _ _ us hl=>match us,hl with | [_,_],_=>rfl
  obtain ⟨d_bring_least,A_bring_least⟩:=FnE.at h_bring_least (mg_of X G a_bring_least)
  have b_bring_least:L2.Binds K d_bring_least ["work","at"] []:=A_bring_least.binds fun _ _ _ _ _ _ us hl=>match us,hl with | [_,_],_=>rfl
  obtain ⟨d_nearest,A_nearest⟩:=FnE.at h_nearest (mg_of X G a_nearest)
  have b_nearest:L2.Binds K d_nearest ["number","step"] []:=A_nearest.binds fun _ _ _ _ _ _ us hl=>match us,hl with | [_,_],_=>rfl
  obtain ⟨d_clear_cross,A_clear_cross⟩:=FnE.at h_clear_cross (mg_of X G a_clear_cross)
  have b_clear_cross:L2.Binds K d_clear_cross ["work","at"] []:=A_clear_cross.binds fun _ _ _ _ _ _ us hl=>match us,hl with | [_,_],_=>rfl
  obtain ⟨d_barring_line,A_barring_line⟩:=FnE.at h_barring_line (mg_of X G a_barring_line)
  have b_barring_line:L2.Binds K d_barring_line ["work","at"] []:=A_barring_line.binds fun _ _ _ _ _ _ us hl=>match us,hl with | [_,_],_=>rfl
  obtain ⟨d_settle,A_settle⟩:=FnE.at h_settle (mg_of X G a_settle)
  have b_settle:L2.Binds K d_settle ["work"] []:=A_settle.binds fun _ _ _ _ _ _ us hl=>match us,hl with | [_],_=>rfl
  obtain ⟨d__law_box,A__law_box⟩:=FnE.at h__law_box (mg_of X G a__law_box)
  have b__law_box:L2.Binds K d__law_box ["_law_script"] []:=A__law_box.binds fun _ _ _ _ _ _ us hl=>match us,hl with | [_],_=>rfl
  obtain ⟨d__law_mixed,A__law_mixed⟩:=FnE.at h__law_mixed (mg_of X G a__law_mixed)
  have b__law_mixed:L2.Binds K d__law_mixed ["_law_number","_law_turn"] []:=A__law_mixed.binds fun _ _ _ _ _ _ us hl=>match us,hl with | [_,_],_=>rfl
  obtain ⟨d__law_take,A__law_take⟩:=FnE.at h__law_take (mg_of X G a__law_take)
  have b__law_take:L2.Binds K d__law_take ["_law_box_here","_law_many"] []:=A__law_take.binds fun _ _ _ _ _ _ us hl=>match us,hl with | [_,_],_=>rfl
  obtain ⟨d__law_alike,A__law_alike⟩:=FnE.at h__law_alike (mg_of X G a__law_alike)
  have b__law_alike:L2.Binds K d__law_alike ["_law_found","_law_due"] []:=A__law_alike.binds fun _ _ _ _ _ _ us hl=>match us,hl with | [_,_],_=>rfl
  obtain ⟨d__law_few,A__law_few⟩:=FnE.at h__law_few (mg_of X G a__law_few)
  have b__law_few:L2.Binds K d__law_few ["_law_box_here","_law_many","_law_most"] []:=A__law_few.binds fun _ _ _ _ _ _ us hl=>match us,hl with | [_,_,_],_=>rfl
  obtain ⟨d__law_table,A__law_table⟩:=FnE.at h__law_table (mg_of X G a__law_table)
  have b__law_table:L2.Binds K d__law_table ["_law_box_here","_law_high","_law_wide"] []:=A__law_table.binds fun _ _ _ _ _ _ us hl=>match us,hl with | [_,_,_],_=>rfl
  obtain ⟨d__law_divisor,A__law_divisor⟩:=FnE.at h__law_divisor (mg_of X G a__law_divisor)
  have b__law_divisor:L2.Binds K d__law_divisor ["_law_numbers"] []:=A__law_divisor.binds fun _ _ _ _ _ _ us hl=>match us,hl with | [_],_=>rfl
  obtain ⟨d__law_square,A__law_square⟩:=FnE.at h__law_square (mg_of X G a__law_square)
  have b__law_square:L2.Binds K d__law_square ["_law_table_here","_law_lines","_law_columns"] []:=A__law_square.binds fun _ _ _ _ _ _ us hl=>match us,hl with | [_,_,_],_=>rfl
  obtain ⟨d__law_choices,A__law_choices⟩:=FnE.at h__law_choices (mg_of X G a__law_choices)
  have b__law_choices:L2.Binds K d__law_choices ["_law_many","_law_size"] []:=A__law_choices.binds fun _ _ _ _ _ _ us hl=>match us,hl with | [_,_],_=>rfl
  obtain ⟨kV,⟨oc,od,doc,pm,an,cdv,ct,osl,lk,lc⟩,lp⟩:=h_law
  have A_law:=fnAt_mk (st:=KW.top 23) (mg_of X G a_law) lk lc lp
  obtain ⟨d_Turning_init,A_Turning_init⟩:=FnE.mf h_Turning_init
  have b_Turning_init:L2.Binds K d_Turning_init ["self","table","wide"] []:=A_Turning_init.binds fun _ _ _ _ _ _ us hl=>match us,hl with | [_,_,_],_=>rfl
  have m_Turning_init:Meth K C "__init__" f_Turning_init:=⟨a_Turning_init,i_Turning_init,A_Turning_init.kp⟩
  obtain ⟨d_Turning_add_line,A_Turning_add_line⟩:=FnE.mf h_Turning_add_line
  have b_Turning_add_line:L2.Binds K d_Turning_add_line ["self","to","source","times"] []:=A_Turning_add_line.binds fun _ _ _ _ _ _ us hl=>match us,hl with | [_,_,_,_],_=>rfl
  have m_Turning_add_line:Meth K C "add_line" f_Turning_add_line:=⟨a_Turning_add_line,i_Turning_add_line,A_Turning_add_line.kp⟩
  obtain ⟨d_Turning_add_column,A_Turning_add_column⟩:=FnE.mf h_Turning_add_column
  have b_Turning_add_column:L2.Binds K d_Turning_add_column ["self","to","source","times"] []:=A_Turning_add_column.binds fun _ _ _ _ _ _ us hl=>match us,hl with | [_,_,_,_],_=>rfl
  have m_Turning_add_column:Meth K C "add_column" f_Turning_add_column:=⟨a_Turning_add_column,i_Turning_add_column,A_Turning_add_column.kp⟩
  obtain ⟨d_Turning_exchange_lines,A_Turning_exchange_lines⟩:=FnE.mf h_Turning_exchange_lines
  have b_Turning_exchange_lines:L2.Binds K d_Turning_exchange_lines ["self","one","other"] []:=A_Turning_exchange_lines.binds fun _ _ _ _ _ _ us hl=>match us,hl with | [_,_,_],_=>rfl
  have m_Turning_exchange_lines:Meth K C "exchange_lines" f_Turning_exchange_lines:=⟨a_Turning_exchange_lines,i_Turning_exchange_lines,A_Turning_exchange_lines.kp⟩
  obtain ⟨d_Turning_exchange_columns,A_Turning_exchange_columns⟩:=FnE.mf h_Turning_exchange_columns
  have b_Turning_exchange_columns:L2.Binds K d_Turning_exchange_columns ["self","one","other"] []:=A_Turning_exchange_columns.binds fun _ _ _ _ _ _ us hl=>match us,hl with | [_,_,_],_=>rfl
  have m_Turning_exchange_columns:Meth K C "exchange_columns" f_Turning_exchange_columns:=⟨a_Turning_exchange_columns,i_Turning_exchange_columns,A_Turning_exchange_columns.kp⟩
  obtain ⟨d_Turning_turn_line,A_Turning_turn_line⟩:=FnE.mf h_Turning_turn_line
  have b_Turning_turn_line:L2.Binds K d_Turning_turn_line ["self","at"] []:=A_Turning_turn_line.binds fun _ _ _ _ _ _ us hl=>match us,hl with | [_,_],_=>rfl
  have m_Turning_turn_line:Meth K C "turn_line" f_Turning_turn_line:=⟨a_Turning_turn_line,i_Turning_turn_line,A_Turning_turn_line.kp⟩
  obtain ⟨d_Form_init,A_Form_init⟩:=FnE.mf h_Form_init
  have b_Form_init:L2.Binds K d_Form_init ["self","table","wide"] []:=A_Form_init.binds fun _ _ _ _ _ _ us hl=>match us,hl with | [_,_,_],_=>rfl
  have m_Form_init:Meth K CF "__init__" f_Form_init:=⟨a_Form_init,i_Form_init,A_Form_init.kp⟩
  refine ⟨fnOf "law" "law" (defArgs (KW.top 23)) (defBody (KW.top 23)) (defScope (KW.top 23)) .none kV doc pm an cdv ct,fun s v=>.of_eq rfl,fun base _ _=>?_⟩
  have T:TxtF K mg C CF:=⟨T0,mg_none_of X G zany,mg_none_of X G zabs,⟨pgC,hdC,poC,saC⟩,nCbody,nCwide,nCleft,nCunleft_flipped,nCright_flipped,nCunright,⟨pgCF,hdCF,poCF,saCF⟩,nCFslope,nCFsteps,nCFleft,nCFunleft,nCFright,nCFunright,mg_of X G aC,mg_of X G aCF⟩
  have G_more:FnOk l.prog w K mg base CX0 1 f_with_more _ ["line","other","times"] spMore:=ok_more A_with_more T0
  have G_swap:FnOk l.prog w K mg base CX0 1 f_exchange _ ["table","one","other"] spSwap:=ok_swap A_exchange T0
  have G_line:=ok_addLine A_Turning_add_line T A_with_more b_with_more G_more
  have G_col:=ok_addCol A_Turning_add_column T A_with_more b_with_more G_more
  have G_sl:=ok_swLines A_Turning_exchange_lines T A_exchange b_exchange G_swap
  have G_sc:=ok_swCols A_Turning_exchange_columns T A_exchange b_exchange G_swap
  have G_bring:=ok_bring A_bring_least T A_least_place b_least_place (ok_least A_least_place T) m_Turning_exchange_lines b_Turning_exchange_lines G_sl m_Turning_exchange_columns b_Turning_exchange_columns G_sc m_Turning_turn_line b_Turning_turn_line (ok_turn A_Turning_turn_line T)
  have G_clear:=ok_clear A_clear_cross T A_nearest b_nearest (ok_near A_nearest) m_Turning_add_line b_Turning_add_line G_line m_Turning_add_column b_Turning_add_column G_col
  have G_settle:=ok_settle A_settle T A_bring_least b_bring_least G_bring A_clear_cross b_clear_cross G_clear A_barring_line b_barring_line (ok_bar A_barring_line T) m_Turning_add_line b_Turning_add_line G_line
  have G_iT:=ok_initT A_Turning_init T A_slope_table b_slope_table (ok_slope (P:=l.prog) (w:=w) (base:=base) A_slope_table T0)
  have G_iF:=ok_initF A_Form_init T ⟨mkC,a_Turning_init,i_Turning_init,kcC⟩ b_Turning_init G_iT A_settle b_settle G_settle A_flipped b_flipped (ok_flip A_flipped T0)
  have G_take:FnOk l.prog w K mg base CX0 2 f__law_take _ ["_law_box_here","_law_many"] spTake:=KW.ok_take A__law_take A__law_mixed b__law_mixed T0
  have G_few:=ok_few A__law_few T0 A__law_take b__law_take G_take
  have G_table:=ok_table A__law_table T0 A__law_take b__law_take G_take A__law_few b__law_few G_few
  exact KF.ok_law A_law T A__law_box b__law_box (KW.ok_box A__law_box T0) A__law_take b__law_take G_take A__law_table b__law_table G_table A__law_choices b__law_choices (ok_choices A__law_choices T) A__law_square b__law_square (ok_square A__law_square b__law_square T 3) A__law_divisor b__law_divisor (ok_div A__law_divisor T) A__law_alike b__law_alike (ok_alkL A__law_alike b__law_alike T0) ⟨mkCF,a_Form_init,i_Form_init,kcCF⟩ b_Form_init G_iF
theorem walk {l:OpenLaw} {q:Program} {loose:List Str} {XP:(Str→Option Value)→Heap→Prop} {YP:World→Heap→Prop} {d:DefRec} {K:Params→Frag} (hn:l.most=some 63) (hdf:d.params.defaults=[])
    (hY:∀ (w:World) (h:Heap),YP w h→(K w.params).In h)
    (F:∀ (w:World) (mg:Str→Option Value) (fa:Addr) (h:Heap),(K w.params).In h→h.Ns mainGlobals mg→mg d.name=some (.ref fa) →
      ∃ fd:FuncData,(∀ (s:Shared) (u:Value),BindsTo s fd ⟨[u],[]⟩ [("_law_script",u)])∧∀ base:Heap,(K w.params).In base→base.Ns mainGlobals mg→L2.FnOk l.prog w (K w.params) mg base CX0 7 fa fd ["_law_script"] (spLaw (K w.params))) :
    WalkO q loose XP YP l.row.toRowW d [] (fun f vs=>PySem.call f vs) :=
  L2.walk_of (n:=63) (k:=7) (x := "_law_script") (CX:=fun _=>CX0) (sp:=fun w=>spLaw (K w.params)) hn (by decide) hdf ⟨rfl,by decide,by decide⟩ hY F (fun _ _ a ns hl _ hS=>⟨a,ns,rfl,hS,hl,fun _=>rfl⟩) fun _ _ _ _ _ z=>z
end KP
open PySem PySem.W PyProof.Rows
set_option maxRecDepth 100000 in
set_option maxHeartbeats 0 in
theorem PySem.Challenge.cw_cupweb_k04_steps_by_lesser_squares_holds : PySem.Challenge.rw_cupweb_k04_steps_by_lesser_squares.Holds := by
  w_on; o_law; k_head; (case hw=>w_witness2)
  k_fill
  refine KP.walk (l:=PySem.Challenge.rw_cupweb_k04_steps_by_lesser_squares) rfl rfl (fun w h Y=>PySem.W.kIn_of Y) ?F
  case F =>
    intro w mg fa h XI G hmg
    refine' KP.all_mk XI G hmg ?a_slope_table ?h_slope_table ?a_flipped ?h_flipped ?a_with_more ?h_with_more ?a_exchange ?h_exchange ?a_least_place ?h_least_place ?a_bring_least ?h_bring_least ?a_nearest ?h_nearest ?a_clear_cross ?h_clear_cross ?a_barring_line ?h_barring_line ?a_settle ?h_settle ?a__law_box ?h__law_box ?a__law_mixed ?h__law_mixed ?a__law_take ?h__law_take ?a__law_alike ?h__law_alike ?a__law_few ?h__law_few ?a__law_table ?h__law_table ?a__law_divisor ?h__law_divisor ?a__law_square ?h__law_square ?a__law_choices ?h__law_choices ?a_law ?h_law ?aC ?a_Turning_init ?i_Turning_init ?h_Turning_init ?a_Turning_add_line ?i_Turning_add_line ?h_Turning_add_line ?a_Turning_add_column ?i_Turning_add_column ?h_Turning_add_column ?a_Turning_exchange_lines ?i_Turning_exchange_lines ?h_Turning_exchange_lines ?a_Turning_exchange_columns ?i_Turning_exchange_columns ?h_Turning_exchange_columns ?a_Turning_turn_line ?i_Turning_turn_line ?h_Turning_turn_line ?pgC ?hdC ?poC ?saC ?mkC ?kcC ?nCbody ?nCwide ?nCleft ?nCunleft_flipped ?nCright_flipped ?nCunright ?aCF ?a_Form_init ?i_Form_init ?h_Form_init ?pgCF ?hdCF ?poCF ?saCF ?mkCF ?kcCF ?nCFslope ?nCFsteps ?nCFleft ?nCFunleft ?nCFright ?nCFunright ?zlen ?zsum ?zall ?zisinstance ?zlist ?ztuple ?zint ?zbool ?zstr ?zrange ?zzip ?zset ?zsorted ?zmin ?zany ?zabs
    (case a_slope_table=>k_is); (case a_flipped=>k_is); (case a_with_more=>k_is); (case a_exchange=>k_is); (case a_least_place=>k_is); (case a_bring_least=>k_is); (case a_nearest=>k_is); (case a_clear_cross=>k_is); (case a_barring_line=>k_is); (case a_settle=>k_is); (case a__law_box=>k_is); (case a__law_mixed=>k_is)
    (case a__law_take=>k_is); (case a__law_alike=>k_is); (case a__law_few=>k_is); (case a__law_table=>k_is); (case a__law_divisor=>k_is); (case a__law_square=>k_is); (case a__law_choices=>k_is); (case a_law=>k_is); (case aC=>k_is); (case a_Turning_init=>k_is); (case i_Turning_init=>k_is); (case a_Turning_add_line=>k_is)
    (case i_Turning_add_line=>k_is); (case a_Turning_add_column=>k_is); (case i_Turning_add_column=>k_is); (case a_Turning_exchange_lines=>k_is); (case i_Turning_exchange_lines=>k_is); (case a_Turning_exchange_columns=>k_is); (case i_Turning_exchange_columns=>k_is); (case a_Turning_turn_line=>k_is); (case i_Turning_turn_line=>k_is); (case pgC=>k_is); (case hdC=>k_is); (case poC=>k_is)
    (case saC=>k_is); (case mkC=>k_is); (case kcC=>k_is); (case nCbody=>k_is); (case nCwide=>k_is); (case nCleft=>k_is); (case nCunleft_flipped=>k_is); (case nCright_flipped=>k_is); (case nCunright=>k_is); (case aCF=>k_is); (case a_Form_init=>k_is); (case i_Form_init=>k_is)
    (case pgCF=>k_is); (case hdCF=>k_is); (case poCF=>k_is); (case saCF=>k_is); (case mkCF=>k_is); (case kcCF=>k_is); (case nCFslope=>k_is); (case nCFsteps=>k_is); (case nCFleft=>k_is); (case nCFunleft=>k_is); (case nCFright=>k_is); (case nCFunright=>k_is)
    (case zlen=>k_is); (case zsum=>k_is); (case zall=>k_is); (case zisinstance=>k_is); (case zlist=>k_is); (case ztuple=>k_is); (case zint=>k_is); (case zbool=>k_is); (case zstr=>k_is); (case zrange=>k_is); (case zzip=>k_is); (case zset=>k_is)
    (case zsorted=>k_is); (case zmin=>k_is); (case zany=>k_is); (case zabs=>k_is)
    any_goals (refine' ⟨_,L2.FnE.mk' ?yl ?yc ?yk⟩; (case yl=>k_is); (case yc=>k_is); (case yk=>k_is); done)
