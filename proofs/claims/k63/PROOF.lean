import PyProof.Rows.All
import Wide.All
import OpenK.AllK
import Wide.FinOn
import Lean
import PyProof.EqAt
import PyProof.EqKinds
import PyProof.TupleCall
import PySem.Challenge.RW_cupweb_k63_deeds_written_and_read
set_option Elab.async false
set_option linter.all false
set_option maxRecDepth 100000
namespace L2
open PySem PySem.Spec PyProof.Rows
abbrev Key:=Sum Int Str
def keyIs:Key→Value→Bool
  | .inl k,v=>Value.isInt k v
  | .inr x,v=>Value.isStrOf x v
def keyH (w:World):Key→Int
  | .inl k=>hashInt k
  | .inr x=>hashStr w x
theorem keyIs_shape:∀ {k:Key} {v:Value},keyIs k v=true→(∃ i t,k=Sum.inl i∧v=Value.int i t)∨(∃ x t,k=Sum.inr x∧v=Value.str x t)
  | .inl i,v,h=>by
    obtain ⟨t,e⟩:=Value.isInt_shape (k:=i) (v:=v) h
    exact .inl ⟨i,t,rfl,e⟩
  | .inr x,v,h=>by
    obtain ⟨t,e⟩:=Value.isStrOf_shape (x:=x) (v:=v) h
    exact .inr ⟨x,t,rfl,e⟩
theorem keyIs_int (i:Int) (t:Tok):keyIs (.inl i) (.int i t)=true:=by simp [keyIs,Value.isInt]
theorem keyIs_str (x:Str) (t:Tok):keyIs (.inr x) (.str x t)=true:=by simp [keyIs,Value.isStrOf]
theorem key_ll (a b:Int):decide ((Sum.inl a:Key)=Sum.inl b)=(a == b):=by
  by_cases e:a=b
  · subst e; simp
  · have h:¬ (Sum.inl a:Key)=Sum.inl b:=fun q=>e (Sum.inl.inj q)
    rw [decide_eq_false h]
    exact (beq_eq_false_iff_ne.mpr e).symm
theorem key_rr (a b:Str):decide ((Sum.inr a:Key)=Sum.inr b)=decide (a=b):=by
  by_cases e:a=b
  · subst e; simp
  · have h:¬ (Sum.inr a:Key)=Sum.inr b:=fun q=>e (Sum.inr.inj q)
    rw [decide_eq_false h,decide_eq_false e]
theorem key_lr (a:Int) (b:Str):decide ((Sum.inl a:Key)=Sum.inr b)=false:=decide_eq_false (fun q=>nomatch q)
theorem key_rl (a:Str) (b:Int):decide ((Sum.inr a:Key)=Sum.inl b)=false:=decide_eq_false (fun q=>nomatch q)
def mixKind (prog:Program) (w:World):PySem.KeyKind prog w Key where
  is:=keyIs
  hash:=keyH w
  inj := fun v a b ha hb=>by
    rcases keyIs_shape ha with ⟨i,t,rfl,rfl⟩ | ⟨x,t,rfl,rfl⟩
    · rcases keyIs_shape hb with ⟨j,u,rfl,e⟩ | ⟨y,u,rfl,e⟩
      · injection e with e1 _; rw [e1]
      · exact nomatch e
    · rcases keyIs_shape hb with ⟨j,u,rfl,e⟩ | ⟨y,u,rfl,e⟩
      · exact nomatch e
      · injection e with e1 _; rw [e1]
  byValue:=fun k v h=>by
    rcases keyIs_shape h with ⟨i,t,rfl,rfl⟩ | ⟨x,t,rfl,rfl⟩ <;> rfl
  pyHash:=fun hv h=>by
    rcases keyIs_shape hv with ⟨i,t,rfl,rfl⟩ | ⟨x,t,rfl,rfl⟩
    · exact wpAny_pyHash_int h
    · exact wpAny_pyHash_str h
  eqBool:=fun hu hv h=>by
    rcases keyIs_shape hu with ⟨i,t,rfl,rfl⟩ | ⟨x,t,rfl,rfl⟩
    · rcases keyIs_shape hv with ⟨j,u,rfl,rfl⟩ | ⟨y,u,rfl,rfl⟩
      · rw [key_ll] at h; exact wpAny_eqBool_int h
      · rw [key_lr] at h; exact SeqAt.EqAt.int_str i t y u _ _ _ _ h
    · rcases keyIs_shape hv with ⟨j,u,rfl,rfl⟩ | ⟨y,u,rfl,rfl⟩
      · rw [key_rl] at h; exact SeqAt.EqAt.str_int x t j u _ _ _ _ h
      · rw [key_rr] at h; exact wpAny_eqBool_str h
  «strs»:=fun k x t v h=>by
    rcases keyIs_shape h with ⟨i,u,rfl,e⟩ | ⟨y,u,rfl,e⟩
    · exact nomatch e
    · injection e with e1 _
      subst e1
      cases v <;> rfl
theorem mixKind_int (prog:Program) (w:World) (i:Int) (t:Tok):(mixKind prog w).is (.inl i) (.int i t)=true:=keyIs_int i t
theorem mixKind_str (prog:Program) (w:World) (x:Str) (t:Tok):(mixKind prog w).is (.inr x) (.str x t)=true:=keyIs_str x t
end L2
namespace L2
open PySem PySem.Spec PyProof.Rows
inductive V where
  | non | bl (b:Bool) | int (i:Int) | str (x:Str) | byt (b:Array UInt8) | flt (b:UInt64) | ref (a:Addr) | ty (n:String)
  deriving DecidableEq
def RelV:V→Value→Prop
  | .non,u=>u=Value.none
  | .bl b,u=>u=Value.bool b
  | .int i,u=>∃ t,u=Value.int i t
  | .str x,u=>∃ t,u=Value.str x t
  | .byt b,u=>∃ t,u=Value.bytes b t
  | .flt b,u=>∃ t,u=Value.float b t
  | .ref a,u=>u=Value.ref a
  | .ty n,u=>u=Value.type n
abbrev Vals:List V→List Value→Prop:=Paired RelV
theorem Vals.length {xs:List V} {us:List Value} (r:Vals xs us):xs.length=us.length:=Paired.length r
theorem Vals.get:∀ {xs:List V} {us:List Value} {i:Nat} {x:V},Vals xs us→xs[i]?=some x→∃ u,us[i]?=some u∧RelV x u
  | _,_,_,_,.nil,e=>by simp at e
  | _,_,0,_,.cons r _,e=>by simp at e; subst e; exact ⟨_,rfl,r⟩
  | _,_,i + 1,x,.cons _ t,e=>by
    obtain ⟨u,h1,h2⟩:=Vals.get (i:=i) (x:=x) t (by simpa using e)
    exact ⟨u,by simpa using h1,h2⟩
theorem Vals.set {x:V} {u:Value} (r:RelV x u):∀ {xs:List V} {us:List Value} (i:Nat),Vals xs us→Vals (xs.set i x) (us.set i u)
  | _,_,_,.nil=>.nil
  | _,_,0,.cons _ t=>.cons r t
  | _,_,i + 1,.cons q t=>.cons q (Vals.set r i t)
theorem Vals.append:∀ {xs ys:List V} {us ws:List Value},Vals xs us→Vals ys ws→Vals (xs ++ ys) (us ++ ws)
  | _,_,_,_,.nil,s=>s
  | _,_,_,_,.cons r t,s=>.cons r (Vals.append t s)
theorem Vals.take:∀ {xs:List V} {us:List Value} (n:Nat),Vals xs us→Vals (xs.take n) (us.take n)
  | _,_,0,_=>.nil
  | _,_,_ + 1,.nil=>.nil
  | _,_,n + 1,.cons r t=>.cons r (Vals.take n t)
theorem Vals.drop:∀ {xs:List V} {us:List Value} (n:Nat),Vals xs us→Vals (xs.drop n) (us.drop n)
  | _,_,0,r=>r
  | _,_,_ + 1,.nil=>.nil
  | _,_,n + 1,.cons _ t=>Vals.drop n t
def RelO:Option V→Option Value→Prop
  | some v,some u=>RelV v u
  | none,none=>True
  | _,_=>False
def KV {κ:Type}:List (κ × V)→List (κ × Value)→Prop:=Paired fun (p:κ × V) (q:κ × Value)=>p.1=q.1∧RelV p.2 q.2
def kV:Key→V
  | .inl i=>.int i
  | .inr x=>.str x
inductive HO where
  | lst (xs:List V)
  | tup (xs:List V)
  | dK (kvs:List (Key × V)) | dT (kvs:List (List Key × V))
  | set (S:Int→Bool) (n:Nat)
  | ins (C dx:Addr) (fs:List (Str × V))
  | own (x:Addr)
  | xd (fs:List (Str × V))
  | met (f x:Addr)
  | rng (lo hi:Int)
  | frz (o:Obj) (u:HO)
  | tbl (ps:Array Value)
  | ext (φ:Heap→Prop)
abbrev Hp:=Addr→Option HO
def upd (H:Hp) (a:Addr) (o:HO):Hp:=fun b=>if b=a then some o else H b
theorem upd_same {H:Hp} {a:Addr} {o:HO}:upd H a o a=some o:=by unfold upd; rw [if_pos rfl]
theorem upd_ne {H:Hp} {a b:Addr} {o:HO} (h:b≠a):upd H a o b=H b:=by unfold upd; rw [if_neg h]
theorem ne_of {H:Hp} {a b:Addr} {o u:HO} (h:H a=some o) (h':H b=some u) (d:o≠u):a≠b:=by
  intro e; subst e; rw [h] at h'; exact d (Option.some.inj h')
theorem ne_of_none {H:Hp} {a b:Addr} {o:HO} (h:H a=some o) (h':H b=none):a≠b:=by
  intro e; subst e; rw [h] at h'; cases h'
section
variable (P:Program) (w:World)
def ObjOk (H:Hp) (h:Heap) (a:Addr):HO→Prop
  | .lst xs=>xs.length≤sizeLine∧∃ (its:List Value) (n:Nat),Vals xs its∧h.get? a=some { cls:=.type "list",data:=.seq its.toArray n }
  | .tup xs=>xs.length≤sizeLine∧∃ its:List Value,Vals xs its∧IsTup h a its.toArray
  | .dK kvs=>kvs.length≤sizeLine∧(a == sysModules)=false∧∃ vs,KV kvs vs∧h.DictOf (mixKind P w) a vs
  | .dT kvs=>kvs.length≤sizeLine∧(a == sysModules)=false∧∃ xs:List (List Key × Addr × Value),
      Paired (fun (p:List Key × V) (q:List Key × Addr × Value)=>p.1=q.1∧H q.2.1=some (.tup (p.1.map kV))∧RelV p.2 q.2.2) kvs xs ∧
      ∃ o es ep,h.get? a=some o∧o.ExactDict∧o.data=.dict es ep∧es.toList=xs.map (entryOfKey (tupleKind (mixKind P w)))∧(xs.map (·.1)).Nodup
  | .set S n=>h.SetOf (intKind P w) a S n
  | .ins C dx fs=>H dx=some (.own a)∧fs.length≤1000∧dx≠a∧h.get? a=some (PySem.W.instObj C dx) ∧
      ∃ mA,h.Ns1 dx mA∧(∀ f,RelO (fs.lookup f) (mA f))∧PySem.Within mA (fs.map (·.1))
  | .own _=>∃ o,h.get? a=some o
  | .xd fs=>∃ mA,h.Ns1 a mA∧∀ f,RelO (fs.lookup f) (mA f)
  | .rng lo hi=>∃ t u v,h.get? a=some { cls:=.type "range",data:=.fields #[.int lo t,.int hi u,.int 1 v] }
  | .frz o u=>h.get? a=some o∧ObjOk H h a u
  | .tbl ps=>h.get? a=some { cls:=.none,data:=.fields ps }
  | .met f x=>h.get? a=some (PySem.W.methodObj (.ref f) (.ref x))
  | .ext φ=>φ h∧(∃ o,h.get? a=some o)∧∀ h1 h2:Heap,φ h1→(∀ o,h1.get? a=some o→h2.get? a=some o)→φ h2
def HOk (H:Hp) (h:Heap):Prop:=∀ a o,H a=some o→ObjOk P w H h a o
end
section
variable {P:Program} {w:World} {H H':Hp} {h h':Heap} {a:Addr} {o:HO}
theorem ObjOk.lt (x:ObjOk P w H h a o):a < h.objs.size:=by
  cases o with
  | lst xs=>obtain ⟨_,_,_,_,e⟩:=x; exact Heap.lt_size e
  | tup xs=>obtain ⟨_,_,_,p⟩:=x; exact p.lt
  | dK kvs=>obtain ⟨_,_,_,_,o,_,_,e,_⟩:=x; exact Heap.lt_size e
  | dT kvs=>obtain ⟨_,_,_,_,o,_,_,e,_⟩:=x; exact Heap.lt_size e
  | set S n=>obtain ⟨o,_,_,_,e,_⟩:=x; exact Heap.lt_size e
  | ins C dx fs=>obtain ⟨_,_,_,e,_⟩:=x; exact Heap.lt_size e
  | own y=>obtain ⟨_,e⟩:=x; exact Heap.lt_size e
  | xd fs=>obtain ⟨_,⟨_,_,_,e,_⟩,_⟩:=x; exact Heap.lt_size e
  | rng lo hi=>obtain ⟨_,_,_,e⟩:=x; exact Heap.lt_size e
  | frz ob u=>obtain ⟨e,_⟩:=x; exact Heap.lt_size e
  | tbl ps=>exact Heap.lt_size (show h.get? a=some _ from x)
  | met f y=>exact Heap.lt_size (show h.get? a=some _ from x)
  | ext φ=>obtain ⟨_,⟨_,e⟩,_⟩:=x; exact Heap.lt_size e
theorem Paired.mapP {α β:Type} {F G:α→β→Prop}:∀ {l₁:List α} {l₂:List β},Paired F l₁ l₂→(∀ a b,F a b→G a b)→Paired G l₁ l₂
  | _,_,.nil,_=>.nil
  | _,_,.cons r t,f=>.cons (f _ _ r) (Paired.mapP t f)
theorem ObjOk.stay (x:ObjOk P w H h a o) (k:∀ b u,(b=a∨H b=some (.own a))→h.get? b=some u→h'.get? b=some u)
    (ho:∀ b,H b=some (.own a)→H' b=some (.own a)) (ht:∀ b xs,H b=some (.tup xs)→H' b=some (.tup xs)):ObjOk P w H' h' a o:=by
  induction o with
  | lst xs=>obtain ⟨z,its,n,r,e⟩:=x; exact ⟨z,its,n,r,k _ _ (.inl rfl) e⟩
  | tup xs=>obtain ⟨z,its,r,ob,e,c⟩:=x; exact ⟨z,its,r,ob,k _ _ (.inl rfl) e,c⟩
  | dK kvs=>obtain ⟨z,y,vs,r,ob,es,ep,e,c⟩:=x; exact ⟨z,y,vs,r,ob,es,ep,k _ _ (.inl rfl) e,c⟩
  | dT kvs =>
    obtain ⟨z,y,xs,r,ob,es,ep,e,c⟩:=x
    exact ⟨z,y,xs,Paired.mapP r fun p q z=>⟨z.1,ht _ _ z.2.1,z.2.2⟩,ob,es,ep,k _ _ (.inl rfl) e,c⟩
  | set S n=>obtain ⟨ob,es,ep,t,e,c⟩:=x; exact ⟨ob,es,ep,t,k _ _ (.inl rfl) e,c⟩
  | ins C dx fs =>
    obtain ⟨d,z,ne,e,mA,⟨od,es,ep,e2,c⟩,r⟩:=x
    exact ⟨ho _ d,z,ne,k _ _ (.inl rfl) e,mA,⟨od,es,ep,k _ _ (.inr d) e2,c⟩,r⟩
  | own y=>obtain ⟨ob,e⟩:=x; exact ⟨ob,k _ _ (.inl rfl) e⟩
  | xd fs=>obtain ⟨mA,⟨od,es,ep,e,c⟩,r⟩:=x; exact ⟨mA,⟨od,es,ep,k _ _ (.inl rfl) e,c⟩,r⟩
  | rng lo hi=>obtain ⟨t,u,v,e⟩:=x; exact ⟨t,u,v,k _ _ (.inl rfl) e⟩
  | frz ob u ih=>obtain ⟨e,q⟩:=x; exact ⟨k _ _ (.inl rfl) e,ih q⟩
  | tbl ps =>
    have e:h.get? a=some { cls:=.none,data:=.fields ps }:=x
    show h'.get? a=some { cls:=.none,data:=.fields ps }
    exact k a _ (.inl rfl) e
  | met f y =>
    have e:h.get? a=some (PySem.W.methodObj (.ref f) (.ref y)):=x
    show h'.get? a=some (PySem.W.methodObj (.ref f) (.ref y))
    exact k a _ (.inl rfl) e
  | ext φ=>obtain ⟨p,⟨o,e⟩,st⟩:=x; exact ⟨st _ _ p fun o q=>k _ _ (.inl rfl) q,⟨o,k _ _ (.inl rfl) e⟩,st⟩
theorem HOk.lt (x:HOk P w H h) (e:H a=some o):a < h.objs.size:=(x a o e).lt
theorem HOk.fresh (x:HOk P w H h) (e:h.objs.size≤a):H a=none:=by
  cases q:H a with
  | none=>rfl
  | some u=>exact absurd (Nat.lt_of_lt_of_le (x.lt q) e) (Nat.lt_irrefl _)
theorem HOk.kept (x:HOk P w H h) (k:∀ b u,h.get? b=some u→h'.get? b=some u):HOk P w H h':=fun a o e =>
  (x a o e).stay (fun b u _ q=>k b u q) (fun _ q=>q) fun _ _ q=>q
theorem HOk.laid (x:HOk P w H h) (k:∀ b u,h.get? b=some u→h'.get? b=some u) (hp:h.objs.size≤a) (new:ObjOk P w (upd H a o) h' a o):HOk P w (upd H a o) h':=fun b u e=>by
  have hn:=x.fresh hp
  by_cases hb:b=a
  · subst hb; rw [upd_same] at e; cases e; exact new
  · rw [upd_ne hb] at e
    exact (x b u e).stay (fun c v _ q=>k c v q) (fun c q=>by rw [upd_ne (ne_of_none q hn)]; exact q) fun c xs q=>by rw [upd_ne (ne_of_none q hn)]; exact q
end
def Rd (H:Hp) (a:Addr) (u:HO):Prop:=H a=some u∨∃ o,H a=some (.frz o u)
theorem Rd.ok {P:Program} {w:World} {H:Hp} {h:Heap} {a:Addr} {u:HO} (r:Rd H a u) (x:HOk P w H h):ObjOk P w H h a u:=by
  rcases r with r | ⟨o,r⟩
  · exact x a u r
  · obtain ⟨_,q⟩:=x a _ r
    exact q
def Mut:Option HO→Prop
  | some (.lst _)=>True
  | some (.dK _)=>True
  | some (.dT _)=>True
  | some (.set _ _)=>True
  | some (.ins _ _ _)=>True
  | some (.ext _)=>True
  | _=>False
section
variable {P:Program} {w:World} {H:Hp} {h h':Heap} {x e:Addr} {o':HO}
theorem HOk.write (ok:HOk P w H h) (mu:Mut (H x)) (he:e=x∨H e=some (.own x)) (k:∀ b u,b≠e→h.get? b=some u→h'.get? b=some u) (heo:∃ u,h'.get? e=some u)
    (new:ObjOk P w (upd H x o') h' x o'):HOk P w (upd H x o') h':=fun b u q=>by
  have nown:∀ c y,H c=some (.own y)→c≠x:=fun c y r z=>by subst z; rw [r] at mu; exact mu
  have ntup:∀ c xs,H c=some (.tup xs)→c≠x:=fun c xs r z=>by subst z; rw [r] at mu; exact mu
  by_cases hb:b=x
  · subst hb; rw [upd_same] at q; cases q; exact new
  · rw [upd_ne hb] at q
    by_cases hbe:b=e
    · have q':H b=some (.own x):=by
        rcases he with z | z
        · exact absurd (hbe.trans z) hb
        · rw [hbe]; exact z
      rw [q] at q'; cases q'
      obtain ⟨v,hv⟩:=heo
      exact ⟨v,by rw [hbe]; exact hv⟩
    · refine (ok b u q).stay (fun c v hc r=>k c v ?_ r) (fun c r=>by rw [upd_ne (nown c b r)]; exact r) fun c xs r=>by rw [upd_ne (ntup c xs r)]; exact r
      rcases hc with rfl | hc
      · exact hbe
      · rintro rfl
        rcases he with z | z
        · exact nown c b hc z
        · rw [hc] at z; cases z; exact hb rfl
end
structure Un (fs ex:List Addr) (H H':Hp) (h h':Heap):Prop where
  keep:∀ b o,h.get? b=some o→H b=none→b ∉ fs→b ∉ ex→h'.get? b=some o
  slot:∀ b o,h.get? b=some o→H b=none→b∈fs→b ∉ ex→∃ sl,h'.get? b=some { o with slots:=sl }
  free:∀ b o,h.get? b=some o→H b=none→b ∉ ex→H' b=none
  there:∀ b o,h.get? b=some o→b ∉ ex→∃ o',h'.get? b=some o'
  tups:∀ b xs,H b=some (.tup xs)→H' b=some (.tup xs)
  frzs:∀ b o u,H b=some (.frz o u)→H' b=some (.frz o u)
  tbls:∀ b ps,H b=some (.tbl ps)→∃ more,H' b=some (.tbl (ps ++ more))
section
variable {fs fs' ex ex':List Addr} {H H1 H2:Hp} {h h1 h2 h':Heap} {a x e:Addr} {o:HO}
theorem Un.any (u:Un fs ex H H1 h h1) {b:Addr} {ob:Obj} (q:h.get? b=some ob) (n:H b=none) (hx:b ∉ ex):∃ sl,h1.get? b=some { ob with slots:=sl }:=by
  by_cases hb:b∈fs
  · exact u.slot b ob q n hb hx
  · exact ⟨ob.slots,u.keep b ob q n hb hx⟩
theorem Un.kept (k:∀ b u,h.get? b=some u→h'.get? b=some u):Un fs ex H H h h' :=
  ⟨fun b ob q _ _ _=>k b ob q,fun b ob q _ _ _=>⟨ob.slots,k b ob q⟩,fun _ _ _ n _=>n,fun b ob q _=>⟨ob,k b ob q⟩,fun _ _ q=>q,fun _ _ _ q=>q,fun _ ps q=>⟨#[],by rw [q]; simp⟩⟩
theorem Un.refl:Un fs ex H H h h:=Un.kept fun _ _ q=>q
theorem Un.laid (k:∀ b u,h.get? b=some u→h'.get? b=some u) (hp:h.objs.size≤a) (hn:H a=none):Un fs ex H (upd H a o) h h' where
  keep:=fun b u q _ _ _=>k b u q
  slot:=fun b u q _ _ _=>⟨u.slots,k b u q⟩
  free:=fun b u q n _=>by rw [upd_ne (Nat.ne_of_lt (Nat.lt_of_lt_of_le (Heap.lt_size q) hp))]; exact n
  there:=fun b u q _=>⟨u,k b u q⟩
  tups:=fun b xs q=>by rw [upd_ne (ne_of_none q hn)]; exact q
  frzs:=fun b u xs q=>by rw [upd_ne (ne_of_none q hn)]; exact q
  tbls:=fun b ps q=>⟨#[],by rw [upd_ne (ne_of_none q hn),q]; simp⟩
theorem Un.write (mu:Mut (H x)) (he:e=x∨H e=some (.own x)) (k:∀ b u,b≠e→h.get? b=some u→h'.get? b=some u) (heo:∃ u,h'.get? e=some u):Un fs ex H (upd H x o) h h':=by
  have hx:∀ b,H b=none→b≠x:=fun b n z=>by subst z; rw [n] at mu; exact mu
  have hb:∀ b,H b=none→b≠e:=fun b n z=>by
    subst z
    rcases he with r | r
    · exact hx b n r
    · rw [n] at r; cases r
  have hm:∀ b u,H b=some u→¬ Mut (some u)→b≠x:=fun b u q nm z=>by subst z; rw [q] at mu; exact nm mu
  refine ⟨fun b u q n _ _=>k b u (hb b n) q,fun b u q n _ _=>⟨u.slots,k b u (hb b n) q⟩,fun b u q n _=>by rw [upd_ne (hx b n)]; exact n,fun b u q _=>?_,
    fun b xs q=>by rw [upd_ne (hm b _ q fun z=>z)]; exact q,fun b u xs q=>by rw [upd_ne (hm b _ q fun z=>z)]; exact q,fun b ps q=>⟨#[],by rw [upd_ne (hm b _ q fun z=>z),q]; simp⟩⟩
  by_cases hbe:b=e
  · subst hbe; exact heo
  · exact ⟨u,k b u hbe q⟩
end
def trk (h:Heap) (H:Hp):List Addr:=(List.range h.objs.size).filter fun a=>(H a).isSome
def hidT (h:Heap) (H:Hp):Heap:=PySem.W.hideAll h (trk h H)
theorem hidT_size (h:Heap) (H:Hp):(hidT h H).objs.size=h.objs.size:=PySem.W.hideAll_size _ _
theorem hidT_get {h:Heap} {H:Hp} {b:Addr} {o:Obj} (e:h.get? b=some o) (n:H b=none):(hidT h H).get? b=some o :=
  PySem.W.hideAll_get _ e fun hm=>by
    have q:(H b).isSome=true:=(List.mem_filter.mp hm).2
    rw [n] at q; simp at q
theorem of_hidT {h:Heap} {H:Hp} {b:Addr} {o:Obj} (e:(hidT h H).get? b=some o):h.get? b=some o∧H b=none:=by
  have e':h.get? b=some o:=PySem.W.of_hideAll (trk h H) e
  refine ⟨e',?_⟩
  cases q:H b with
  | none=>rfl
  | some x =>
    have hm:b∈trk h H:=List.mem_filter.mpr ⟨List.mem_range.mpr (Heap.lt_size e'),by simp [q]⟩
    have z:(hidT h H).get? b=none:=PySem.W.hideAll_none (trk h H) hm
    rw [z] at e; cases e
def allNews (g h:Heap) (L:Addr):List (Addr × Obj):=(List.range h.objs.size).filterMap fun a=>if a=L∨(g.get? a).isSome=true then none else (h.get? a).map fun o=>(a,o)
def rest (g h:Heap) (L d:Addr):List (Addr × Obj):=(allNews g h L).filter fun p=>decide (p.1≠d)
end L2
namespace L2
open PySem PySem.Spec PyProof.Rows
structure Mod (K:PySem.W.Frag) (mg:Str→Option Value) (base:Heap):Prop where
  kin:K.In base
  glob:base.Ns mainGlobals mg
  blt:∃ mb,base.Ns builtinsNs mb∧∀ x:Str,x ≠ "__name__" → mb x=bootBuiltins x
  nolimit:base.NoLimit
structure Cx where
  prog:Program
  w:World
  K:PySem.W.Frag
  mg:Str→Option Value
  base:Heap
  A:Around
  N:List Str
  s₀:Shared
  H₀:Hp
  env:Env
  outer:List Env
  stack:List Env
  ex:List Addr
  fn:Str→Bool
  calm:Bool
  pn:List (Addr × Obj)
  xe:Value→Shared→Prop
def frs (l:List Env):List Addr:=l.filterMap (·.frame)
abbrev Cx.fs (X:Cx):List Addr:=frs X.outer
def Vis (sc:Scope) (x:Str):Prop:=sc.names.lookup x=some .local∨sc.names.lookup x=some .cell∨sc.names.lookup x=some .free
def Loc (sc:Scope) (x:Str):Prop:=sc.names.lookup x=some .local∨sc.names.lookup x=some .cell
def Look (env:Env) (h:Heap) (m:Str→Option Value) (x:Str) (u:Value):Prop :=
  (env.kindOf x=some .local∧m x=some u)∨((env.kindOf x=some .cell∨env.kindOf x=some .free)∧∃ c,env.cells.lookup x=some c∧h.IsCell c (some u))
structure Cx.Ok (X:Cx):Prop where
  mod:Mod X.K X.mg X.base
  kind:X.env.scope.kind=.function
  glob:X.env.globals=mainGlobals
  blt:X.env.builtins=builtinsNs
  above:X.s₀.heap.objs.size≤X.env.locals
  inj:∀ x y c,X.env.cells.lookup x=some c→X.env.cells.lookup y=some c→x=y
  has:∀ x,(X.env.kindOf x=some .cell∨X.env.kindOf x=some .free)→∃ c,X.env.cells.lookup x=some c
  cab:∀ x c,X.fn x=true→X.env.cells.lookup x=some c→X.s₀.heap.objs.size≤c
  hd:X.calm=true→X.A.handled=none
  frames:X.A.frames=some X.stack
  stk:X.stack=X.outer∨(X.stack=X.env :: X.outer∧X.env.frame=some X.env.locals)
  exf:∀ b∈X.ex,b≠X.env.locals∧∀ x c,X.env.cells.lookup x=some c→c≠b
  bs:∀ b o,X.base.get? b=some o→X.s₀.heap.get? b=some o∧X.H₀ b=none
  bsz:X.base.objs.size≤X.s₀.heap.objs.size
  noex:∀ b o,X.base.get? b=some o→b ∉ X.ex
  exfs:∀ b∈X.ex,b ∉ X.fs
  funs:X.s₀.heap.FunFrames X.base X.outer
  frf:∀ b∈X.fs,X.H₀ b=none
structure Inv (X:Cx) (pins:List (Addr × Obj)) (σ:List (Option V)) (H:Hp) (s:Shared):Prop where
  ok:X.Ok
  os:s.os=X.s₀.os
  bare:AllBare s.gens
  base:Un X.fs X.ex X.H₀ H X.s₀.heap s.heap
  loc:∃ m,s.heap.Ns X.env.locals m∧∀ (i:Nat) (x:Str) (v:V),X.N[i]?=some x→σ[i]?=some (some v)→Vis X.env.scope x→∃ u,RelV v u∧Look X.env s.heap m x u
  cell:∀ x c,X.env.cells.lookup x=some c→∃ v,s.heap.IsCell c v
  free:H X.env.locals=none
  freeC:∀ x c,X.env.cells.lookup x=some c→H c=none
  pin:∀ p∈X.pn ++ pins,s.heap.get? p.1=some p.2∧H p.1=none∧p.1≠X.env.locals∧p.1 ∉ X.fs∧∀ v,p.2.data≠.cell v
  hok:HOk X.prog X.w H s.heap
  len:σ.length=X.N.length
section
variable {X:Cx} {pins:List (Addr × Obj)} {σ:List (Option V)} {H H':Hp} {s:Shared} {h':Heap}
theorem Cx.Ok.nofr (ok:X.Ok) {b:Addr} {o:Obj} (e:X.base.get? b=some o):b ∉ X.fs:=fun hb=>by
  have:=(ok.funs.mem hb).1
  rw [e] at this; cases this
theorem Inv.bs (I:Inv X pins σ H s):∀ b o,X.base.get? b=some o→s.heap.get? b=some o∧H b=none:=fun b o e =>
  ⟨I.base.keep b o (I.ok.bs b o e).1 (I.ok.bs b o e).2 (I.ok.nofr e) (I.ok.noex b o e),I.base.free b o (I.ok.bs b o e).1 (I.ok.bs b o e).2 (I.ok.noex b o e)⟩
theorem Inv.bk (I:Inv X pins σ H s):∀ b o,X.base.get? b=some o→s.heap.get? b=some o:=fun b o e=>(I.bs b o e).1
theorem Inv.mod (I:Inv X pins σ H s):Mod X.K X.mg X.base:=I.ok.mod
theorem Inv.kIn (I:Inv X pins σ H s):X.K.In s.heap:=I.ok.mod.kin.keeps I.bk
theorem Inv.fr (I:Inv X pins σ H s):∃ m,Fr X.base X.env.locals s.heap m :=
  let ⟨m,hn,_⟩:=I.loc
  ⟨m,hn,I.bk,Nat.le_trans I.ok.bsz I.ok.above⟩
theorem Inv.lt (I:Inv X pins σ H s):X.env.locals < s.heap.objs.size:=let ⟨_,hn,_⟩:=I.loc; hn.lt
theorem Inv.sz (I:Inv X pins σ H s):X.s₀.heap.objs.size≤s.heap.objs.size:=Nat.le_trans I.ok.above (Nat.le_of_lt I.lt)
theorem Inv.nofs (I:Inv X pins σ H s) {a:Addr} (h:s.heap.objs.size≤a):a ∉ X.fs:=fun hb=>by
  obtain ⟨_,o,ho,_⟩:=I.ok.funs.mem hb
  exact absurd (Nat.lt_of_lt_of_le (Heap.lt_size ho) (Nat.le_trans I.sz h)) (Nat.lt_irrefl _)
theorem Inv.cne (I:Inv X pins σ H s):∀ x c,X.env.cells.lookup x=some c→c≠X.env.locals:=fun x c e z=>by
  obtain ⟨v,o,ho,hd⟩:=I.cell x c e
  obtain ⟨m,⟨o',es,ep,ho',hd',_⟩,_⟩:=I.loc
  rw [z,ho'] at ho; cases ho; rw [hd'] at hd; cases hd
theorem Inv.funs (I:Inv X pins σ H s):s.heap.FunFrames X.base X.outer:=by
  have all:∀ (l:List Env),(∀ b∈frs l,b∈X.fs)→X.s₀.heap.FunFrames X.base l→s.heap.FunFrames X.base l:=by
    intro l
    induction l with
    | nil=>intro _ _; trivial
    | cons env r ih =>
      intro hs hl
      obtain ⟨hk,⟨L,o,hf,hn,ho,hd⟩,hr⟩:=hl
      have hL:L∈X.fs:=hs L (by unfold frs; rw [List.filterMap_cons,hf]; exact List.mem_cons_self)
      obtain ⟨sl,e⟩:=I.base.slot L o ho (I.ok.frf L hL) hL fun z=>I.ok.exfs L z hL
      exact ⟨hk,⟨L,_,hf,hn,e,hd⟩,ih (fun b hb=>hs b (by unfold frs; rw [List.filterMap_cons,hf]; exact List.mem_cons_of_mem _ hb)) hr⟩
  exact all X.outer (fun _ hb=>hb) I.ok.funs
theorem Inv.stack (I:Inv X pins σ H s):s.heap.FunFrames X.base X.stack:=by
  rcases I.ok.stk with e | ⟨e,hf⟩
  · rw [e]; exact I.funs
  · rw [e]
    obtain ⟨m,hn,_⟩:=I.loc
    refine .cons (by rw [I.ok.kind]; decide) hf hn ?_ I.funs
    exact Heap.get?_none_of_le (Nat.le_trans I.ok.bsz I.ok.above)
theorem Inv.stkSub (I:Inv X pins σ H s):∀ b∈frs X.stack,b∈X.env.locals :: X.fs:=fun b hb=>by
  rcases I.ok.stk with e | ⟨e,hf⟩
  · rw [e] at hb; exact List.mem_cons_of_mem _ hb
  · rw [e] at hb
    unfold frs at hb
    rw [List.filterMap_cons,hf] at hb
    exact hb
theorem Inv.stkFree (I:Inv X pins σ H s):∀ b∈frs X.stack,H b=none:=fun b hb=>by
  rcases List.mem_cons.mp (I.stkSub b hb) with e | hb
  · rw [e]; exact I.free
  · obtain ⟨_,o,ho,_⟩:=I.ok.funs.mem hb
    exact I.base.free b o ho (I.ok.frf b hb) fun z=>I.ok.exfs b z hb
theorem Inv.step {g':Array GenState} {t':Nat} {d':Drawn} {ch:List Addr} (I:Inv X pins σ H s)
    (hch:∀ b∈ch,(b∈X.ex∨X.s₀.heap.objs.size≤b)∧b≠X.env.locals∧(∀ x c,X.env.cells.lookup x=some c→c≠b)∧∀ p∈X.pn ++ pins,p.1≠b)
    (keep:∀ b o,b≠X.env.locals→b ∉ X.fs→b ∉ ch→s.heap.get? b=some o→H b=none→h'.get? b=some o)
    (slot:∀ b o,b≠X.env.locals→b∈X.fs→b ∉ ch→s.heap.get? b=some o→H b=none→∃ sl,h'.get? b=some { o with slots:=sl }) (free:∀ b o,b ∉ ch→s.heap.get? b=some o→H b=none→H' b=none)
    (there:∀ b o,b ∉ ch→s.heap.get? b=some o→∃ o',h'.get? b=some o')
    (tups:∀ b xs,H b=some (.tup xs)→H' b=some (.tup xs)) (frzs:∀ b o u,H b=some (.frz o u)→H' b=some (.frz o u)) (tbls:∀ b ps,H b=some (.tbl ps)→∃ more,H' b=some (.tbl (ps ++ more)))
    (ns:∀ m,s.heap.Ns X.env.locals m→h'.Ns X.env.locals m) (hok:HOk X.prog X.w H' h') (hg:AllBare g') :
    Inv X pins σ H' { s with heap:=h',gens:=g',drawn:=d',toks:=t' }:=by
  have neL:∀ b o,X.s₀.heap.get? b=some o→b≠X.env.locals:=fun b o e=>Nat.ne_of_lt (Nat.lt_of_lt_of_le (Heap.lt_size e) I.ok.above)
  have neC:∀ b o,X.s₀.heap.get? b=some o→b ∉ X.ex→b ∉ ch:=fun b o e hx hb=>by
    rcases (hch b hb).1 with z | z
    · exact hx z
    · exact absurd (Nat.lt_of_lt_of_le (Heap.lt_size e) z) (Nat.lt_irrefl _)
  have cellK:∀ x c,X.env.cells.lookup x=some c→∀ v,s.heap.IsCell c v→h'.IsCell c v:=fun x c e v ⟨o,ho,hd⟩=>by
    have nch:c ∉ ch:=fun z=>(hch c z).2.2.1 x c e rfl
    by_cases hc:c∈X.fs
    · obtain ⟨sl,q⟩:=slot c o (I.cne x c e) hc nch ho (I.freeC x c e)
      exact ⟨_,q,hd⟩
    · exact ⟨o,keep c o (I.cne x c e) hc nch ho (I.freeC x c e),hd⟩
  refine ⟨I.ok,I.os,hg,⟨fun b o e n hb hx=>?_,fun b o e n hb hx=>?_,fun b o e n hx=>?_,fun b o e hx=>?_,fun b xs e=>tups b xs (I.base.tups b xs e),fun b o xs e=>frzs b o xs (I.base.frzs b o xs e),fun b ps e=>?_⟩,?_,fun x c e=>?_,?_,fun x c e=>?_,fun p hp=>?_,hok,I.len⟩
  · exact keep b o (neL b o e) hb (neC b o e hx) (I.base.keep b o e n hb hx) (I.base.free b o e n hx)
  · obtain ⟨sl,e1⟩:=I.base.slot b o e n hb hx
    obtain ⟨sl',e2⟩:=slot b _ (neL b o e) hb (neC b o e hx) e1 (I.base.free b o e n hx)
    exact ⟨sl',e2⟩
  · obtain ⟨o',e1⟩:=I.base.there b o e hx
    exact free b o' (neC b o e hx) e1 (I.base.free b o e n hx)
  · obtain ⟨o',e1⟩:=I.base.there b o e hx
    exact there b o' (neC b o e hx) e1
  · obtain ⟨m1,e1⟩:=I.base.tbls b ps e
    obtain ⟨m2,e2⟩:=tbls b _ e1
    exact ⟨m1 ++ m2,by rw [e2,Array.append_assoc]⟩
  · obtain ⟨m,hn,hl⟩:=I.loc
    refine ⟨m,ns m hn,fun i x v e1 e2 e3=>?_⟩
    obtain ⟨u,r,l⟩:=hl i x v e1 e2 e3
    refine ⟨u,r,?_⟩
    rcases l with l | ⟨k,c,e,z⟩
    · exact .inl l
    · exact .inr ⟨k,c,e,cellK x c e _ z⟩
  · obtain ⟨v,z⟩:=I.cell x c e
    exact ⟨v,cellK x c e v z⟩
  · obtain ⟨m,⟨o,_,_,ho,_⟩,_⟩:=I.loc
    exact free _ o (fun z=>(hch _ z).2.1 rfl) ho I.free
  · obtain ⟨v,o,ho,hd⟩:=I.cell x c e
    exact free c o (fun z=>(hch c z).2.2.1 x c e rfl) ho (I.freeC x c e)
  · obtain ⟨e,n,ne,nf,d⟩:=I.pin p hp
    have nch:p.1 ∉ ch:=fun z=>(hch p.1 z).2.2.2 p hp rfl
    exact ⟨keep p.1 p.2 ne nf nch e n,free p.1 p.2 nch e n,ne,nf,d⟩
theorem Inv.un {t':Nat} (I:Inv X pins σ H s) (u:Un X.fs [] H H' s.heap h') (hok:HOk X.prog X.w H' h'):Inv X pins σ H' { s with heap:=h',toks:=t' }:=by
  obtain ⟨m,⟨o,es,ep,ho,r⟩,_⟩:=id I.loc
  obtain ⟨sl,hL⟩:=u.any ho I.free (by simp)
  exact I.step (g':=s.gens) (d':=s.drawn) (ch:=[]) (fun _ z=>nomatch z) (fun b o _ hb _ e n=>u.keep b o e n hb (by simp)) (fun b o _ hb _ e n=>u.slot b o e n hb (by simp)) (fun b o _ e n=>u.free b o e n (by simp)) (fun b o _ e=>u.there b o e (by simp)) u.tups u.frzs u.tbls (fun m' hm=>by
    obtain ⟨o',es',ep',ho',r'⟩:=hm
    rw [ho] at ho'; cases ho'
    exact ⟨_,es',ep',hL,r'⟩) hok I.bare
theorem Inv.call {g':Array GenState} {t':Nat} {d':Drawn} {ch:List Addr} (I:Inv X pins σ H s) (u:Un (frs X.stack) ch H H' s.heap h') (hok:HOk X.prog X.w H' h') (hg:AllBare g')
    (hch:∀ b∈ch,(b∈X.ex∨X.s₀.heap.objs.size≤b)∧b≠X.env.locals∧(∀ x c,X.env.cells.lookup x=some c→c≠b)∧∀ p∈X.pn ++ pins,p.1≠b) :
    Inv X pins σ H' { s with heap:=h',gens:=g',drawn:=d',toks:=t' }:=by
  obtain ⟨m,⟨o,es,ep,ho,r⟩,_⟩:=id I.loc
  obtain ⟨sl,hL⟩:=u.any ho I.free fun z=>(hch _ z).2.1 rfl
  exact I.step (ch:=ch) hch (fun b o hL hb hc e n=>u.keep b o e n (fun z=>(List.mem_cons.mp (I.stkSub b z)).elim hL hb) hc) (fun b o _ _ hc e n=>u.any e n hc) (fun b o hc e n=>u.free b o e n hc) (fun b o hc e=>u.there b o e hc) u.tups u.frzs u.tbls (fun m' hm=>by
    obtain ⟨o',es',ep',ho',r'⟩:=hm
    rw [ho] at ho'; cases ho'
    exact ⟨_,es',ep',hL,r'⟩) hok hg
theorem Inv.turned {t':Nat} {it:Addr} (I:Inv X pins σ H s) (k:∀ b o,b≠it→s.heap.get? b=some o→h'.get? b=some o) (hn:H it=none) (hL:it≠X.env.locals)
    (h1:it∈X.ex∨X.s₀.heap.objs.size≤it) (h2:∀ x c,X.env.cells.lookup x=some c→c≠it) (h3:∀ p∈X.pn ++ pins,p.1≠it):Inv X pins σ H { s with heap:=h',toks:=t' }:=by
  have nit:∀ b u,H b=some u→b≠it:=fun b u e z=>by rw [z,hn] at e; cases e
  refine I.step (g':=s.gens) (d':=s.drawn) (ch:=[it]) (fun b hb=>?_) (fun b o _ _ hc e _=>k b o (fun z=>hc (by simp [z])) e) (fun b o _ _ hc e _=>⟨o.slots,k b o (fun z=>hc (by simp [z])) e⟩) (fun _ _ _ _ n=>n)
    (fun b o hc e=>⟨o,k b o (fun z=>hc (by simp [z])) e⟩) (fun _ _ e=>e) (fun _ _ _ e=>e) (fun b ps e=>⟨#[],by rw [e]; simp⟩) (fun m hm=>?_) (fun b u e=>?_) I.bare
  · have e:b=it:=by simpa using hb
    subst e
    exact ⟨h1,hL,h2,h3⟩
  · obtain ⟨o,es,ep,ho,r⟩:=hm
    exact ⟨o,es,ep,k _ o (Ne.symm hL) ho,r⟩
  · refine (I.hok b u e).stay (fun c v hc q=>k c v ?_ q) (fun _ q=>q) fun _ _ q=>q
    rcases hc with z | z
    · rw [z]; exact nit b u e
    · exact nit c _ z
theorem Inv.tok (I:Inv X pins σ H s) (t:Nat):Inv X pins σ H { s with toks:=t }:=I.un (h':=s.heap) (t':=t) Un.refl I.hok
theorem Inv.kept {t':Nat} (I:Inv X pins σ H s) (k:∀ b u,s.heap.get? b=some u→h'.get? b=some u):Inv X pins σ H { s with heap:=h',toks:=t' }:=I.un (Un.kept k) (I.hok.kept k)
theorem Inv.laid {a:Addr} {o:HO} {t':Nat} (I:Inv X pins σ H s) (k:∀ b u,s.heap.get? b=some u→h'.get? b=some u) (hp:s.heap.objs.size≤a) (new:ObjOk X.prog X.w (upd H a o) h' a o) :
    Inv X pins σ (upd H a o) { s with heap:=h',toks:=t' }:=I.un (Un.laid k hp (I.hok.fresh hp)) (I.hok.laid k hp new)
theorem Inv.write {x e:Addr} {o:HO} {t':Nat} (I:Inv X pins σ H s) (mu:Mut (H x)) (he:e=x∨H e=some (.own x)) (k:∀ b u,b≠e→s.heap.get? b=some u→h'.get? b=some u) (heo:∃ u,h'.get? e=some u)
    (new:ObjOk X.prog X.w (upd H x o) h' x o):Inv X pins σ (upd H x o) { s with heap:=h',toks:=t' }:=I.un (Un.write mu he k heo) (I.hok.write mu he k heo new)
theorem Inv.weak {σ':List (Option V)} (I:Inv X pins σ H s) (hl:σ'.length=σ.length) (w:∀ (i:Nat) v,σ'[i]?=some (some v)→σ[i]?=some (some v)):Inv X pins σ' H s :=
  ⟨I.ok,I.os,I.bare,I.base,let ⟨m,hn,hl'⟩:=I.loc; ⟨m,hn,fun i x v e1 e2 e3=>hl' i x v e1 (w i v e2) e3⟩,I.cell,I.free,I.freeC,I.pin,I.hok,hl.trans I.len⟩
theorem Inv.pins_of {pins':List (Addr × Obj)} (I:Inv X pins σ H s) (h:∀ p∈pins',s.heap.get? p.1=some p.2∧H p.1=none∧p.1≠X.env.locals∧p.1 ∉ X.fs∧∀ v,p.2.data≠.cell v):Inv X pins' σ H s :=
  ⟨I.ok,I.os,I.bare,I.base,I.loc,I.cell,I.free,I.freeC,fun p hp=>(List.mem_append.mp hp).elim (fun z=>I.pin p (List.mem_append_left _ z)) (h p),I.hok,I.len⟩
theorem nodup_ix {N:List Str} (hN:N.Nodup) {i j:Nat} {x:Str} (a:N[i]?=some x) (b:N[j]?=some x):i=j:=by
  obtain ⟨h1,e1⟩:=List.getElem?_eq_some_iff.mp a
  obtain ⟨h2,e2⟩:=List.getElem?_eq_some_iff.mp b
  exact (List.getElem_inj hN).mp (e1.trans e2.symm)
theorem store_ok2 {M:Model} {A:Around} {E:Value→Shared→Prop} {i:Nat} {x:Str} {v:V} {u:Value} {Q:Unit→Shared→Prop} (I:Inv X pins σ H s) (hN:X.N.Nodup) (hi:X.N[i]?=some x) (hx:Loc X.env.scope x) (r:RelV v u)
    (h:∀ s',Inv X pins (σ.set i (some v)) H s'→(∃ a,Heap.SameBut a s.heap s'.heap∧(a=X.env.locals∨X.env.cells.lookup x=some a))→Q () s') (hf:X.fn x=true∨X.env.scope.names.lookup x=some .local:=by first | exact .inl rfl | exact .inr rfl | assumption):wpAny M A (storeName X.env x u) Q E s:=by
  obtain ⟨m,hn,hl⟩:=id I.loc
  have hcls:(X.env.scope.kind == .class || (X.env.scope.kind == .module && X.env.locals != X.env.globals))=false:=by rw [I.ok.kind]; rfl
  have hiσ:i < σ.length:=by rw [I.len]; exact (List.getElem?_eq_some_iff.mp hi).1
  have cne:=I.cne
  have tracked:∀ {a:Addr} {h':Heap},(∃ o,s.heap.get? a=some o∧H a=none)→Heap.SameBut a s.heap h'→HOk X.prog X.w H h':=fun {a h'} ha hs b ob e=>by
    obtain ⟨_,_,hfree⟩:=ha
    refine (I.hok b ob e).stay (fun c w' hc q=>(hs.2 c ?_).trans q) (fun _ q=>q) fun _ _ q=>q
    rintro rfl
    rcases hc with rfl | hc
    · rw [hfree] at e; cases e
    · rw [hfree] at hc; cases hc
  rcases hx with hk | hk
  · refine wpAny_storeName_local hk hn (fun h' hn' hs=>?_) hcls
    obtain ⟨oL,_,_,hoL,_⟩:=id hn
    refine h _ ⟨I.ok,I.os,I.bare,⟨fun b o e n hb hx=>?_,fun b o e n hb hx=>?_,I.base.free,fun b o e hx=>?_,I.base.tups,I.base.frzs,I.base.tbls⟩,⟨_,hn',fun j y v' e1 e2 e3=>?_⟩,fun y c e=>?_,I.free,I.freeC,fun p hp=>?_,tracked ⟨oL,hoL,I.free⟩ hs,by simpa using I.len⟩ ⟨_,hs,.inl rfl⟩
    · exact (hs.2 b (Nat.ne_of_lt (Nat.lt_of_lt_of_le (Heap.lt_size e) I.ok.above))).trans (I.base.keep b o e n hb hx)
    · obtain ⟨sl,e1⟩:=I.base.slot b o e n hb hx
      exact ⟨sl,(hs.2 b (Nat.ne_of_lt (Nat.lt_of_lt_of_le (Heap.lt_size e) I.ok.above))).trans e1⟩
    · obtain ⟨o',e1⟩:=I.base.there b o e hx
      exact ⟨o',(hs.2 b (Nat.ne_of_lt (Nat.lt_of_lt_of_le (Heap.lt_size e) I.ok.above))).trans e1⟩
    · by_cases hj:j=i
      · subst hj
        rw [hi] at e1; cases e1
        rw [List.getElem?_set_self hiσ] at e2
        cases e2
        exact ⟨u,r,.inl ⟨hk,by simp⟩⟩
      · rw [List.getElem?_set_ne (Ne.symm hj)] at e2
        obtain ⟨u',r',q⟩:=hl j y v' e1 e2 e3
        refine ⟨u',r',?_⟩
        rcases q with ⟨k,e⟩ | ⟨k,c,e,z⟩
        · refine .inl ⟨k,?_⟩
          have:y≠x:=fun e=>hj (nodup_ix hN e1 (e ▸ hi))
          simp [this,e]
        · exact .inr ⟨k,c,e,z.sameBut hs (cne y c e)⟩
    · obtain ⟨w',z⟩:=I.cell y c e
      exact ⟨w',z.sameBut hs (cne y c e)⟩
    · obtain ⟨e,n,ne,nf,d⟩:=I.pin p hp
      exact ⟨(hs.2 p.1 ne).trans e,n,ne,nf,d⟩
  · have hfn:X.fn x=true:=by
      rcases hf with z | z
      · exact z
      · rw [z] at hk; cases hk
    obtain ⟨c,hc⟩:=I.ok.has x (.inl hk)
    obtain ⟨w',z⟩:=I.cell x c hc
    refine wpAny_storeName_cell I.ok.kind hk hc z (fun h' hc' hs=>?_)
    obtain ⟨oc,hoc,hocd⟩:=id z
    refine h { s with heap:=h' } ⟨I.ok,I.os,I.bare,⟨fun b o e n hb hx=>?_,fun b o e n hb hx=>?_,I.base.free,fun b o e hx=>?_,I.base.tups,I.base.frzs,I.base.tbls⟩,⟨m,hn.sameBut hs (Ne.symm (cne x c hc)),fun j y v' e1 e2 e3=>?_⟩,fun y c' e=>?_,I.free,I.freeC,fun p hp=>?_,tracked ⟨oc,hoc,I.freeC x c hc⟩ hs,by simpa using I.len⟩ ⟨c,hs,.inr hc⟩
    · exact (hs.2 b (Nat.ne_of_lt (Nat.lt_of_lt_of_le (Heap.lt_size e) (I.ok.cab x c hfn hc)))).trans (I.base.keep b o e n hb hx)
    · obtain ⟨sl,e1⟩:=I.base.slot b o e n hb hx
      exact ⟨sl,(hs.2 b (Nat.ne_of_lt (Nat.lt_of_lt_of_le (Heap.lt_size e) (I.ok.cab x c hfn hc)))).trans e1⟩
    · obtain ⟨o',e1⟩:=I.base.there b o e hx
      exact ⟨o',(hs.2 b (Nat.ne_of_lt (Nat.lt_of_lt_of_le (Heap.lt_size e) (I.ok.cab x c hfn hc)))).trans e1⟩
    · by_cases hj:j=i
      · subst hj
        rw [hi] at e1; cases e1
        rw [List.getElem?_set_self hiσ] at e2
        cases e2
        exact ⟨u,r,.inr ⟨.inl hk,c,hc,hc'⟩⟩
      · rw [List.getElem?_set_ne (Ne.symm hj)] at e2
        obtain ⟨u',r',q⟩:=hl j y v' e1 e2 e3
        refine ⟨u',r',?_⟩
        rcases q with q | ⟨k,c',e,z'⟩
        · exact .inl q
        · refine .inr ⟨k,c',e,z'.sameBut hs ?_⟩
          rintro rfl
          exact hj (nodup_ix hN e1 (I.ok.inj _ _ _ e hc ▸ hi))
    · by_cases hcc:c'=c
      · subst hcc; exact ⟨_,hc'⟩
      · obtain ⟨w2,z2⟩:=I.cell y c' e
        exact ⟨w2,z2.sameBut hs hcc⟩
    · obtain ⟨e,n,ne,nf,d⟩:=I.pin p hp
      refine ⟨(hs.2 p.1 ?_).trans e,n,ne,nf,d⟩
      intro q
      rw [q,hoc] at e
      have q':oc=p.2:=Option.some.inj e
      exact d w' (by rw [← q']; exact hocd)
theorem store_ok {M:Model} {A:Around} {E:Value→Shared→Prop} {i:Nat} {x:Str} {v:V} {u:Value} {Q:Unit→Shared→Prop} (I:Inv X pins σ H s) (hN:X.N.Nodup) (hi:X.N[i]?=some x) (hx:Loc X.env.scope x) (r:RelV v u)
    (h:∀ s',Inv X pins (σ.set i (some v)) H s'→Q () s') (hf:X.fn x=true∨X.env.scope.names.lookup x=some .local:=by first | exact .inl rfl | exact .inr rfl | assumption):wpAny M A (storeName X.env x u) Q E s :=
  store_ok2 I hN hi hx r (fun s' I' _=>h s' I') hf
theorem Inv.call' {s':Shared} {ch:List Addr} (I:Inv X pins σ H s) (ho:s'.os=s.os) (u:Un (frs X.stack) ch H H' s.heap s'.heap) (hok:HOk X.prog X.w H' s'.heap) (hg:AllBare s'.gens)
    (hch:∀ b∈ch,(b∈X.ex∨X.s₀.heap.objs.size≤b)∧b≠X.env.locals∧(∀ x c,X.env.cells.lookup x=some c→c≠b)∧∀ p∈X.pn ++ pins,p.1≠b):Inv X pins σ H' s':=by
  obtain ⟨h',g',d',t',o'⟩:=s'
  have e:o'=s.os:=ho
  subst e
  exact I.call (g':=g') (t':=t') (d':=d') u hok hg hch
end
abbrev XK:=Value→Option Addr→Hp→Prop
abbrev St:=List (Option V)
abbrev VK:=V→Hp→Prop
abbrev TE:=St→Hp→VK→Prop
abbrev TT:=St→Hp→(Bool→Hp→Prop)→Prop
abbrev TA:=St→Hp→(List V→Hp→Prop)→Prop
structure Ends where
  nx:St→Hp→Prop
  rt:VK
  bk:St→Hp→Prop:=fun _ _=>False
  ct:St→Hp→Prop:=fun _ _=>False
abbrev TS:=Ends→St→Hp→Prop
def EP (X:Cx) (pins:List (Addr × Obj)) (σ:St) (Q:VK) (u:Value) (s':Shared):Prop:=∃ v H',Inv X pins σ H' s'∧RelV v u∧Q v H'
def TP (X:Cx) (pins:List (Addr × Obj)) (σ:St) (Q:Bool→Hp→Prop) (b:Bool) (s':Shared):Prop:=∃ H',Inv X pins σ H' s'∧Q b H'
def AP (X:Cx) (pins:List (Addr × Obj)) (σ:St) (Q:List V→Hp→Prop) (us:List Value) (s':Shared):Prop:=∃ vs H',Inv X pins σ H' s'∧Vals vs us∧Q vs H'
def SP (X:Cx) (pins:List (Addr × Obj)) (D:Ends) (f:Flow) (s':Shared):Prop :=
  match f with
  | .next=>∃ σ' H',Inv X pins σ' H' s'∧D.nx σ' H'
  | .brk=>∃ σ' H',Inv X pins σ' H' s'∧D.bk σ' H'
  | .cont=>∃ σ' H',Inv X pins σ' H' s'∧D.ct σ' H'
  | .ret u=>∃ v σ' H',Inv X pins σ' H' s'∧RelV v u∧D.rt v H'
def PE (X:Cx) (e:Expr) (t:TE):Prop :=
  ∀ (pins:List (Addr × Obj)) (s:Shared) (σ:St) (H:Hp) (Q:VK),Inv X pins σ H s→t σ H Q→wpAny (model X.prog X.w) X.A (eval e X.env) (EP X pins σ Q) X.xe s
def PT (X:Cx) (e:Expr) (t:TT):Prop :=
  ∀ (pins:List (Addr × Obj)) (s:Shared) (σ:St) (H:Hp) (Q:Bool→Hp→Prop),Inv X pins σ H s→t σ H Q→wpAny (model X.prog X.w) X.A (isTrue e X.env (eval e X.env)) (TP X pins σ Q) X.xe s
def PW (X:Cx) (e:Expr) (t:TT):Prop :=
  ∀ (whole:Sem Value) (pins:List (Addr × Obj)) (s:Shared) (σ:St) (H:Hp) (Q:Bool→Hp→Prop),Inv X pins σ H s→t σ H Q→wpAny (model X.prog X.w) X.A (isTrue e X.env whole) (TP X pins σ Q) X.xe s
theorem PW.pt {X:Cx} {e:Expr} {t:TT} (h:PW X e t):PT X e t:=h _
def PA (X:Cx) (es:List Expr) (t:TA):Prop :=
  ∀ (pos:Pos) (pins:List (Addr × Obj)) (s:Shared) (σ:St) (H:Hp) (Q:List V→Hp→Prop),Inv X pins σ H s→t σ H Q→wpAny (model X.prog X.w) X.A (spliced (backTo pos (starEach es X.env))) (AP X pins σ Q) X.xe s
def PS (X:Cx) (st:Stmt) (t:TS):Prop :=
  ∀ (pins:List (Addr × Obj)) (s:Shared) (σ:St) (H:Hp) (D:Ends),Inv X pins σ H s→t D σ H→wpAny (model X.prog X.w) X.A (exec st X.env) (SP X pins D) X.xe s
def PSs (X:Cx) (st:List Stmt) (t:TS):Prop :=
  ∀ (pins:List (Addr × Obj)) (s:Shared) (σ:St) (H:Hp) (D:Ends),Inv X pins σ H s→t D σ H→wpAny (model X.prog X.w) X.A (execs st X.env) (SP X pins D) X.xe s
theorem thn {α:Type} {t:Sem α} {Q Q':α→Shared→Prop} {M:Model} {A:Around} {E:Value→Shared→Prop} {s:Shared} (h:wpAny M A t Q E s) (hQ:∀ a s,Q a s→Q' a s):wpAny M A t Q' E s:=wpAny_mono h hQ fun _ _ x=>x
end L2
namespace L2
open PySem PySem.Spec PyProof.Rows
section
variable {X:Cx}
theorem bin {a b:Expr} {ta tb:TE} (ha:PE X a ta) (hb:PE X b tb) {pins:List (Addr × Obj)} {s:Shared} {σ:St} {H:Hp} {R:V→V→Hp→Prop} (I:Inv X pins σ H s) (h:ta σ H fun x H1=>tb σ H1 fun y H2=>R x y H2)
    {α:Type} {Q:α→Shared→Prop} {f:Value→Value→Sem α}
    (hf:∀ v u s2 x y H2,Inv X pins σ H2 s2→RelV x v→RelV y u→R x y H2→wpAny (model X.prog X.w) X.A (f v u) Q X.xe s2) :
    wpAny (model X.prog X.w) X.A (eval a X.env) (fun v s₁=>wpAny (model X.prog X.w) X.A (eval b X.env) (fun u s₂=>wpAny (model X.prog X.w) X.A (f v u) Q X.xe s₂) X.xe s₁) X.xe s:=by
  refine thn (ha pins s σ H _ I h) fun v s1 ⟨x,H1,I1,r1,q1⟩=>?_
  refine thn (hb pins s1 σ H1 _ I1 q1) fun u s2 ⟨y,H2,I2,r2,q2⟩=>?_
  exact hf v u s2 x y H2 I2 r1 r2 q2
def tVar (i:Nat):TE:=fun σ H Q=>∃ v,σ[i]?=some (some v)∧Q v H
def tC (v:V):TE:=fun _ H Q=>Q v H
theorem pe_var {i:Nat} {x:Str} {pos:Pos} (hN:X.N[i]?=some x) (hv:Vis X.env.scope x) (hd:(x == ("__debug__" : Str))=false:=by decide) (hcd:(x == ("__classdict__" : Str))=false:=by decide):PE X (.Name x pos) (tVar i):=by
  intro pins s σ H Q I h
  obtain ⟨v,e,h⟩:=h
  obtain ⟨m,hn,hl⟩:=I.loc
  obtain ⟨u,r,l⟩:=hl i x v hN e hv
  have fin:EP X pins σ Q u s:=⟨v,H,I,r,h⟩
  rcases l with ⟨hk,hm⟩ | ⟨hk,c,hc,hcell⟩
  · exact wpAny_Name (wpAny_loadName_local I.ok.kind hk hn hm fin) hd
  · rcases hk with hk | hk
    · exact wpAny_Name (wpAny_loadName_cell I.ok.kind hk hc hcell fin) hd
    · exact wpAny_Name (wpAny_loadName_free I.ok.kind hk hc hcell fin hcd) hd
theorem pe_int {i j pos}:PE X (.Constant (.int i) j pos) (tC (.int i)):=fun _ _ _ H _ I h=>wpAny_Constant_int ⟨.int i,H,I.tok _,⟨_,rfl⟩,h⟩
theorem pe_bl {b j pos}:PE X (.Constant (.bool b) j pos) (tC (.bl b)):=fun _ _ _ H _ I h=>Constant_bool ⟨.bl b,H,I,rfl,h⟩
theorem pe_non {j pos}:PE X (.Constant .none j pos) (tC .non):=fun _ _ _ H _ I h=>Constant_none ⟨.non,H,I,rfl,h⟩
theorem pe_str {x j pos}:PE X (.Constant (.str x) j pos) (tC (.str x)):=fun _ _ _ H _ I h=>Calls.Constant_str ⟨.str x,H,I.tok _,⟨_,rfl⟩,h⟩
def Gl (X:Cx) (x:Str):Prop:=X.env.kindOf x=some .globalImplicit
theorem ld_glob {E:Value→Shared→Prop} {pins:List (Addr × Obj)} {s:Shared} {σ:St} {H:Hp} {x:Str} {u:Value} {pos:Pos} {Q:Value→Shared→Prop} (I:Inv X pins σ H s) (hg:Gl X x) (hm:X.mg x=some u) (h:Q u s)
    (hd:(x == ("__debug__" : Str))=false:=by decide):wpAny (model X.prog X.w) X.A (eval (.Name x pos) X.env) Q E s :=
  Calls.Name_function_global I.ok.kind hg (Calls.loadGlobal_global (by rw [I.ok.glob]; exact I.mod.glob.keeps I.bk) hm h) hd
theorem ld_blt {E:Value→Shared→Prop} {pins:List (Addr × Obj)} {s:Shared} {σ:St} {H:Hp} {x:Str} {u:Value} {pos:Pos} {Q:Value→Shared→Prop} (I:Inv X pins σ H s) (hg:Gl X x) (hm:X.mg x=none) (hv:bootBuiltins x=some u) (h:Q u s)
    (hn:x ≠ "__name__" := by decide) (hd:(x == ("__debug__" : Str))=false:=by decide):wpAny (model X.prog X.w) X.A (eval (.Name x pos) X.env) Q E s:=by
  obtain ⟨mb,h1,h2⟩:=I.mod.blt
  exact Calls.Name_function_global I.ok.kind hg (Calls.loadGlobal_builtin (by rw [I.ok.glob]; exact I.mod.glob.keeps I.bk) hm (by rw [I.ok.blt]; exact h1.keeps I.bk) ((h2 x hn).trans hv) h) hd
theorem pe_glob {x:Str} {v:V} {u:Value} {pos:Pos} (hg:Gl X x) (hm:X.mg x=some u) (r:RelV v u) (hd:(x == ("__debug__" : Str))=false:=by decide):PE X (.Name x pos) (tC v) :=
  fun _ _ _ H _ I h=>ld_glob I hg hm ⟨v,H,I,r,h⟩ hd
theorem pe_bltn {x:Str} {v:V} {u:Value} {pos:Pos} (hg:Gl X x) (hm:X.mg x=none) (hv:bootBuiltins x=some u) (r:RelV v u) (hn:x ≠ "__name__" := by decide) (hd:(x == ("__debug__" : Str))=false:=by decide):PE X (.Name x pos) (tC v) :=
  fun _ _ _ H _ I h=>ld_blt I hg hm hv ⟨v,H,I,r,h⟩ hn hd
variable {a b:Expr} {ta tb:TE} {pos:Pos}
variable {tA tB':TT} {rest:List Expr}
def tAnd (t u:TT):TT:=fun σ H Q=>t σ H fun c H1=>if c=true then u σ H1 Q else Q false H1
def tOr (t u:TT):TT:=fun σ H Q=>t σ H fun c H1=>if c=true then Q true H1 else u σ H1 Q
def tNot (t:TT):TT:=fun σ H Q=>t σ H fun c H1=>Q (!c) H1
theorem pw_and1 (ha:PT X a tA):PW X (.BoolOp .And [a] pos) tA:=by
  intro wh pins s σ H Q I h
  refine isTrue_and (thn (ha pins s σ H Q I h) fun c s1 e=>?_)
  cases c with
  | true=>exact isTrue_and_nil e
  | false=>exact e
theorem pw_or1 (ha:PT X a tA):PW X (.BoolOp .Or [a] pos) tA:=by
  intro wh pins s σ H Q I h
  refine isTrue_or (thn (ha pins s σ H Q I h) fun c s1 e=>?_)
  cases c with
  | false=>exact isTrue_or_nil e
  | true=>exact e
theorem pw_and (ha:PT X a tA) (hb:PW X (.BoolOp .And (b :: rest) pos) tB'):PW X (.BoolOp .And (a :: b :: rest) pos) (tAnd tA tB'):=by
  intro wh pins s σ H Q I h
  refine isTrue_and (thn (ha pins s σ H _ I h) fun c s1 ⟨H1,I1,q1⟩=>?_)
  cases c with
  | true=>exact hb wh pins s1 σ H1 Q I1 q1
  | false=>exact ⟨H1,I1,q1⟩
theorem pw_or (ha:PT X a tA) (hb:PW X (.BoolOp .Or (b :: rest) pos) tB'):PW X (.BoolOp .Or (a :: b :: rest) pos) (tOr tA tB'):=by
  intro wh pins s σ H Q I h
  refine isTrue_or (thn (ha pins s σ H _ I h) fun c s1 ⟨H1,I1,q1⟩=>?_)
  cases c with
  | true=>exact ⟨H1,I1,q1⟩
  | false=>exact hb wh pins s1 σ H1 Q I1 q1
theorem pt_not (ha:PT X a tA):PT X (.UnaryOp .Not a pos) (tNot tA):=by
  intro pins s σ H Q I h
  exact isTrue_not (ha pins s σ H (fun c H1=>Q (!c) H1) I h)
def tAndV (ta tb:TE):TE:=fun σ H Q=>ta σ H fun x H1=>∃ c,x=.bl c∧if c=true then tb σ H1 Q else Q (.bl false) H1
theorem pe_one {op} {t:TE} (h:PE X a t):PE X (.BoolOp op [a] pos) t:=fun pins s σ H Q I hw=>BoolOp_one (h pins s σ H Q I hw)
theorem pe_and (ha:PE X a ta) (hb:PE X (.BoolOp .And (b :: rest) pos) tb):PE X (.BoolOp .And (a :: b :: rest) pos) (tAndV ta tb):=by
  intro pins s σ H Q I h
  refine BoolOp_and (thn (ha pins s σ H _ I h) fun v s1 ⟨x,H1,I1,r1,q1⟩=>?_)
  obtain ⟨c,rfl,q1⟩:=q1
  cases r1
  refine wpAny_truthy_bool ?_
  cases c with
  | true=>exact hb pins s1 σ H1 Q I1 q1
  | false=>exact ⟨.bl false,H1,I1,rfl,q1⟩
def tIf (t:TT) (ta tb:TE):TE:=fun σ H Q=>t σ H fun c H1=>if c=true then ta σ H1 Q else tb σ H1 Q
theorem pe_ifExp {c:Expr} (hc:PT X c tA) (ha:PE X a ta) (hb:PE X b tb):PE X (.IfExp c a b pos) (tIf tA ta tb):=by
  intro pins s σ H Q I h
  refine wpAny_IfExp (thn (hc pins s σ H _ I h) fun d s1 ⟨H1,I1,q1⟩=>?_)
  cases d with
  | true=>exact ha pins s1 σ H1 Q I1 q1
  | false=>exact hb pins s1 σ H1 Q I1 q1
end
end L2
namespace L2
open PySem PySem.Spec PyProof.Rows
def SqL (K:PySem.W.Frag) (H:Hp) (a:Addr) (xs:List V):Prop :=
  Rd H a (.lst xs) ∨
    ∃ (o:Obj) (its:Array Value) (n:Nat),K.lookup a=some o∧o.cls=.type "list" ∧ o.dict=none∧o.data=.seq its n∧its.size≤sizeLine∧Vals xs its.toList
def SqT (K:PySem.W.Frag) (H:Hp) (a:Addr) (xs:List V):Prop :=
  Rd H a (.tup xs) ∨
    ∃ (o:Obj) (its:Array Value) (n:Nat),K.lookup a=some o∧o.cls=.type "tuple" ∧ o.data=.seq its n∧its.size≤sizeLine∧Vals xs its.toList
def absV:Value→Option V
  | .none=>some .non
  | .bool b=>some (.bl b)
  | .int i _=>some (.int i)
  | .str x _=>some (.str x)
  | .bytes b _=>some (.byt b)
  | .float b _=>some (.flt b)
  | .ref a=>some (.ref a)
  | .type n=>some (.ty n)
  | _=>none
theorem RelV.abs {x:V} {u:Value} (r:RelV x u):absV u=some x:=by
  cases x with
  | non=>cases r; rfl
  | bl _=>cases r; rfl
  | int _=>obtain ⟨t,rfl⟩:=r; rfl
  | str _=>obtain ⟨t,rfl⟩:=r; rfl
  | byt _=>obtain ⟨t,rfl⟩:=r; rfl
  | flt _=>obtain ⟨t,rfl⟩:=r; rfl
  | ref _=>cases r; rfl
  | ty _=>cases r; rfl
theorem RelV.inj {x y:V} {u:Value} (r:RelV x u) (q:RelV y u):x=y:=Option.some.inj (r.abs.symm.trans q.abs)
theorem Vals.inj:∀ {xs ys:List V} {us:List Value},Vals xs us→Vals ys us→xs=ys
  | _,_,_,.nil,.nil=>rfl
  | _,_,_,.cons r t,.cons r' t'=>by rw [r.inj r',Vals.inj t t']
section
variable {X:Cx} {pins:List (Addr × Obj)} {σ:St} {H:Hp} {s:Shared} {a:Addr} {xs ys:List V}
theorem SqL.of {K:PySem.W.Frag} (h:H a=some (.lst xs)):SqL K H a xs:=.inl (.inl h)
theorem SqT.of {K:PySem.W.Frag} (h:H a=some (.tup xs)):SqT K H a xs:=.inl (.inl h)
theorem Inv.list (I:Inv X pins σ H s) (h:SqL X.K H a xs):∃ its:List Value,Vals xs its∧PlainL s.heap a its.toArray∧xs.length≤sizeLine:=by
  rcases h with h | ⟨o,its,n,hk,hc,hd,hs,hz,r⟩
  · obtain ⟨z,its,n,r,e⟩:=h.ok I.hok
    exact ⟨its,r,⟨_,n,e,rfl,rfl,rfl⟩,z⟩
  · refine ⟨its.toList,r,⟨o,n,I.kIn a o hk,hc,hd,by simpa using hs⟩,?_⟩
    have e:=r.length
    simp only [Array.length_toList] at e
    omega
theorem Inv.tuple (I:Inv X pins σ H s) (h:SqT X.K H a xs):∃ its:List Value,Vals xs its∧IsTup s.heap a its.toArray∧xs.length≤sizeLine:=by
  rcases h with h | ⟨o,its,n,hk,hc,hs,hz,r⟩
  · obtain ⟨z,its,r,p⟩:=h.ok I.hok
    exact ⟨its,r,p,z⟩
  · refine ⟨its.toList,r,⟨o,I.kIn a o hk,hc,n,by simpa using hs⟩,?_⟩
    have e:=r.length
    simp only [Array.length_toList] at e
    omega
theorem Inv.list_inj (I:Inv X pins σ H s) (h:SqL X.K H a xs) (h':SqL X.K H a ys):xs=ys:=by
  obtain ⟨its,r,⟨o,n,e,_,_,d⟩,_⟩:=I.list h
  obtain ⟨its',r',⟨o',n',e',_,_,d'⟩,_⟩:=I.list h'
  rw [e] at e'; cases e'
  rw [d] at d'
  injection d' with d1 _
  have:its=its':=by simpa using congrArg Array.toList d1
  subst this
  exact r.inj r'
theorem Inv.tuple_inj (I:Inv X pins σ H s) (h:SqT X.K H a xs) (h':SqT X.K H a ys):xs=ys:=by
  obtain ⟨its,r,⟨o,e,_,n,d⟩,_⟩:=I.tuple h
  obtain ⟨its',r',⟨o',e',_,n',d'⟩,_⟩:=I.tuple h'
  rw [e] at e'; cases e'
  rw [d] at d'
  injection d' with d1 _
  have:its=its':=by simpa using congrArg Array.toList d1
  subst this
  exact r.inj r'
end
abbrev Cx.wish (X:Cx) (E:Value→Shared→Prop):Cx:={ X with xe:=E }
abbrev Cx.nox (X:Cx):Cx:=X.wish fun _ _=>False
theorem Cx.Ok.wish {X:Cx} (ok:X.Ok) (E:Value→Shared→Prop):(X.wish E).Ok :=
  ⟨ok.mod,ok.kind,ok.glob,ok.blt,ok.above,ok.inj,ok.has,ok.cab,ok.hd,ok.frames,ok.stk,ok.exf,ok.bs,ok.bsz,ok.noex,ok.exfs,ok.funs,ok.frf⟩
theorem Cx.Ok.unwish {X:Cx} {E:Value→Shared→Prop} (ok:(X.wish E).Ok):X.Ok :=
  ⟨ok.mod,ok.kind,ok.glob,ok.blt,ok.above,ok.inj,ok.has,ok.cab,ok.hd,ok.frames,ok.stk,ok.exf,ok.bs,ok.bsz,ok.noex,ok.exfs,ok.funs,ok.frf⟩
section
variable {X:Cx} {pins:List (Addr × Obj)} {σ:St} {H:Hp} {s:Shared} {E:Value→Shared→Prop}
theorem Inv.wish (I:Inv X pins σ H s) (E:Value→Shared→Prop):Inv (X.wish E) pins σ H s:=⟨I.ok.wish E,I.os,I.bare,I.base,I.loc,I.cell,I.free,I.freeC,I.pin,I.hok,I.len⟩
theorem Inv.unwish (I:Inv (X.wish E) pins σ H s):Inv X pins σ H s:=⟨I.ok.unwish,I.os,I.bare,I.base,I.loc,I.cell,I.free,I.freeC,I.pin,I.hok,I.len⟩
theorem SP.unwish {D:Ends} {f:Flow} {s':Shared} (h:SP (X.wish E) pins D f s'):SP X pins D f s':=by
  cases f with
  | next=>obtain ⟨σ',H',I,q⟩:=h; exact ⟨σ',H',I.unwish,q⟩
  | brk=>obtain ⟨σ',H',I,q⟩:=h; exact ⟨σ',H',I.unwish,q⟩
  | cont=>obtain ⟨σ',H',I,q⟩:=h; exact ⟨σ',H',I.unwish,q⟩
  | ret u=>obtain ⟨v,σ',H',I,r,q⟩:=h; exact ⟨v,σ',H',I.unwish,r,q⟩
theorem PSs.nox {st:List Stmt} {t:TS} (h:PSs X.nox st t):PSs X st t:=fun pins s σ H D I hw =>
  wpAny_mono (h pins s σ H D (I.wish _) hw) (fun _ _ q=>q.unwish) fun _ _ z=>False.elim z
end
section
variable {X:Cx} {st:Stmt} {rest:List Stmt} {t u:TS} {e:Expr} {te:TE} {pos:Pos}
def tNext:TS:=fun D σ H=>D.nx σ H
def tSeq (t u:TS):TS:=fun D σ H=>t { D with nx:=u D } σ H
theorem pss_nil:PSs X [] tNext:=fun _ _ σ H _ I h=>wpAny_execs_nil ⟨σ,H,I,h⟩
theorem pss_cons (h1:PS X st t) (h2:PSs X rest u):PSs X (st :: rest) (tSeq t u):=by
  intro pins s σ H D I h
  refine wpAny_execs_cons (thn (h1 pins s σ H { D with nx:=u D } I h) fun f s1 q=>?_)
  cases f with
  | next =>
    obtain ⟨σ',H',I',q⟩:=q
    exact h2 pins s1 σ' H' D I' q
  | ret v=>exact q
  | brk=>exact q
  | cont=>exact q
theorem pss_one (h1:PS X st t):PSs X [st] t:=by
  intro pins s σ H D I h
  refine wpAny_execs_cons (thn (h1 pins s σ H D I h) fun f s1 q=>?_)
  cases f with
  | next=>exact wpAny_execs_nil q
  | ret v=>exact q
  | brk=>exact q
  | cont=>exact q
theorem Inv.quiet {pins:List (Addr × Obj)} {σ:St} {H:Hp} {s:Shared} (I:Inv X pins σ H s):interactive X.env=false:=by simp [interactive,I.ok.kind]
def tDrop (te:TE):TS:=fun D σ H=>te σ H fun _ H1=>D.nx σ H1
theorem ps_expr (he:PE X e te) (hs:swapsWith e none pos.line X.env=pure false:=by rfl):PS X (.Expr e pos) (tDrop te):=by
  intro pins s σ H D I h
  exact wpAny_Expr_any (thn (he pins s σ H _ I h) fun v s1 ⟨x,H1,I1,r1,q1⟩=>⟨σ,H1,I1,q1⟩) I.quiet hs
def tRet (te:TE):TS:=fun D σ H=>te σ H D.rt
theorem ps_ret (he:PE X e te):PS X (.Return (some e) pos) (tRet te):=by
  intro pins s σ H D I h
  exact wpAny_Return_some (thn (he pins s σ H _ I h) fun v s1 ⟨x,H1,I1,r1,q1⟩=>⟨x,σ,H1,I1,r1,q1⟩)
def tIfS (c:TT) (t u:TS):TS:=fun D σ H=>c σ H fun b H1=>if b=true then t D σ H1 else u D σ H1
theorem ps_if {c:Expr} {a b:List Stmt} {tc:TT} (hc:PT X c tc) (ha:PSs X a t) (hb:PSs X b u):PS X (.If c a b pos) (tIfS tc t u):=by
  intro pins s σ H D I h
  refine wpAny_If (thn (hc pins s σ H _ I h) fun d s1 ⟨H1,I1,q1⟩=>?_)
  cases d with
  | true=>exact ha pins s1 σ H1 D I1 q1
  | false=>exact hb pins s1 σ H1 D I1 q1
def tNever:TS:=fun _ _ _=>False
theorem ps_never:PS X st tNever:=fun _ _ _ _ _ _ h=>h.elim
end
abbrev TG:=V→St→Hp→(St→Hp→Prop)→Prop
abbrev TGs:=List V→St→Hp→(St→Hp→Prop)→Prop
def PG (X:Cx) (target:Expr) (t:TG):Prop :=
  ∀ (pins:List (Addr × Obj)) (s:Shared) (σ:St) (H:Hp) (v:V) (u:Value) (Q:St→Hp→Prop),Inv X pins σ H s→RelV v u→t v σ H Q →
    wpAny (model X.prog X.w) X.A (assign target X.env u) (fun _ s'=>∃ σ' H',Inv X pins σ' H' s'∧Q σ' H') X.xe s
def PGs (X:Cx) (ts:List Expr) (t:TGs):Prop :=
  ∀ (pins:List (Addr × Obj)) (s:Shared) (σ:St) (H:Hp) (vs:List V) (us:List Value) (Q:St→Hp→Prop),Inv X pins σ H s→Vals vs us→t vs σ H Q →
    wpAny (model X.prog X.w) X.A (assignInOrder ((assignEach ts X.env).map (·.2)) us) (fun _ s'=>∃ σ' H',Inv X pins σ' H' s'∧Q σ' H') X.xe s
abbrev TSet:=V→V→V→Hp→(Hp→Prop)→Prop
def PSet (X:Cx) (t:TSet):Prop :=
  ∀ (pins:List (Addr × Obj)) (s:Shared) (σ:St) (H:Hp) (o i v:V) (ov iv u:Value) (Q:Hp→Prop),Inv X pins σ H s→RelV o ov→RelV i iv→RelV v u→t o i v H Q →
    wpAny (model X.prog X.w) X.A (setItem ov iv u) (fun _ s'=>∃ H',Inv X pins σ H' s'∧Q H') X.xe s
section
variable {X:Cx} {pos:Pos}
def gName (i:Nat):TG:=fun v σ H Q=>Q (σ.set i (some v)) H
theorem pg_name {i:Nat} {x:Str} (hN:X.N.Nodup) (hi:X.N[i]?=some x) (hx:Loc X.env.scope x) (hf:X.fn x=true∨X.env.scope.names.lookup x=some .local:=by first | exact .inl rfl | exact .inr rfl | assumption):PG X (.Name x pos) (gName i):=by
  intro pins s σ H v u Q I r h
  exact wpAny_assign_Name (store_ok I hN hi hx r (fun s' I'=>⟨_,H,I',h⟩) hf)
def gNil:TGs:=fun vs σ H Q=>vs=[]∧Q σ H
def gCons (t:TG) (u:TGs):TGs:=fun vs σ H Q=>∃ v r,vs=v :: r∧t v σ H fun σ' H'=>u r σ' H' Q
theorem pgs_nil:PGs X [] gNil:=by
  intro pins s σ H vs us Q I r h
  obtain ⟨e,h⟩:=h
  subst e
  cases r
  exact assignInOrder_nil ⟨σ,H,I,h⟩
theorem pgs_cons {e:Expr} {es:List Expr} {t:TG} {u:TGs} (h1:PG X e t) (h2:PGs X es u)
    (hs:(assignEach (e :: es) X.env).map (·.2)=assign e X.env :: (assignEach es X.env).map (·.2):=by rfl):PGs X (e :: es) (gCons t u):=by
  intro pins s σ H vs us Q I r h
  obtain ⟨v,vr,e1,h⟩:=h
  subst e1
  cases r with
  | cons r rr =>
    rw [hs]
    refine assignInOrder_cons (thn (h1 pins s σ H _ _ _ I r h) fun _ s1 ⟨σ1,H1,I1,q1⟩=>?_)
    exact h2 pins s1 σ1 H1 _ _ Q I1 rr q1
def gTup (K:PySem.W.Frag) (n:Nat) (t:TGs):TG:=fun v σ H Q=>∃ a xs,v=.ref a∧SqT K H a xs∧xs.length=n∧t xs σ H Q
theorem pg_tup {es:List Expr} {k:Nat} {t:TGs} {n:Nat} (hc:X.calm=true) (h:PGs X es t)
    (hn:(assignEach es X.env).length=n:=by rfl) (hst:(assignEach es X.env).findIdx? (·.1)=none:=by rfl):PG X (.Tuple es k pos) (gTup X.K n t):=by
  intro pins s σ H v u Q I r hw
  obtain ⟨a,xs,e1,hq,hl,hw⟩:=hw
  subst e1
  cases r
  obtain ⟨its,rv,ht,hz⟩:=I.tuple hq
  refine assign_Tuple_tuple (I.ok.hd hc) ht (by simp [hn,← hl,rv.length]) hst fun h' hx=>?_
  have I1:Inv X pins σ H { s with heap:=h' }:=I.kept (t':=s.toks) fun b o e=>hx b o (Nat.ne_of_lt (Heap.lt_size e)) e
  exact h pins _ σ H xs _ Q I1 (by simpa using rv) hw
def gSub (to ti:TE) (t:TSet):TG:=fun v σ H Q=>to σ H fun o H1=>ti σ H1 fun i H2=>t o i v H2 fun H3=>Q σ H3
theorem pg_sub {o i:Expr} {to ti:TE} {t:TSet} (ho:PE X o to) (hi:PE X i ti) (hs:PSet X t)
    (ha:∀ v,assign (.Subscript o i pos) X.env v=(do
      let ov ← holding [v] (eval o X.env)
      let iv ← holding [v,ov] (eval i X.env)
      standAt pos
      holding [v,ov,iv] (setItem ov iv v)
      release [v,ov,iv] []):=by intro _; rfl):PG X (.Subscript o i pos) (gSub to ti t):=by
  intro pins s σ H v u Q I r h
  rw [ha]
  refine wpAny_bind (wpAny_holding (thn (ho pins s σ H _ I h) fun ov s1 ⟨x,H1,I1,r1,q1⟩=>?_))
  refine wpAny_bind (wpAny_holding (thn (hi pins s1 σ H1 _ I1 q1) fun iv s2 ⟨y,H2,I2,r2,q2⟩=>?_))
  refine wpAny_bind (wpAny_standAt (wpAny_bind (wpAny_holding (thn (hs pins s2 σ H2 x y v ov iv u _ I2 r1 r2 r q2) fun _ s3 ⟨H3,I3,q3⟩=>?_))))
  exact wpAny_release ⟨σ,H3,I3,q3⟩
def tAsg (te:TE) (g:TG):TS:=fun D σ H=>te σ H fun x H1=>g x σ H1 D.nx
theorem ps_asg {tg e:Expr} {te:TE} {g:TG} (he:PE X e te) (hg:PG X tg g) (hs:swapsWithSole [tg] e pos.line X.env=pure false:=by rfl) (hw:swappedStores [tg] e X.env=pure none:=by rfl)
    (h1:(assignEach [tg] X.env).map (·.2)=[assign tg X.env]:=by rfl):PS X (.Assign [tg] e pos) (tAsg te g):=by
  intro pins s σ H D I h
  refine wpAny_Assign_stores (thn (he pins s σ H _ I h) fun v s1 ⟨x,H1,I1,r1,q1⟩=>?_) hs hw
  rw [h1]
  exact thn (hg pins s1 σ H1 x v _ I1 r1 q1) fun _ s2 q=>q
theorem ps_set {i:Nat} {x:Str} {e:Expr} {te:TE} {pos':Pos} (hN:X.N.Nodup) (hi:X.N[i]?=some x) (hx:Loc X.env.scope x) (he:PE X e te) (hs:swapsWith e (some (.Name x pos')) pos.line X.env=pure false:=by rfl) (hf:X.fn x=true∨X.env.scope.names.lookup x=some .local:=by first | exact .inl rfl | exact .inr rfl | assumption) :
    PS X (.Assign [.Name x pos'] e pos) (tAsg te (gName i)):=by
  intro pins s σ H D I h
  refine wpAny_Assign_Name (thn (he pins s σ H _ I h) fun v s1 ⟨y,H1,I1,r1,q1⟩=>?_) hs
  exact store_ok I1 hN hi hx r1 (fun s2 I2=>⟨_,H1,I2,q1⟩) hf
end
section
variable {X:Cx} {pos:Pos}
end
structure It where
  go:Nat→Hp→Prop
  yld:Nat→Hp→V→Hp→Prop
  stop:Nat→Hp→Prop
def FpOk (X:Cx) (pins:List (Addr × Obj)) (H:Hp) (b:Addr):Prop :=
  H b=none∧b≠X.env.locals∧b ∉ X.fs∧(b∈X.ex∨X.s₀.heap.objs.size≤b)∧(∀ x c,X.env.cells.lookup x=some c→c≠b)∧∀ p∈X.pn ++ pins,p.1≠b
theorem Inv.fpOk {X:Cx} {pins:List (Addr × Obj)} {σ:St} {H H':Hp} {s:Shared} {b:Addr} (I:Inv X pins σ H s) (hb:s.heap.objs.size≤b) (hn:H' b=none):FpOk X pins H' b:=by
  refine ⟨hn,Nat.ne_of_gt (Nat.lt_of_lt_of_le I.lt hb),I.nofs hb,.inr (Nat.le_trans I.sz hb),fun x c e z=>?_,fun p hp z=>?_⟩
  · obtain ⟨v,q⟩:=I.cell x c e
    exact absurd (Nat.lt_of_lt_of_le q.lt (by rw [z]; exact hb)) (Nat.lt_irrefl _)
  · exact absurd (Nat.lt_of_lt_of_le (Heap.lt_size (I.pin p hp).1) (by rw [z]; exact hb)) (Nat.lt_irrefl _)
structure Turn (P:Program) (w:World) (K:PySem.W.Frag) (tg:Expr) (J:It) (fp:List Addr) (it:Addr) (tn:Nat→Heap→Prop):Prop where
  mem:it∈fp
  obj:∀ i h,tn i h→∀ b∈fp,∃ o,h.get? b=some o∧∀ v,o.data≠.cell v
  keep:∀ i h h',tn i h→(∀ b∈fp,∀ o,h.get? b=some o→h'.get? b=some o)→tn i h'
  item:∀ (X:Cx),X.prog=P→X.w=w→X.K=K→X.calm=true→∀ (i:Nat) (pins:List (Addr × Obj)) (s:Shared) (σ:St) (H:Hp) (E:Value→Shared→Prop),Inv X pins σ H s→(∀ b∈fp,FpOk X pins H b)→tn i s.heap→J.go i H →
    wpAny (model P w) X.A (pyNext (.ref it)) (fun r s1=>∃ u,r=some u ∧
      wpAny (model P w) X.A (letOwnedTupleGo tg (.ref it) u) (fun _ s2=>∃ x H',Inv X pins σ H' s2∧RelV x u∧J.yld i H x H'∧tn (i + 1) s2.heap∧∀ b∈fp,H' b=none) E s1) E s
  done:∀ (X:Cx),X.prog=P→X.w=w→X.K=K→X.calm=true→∀ (i:Nat) (pins:List (Addr × Obj)) (s:Shared) (σ:St) (H:Hp) (E:Value→Shared→Prop),Inv X pins σ H s→(∀ b∈fp,FpOk X pins H b)→tn i s.heap→J.stop i H →
    wpAny (model P w) X.A (pyNext (.ref it)) (fun r s1=>r=none∧Inv X pins σ H s1) E s
  self:∀ (A:Around) (i:Nat) (s:Shared) (Q:Value→Shared→Prop) (E:Value→Shared→Prop),tn i s.heap→Q (.ref it) s→wpAny (model P w) A (pyIter (.ref it)) Q E s
abbrev TI:=St→Hp→(It→Hp→Prop)→Prop
def PIE (X:Cx) (pins:List (Addr × Obj)) (σ:St) (tg:Expr) (R:It→Hp→Prop) (itv:Value) (s2:Shared):Prop :=
  ∃ (it:Addr) (fp:List Addr) (tn:Nat→Heap→Prop) (J:It) (H':Hp),itv=.ref it∧Inv X pins σ H' s2∧Turn X.prog X.w X.K tg J fp it tn∧tn 0 s2.heap∧(∀ b∈fp,FpOk X pins H' b)∧R J H'
def PI (X:Cx) (tg iter:Expr) (wi:TI):Prop :=
  ∀ (pins:List (Addr × Obj)) (s:Shared) (σ:St) (H:Hp) (R:It→Hp→Prop),Inv X pins σ H s→wi σ H R →
    wpAny (model X.prog X.w) X.A (eval iter X.env) (fun v s1=>wpAny (model X.prog X.w) X.A (pyIter v) (PIE X pins σ tg R) X.xe s1) X.xe s
theorem go_of {M:Model} {A:Around} {E:Value→Shared→Prop} {s:Shared} {tg:Expr} {it:Addr} {u:Value} {o:Obj} {n:String} {vs:Array Value} {Q:Unit→Shared→Prop} (ho:s.heap.get? it=some o) (hc:o.cls=.type n) (hd:o.data=.fields vs)
    (hn:["enumerate","zip","dict_itemiterator","dict_reverseitemiterator","odict_iterator","itertools.zip_longest","itertools.pairwise"].contains n=false) (hQ:Q () s):wpAny M A (letOwnedTupleGo tg (.ref it) u) Q E s:=by
  unfold letOwnedTupleGo
  cases tg <;> first
    | exact wpAny_pure hQ
    | (cases u <;> first
        | exact wpAny_pure hQ
        | (refine wpAny_bind (wpAny_load ho ?_)
           rw [hc,hd]
           show wpAny M A (if (["enumerate","zip","dict_itemiterator","dict_reverseitemiterator","odict_iterator","itertools.zip_longest","itertools.pairwise"].contains n && vs[0]? == some (rawInt _))=true then _ else _) Q E s
           rw [if_neg (by intro h; rw [hn,Bool.false_and] at h; cases h)]
           exact wpAny_pure hQ))
def Itl (K:PySem.W.Frag) (a:Addr):It :=
  ⟨fun i H=>∃ xs x,SqL K H a xs∧xs[i]?=some x,fun i H x H'=>H'=H∧∀ xs,SqL K H a xs→xs[i]?=some x,fun i H=>∃ xs,SqL K H a xs∧xs.length≤i⟩
def Itt (K:PySem.W.Frag) (a:Addr):It :=
  ⟨fun i H=>∃ xs x,SqT K H a xs∧xs[i]?=some x,fun i H x H'=>H'=H∧∀ xs,SqT K H a xs→xs[i]?=some x,fun i H=>∃ xs,SqT K H a xs∧xs.length≤i⟩
def Itr (lo:Int) (n:Nat):It:=⟨fun i _=>i < n,fun i H x H'=>H'=H∧x=.int (lo + i),fun i _=>n≤i⟩
theorem turn_list {P:Program} {w:World} {K:PySem.W.Frag} {tg:Expr} (a it:Addr):Turn P w K tg (Itl K a) [it] it (fun i h=>h.IsListIter it a i) where
  mem:=by simp
  obj:=fun i h st b hb=>by
    have e:b=it:=by simpa using hb
    subst e
    obtain ⟨o,e,c,d⟩:=st
    exact ⟨o,e,fun v z=>by rw [d] at z; cases z⟩
  keep:=fun i h h' st k=>st.at fun o e=>k it (by simp) o e
  item:=by
    intro X hP hw hK hc i pins s σ H E I hf st hg
    subst hP hw hK
    obtain ⟨xs,x,hq,hx⟩:=hg
    obtain ⟨its,rv,p,hz⟩:=I.list hq
    obtain ⟨u,hu,ru⟩:=rv.get hx
    obtain ⟨f0,f1,f2,f3,f4,f5⟩:=hf it (by simp)
    refine wpAny_pyNext_list_item st p.isList (x:=u) (by simpa using hu) fun h' st' sb=>?_
    have I1:Inv X pins σ H { s with heap:=h' }:=I.turned (t':=s.toks) (fun b o hb e=>(sb.2 b hb).trans e) f0 f1 f3 f4 f5
    obtain ⟨o,e,c,d⟩:=id st'
    exact ⟨u,rfl,go_of (s:={ s with heap:=h' }) e c d (by decide) ⟨x,H,I1,ru,⟨rfl,fun ys hy=>by rw [I.list_inj hy hq]; exact hx⟩,st',fun b hb=>(hf b hb).1⟩⟩
  done:=by
    intro X hP hw hK hc i pins s σ H E I hf st hg
    subst hP hw hK
    obtain ⟨xs,hq,hx⟩:=hg
    obtain ⟨its,rv,p,hz⟩:=I.list hq
    obtain ⟨f0,f1,f2,f3,f4,f5⟩:=hf it (by simp)
    have hl:=rv.length
    exact wpAny_pyNext_list_end (I.ok.hd hc) st p.isList (by simp; omega) fun h' eb=>⟨rfl,I.turned (t':=s.toks) (fun b o hb e=>eb b o hb e) f0 f1 f3 f4 f5⟩
  self:=fun _ _ _ _ _ st h=>wpAny_pyIter_listiter st h
theorem turn_tuple {P:Program} {w:World} {K:PySem.W.Frag} {tg:Expr} (a it:Addr):Turn P w K tg (Itt K a) [it] it (fun i h=>h.IsTupleIter it a i) where
  mem:=by simp
  obj:=fun i h st b hb=>by
    have e:b=it:=by simpa using hb
    subst e
    obtain ⟨o,e,c,d⟩:=st
    exact ⟨o,e,fun v z=>by rw [d] at z; cases z⟩
  keep:=fun i h h' st k=>st.at fun o e=>k it (by simp) o e
  item:=by
    intro X hP hw hK hc i pins s σ H E I hf st hg
    subst hP hw hK
    obtain ⟨xs,x,hq,hx⟩:=hg
    obtain ⟨its,rv,p,hz⟩:=I.tuple hq
    obtain ⟨u,hu,ru⟩:=rv.get hx
    obtain ⟨f0,f1,f2,f3,f4,f5⟩:=hf it (by simp)
    refine wpAny_pyNext_tuple_item st (show s.heap.IsTuple a its.toArray from p) (x:=u) (by simpa using hu) fun h' st' sb=>?_
    have I1:Inv X pins σ H { s with heap:=h' }:=I.turned (t':=s.toks) (fun b o hb e=>(sb.2 b hb).trans e) f0 f1 f3 f4 f5
    obtain ⟨o,e,c,d⟩:=id st'
    exact ⟨u,rfl,go_of (s:={ s with heap:=h' }) e c d (by decide) ⟨x,H,I1,ru,⟨rfl,fun ys hy=>by rw [I.tuple_inj hy hq]; exact hx⟩,st',fun b hb=>(hf b hb).1⟩⟩
  done:=by
    intro X hP hw hK hc i pins s σ H E I hf st hg
    subst hP hw hK
    obtain ⟨xs,hq,hx⟩:=hg
    obtain ⟨its,rv,p,hz⟩:=I.tuple hq
    obtain ⟨f0,f1,f2,f3,f4,f5⟩:=hf it (by simp)
    have hl:=rv.length
    exact wpAny_pyNext_tuple_end (I.ok.hd hc) st (show s.heap.IsTuple a its.toArray from p) (by simp; omega) fun h' eb=>⟨rfl,I.turned (t':=s.toks) (fun b o hb e=>eb b o hb e) f0 f1 f3 f4 f5⟩
  self:=fun _ _ _ _ _ st h=>wpAny_pyIter_tupleiter st h
theorem turn_range {P:Program} {w:World} {K:PySem.W.Frag} {tg:Expr} (it:Addr) (lo:Int) (n:Nat):Turn P w K tg (Itr lo n) [it] it (fun i h=>IsRangeIter h it (lo + (i:Nat) * 1) ((n:Int) - (i:Nat)) 1) where
  mem:=by simp
  obj := fun i h st b hb=>by
    have e:b=it:=by simpa using hb
    subst e
    exact ⟨_,st,fun v z=>by
      have z':Data.fields _=Data.cell v:=z
      cases z'⟩
  keep:=fun i h h' st k=>k it (by simp) _ st
  item:=by
    intro X hP hw hK hc i pins s σ H E I hf st hg
    subst hP hw hK
    obtain ⟨f0,f1,f2,f3,f4,f5⟩:=hf it (by simp)
    have W:=Walks.range (prog:=X.prog) (w:=X.w) (I.ok.hd hc) it lo 1 n
    refine W.item i s _ _ hg st fun v h' tk hv st' kk=>?_
    obtain ⟨t,rfl⟩:=hv
    have I1:Inv X pins σ H { s with heap:=h',toks:=tk }:=I.turned (fun b o hb e=>kk b o (by simpa using hb) e) f0 f1 f3 f4 f5
    refine ⟨_,rfl,go_of (s:={ s with heap:=h',toks:=tk }) (n := "range_iterator") st' rfl rfl (by decide) ⟨.int (lo + i),H,I1,⟨t,?_⟩,⟨rfl,rfl⟩,st',fun b hb=>(hf b hb).1⟩⟩
    rw [Int.mul_one]
  done:=by
    intro X hP hw hK hc i pins s σ H E I hf st hg
    subst hP hw hK
    obtain ⟨f0,f1,f2,f3,f4,f5⟩:=hf it (by simp)
    exact wpAny_pyNext_range_end (I.ok.hd hc) st (by have:n≤i:=hg; omega) fun h' eb=>⟨rfl,I.turned (t':=s.toks) (fun b o hb e=>eb b o hb e) f0 f1 f3 f4 f5⟩
  self:=fun _ _ _ _ _ st h=>wpAny_pyIter_rangeiter st h
end L2
namespace L2
open PySem PySem.Spec PyProof.Rows
section
variable {X:Cx} {tg:Expr}
def iList (K:PySem.W.Frag) (tl:TE):TI:=fun σ H R=>tl σ H fun x H1=>∃ a,x=.ref a∧(∃ xs,SqL K H1 a xs)∧R (Itl K a) H1
def iTup (K:PySem.W.Frag) (tl:TE):TI:=fun σ H R=>tl σ H fun x H1=>∃ a,x=.ref a∧(∃ xs,SqT K H1 a xs)∧R (Itt K a) H1
theorem pi_list {l:Expr} {tl:TE} (hl:PE X l tl):PI X tg l (iList X.K tl):=by
  intro pins s σ H R I h
  refine thn (hl pins s σ H _ I h) fun v s1 ⟨x,H1,I1,r1,q1⟩=>?_
  obtain ⟨a,e,⟨xs,hq⟩,q⟩:=q1
  subst e
  cases r1
  obtain ⟨its,rv,p,hz⟩:=I1.list hq
  refine wpAny_pyIter_list p.isList ?_
  refine ⟨s1.heap.objs.size,[s1.heap.objs.size],_,_,H1,rfl,I1.kept (t':=s1.toks) fun b o e=>Heap.get?_push_of_some _ e,turn_list a _,⟨_,Heap.get?_push_size _ rfl,rfl,rfl⟩,fun b hb=>?_,q⟩
  have e:b=s1.heap.objs.size:=by simpa using hb
  subst e
  exact I1.fpOk (Nat.le_refl _) (I1.hok.fresh (Nat.le_refl _))
theorem pi_tup {l:Expr} {tl:TE} (hl:PE X l tl):PI X tg l (iTup X.K tl):=by
  intro pins s σ H R I h
  refine thn (hl pins s σ H _ I h) fun v s1 ⟨x,H1,I1,r1,q1⟩=>?_
  obtain ⟨a,e,⟨xs,hq⟩,q⟩:=q1
  subst e
  cases r1
  obtain ⟨its,rv,p,hz⟩:=I1.tuple hq
  refine wpAny_pyIter_tuple (show s1.heap.IsTuple a its.toArray from p) ?_
  refine ⟨s1.heap.objs.size,[s1.heap.objs.size],_,_,H1,rfl,I1.kept (t':=s1.toks) fun b o e=>Heap.get?_push_of_some _ e,turn_tuple a _,⟨_,Heap.get?_push_size _ rfl,rfl,rfl⟩,fun b hb=>?_,q⟩
  have e:b=s1.heap.objs.size:=by simpa using hb
  subst e
  exact I1.fpOk (Nat.le_refl _) (I1.hok.fresh (Nat.le_refl _))
theorem range_it {pins:List (Addr × Obj)} {σ:St} {H:Hp} {s:Shared} {R:It→Hp→Prop} {E:Value→Shared→Prop} {lo hi:Int} {t u v:Tok} {tk:Nat} (I:Inv X pins σ H s) (h1:-(2 ^ 62)≤lo) (h2:lo < 2 ^ 62) (h3:-(2 ^ 62)≤hi) (h4:hi < 2 ^ 62)
    (q:R (Itr lo (hi - lo).toNat) H):wpAny (model X.prog X.w) X.A (pyIter (.ref s.heap.objs.size)) (PIE X pins σ tg R) E { s with heap:=s.heap.push { cls:=.type "range",data:=.fields #[.int lo t,.int hi u,.int 1 v] },toks:=tk }:=by
  refine wpAny_pyIter_range (IsRange.new ..) (small_one h1 h2 h3 h4) ?_
  have I1:Inv X pins σ H { s with heap:=s.heap.push { cls:=.type "range",data:=.fields #[.int lo t,.int hi u,.int 1 v] },toks:=tk }:=I.kept fun b o e=>Heap.get?_push_of_some _ e
  refine ⟨(s.heap.push { cls:=.type "range",data:=.fields #[.int lo t,.int hi u,.int 1 v] }).objs.size,[(s.heap.push { cls:=.type "range",data:=.fields #[.int lo t,.int hi u,.int 1 v] }).objs.size],_,_,H,rfl,
    I1.kept (t':=tk) fun b o e=>Heap.get?_push_of_some _ e,turn_range _ lo (hi - lo).toNat,?_,fun b hb=>?_,q⟩
  · have e1:lo + ((0:Nat):Int) * 1=lo:=by simp
    have e2:(((hi - lo).toNat:Nat):Int) - ((0:Nat):Int)=Builtin.Range.rangeSize lo hi 1:=by rw [rangeSize_one]; split <;> omega
    show IsRangeIter _ _ (lo + ((0:Nat):Int) * 1) ((((hi - lo).toNat:Nat):Int) - ((0:Nat):Int)) 1
    rw [e1,e2]
    exact Heap.get?_push_size _ rfl
  · have e:b=(s.heap.push { cls:=.type "range",data:=.fields #[.int lo t,.int hi u,.int 1 v] }).objs.size:=by simpa using hb
    subst e
    exact I1.fpOk (Nat.le_refl _) (I1.hok.fresh (Nat.le_refl _))
def iRng1 (ta:TA):TI:=fun σ H R=>ta σ H fun vs H1=>∃ j:Int,vs=[.int j]∧-(2 ^ 62)≤j∧j < 2 ^ 62∧R (Itr 0 j.toNat) H1
theorem pi_range1 {a:Expr} {ta:TA} {p pos:Pos} (hg:Gl X "range") (hm:X.mg "range" = none) (ha:PA X [a] ta) (hs:starEach [a] X.env=[(false,eval a X.env)]:=by rfl):PI X tg (.Call (.Name "range" p) [a] [] pos) (iRng1 ta):=by
  intro pins s σ H R I h
  refine Call_ (ld_blt I hg hm boot_range (PyProof.Rows.callWith_type1 (thn (ha pos pins s σ H _ I h) fun us s1 ⟨vs,H1,I1,r1,q1⟩=>?_) hs rfl))
  obtain ⟨j,e,q1,q2,q⟩:=q1
  subst e
  cases r1 with
  | cons r rr =>
    cases rr
    obtain ⟨t,rfl⟩:=r
    exact call_range_1 (range_it I1 (by omega) (by omega) q1 q2 (by simpa using q))
def tFor (wi:TI) (g:TG) (tb:TS):TS:=fun D σ H=>wi σ H fun J H1=>∃ W:Nat→Nat→St→Hp→Prop,(∃ m,W 0 m σ H1)∧∀ i m σ H,W i m σ H →
  (J.stop i H∧D.nx σ H)∨(J.go i H∧∃ N:St→Hp→Prop,(∀ σ' H',N σ' H'→∃ m',m' < m∧W (i + 1) m' σ' H')∧∀ x H',J.yld i H x H'→g x σ H' fun σ2 H2=>tb { D with nx:=N,ct:=N,bk:=D.nx } σ2 H2)
def pinsAt (fp:List Addr) (h:Heap):List (Addr × Obj):=fp.filterMap fun b=>(h.get? b).map fun o=>(b,o)
theorem mem_pinsAt {fp:List Addr} {h:Heap} {b:Addr} {o:Obj} (hb:b∈fp) (e:h.get? b=some o):(b,o)∈pinsAt fp h:=List.mem_filterMap.mpr ⟨b,hb,by rw [e]; rfl⟩
theorem of_pinsAt {fp:List Addr} {h:Heap} {p:Addr × Obj} (hp:p∈pinsAt fp h):p.1∈fp∧h.get? p.1=some p.2:=by
  obtain ⟨b,hb,e⟩:=List.mem_filterMap.mp hp
  cases q:h.get? b with
  | none=>rw [q] at e; cases e
  | some o =>
    rw [q] at e
    have e':(b,o)=p:=Option.some.inj e
    subst e'
    exact ⟨hb,q⟩
theorem Inv.pinned {pins:List (Addr × Obj)} {σ:St} {H:Hp} {s:Shared} {fp:List Addr} (I:Inv X pins σ H s) (hf:∀ b∈fp,FpOk X pins H b) (ho:∀ b∈fp,∃ o,s.heap.get? b=some o∧∀ v,o.data≠.cell v):Inv X (pins ++ pinsAt fp s.heap) σ H s :=
  I.pins_of fun p hp=>(List.mem_append.mp hp).elim (fun z=>I.pin p (List.mem_append_right _ z)) fun z=>by
    obtain ⟨hb,e⟩:=of_pinsAt z
    obtain ⟨f0,f1,f2,_⟩:=hf p.1 hb
    obtain ⟨o,e',d⟩:=ho p.1 hb
    rw [e] at e'; cases e'
    exact ⟨e,f0,f1,f2,d⟩
theorem Inv.unpinned {pins pl:List (Addr × Obj)} {σ:St} {H:Hp} {s:Shared} (I:Inv X (pins ++ pl) σ H s):Inv X pins σ H s:=I.pins_of fun p hp=>I.pin p (List.mem_append_right _ (List.mem_append_left _ hp))
theorem ps_for {iter:Expr} {body:List Stmt} {wi:TI} {g:TG} {tb:TS} {pos:Pos} (hp:PassesOwn (model X.prog X.w) X.A X.env X.xe) (hc:X.calm=true) (hi:PI X tg iter wi) (hg:PG X tg g) (hb:PSs X body tb)
    (hs:∀ x,foldedSetIterable iter X.env x=pure x:=by intro _; rfl):PS X (.For tg iter body [] pos) (tFor wi g tb):=by
  intro pins s σ H D I h
  refine wpAny_For (thn (hi pins s σ H _ I h) fun v s1 h1=>thn h1 fun itv s2 h2=>?_) hs
  obtain ⟨it,fp,tn,J,H2,e,I2,T,st2,f2,W,⟨m0,w0⟩,turn⟩:=h2
  subst e
  have stat:∀ {H':Hp},(∀ b∈fp,H' b=none)→∀ b∈fp,FpOk X pins H' b:=fun hn b hb=>⟨hn b hb,(f2 b hb).2⟩
  refine codeAny_forLoop_any (fun n s'=>∃ i σ' H',Inv X pins σ' H' s'∧tn i s'.heap∧(∀ b∈fp,H' b=none)∧W i n σ' H') ?_ m0 ⟨0,σ,H2,I2,st2,fun b hb=>(f2 b hb).1,w0⟩
  rintro n s3 ⟨i,σ3,H3,I3,st3,fr3,w3⟩
  rcases turn i n σ3 H3 w3 with ⟨stop,qn⟩ | ⟨go,N,hN,step⟩
  · refine wpAny_passesOwn hp (thn (T.done X rfl rfl rfl hc i pins s3 σ3 H3 X.xe I3 (stat fr3) st3 stop) fun r s4 ⟨hr,I4⟩=>?_)
    subst hr
    exact wpAny_execs_nil ⟨σ3,H3,I4,qn⟩
  · refine wpAny_passesOwn hp (thn (T.item X rfl rfl rfl hc i pins s3 σ3 H3 X.xe I3 (stat fr3) st3 go) fun r s4 ⟨u,hr,h4⟩=>?_)
    subst hr
    refine wpAny_passesOwn hp (thn h4 fun _ s5 ⟨x,H5,I5,r5,y5,st5,fr5⟩=>?_)
    have I5':=I5.pinned (stat fr5) (T.obj _ _ st5)
    refine wpAny_passesOwn hp (thn (hg _ s5 σ3 H5 x u _ I5' r5 (step x H5 y5)) fun _ s6 ⟨σ6,H6,I6,q6⟩=>?_)
    refine wpAny_passesOwn hp (thn (hb _ s6 σ6 H6 _ I6 q6) fun f s7 q7=>?_)
    have again:∀ {σ7:St} {H7:Hp},Inv X (pins ++ pinsAt fp s5.heap) σ7 H7 s7→N σ7 H7→∃ m,m < n∧∃ i σ' H',Inv X pins σ' H' s7∧tn i s7.heap∧(∀ b∈fp,H' b=none)∧W i m σ' H':=fun {σ7 H7} I7 n7=>by
      obtain ⟨m',hm,w7⟩:=hN σ7 H7 n7
      refine ⟨m',hm,i + 1,σ7,H7,I7.unpinned,T.keep _ _ _ st5 fun b hb o e=>(I7.pin (b,o) (List.mem_append_right _ (List.mem_append_right _ (mem_pinsAt hb e)))).1,fun b hb=>?_,w7⟩
      obtain ⟨o,e,d⟩:=T.obj _ _ st5 b hb
      exact (I7.pin (b,o) (List.mem_append_right _ (List.mem_append_right _ (mem_pinsAt hb e)))).2.1
    cases f with
    | next=>obtain ⟨σ7,H7,I7,n7⟩:=q7; exact again I7 n7
    | cont=>obtain ⟨σ7,H7,I7,n7⟩:=q7; exact again I7 n7
    | brk=>obtain ⟨σ7,H7,I7,q7⟩:=q7; exact ⟨σ7,H7,I7.unpinned,q7⟩
    | ret v=>obtain ⟨x7,σ7,H7,I7,r7,q7⟩:=q7; exact ⟨x7,σ7,H7,I7.unpinned,r7,q7⟩
end
theorem for_list {K:PySem.W.Frag} {a:Addr} {xs:List V} {g:TG} {tb:TS} {D:Ends} {σ:St} {H:Hp} (Pv:Nat→St→Hp→Prop) (h0:Pv 0 σ H) (hl:∀ i σ H,i≤xs.length→Pv i σ H→SqL K H a xs)
    (hs:∀ i x σ H,xs[i]?=some x→Pv i σ H→g x σ H fun σ2 H2=>tb { D with nx:=Pv (i + 1),ct:=Pv (i + 1),bk:=D.nx } σ2 H2) (hd:∀ σ H,Pv xs.length σ H→D.nx σ H) :
    ∃ W:Nat→Nat→St→Hp→Prop,(∃ m,W 0 m σ H)∧∀ i m σ H,W i m σ H →
      ((Itl K a).stop i H∧D.nx σ H)∨((Itl K a).go i H∧∃ N:St→Hp→Prop,(∀ σ' H',N σ' H'→∃ m',m' < m∧W (i + 1) m' σ' H')∧∀ x H',(Itl K a).yld i H x H'→g x σ H' fun σ2 H2=>tb { D with nx:=N,ct:=N,bk:=D.nx } σ2 H2):=by
  refine ⟨fun i m σ H=>m=xs.length - i∧i≤xs.length∧Pv i σ H,⟨xs.length,by simp,Nat.zero_le _,h0⟩,?_⟩
  rintro i m σ H ⟨rfl,hi,p⟩
  have q:=hl i σ H hi p
  by_cases hlt:i < xs.length
  · refine .inr ⟨⟨xs,xs[i],q,by simp [hlt]⟩,Pv (i + 1),fun σ' H' p'=>⟨xs.length - (i + 1),by omega,rfl,hlt,p'⟩,fun x H' y=>?_⟩
    obtain ⟨e,y⟩:=y
    subst e
    exact hs i x σ _ (y xs q) p
  · have e:i=xs.length:=by omega
    subst e
    exact .inl ⟨⟨xs,q,Nat.le_refl _⟩,hd σ H p⟩
theorem for_range {lo:Int} {n:Nat} {g:TG} {tb:TS} {D:Ends} {σ:St} {H:Hp} (Pv:Nat→St→Hp→Prop) (h0:Pv 0 σ H)
    (hs:∀ i σ H,i < n→Pv i σ H→g (.int (lo + i)) σ H fun σ2 H2=>tb { D with nx:=Pv (i + 1),ct:=Pv (i + 1),bk:=D.nx } σ2 H2) (hd:∀ σ H,Pv n σ H→D.nx σ H) :
    ∃ W:Nat→Nat→St→Hp→Prop,(∃ m,W 0 m σ H)∧∀ i m σ H,W i m σ H →
      ((Itr lo n).stop i H∧D.nx σ H)∨((Itr lo n).go i H∧∃ N:St→Hp→Prop,(∀ σ' H',N σ' H'→∃ m',m' < m∧W (i + 1) m' σ' H')∧∀ x H',(Itr lo n).yld i H x H'→g x σ H' fun σ2 H2=>tb { D with nx:=N,ct:=N,bk:=D.nx } σ2 H2):=by
  refine ⟨fun i m σ H=>m=n - i∧i≤n∧Pv i σ H,⟨n,by simp,Nat.zero_le _,h0⟩,?_⟩
  rintro i m σ H ⟨rfl,hi,p⟩
  by_cases hlt:i < n
  · refine .inr ⟨hlt,Pv (i + 1),fun σ' H' p'=>⟨n - (i + 1),by omega,rfl,hlt,p'⟩,fun x H' y=>?_⟩
    obtain ⟨e,y⟩:=y
    subst e y
    exact hs i σ _ hlt p
  · have e:i=n:=by omega
    subst e
    exact .inl ⟨Nat.le_refl _,hd σ H p⟩
end L2
namespace L2
open PySem PySem.Spec PyProof.Rows
abbrev R2:=V→V→Hp→VK→Prop
def OpR (X:Cx) (f:Value→Value→Sem Value) (r:R2):Prop :=
  ∀ (pins:List (Addr × Obj)) (s:Shared) (σ:St) (H:Hp) (x y:V) (v u:Value) (Q:VK),Inv X pins σ H s→RelV x v→RelV y u→r x y H Q →
    wpAny (model X.prog X.w) X.A (f v u) (EP X pins σ Q) X.xe s
def UnR (X:Cx) (f:Value→Sem Value) (r:V→Hp→VK→Prop):Prop :=
  ∀ (pins:List (Addr × Obj)) (s:Shared) (σ:St) (H:Hp) (x:V) (v:Value) (Q:VK),Inv X pins σ H s→RelV x v→r x H Q →
    wpAny (model X.prog X.w) X.A (f v) (EP X pins σ Q) X.xe s
def CallR (X:Cx) (f:Value) (r:List V→Hp→VK→Prop):Prop :=
  ∀ (pins:List (Addr × Obj)) (s:Shared) (σ:St) (H:Hp) (xs:List V) (us:List Value) (Q:VK),Inv X pins σ H s→Vals xs us→r xs H Q →
    wpAny (model X.prog X.w) X.A (call f us) (EP X pins σ Q) X.xe s
def TruR (X:Cx) (r:V→Hp→(Bool→Hp→Prop)→Prop):Prop :=
  ∀ (pins:List (Addr × Obj)) (s:Shared) (σ:St) (H:Hp) (x:V) (v:Value) (Q:Bool→Hp→Prop),Inv X pins σ H s→RelV x v→r x H Q →
    wpAny (model X.prog X.w) X.A (truthy v) (TP X pins σ Q) X.xe s
def tOp (r:R2) (ta tb:TE):TE:=fun σ H Q=>ta σ H fun x H1=>tb σ H1 fun y H2=>r x y H2 Q
def tUn (r:V→Hp→VK→Prop) (ta:TE):TE:=fun σ H Q=>ta σ H fun x H1=>r x H1 Q
def rI (C:Int→Int→Prop) (g:Int→Int→V):R2:=fun x y H Q=>∃ i j,x=.int i∧y=.int j∧C i j∧Q (g i j) H
def rI0 (g:Int→Int→V):R2:=fun x y H Q=>∃ i j,x=.int i∧y=.int j∧Q (g i j) H
def rU (g:Int→V):V→Hp→VK→Prop:=fun x H Q=>∃ i,x=.int i∧Q (g i) H
section
variable {X:Cx} {a b c:Expr} {ta tb tc:TE} {pos:Pos}
theorem binT (ha:PE X a ta) (hb:PE X b tb) {pins:List (Addr × Obj)} {s:Shared} {σ:St} {H:Hp} {R:V→V→Hp→Prop} (I:Inv X pins σ H s)
    (h:ta σ H fun x H1=>tb σ H1 fun y H2=>R x y H2) {Q:Value→Shared→Prop} {f:Value→Value→Sem Value}
    (hf:∀ v u s2 x y H2,Inv X pins σ H2 s2→RelV x v→RelV y u→R x y H2→wpAny (model X.prog X.w) X.A (f v u) Q X.xe s2) :
    wpAny (model X.prog X.w) X.A (eval a X.env) (fun v s₁=>wpAny (model X.prog X.w) X.A (eval b X.env) (fun u s₂=>wpAny (model X.prog X.w) X.A (f v u) Q X.xe s₂) X.xe s₁) X.xe s:=by
  refine thn (ha pins s σ H _ I h) fun v s1 ⟨x,H1,I1,r1,q1⟩=>?_
  refine thn (hb pins s1 σ H1 _ I1 q1) fun u s2 ⟨y,H2,I2,r2,q2⟩=>?_
  exact hf v u s2 x y H2 I2 r1 r2 q2
theorem pe_op {op:Operator} {r:R2} (ho:OpR X (binaryOp op) r) (ha:PE X a ta) (hb:PE X b tb):PE X (.BinOp a op b pos) (tOp r ta tb):=by
  intro pins s σ H Q I h
  exact wpAny_BinOp (binT ha hb I h fun v u s2 x y H2 I2 rx ry q=>ho pins s2 σ H2 x y v u Q I2 rx ry q)
theorem pe_un {op:UnaryOp} {r:V→Hp→VK→Prop} (ho:UnR X (unaryOp op) r) (ha:PE X a ta):PE X (.UnaryOp op a pos) (tUn r ta):=by
  intro pins s σ H Q I h
  exact UnaryOp_ (thn (ha pins s σ H _ I h) fun v s1 ⟨x,H1,I1,r1,q1⟩=>ho pins s1 σ H1 x v Q I1 r1 q1)
theorem opI {f:Value→Value→Sem Value} {C:Int→Int→Prop} {g:Int→Int→Int}
    (rule:∀ (i j:Int) (t u:Tok) (s:Shared) (Q:Value→Shared→Prop) (E:Value→Shared→Prop),C i j→Q (.int (g i j) s.toks) { s with toks:=s.toks + 1 }→wpAny (model X.prog X.w) X.A (f (.int i t) (.int j u)) Q E s) :
    OpR X f (rI C fun i j=>.int (g i j)):=by
  intro pins s σ H x y v u Q I rx ry h
  obtain ⟨i,j,rfl,rfl,hc,q⟩:=h
  obtain ⟨t,rfl⟩:=rx
  obtain ⟨t',rfl⟩:=ry
  exact rule i j t t' s _ _ hc ⟨.int (g i j),H,I.tok _,⟨_,rfl⟩,q⟩
theorem opI0 {f:Value→Value→Sem Value} {g:Int→Int→Int}
    (rule:∀ (i j:Int) (t u:Tok) (s:Shared) (Q:Value→Shared→Prop) (E:Value→Shared→Prop),Q (.int (g i j) s.toks) { s with toks:=s.toks + 1 }→wpAny (model X.prog X.w) X.A (f (.int i t) (.int j u)) Q E s) :
    OpR X f (rI0 fun i j=>.int (g i j)):=by
  intro pins s σ H x y v u Q I rx ry h
  obtain ⟨i,j,rfl,rfl,q⟩:=h
  obtain ⟨t,rfl⟩:=rx
  obtain ⟨t',rfl⟩:=ry
  exact rule i j t t' s _ _ ⟨.int (g i j),H,I.tok _,⟨_,rfl⟩,q⟩
theorem opB0 {f:Value→Value→Sem Value} {g:Int→Int→Bool}
    (rule:∀ (i j:Int) (t u:Tok) (s:Shared) (Q:Value→Shared→Prop) (E:Value→Shared→Prop),Q (.bool (g i j)) s→wpAny (model X.prog X.w) X.A (f (.int i t) (.int j u)) Q E s) :
    OpR X f (rI0 fun i j=>.bl (g i j)):=by
  intro pins s σ H x y v u Q I rx ry h
  obtain ⟨i,j,rfl,rfl,q⟩:=h
  obtain ⟨t,rfl⟩:=rx
  obtain ⟨t',rfl⟩:=ry
  exact rule i j t t' s _ _ ⟨.bl (g i j),H,I,rfl,q⟩
def CPow (i j:Int):Prop:=0≤j∧j≤1000000∧i.natAbs < 2 ^ 64
theorem op_add:OpR X (binaryOp .Add) (rI0 fun i j=>.int (i + j)):=opI0 fun _ _ _ _ _ _ _ q=>add_int q
theorem op_sub:OpR X (binaryOp .Sub) (rI0 fun i j=>.int (i - j)):=opI0 fun _ _ _ _ _ _ _ q=>sub_int q
theorem op_modN:OpR X (binaryOp .Mod) (rI (fun _ j=>j≠0) fun i j=>.int (i.fmod j)):=opI fun _ _ _ _ _ _ _ hc q=>mod_int' hc q
theorem op_pow:OpR X (binaryOp .Pow) (rI CPow fun i j=>.int (i ^ j.toNat)):=opI fun _ _ _ _ _ _ _ hc q=>pow_int_small hc.1 hc.2.1 hc.2.2 q
theorem unI {f:Value→Sem Value} {g:Int→Int}
    (rule:∀ (i:Int) (t:Tok) (s:Shared) (Q:Value→Shared→Prop) (E:Value→Shared→Prop),Q (.int (g i) s.toks) { s with toks:=s.toks + 1 }→wpAny (model X.prog X.w) X.A (f (.int i t)) Q E s) :
    UnR X f (rU fun i=>.int (g i)):=by
  intro pins s σ H x v Q I rx h
  obtain ⟨i,rfl,q⟩:=h
  obtain ⟨t,rfl⟩:=rx
  exact rule i t s _ _ ⟨.int (g i),H,I.tok _,⟨_,rfl⟩,q⟩
theorem un_neg:UnR X (unaryOp .USub) (rU fun i=>.int (-i)):=unI fun _ _ _ _ _ q=>neg_int q
end
def scal:V→V→Bool
  | .non,.non=>true | .non,.int _=>true | .int _,.non=>true | .non,.bl _=>true | .bl _,.non=>true | .non,.str _=>true | .str _,.non=>true
  | .int _,.int _=>true | .bl _,.bl _=>true | .str _,.str _=>true | .byt _,.byt _=>true
  | .int _,.str _=>true | .str _,.int _=>true | .bl _,.str _=>true | .str _,.bl _=>true
  | _,_=>false
def rEq:R2:=fun x y H Q=>scal x y=true∧Q (.bl (decide (x=y))) H
def rNe:R2:=fun x y H Q=>scal x y=true∧Q (.bl (!decide (x=y))) H
theorem dec_int {i j:Int}:decide (V.int i=V.int j)=(i == j):=by
  rw [Bool.eq_iff_iff]
  simp
theorem dec_bl {i j:Bool}:decide (V.bl i=V.bl j)=(i == j):=by
  rw [Bool.eq_iff_iff]
  simp
theorem dec_str {i j:Str}:decide (V.str i=V.str j)=(i == j):=by
  rw [Bool.eq_iff_iff]
  simp
theorem dec_byt {i j:Array UInt8}:decide (V.byt i=V.byt j)=(i.toList == j.toList):=by
  rw [Bool.eq_iff_iff]
  cases i
  cases j
  simp
section
variable {X:Cx} {a b c:Expr} {ta tb tc:TE} {pos:Pos}
theorem fin_bl {pins:List (Addr × Obj)} {σ:St} {H:Hp} {s:Shared} {Q:VK} {k k':Bool} (I:Inv X pins σ H s) (q:Q (.bl k) H) (e:k=k'):EP X pins σ Q (.bool k') s:=by
  subst e
  exact ⟨.bl k,H,I,rfl,q⟩
theorem op_eq:OpR X (compareOp .Eq) rEq:=by
  intro pins s σ H x y v u Q I rx ry h
  obtain ⟨hs,q⟩:=h
  cases x with
  | non =>
    cases rx
    cases y with
    | non=>cases ry; exact PySem.EqNone.eq_none_none (fin_bl I q (by simp))
    | bl j=>cases ry; exact PySem.EqNone.eq_none_bool (fin_bl I q (by simp))
    | int j=>obtain ⟨t',rfl⟩:=ry; exact PySem.EqNone.eq_none_int (fin_bl I q (by simp))
    | str j=>obtain ⟨t',rfl⟩:=ry; exact PySem.EqNone.eq_none_str (fin_bl I q (by simp))
    | _=>exact absurd (show false=true from hs) Bool.false_ne_true
  | bl i =>
    cases rx
    cases y with
    | non=>cases ry; exact PySem.EqNone.eq_bool_none (fin_bl I q (by simp))
    | bl j=>cases ry; exact eq_bool (fin_bl I q dec_bl)
    | str j=>obtain ⟨t',rfl⟩:=ry; exact PySem.EqMixed.eq_bool_str (fin_bl I q (by simp))
    | _=>exact absurd (show false=true from hs) Bool.false_ne_true
  | int i =>
    obtain ⟨t,rfl⟩:=rx
    cases y with
    | non=>cases ry; exact PySem.EqNone.eq_int_none (fin_bl I q (by simp))
    | int j=>obtain ⟨t',rfl⟩:=ry; exact eq_int (fin_bl I q dec_int)
    | str j=>obtain ⟨t',rfl⟩:=ry; exact PySem.EqMixed.eq_int_str (fin_bl I q (by simp))
    | _=>exact absurd (show false=true from hs) Bool.false_ne_true
  | str i =>
    obtain ⟨t,rfl⟩:=rx
    cases y with
    | non=>cases ry; exact PySem.EqNone.eq_str_none (fin_bl I q (by simp))
    | bl j=>cases ry; exact PySem.EqMixed.eq_str_bool (fin_bl I q (by simp))
    | int j=>obtain ⟨t',rfl⟩:=ry; exact PySem.EqMixed.eq_str_int (fin_bl I q (by simp))
    | str j=>obtain ⟨t',rfl⟩:=ry; exact eq_str (fin_bl I q dec_str)
    | _=>exact absurd (show false=true from hs) Bool.false_ne_true
  | byt i =>
    obtain ⟨t,rfl⟩:=rx
    cases y with
    | byt j=>obtain ⟨t',rfl⟩:=ry; exact PySem.W.eq_bytes (fin_bl I q dec_byt)
    | _=>exact absurd (show false=true from hs) Bool.false_ne_true
  | _=>cases y <;> exact absurd (show false=true from hs) Bool.false_ne_true
theorem op_ne:OpR X (compareOp .NotEq) rNe:=by
  intro pins s σ H x y v u Q I rx ry h
  obtain ⟨hs,q⟩:=h
  cases x with
  | non =>
    cases rx
    cases y with
    | non=>cases ry; exact PySem.EqNone.ne_none_none (fin_bl I q (by simp))
    | bl j=>cases ry; exact PySem.EqNone.ne_none_bool (fin_bl I q (by simp))
    | int j=>obtain ⟨t',rfl⟩:=ry; exact PySem.EqNone.ne_none_int (fin_bl I q (by simp))
    | str j=>obtain ⟨t',rfl⟩:=ry; exact PySem.EqNone.ne_none_str (fin_bl I q (by simp))
    | _=>exact absurd (show false=true from hs) Bool.false_ne_true
  | bl i =>
    cases rx
    cases y with
    | non=>cases ry; exact PySem.EqNone.ne_bool_none (fin_bl I q (by simp))
    | bl j=>cases ry; exact ne_bool (fin_bl I q (congrArg not dec_bl))
    | str j=>obtain ⟨t',rfl⟩:=ry; exact PySem.EqMixed.ne_bool_str (fin_bl I q (by simp))
    | _=>exact absurd (show false=true from hs) Bool.false_ne_true
  | int i =>
    obtain ⟨t,rfl⟩:=rx
    cases y with
    | non=>cases ry; exact PySem.EqNone.ne_int_none (fin_bl I q (by simp))
    | int j=>obtain ⟨t',rfl⟩:=ry; exact ne_int (fin_bl I q (congrArg not dec_int))
    | str j=>obtain ⟨t',rfl⟩:=ry; exact PySem.EqMixed.ne_int_str (fin_bl I q (by simp))
    | _=>exact absurd (show false=true from hs) Bool.false_ne_true
  | str i =>
    obtain ⟨t,rfl⟩:=rx
    cases y with
    | non=>cases ry; exact PySem.EqNone.ne_str_none (fin_bl I q (by simp))
    | bl j=>cases ry; exact PySem.EqMixed.ne_str_bool (fin_bl I q (by simp))
    | int j=>obtain ⟨t',rfl⟩:=ry; exact PySem.EqMixed.ne_str_int (fin_bl I q (by simp))
    | str j=>obtain ⟨t',rfl⟩:=ry; exact ne_str (fin_bl I q (congrArg not dec_str))
    | _=>exact absurd (show false=true from hs) Bool.false_ne_true
  | byt i =>
    obtain ⟨t,rfl⟩:=rx
    cases y with
    | byt j=>obtain ⟨t',rfl⟩:=ry; exact PySem.W.ne_bytes (fin_bl I q (congrArg not dec_byt))
    | _=>exact absurd (show false=true from hs) Bool.false_ne_true
  | _=>cases y <;> exact absurd (show false=true from hs) Bool.false_ne_true
theorem op_lt:OpR X (compareOp .Lt) (rI0 fun i j=>.bl (decide (i < j))):=opB0 fun _ _ _ _ _ _ _ q=>lt_int q
theorem op_le:OpR X (compareOp .LtE) (rI0 fun i j=>.bl (decide (i≤j))):=opB0 fun _ _ _ _ _ _ _ q=>le_int q
theorem op_gt:OpR X (compareOp .Gt) (rI0 fun i j=>.bl (decide (j < i))):=opB0 fun _ _ _ _ _ _ _ q=>gt_int q
theorem op_ge:OpR X (compareOp .GtE) (rI0 fun i j=>.bl (decide (j≤i))):=opB0 fun _ _ _ _ _ _ _ q=>ge_int q
theorem op_in_str:OpR X (compareOp .In) (fun x y H Q=>∃ i j,x=.str i∧y=.str j∧Q (.bl (!(Builtin.Str.occurrences j i 0 j.length 1).isEmpty)) H):=by
  intro pins s σ H x y v u Q I rx ry h
  obtain ⟨i,j,rfl,rfl,q⟩:=h
  obtain ⟨t,rfl⟩:=rx
  obtain ⟨t',rfl⟩:=ry
  exact in_str (fin_bl I q rfl)
theorem op_isN:OpR X (compareOp .Is) (fun x y H Q=>y=.non∧Q (.bl (decide (x=.non))) H):=by
  intro pins s σ H x y v u Q I rx ry h
  obtain ⟨rfl,q⟩:=h
  cases ry
  refine is_none_gen (fin_bl I q ?_)
  cases x <;> first
    | (cases rx; rfl)
    | (obtain ⟨t,rfl⟩:=rx; rfl)
theorem nomark (b:Expr) {op:CmpOp} (h:op≠.In:=by decide) (h2:op≠.NotIn:=by decide):behindInMarks op b=false:=by
  have e1:(op == CmpOp.In)=false:=by cases op <;> first | rfl | exact absurd rfl h
  have e2:(op == CmpOp.NotIn)=false:=by cases op <;> first | rfl | exact absurd rfl h2
  cases b <;> simp [behindInMarks,e1,e2]
theorem pe_cmpR {op:CmpOp} {r:R2} (ho:OpR X (compareOp op) r) (ha:PE X a ta) (hb:PE X b tb) (hm:behindInMarks op b=false):PE X (.Compare a [op] [b] pos) (tOp r ta tb):=by
  intro pins s σ H Q I h
  exact wpAny_Compare1 (binT ha hb I h fun v u s2 x y H2 I2 rx ry q=>ho pins s2 σ H2 x y v u Q I2 rx ry q) hm
def tTest (t:TE):TT:=fun σ H Q=>t σ H fun x H'=>∃ k,x=.bl k∧Q k H'
theorem pt_cmpR {op:CmpOp} {r:R2} (ho:OpR X (compareOp op) r) (ha:PE X a ta) (hb:PE X b tb) (hm:behindInMarks op b=false):PT X (.Compare a [op] [b] pos) (tTest (tOp r ta tb)):=by
  intro pins s σ H Q I h
  refine wpAny_isTrue_Compare1 (thn (ha pins s σ H _ I h) fun v s1 ⟨x,H1,I1,r1,q1⟩=>thn (hb pins s1 σ H1 _ I1 q1) fun u s2 ⟨y,H2,I2,r2,q2⟩ =>
    thn (ho pins s2 σ H2 x y v u _ I2 r1 r2 q2) fun c s3 ⟨z,H3,I3,r3,k,e,q3⟩=>?_) hm
  subst e
  cases r3
  exact wpAny_truthy_bool ⟨H3,I3,q3⟩
def tChain (r r':R2) (ta tb tc:TE):TE:=fun σ H Q=>ta σ H fun x H1=>tb σ H1 fun y H2=>r x y H2 fun z H3=>∃ k,z=.bl k ∧
  (if k=true then tc σ H3 fun w' H4=>r' y w' H4 Q else Q (.bl false) H3)
theorem pe_chain {op op':CmpOp} {r r':R2} (ho:OpR X (compareOp op) r) (ho':OpR X (compareOp op') r') (ha:PE X a ta) (hb:PE X b tb) (hc:PE X c tc)
    (hm:lastMarks [op,op'] [b,c]=false:=by with_unfolding_all rfl):PE X (.Compare a [op,op'] [b,c] pos) (tChain r r' ta tb tc):=by
  intro pins s σ H Q I h
  refine Compare_chain (thn (ha pins s σ H _ I h) fun v s1 ⟨x,H1,I1,r1,q1⟩=>chain_link (thn (hb pins s1 σ H1 _ I1 q1) fun u s2 ⟨y,H2,I2,r2,q2⟩ =>
    thn (ho pins s2 σ H2 x y v u _ I2 r1 r2 q2) fun d s3 ⟨z,H3,I3,r3,k,e,q3⟩=>?_)) hm
  subst e
  cases r3
  refine wpAny_truthy_bool ?_
  cases k with
  | false=>exact ite_ff ⟨.bl false,H3,I3,rfl,q3⟩
  | true=>exact ite_tt (chain_last (thn (hc pins s3 σ H3 _ I3 q3) fun w' s4 ⟨z',H4,I4,r4,q4⟩=>ho' pins s4 σ H4 y z' u w' Q I4 r2 r4 q4))
theorem pt_chain {op op':CmpOp} {r r':R2} (ho:OpR X (compareOp op) r) (ho':OpR X (compareOp op') r') (ha:PE X a ta) (hb:PE X b tb) (hc:PE X c tc)
    (hm:lastMarks [op,op'] [b,c]=false:=by with_unfolding_all rfl):PT X (.Compare a [op,op'] [b,c] pos) (tTest (tChain r r' ta tb tc)):=by
  intro pins s σ H Q I h
  refine isTrue_chain (thn (ha pins s σ H _ I h) fun v s1 ⟨x,H1,I1,r1,q1⟩=>test_link (thn (hb pins s1 σ H1 _ I1 q1) fun u s2 ⟨y,H2,I2,r2,q2⟩ =>
    thn (ho pins s2 σ H2 x y v u _ I2 r1 r2 q2) fun d s3 ⟨z,H3,I3,r3,k,e,q3⟩=>?_)) hm
  subst e
  cases r3
  refine wpAny_truthy_bool ?_
  cases k with
  | false =>
    obtain ⟨k',e',q'⟩:=q3
    cases e'
    exact ite_ff ⟨H3,I3,q'⟩
  | true =>
    refine ite_tt (test_last (thn (hc pins s3 σ H3 _ I3 q3) fun w' s4 ⟨z',H4,I4,r4,q4⟩=>thn (ho' pins s4 σ H4 y z' u w' _ I4 r2 r4 q4) fun d' s5 ⟨z2,H5,I5,r5,k2,e2,q5⟩=>?_))
    subst e2
    cases r5
    exact wpAny_truthy_bool ⟨H5,I5,q5⟩
def TruV (K:PySem.W.Frag) (x:V) (H:Hp) (k:Bool):Prop :=
  match x with
  | .non=>k=false
  | .bl b=>k=b
  | .int i=>k=(i != 0)
  | .str y=>y.length≤sizeLine∧k=((y.length:Int) != 0)
  | .byt y=>y.size≤sizeLine∧k=((y.size:Int) != 0)
  | .ref p=>(∃ xs,SqL K H p xs∧k=!xs.isEmpty)∨(∃ xs,SqT K H p xs∧k=!xs.isEmpty)∨∃ kvs,H p=some (.dK kvs)∧k=!kvs.isEmpty
  | _=>False
theorem isEmpty_kv {κ:Type} {kvs:List (κ × V)} {vs:List (κ × Value)} (r:KV kvs vs):(!vs.isEmpty)=!kvs.isEmpty:=by
  cases r <;> rfl
theorem isEmpty_of {xs:List V} {its:List Value} (r:Vals xs its):(!its.toArray.isEmpty)=!xs.isEmpty:=by
  cases r <;> simp
theorem line63:(sizeLine:Nat) < 2 ^ 63:=by rw [sizeLine_eq]; decide
theorem tru_ok:TruR X (fun x H Q=>∃ k,TruV X.K x H k∧Q k H):=by
  intro pins s σ H x v Q I rx h
  obtain ⟨k,e,q⟩:=h
  have hl:=line63
  have hs:sizeLine=16777216:=sizeLine_eq
  cases x with
  | non =>
    cases rx
    have e':k=false:=e
    subst e'
    exact truthy_none ⟨H,I,q⟩
  | bl b =>
    cases rx
    have e':k=b:=e
    subst e'
    exact wpAny_truthy_bool ⟨H,I,q⟩
  | int i =>
    obtain ⟨t,rfl⟩:=rx
    have e':k=(i != 0):=e
    subst e'
    exact PySem.P.truthy_int ⟨H,I,q⟩
  | str y =>
    obtain ⟨t,rfl⟩:=rx
    obtain ⟨hy,e'⟩:y.length≤sizeLine∧k=((y.length:Int) != 0):=e
    subst e'
    exact PySem.P.truthy_str (by omega) ⟨H,I.tok _,q⟩
  | byt y =>
    obtain ⟨t,rfl⟩:=rx
    obtain ⟨hy,e'⟩:y.size≤sizeLine∧k=((y.size:Int) != 0):=e
    subst e'
    exact PySem.W.truthy_bytes (by omega) ⟨H,I.tok _,q⟩
  | ref p =>
    cases rx
    have e':(∃ xs,SqL X.K H p xs∧k=!xs.isEmpty)∨(∃ xs,SqT X.K H p xs∧k=!xs.isEmpty)∨∃ kvs,H p=some (.dK kvs)∧k=!kvs.isEmpty:=e
    rcases e' with ⟨xs,hx,e'⟩ | ⟨xs,hx,e'⟩ | ⟨kvs,hx,e'⟩
    · subst e'
      obtain ⟨its,r,pl,hz⟩:=I.list hx
      have hlen:=r.length
      exact wpAny_truthy_list pl.isList (by simp only [List.size_toArray]; omega) ⟨H,I.tok _,by rw [isEmpty_of r]; exact q⟩
    · subst e'
      obtain ⟨its,r,pl,hz⟩:=I.tuple hx
      have hlen:=r.length
      exact truthy_tuple pl (by simp only [List.size_toArray]; omega) ⟨H,I.tok _,by rw [isEmpty_of r]; exact q⟩
    · subst e'
      obtain ⟨hz,hS,vs,r,m⟩:kvs.length≤sizeLine∧(p == sysModules)=false∧∃ vs,KV kvs vs∧s.heap.DictOf (mixKind X.prog X.w) p vs:=I.hok p _ hx
      have hlen:kvs.length=vs.length:=Paired.length r
      exact wpAny_truthy_dict hS m (by omega) ⟨H,I.tok _,by rw [isEmpty_kv r]; exact q⟩
  | _=>exact (show False from e).elim
theorem pt_truth (ha:PE X a ta) (he:∀ whole,isTrue a X.env whole=(do let v ← whole; standAt a.pos; holding [v] (truthy v))) :
    PT X a (fun σ H Q=>ta σ H fun x H'=>∃ k,TruV X.K x H' k∧Q k H'):=by
  intro pins s σ H Q I h
  exact isTrue_plain (thn (ha pins s σ H _ I h) fun v s1 ⟨x,H1,I1,r1,q1⟩=>tru_ok pins s1 σ H1 x v Q I1 r1 q1) (he _)
theorem op_add_str:OpR X (binaryOp .Add) (fun x y H Q=>∃ i j,x=.str i∧y=.str j∧i.length + j.length≤sizeLine∧Q (.str (i ++ j)) H):=by
  intro pins s σ H x y v u Q I rx ry h
  obtain ⟨i,j,rfl,rfl,hz,q⟩:=h
  obtain ⟨t,rfl⟩:=rx
  obtain ⟨t',rfl⟩:=ry
  exact add_str (fun t' tk=>⟨.str (i ++ j),H,I.tok _,⟨_,rfl⟩,q⟩) hz
theorem vals1 {x:V} {us:List Value} (r:Vals [x] us):∃ u,us=[u]∧RelV x u:=by
  cases r with
  | cons r1 r2=>cases r2; exact ⟨_,rfl,r1⟩
theorem call_str_int:CallR X (.type "str") (fun xs H Q=>∃ i,xs=[.int i]∧i.natAbs.log2 < 1920∧Q (.str (toString i)) H):=by
  intro pins s σ H xs us Q I r h
  obtain ⟨i,rfl,hz,q⟩:=h
  obtain ⟨u,rfl,t,rfl⟩:=vals1 r
  exact PySem.P.str_of_int hz ⟨.str _,H,I.tok _,⟨_,rfl⟩,q⟩
end
end L2
namespace L2
open PySem PySem.Spec PyProof.Rows
section
variable {prog:Program} {w:World} {A:Around} {E:Value→Shared→Prop} {s:Shared} {K:PySem.W.Frag} {x dx C f:Addr} {mA:Str→Option Value} {name:Str} {v:Value}
end
theorem RelO.some_of {v:V} {o:Option Value} (r:RelO (some v) o):∃ u,o=some u∧RelV v u:=by
  cases o with
  | none=>exact (show False from r).elim
  | some u=>exact ⟨u,rfl,r⟩
section
variable {P:Program} {w:World} {H H':Hp} {h h':Heap} {a C dx:Addr} {fs fs':List (Str × V)}
end
section
variable {X:Cx} {pins:List (Addr × Obj)} {σ:St} {H:Hp} {s:Shared} {a C dx:Addr} {fs:List (Str × V)} {f:Str} {v:V} {A:Around} {E:Value→Shared→Prop}
end
section
variable {X:Cx} {o e value:Expr} {f:Str} {pos pos' tpos:Pos} {ta tv:TE}
end
section
variable {X:Cx} {pins:List (Addr × Obj)} {σ:St} {H:Hp} {s:Shared} {A:Around} {E:Value→Shared→Prop} {Q:Value→Shared→Prop} {c:Value} {b:Bool}
end
end L2
namespace L2
open PySem PySem.Spec PyProof.Rows
structure Room (k:Nat) (A:Around):Prop where
  hd:A.handled=none
  dp:A.depth + 3 * k + 5 < recursionLimit
  un:A.units + 16 * k + 200 < cLine
theorem Room.mono {j k:Nat} {A:Around} (r:Room k A) (h:j≤k):Room j A:=⟨r.hd,by have:=r.dp; omega,by have:=r.un; omega⟩
theorem Room.deeper {k:Nat} {A:Around} (r:Room (k + 1) A) (env:Env):Room k (A.deeper env) :=
  ⟨r.hd,by have:=r.dp; show A.depth + 1 + 3 * k + 5 < _; omega,by have:=r.un; show A.units + 3 + 16 * k + 200 < _; omega⟩
theorem Room.depth {k:Nat} {A:Around} (r:Room k A):A.depth < recursionLimit:=by have:=r.dp; omega
def tNil:TA:=fun _ H Q=>Q [] H
def tCons (ta:TE) (tr:TA):TA:=fun σ H Q=>ta σ H fun x H1=>tr σ H1 fun xs H2=>Q (x :: xs) H2
section
variable {X:Cx} {e:Expr} {es:List Expr} {te:TE} {t:TA} {pos:Pos}
theorem pa_nil:PA X [] tNil:=fun _ _ _ _ H Q I h=>Calls.spliced_nil ⟨[],H,I,.nil,h⟩
theorem pa_cons (ha:PE X e te) (hr:PA X es t) (hs:starEach (e :: es) X.env=(false,eval e X.env) :: starEach es X.env:=by rfl):PA X (e :: es) (tCons te t):=by
  intro pos pins s σ H Q I h
  rw [hs]
  show wpAny _ _ (spliced ((false,eval e X.env) :: backTo pos (starEach es X.env))) _ _ s
  refine Calls.spliced_cons (thn (ha pins s σ H _ I h) fun u s1 ⟨x,H1,I1,r1,q1⟩=>?_)
  exact thn (hr pos pins s1 σ H1 _ I1 q1) fun us s2 ⟨xs,H2,I2,r2,q2⟩=>⟨x :: xs,H2,I2,.cons r1 r2,q2⟩
def tTup (t:TA):TE:=fun σ H Q=>t σ H fun xs H1=>xs.length≤sizeLine∧∀ p,H1 p=none→Q (.ref p) (upd H1 p (.tup xs))
def tLst (t:TA):TE:=fun σ H Q=>t σ H fun xs H1=>xs.length≤sizeLine∧∀ p,H1 p=none→Q (.ref p) (upd H1 p (.lst xs))
theorem pe_tup {x1} (h:PA X es t):PE X (.Tuple es x1 pos) (tTup t):=by
  intro pins s σ H Q I hq
  refine wpAny_Tuple_spliced (thn (h pos pins s σ H _ I hq) fun us s1 ⟨xs,H1,I1,r,z,q⟩=>⟨by rw [← r.length]; exact z,?_⟩)
  have hf:H1 s1.heap.objs.size=none:=I1.hok.fresh (Nat.le_refl _)
  refine ⟨.ref s1.heap.objs.size,upd H1 s1.heap.objs.size (.tup xs),I1.laid (t':=s1.toks) (fun b u e=>Heap.get?_push_of_some _ e) (Nat.le_refl _) ?_,rfl,q _ hf⟩
  exact ⟨z,us,r,⟨_,Heap.get?_push_size _ rfl,rfl,_,rfl⟩⟩
theorem pe_lst (h:PA X es t):PE X (.List es pos) (tLst t):=by
  intro pins s σ H Q I hq
  refine wpAny_List_spliced (thn (h pos pins s σ H _ I hq) fun us s1 ⟨xs,H1,I1,r,z,q⟩=>⟨by rw [← r.length]; exact z,?_⟩)
  have hf:H1 s1.heap.objs.size=none:=I1.hok.fresh (Nat.le_refl _)
  refine ⟨.ref s1.heap.objs.size,upd H1 s1.heap.objs.size (.lst xs),I1.laid (t':=s1.toks) (fun b u e=>Heap.get?_push_of_some _ e) (Nat.le_refl _) ?_,rfl,q _ hf⟩
  exact ⟨z,us,0,r,Heap.get?_push_size _ rfl⟩
end
abbrev Sp:=List V→Hp→VK→XK→Prop
abbrev CXT:=List Env→Hp→Shared→XK→Value→Shared→Prop
structure Env0 (P:Program) (w:World) (K:PySem.W.Frag) (mg:Str→Option Value) (base:Heap) (A:Around) (outer:List Env) (s:Shared) (H:Hp):Prop where
  frames:A.frames=some outer
  mod:Mod K mg base
  bs:∀ b o,base.get? b=some o→s.heap.get? b=some o∧H b=none
  bsz:base.objs.size≤s.heap.objs.size
  funs:s.heap.FunFrames base outer
  frf:∀ b∈frs outer,H b=none
  hok:HOk P w H s.heap
  bare:AllBare s.gens
def CE (outer:List Env) (P:Program) (w:World) (H:Hp) (s:Shared) (Q:VK) (u:Value) (s':Shared):Prop :=
  ∃ v H',s'.os=s.os∧AllBare s'.gens∧Un (frs outer) [] H H' s.heap s'.heap∧HOk P w H' s'.heap∧RelV v u∧Q v H'
def CR (CX:CXT) (outer:List Env) (P:Program) (w:World) (H:Hp) (s:Shared) (Q:VK) (E:XK) (r:Result) (s':Shared):Prop :=
  match r with
  | .ok (.ret u)=>CE outer P w H s Q u s'
  | .ok _=>False
  | .error e=>CX outer H s E e s'
structure FnOk (P:Program) (w:World) (K:PySem.W.Frag) (mg:Str→Option Value) (base:Heap) (CX:CXT) (k:Nat) (f:Addr) (fd:FuncData) (ps:List Str) (sp:Sp):Prop where
  len:∀ vs H Q E,sp vs H Q E→vs.length=ps.length
  run:∀ (A:Around) (outer:List Env) (s:Shared) (H:Hp) (args:Args) (us:List Value) (vs:List V) (Q:VK) (E:XK),Room k A→Env0 P w K mg base A outer s H→BindsTo s fd args (ps.zip us)→Vals vs us→sp vs H Q E →
    codeAny (model P w) A (.call (.ref f) args) (CR CX outer P w H s Q E) s
theorem FnOk.mono {P:Program} {w:World} {K:PySem.W.Frag} {mg:Str→Option Value} {base:Heap} {CX:CXT} {j k:Nat} {f:Addr} {fd:FuncData} {ps:List Str} {sp:Sp} (F:FnOk P w K mg base CX j f fd ps sp) (h:j≤k) :
    FnOk P w K mg base CX k f fd ps sp:=⟨F.len,fun A outer s H args us vs Q E hr=>F.run A outer s H args us vs Q E (hr.mono h)⟩
theorem FnOk.imp {P:Program} {w:World} {K:PySem.W.Frag} {mg:Str→Option Value} {base:Heap} {CX:CXT} {k:Nat} {f:Addr} {fd:FuncData} {ps:List Str} {sp sp':Sp} (F:FnOk P w K mg base CX k f fd ps sp)
    (h:∀ vs H Q E,sp' vs H Q E→sp vs H Q E):FnOk P w K mg base CX k f fd ps sp' :=
  ⟨fun vs H Q E q=>F.len vs H Q E (h _ _ _ _ q),fun A outer s H args us vs Q E hr he hb hv hs=>F.run A outer s H args us vs Q E hr he hb hv (h _ _ _ _ hs)⟩
section
variable {X:Cx} {pins:List (Addr × Obj)} {σ:St} {H:Hp} {s s':Shared}
theorem Inv.env0 (I:Inv X pins σ H s):Env0 X.prog X.w X.K X.mg X.base X.A X.stack s H :=
  ⟨I.ok.frames,I.ok.mod,I.bs,Nat.le_trans I.ok.bsz I.sz,I.stack,I.stkFree,I.hok,I.bare⟩
theorem Inv.after {Q:VK} {u:Value} (I:Inv X pins σ H s) (h:CE X.stack X.prog X.w H s Q u s'):EP X pins σ Q u s':=by
  obtain ⟨v,H',os,bare,un,hok,r,q⟩:=h
  obtain ⟨hh,g,d,t,os'⟩:=s'
  obtain rfl:os'=s.os:=os
  exact ⟨v,H',I.call (h':=hh) (g':=g) (d':=d) (t':=t) (ch:=[]) un hok bare (fun b z=>absurd z (by simp)),r,q⟩
end
def tCall (sp:Sp) (dvs:List V) (E:XK) (t:TA):TE:=fun σ H Q=>t σ H fun vs H1=>sp (vs ++ dvs) H1 Q E
def Binds (K:PySem.W.Frag) (fd:FuncData) (ps:List Str) (ds:List Value):Prop :=
  ∀ (s:Shared) (us:List Value),K.In s.heap→(us ++ ds).length=ps.length→BindsTo s fd ⟨us,[]⟩ (ps.zip (us ++ ds))
theorem Binds.all {K:PySem.W.Frag} {fd:FuncData} {ps:List Str} (h:∀ us:List Value,us.length=ps.length→bindArgs fd ⟨us,[]⟩=pure (ps.zip us)):Binds K fd ps []:=fun s us _ hl=>by
  rw [List.append_nil] at hl ⊢
  exact .of_eq (h us hl)
def Passes (CX:CXT) (X:Cx) (E:XK):Prop:=∀ (pins:List (Addr × Obj)) (σ:St) (H:Hp) (s:Shared) (e:Value) (s':Shared),Inv X pins σ H s→CX X.stack H s E e s'→X.xe e s'
section
variable {X:Cx} {CX:CXT} {k:Nat} {f C:Addr} {fd:FuncData} {ps:List Str} {sp:Sp} {dvs:List V} {ds:List Value} {E:XK} {x m:Str} {p pos apos:Pos} {e o:Expr} {es:List Expr} {ta:TE} {t:TA}
theorem run_fn {pins:List (Addr × Obj)} {σ:St} {H:Hp} {s:Shared} {Q:VK} {us:List Value} {vs:List V} (F:FnOk X.prog X.w X.K X.mg X.base CX k f fd ps sp) (hr:Room k X.A) (hb:Binds X.K fd ps ds) (hd:Vals dvs ds) (hx:Passes CX X E)
    (I:Inv X pins σ H s) (r:Vals vs us) (h:sp (vs ++ dvs) H Q E):wpAny (model X.prog X.w) X.A (call (.ref f) us) (EP X pins σ Q) X.xe s:=by
  have r2:Vals (vs ++ dvs) (us ++ ds):=r.append hd
  have hl:(us ++ ds).length=ps.length:=by rw [← r2.length]; exact F.len _ _ _ _ h
  refine wpAny_call (codeAny_mono (F.run X.A X.stack s H ⟨us,[]⟩ (us ++ ds) (vs ++ dvs) Q E hr I.env0 (hb s us I.kIn hl) r2 h) fun r s' hq=>?_)
  cases r with
  | error e=>exact hx pins σ H s e s' I hq
  | ok fl =>
    cases fl with
    | ret u=>exact I.after hq
    | next=>exact False.elim hq
    | brk=>exact False.elim hq
    | cont=>exact False.elim hq
theorem pe_call (F:FnOk X.prog X.w X.K X.mg X.base CX k f fd ps sp) (hr:Room k X.A) (hg:Gl X x) (hm:X.mg x=some (.ref f)) (hk:PySem.W.keepIn X.K (.ref f)=true) (hb:Binds X.K fd ps ds) (hd:Vals dvs ds) (hx:Passes CX X E)
    (ha:PA X (e :: es) t) (hdb:(x == ("__debug__" : Str))=false:=by decide) (he:starEach (e :: es) X.env=(false,eval e X.env) :: starEach es X.env:=by rfl) (hpl:(backTo pos (starEach es X.env)).any (·.1)=false:=by rfl) :
    PE X (.Call (.Name x p) (e :: es) [] pos) (tCall sp dvs E t):=by
  intro pins s σ H Q I h
  refine wpAny_Call_Name_kw (ld_glob I hg hm ?_ hdb)
  refine PySem.W.callWith_K (h₀:=X.base) I.ok.mod.kin hk (thn (ha pos pins s σ H _ I h) fun us s1 ⟨vs,H1,I1,r,q⟩=>⟨I1.kIn,?_⟩) he hpl
  exact run_fn F hr hb hd hx I1 r q
end
section
variable {X:Cx} {CX:CXT} {k:Nat} {f C:Addr} {fd:FuncData} {ps ks:List Str} {sp:Sp} {E:XK} {x m:Str} {p pos apos kpos:Pos} {e o:Expr} {es:List Expr} {kws:List Keyword} {te ta:TE} {t tk:TA} {nm:Option Str}
variable {g:List Value→List Value→List Value} {gV:List V→List V→List V}
end
structure FnScope (N P:List Str) (sc:Scope):Prop where
  kind:sc.kind=.function
  co:sc.isCoroutine=false
  gen:sc.isGenerator=false
  nd:N.Nodup
  pre:N.take P.length=P
  par:∀ x∈P,sc.names.lookup x=some .local∨sc.names.lookup x=some .cell
  nofree:∀ y∈sc.names,y.2≠.free
theorem bindL_out {kindOf:Str→Option NameKind} {x:Str}:∀ {binds:List (Str × Value)} {m:Str→Option Value},(∀ v,(x,v) ∉ binds)→bindL kindOf binds m x=m x
  | [],_,_=>rfl
  | (n,v) :: r,m,h=>by
    unfold bindL
    rw [bindL_out fun w hw=>h w (List.mem_cons_of_mem _ hw)]
    split
    · have:x≠n:=by rintro rfl; exact h v List.mem_cons_self
      simp [this]
    · rfl
theorem bindC_out {kindOf:Str→Option NameKind} {x:Str}:∀ {binds:List (Str × Value)} {m:Str→Option Value},(∀ v,(x,v) ∉ binds)→bindC kindOf binds m x=m x
  | [],_,_=>rfl
  | (n,v) :: r,m,h=>by
    unfold bindC
    rw [bindC_out fun w hw=>h w (List.mem_cons_of_mem _ hw)]
    split
    · rfl
    · have:x≠n:=by rintro rfl; exact h v List.mem_cons_self
      simp [this]
theorem bindL_get {kindOf:Str→Option NameKind} {x:Str} {v:Value}:∀ {P:List Str} {vs:List Value} {i:Nat} {m:Str→Option Value},P.Nodup→P[i]?=some x→vs[i]?=some v→kindOf x=some .local →
    bindL kindOf (P.zip vs) m x=some v
  | [],_,_,_,_,h,_,_=>by simp at h
  | _ :: _,[],_,_,_,_,h,_=>by simp at h
  | p :: P,w :: vs,0,m,nd,h1,h2,hk=>by
    simp at h1 h2; subst h1; subst h2
    show bindL kindOf ((p,w) :: P.zip vs) m p=_
    unfold bindL
    rw [bindL_out fun v hv=>(List.nodup_cons.mp nd).1 (List.of_mem_zip hv).1,if_pos hk]
    simp
  | p :: P,w :: vs,i + 1,m,nd,h1,h2,hk=>by
    show bindL kindOf ((p,w) :: P.zip vs) m x=_
    unfold bindL
    exact bindL_get (i:=i) (List.nodup_cons.mp nd).2 (by simpa using h1) (by simpa using h2) hk
theorem bindC_get {kindOf:Str→Option NameKind} {x:Str} {v:Value}:∀ {P:List Str} {vs:List Value} {i:Nat} {m:Str→Option Value},P.Nodup→P[i]?=some x→vs[i]?=some v→kindOf x≠some .local →
    bindC kindOf (P.zip vs) m x=some v
  | [],_,_,_,_,h,_,_=>by simp at h
  | _ :: _,[],_,_,_,_,h,_=>by simp at h
  | p :: P,w :: vs,0,m,nd,h1,h2,hk=>by
    simp at h1 h2; subst h1; subst h2
    show bindC kindOf ((p,w) :: P.zip vs) m p=_
    unfold bindC
    rw [bindC_out fun v hv=>(List.nodup_cons.mp nd).1 (List.of_mem_zip hv).1,if_neg hk]
    simp
  | p :: P,w :: vs,i + 1,m,nd,h1,h2,hk=>by
    show bindC kindOf ((p,w) :: P.zip vs) m x=_
    unfold bindC
    exact bindC_get (i:=i) (List.nodup_cons.mp nd).2 (by simpa using h1) (by simpa using h2) hk
def start (N:List Str) (vs:List V):St:=vs.map some ++ List.replicate (N.length - vs.length) none
def cxOf (CX:CXT) (P:Program) (w:World) (K:PySem.W.Frag) (mg:Str→Option Value) (base:Heap) (N:List Str) (qual:Str) (scope:Scope) (f:Addr) (cd:Value) (A:Around) (outer:List Env) (s:Shared) (H:Hp) (E:XK):Cx where
  prog:=P
  w:=w
  K:=K
  mg:=mg
  base:=base
  A:=A.deeper (envOfC qual scope s.heap.objs.size f cd)
  N:=N
  s₀:=s
  H₀:=H
  env:=envOfC qual scope s.heap.objs.size f cd
  outer:=outer
  stack:=envOfC qual scope s.heap.objs.size f cd :: outer
  ex:=[]
  calm:=true
  fn:=fun _=>true
  pn:=[]
  xe:=fun e s'=>wpAny (model P w) (A.deeper (envOfC qual scope s.heap.objs.size f cd)) (leaving (envOfC qual scope s.heap.objs.size f cd) e) (fun _ s''=>CX outer H s E e s'') (fun e' s''=>CX outer H s E e' s'') s'
theorem cell_has {sc:Scope} {n:Nat} {x:Str} (h:sc.names.lookup x=some .cell):∃ c,(cellsFrom n sc.names []).lookup x=some c:=by
  have q:=PySem.W.cellsFrom_some sc.names n [] (.inl h)
  exact Option.isSome_iff_exists.mp q
theorem inv_start {CX:CXT} {P:Program} {w:World} {K:PySem.W.Frag} {mg:Str→Option Value} {base:Heap} {N ps:List Str} {qual:Str} {scope:Scope} {f:Addr} {cd:Value} {A:Around} {outer:List Env} {s s1:Shared} {H:Hp} {E:XK} {us:List Value} {vs:List V}
    (S:FnScope N ps scope) (hd:A.handled=none) (e0:Env0 P w K mg base A outer s H) (hl:vs.length=ps.length) (r:Vals vs us)
    (x:InCallC s s.heap.objs.size (bindL (envOfC qual scope s.heap.objs.size f cd).kindOf (ps.zip us) fun _=>none) (cellsFrom (s.heap.objs.size + 1) scope.names []) (bindC (envOfC qual scope s.heap.objs.size f cd).kindOf (ps.zip us) fun _=>none) s1) :
    Inv (cxOf CX P w K mg base N qual scope f cd A outer s H E) [] (start N vs) H s1:=by
  have hpl:ps.length≤N.length:=by have:=congrArg List.length S.pre; rw [List.length_take] at this; omega
  obtain ⟨h1,tk,rfl,hk⟩:=x.done
  have noA:∀ b:Addr,b ∉ (cxOf CX P w K mg base N qual scope f cd A outer s H E).ex:=fun b z=>absurd (show b∈([]:List Addr) from z) (by simp)
  refine ⟨⟨e0.mod,S.kind,rfl,rfl,Nat.le_refl _,fun y z c h1 h2=>?_,fun y hy=>?_,fun y c _ h=>?_,fun _=>hd,Around.frames_deeper e0.frames,.inr ⟨rfl,rfl⟩,fun b z=>absurd z (noA b),e0.bs,e0.bsz,fun b _ _=>noA b,fun b z=>absurd z (noA b),e0.funs,e0.frf⟩,
    rfl,e0.bare,Un.kept hk,⟨_,x.toInCall.ns,fun i y v h1 h2 h3=>?_⟩,fun y c h=>⟨_,x.cell y c h⟩,e0.hok.fresh (Nat.le_refl _),fun y c h=>?_,fun p hp=>absurd (show p∈([]:List (Addr × Obj)) from hp) (by simp),e0.hok.kept hk,?_⟩
  · exact name_of_addr x.apart (PySem.mem_of_lookup h1) (PySem.mem_of_lookup h2)
  · have hy:scope.names.lookup y=some .cell∨scope.names.lookup y=some .free:=hy
    rcases hy with hy | hy
    · exact cell_has hy
    · exact absurd rfl (S.nofree _ (PySem.mem_of_lookup hy))
  · exact Nat.le_of_lt (x.above y c (PySem.mem_of_lookup h))
  · have hi:i < vs.length:=by
      unfold start at h2
      by_cases hi:i < vs.length
      · exact hi
      · rw [List.getElem?_append_right (by simpa using hi)] at h2
        rw [List.getElem?_replicate] at h2
        split at h2 <;> cases h2
    have ha:vs[i]?=some v:=by
      unfold start at h2
      rw [List.getElem?_append_left (by simpa using hi),List.getElem?_map] at h2
      cases e:vs[i]? with
      | none=>rw [e] at h2; cases h2
      | some a=>rw [e] at h2; cases h2; rfl
    obtain ⟨u,hu,rv⟩:=r.get ha
    have hp:ps[i]?=some y:=by
      rw [← S.pre,List.getElem?_take_of_lt (by omega)]; exact h1
    have ndP:ps.Nodup:=by rw [← S.pre]; exact S.nd.sublist (List.take_sublist _ _)
    refine ⟨u,rv,?_⟩
    rcases S.par y (List.mem_of_getElem? hp) with k | k
    · exact .inl ⟨k,bindL_get ndP hp hu k⟩
    · obtain ⟨c,e⟩:=cell_has (n:=s.heap.objs.size + 1) k
      refine .inr ⟨.inl k,c,e,?_⟩
      have q:=x.cell y c e
      rw [bindC_get ndP hp hu (by show scope.names.lookup y≠_; rw [k]; decide)] at q
      exact q
  · exact e0.hok.fresh (Nat.le_of_lt (x.above y c (PySem.mem_of_lookup h)))
  · unfold start
    show _=N.length
    rw [List.length_append,List.length_map,List.length_replicate]
    omega
theorem fn_of {CX:CXT} {P:Program} {w:World} {K:PySem.W.Frag} {mg:Str→Option Value} {base:Heap} {k:Nat} {f:Addr} {name qual:Str} {params:Arguments} {body:List Stmt} {scope:Scope} {dV kV doc pm cdv ct oc:Value} {an od:Option Addr}
    {osl:Array (Option Value)} {N ps:List Str} {sp:Sp} (lk:K.lookup f=some ⟨oc,od,.func (PySem.W.fnOf name qual params body scope dV kV doc pm an cdv ct),osl⟩) (hcd:PySem.W.codeIn K cdv qual=true) (S:FnScope N ps scope)
    (len:∀ vs H Q E,sp vs H Q E→vs.length=ps.length)
    (hbody:∀ (A:Around) (outer:List Env) (s:Shared) (H:Hp) (vs:List V) (Q:VK) (E:XK),Room k (A.deeper (envOfC qual scope s.heap.objs.size f cdv))→sp vs H Q E →
      ∃ t,PSs (cxOf CX P w K mg base N qual scope f cdv A outer s H E) body t∧t { nx:=fun _ H'=>Q .non H',rt:=Q } (start N vs) H) :
    FnOk P w K mg base CX (k + 1) f (PySem.W.fnOf name qual params body scope dV kV doc pm an cdv ct) ps sp:=by
  refine ⟨len,fun A outer s H args us vs Q E hr e0 hb r hsp=>?_⟩
  have hl:=len _ _ _ _ hsp
  have KX:K.In s.heap:=e0.mod.kin.keeps fun b o e=>(e0.bs b o e).1
  have lim:s.heap.NoLimit:=e0.mod.nolimit.keeps fun b o e=>(e0.bs b o e).1
  have hkind:∀ y∈ps.zip us,scope.names.lookup y.1=some .local∨(scope.names.lookup y.1=some .cell∧((cellsFrom (s.heap.objs.size + 1) scope.names []).lookup y.1).isSome=true):=fun ⟨n,v⟩ hy=>by
    rcases S.par n (List.of_mem_zip hy).1 with q | q
    · exact .inl q
    · exact .inr ⟨q,PySem.W.cellsFrom_some _ _ _ (.inl q)⟩
  refine codeAny_call_function hr.depth (KX _ _ lk) rfl S.co S.gen rfl (PySem.W.codeRec_of KX hcd) (hb _ _ _ _ ?_)
  refine wpAny_newFunctionEnv_cells S.kind hkind fun env he s1 x=>?_
  subst he
  refine ⟨lim.keeps x.toInCall.keep,codeAny_func ?_⟩
  obtain ⟨t,ht,hq⟩:=hbody A outer s H vs Q E (hr.deeper _) hsp
  have I:Inv (cxOf CX P w K mg base N qual scope f cdv A outer s H E) [] (start N vs) H s1:=inv_start S hr.hd e0 hl r x
  refine wpAny_mono (ht [] s1 (start N vs) H _ I hq) (fun fl s' hs=>?_) fun e s' hs=>hs
  have fin:∀ {σ':St} {H':Hp} {v:V} {u:Value},Inv (cxOf CX P w K mg base N qual scope f cdv A outer s H E) [] σ' H' s'→RelV v u→Q v H'→CE outer P w H s Q u s' :=
    fun {σ' H' v u} J rv q=>⟨v,H',J.os,J.bare,J.base,J.hok,rv,q⟩
  cases fl with
  | ret u =>
    obtain ⟨v,σ',H',J,rv,q⟩:=hs
    exact fin J rv q
  | next =>
    obtain ⟨σ',H',J,q⟩:=hs
    exact fin (v:=V.non) (u:=Value.none) J rfl q
  | brk =>
    obtain ⟨_,_,_,q⟩:=hs
    exact False.elim q
  | cont =>
    obtain ⟨_,_,_,q⟩:=hs
    exact False.elim q
end L2
namespace L2
open PySem PySem.Spec PyProof.Rows
section
variable {X:Cx} {x:Str} {p pos:Pos} {e:Expr} {es:List Expr} {t:TA} {id T:String} {r:List V→Hp→VK→Prop}
def tCB (r:List V→Hp→VK→Prop) (t:TA):TE:=fun σ H Q=>t σ H fun vs H1=>r vs H1 Q
theorem pe_callB (hc:CallR X (.builtin id) r) (hg:Gl X x) (hm:X.mg x=none) (hv:bootBuiltins x=some (.builtin id)) (ha:PA X (e :: es) t) (hn:x ≠ "__name__" := by decide) (hdb:(x == ("__debug__" : Str))=false:=by decide)
    (he:starEach (e :: es) X.env=(false,eval e X.env) :: starEach es X.env:=by rfl) (hpl:(backTo pos (starEach es X.env)).any (·.1)=false:=by rfl):PE X (.Call (.Name x p) (e :: es) [] pos) (tCB r t):=by
  intro pins s σ H Q I h
  refine wpAny_Call_Name_kw (ld_blt I hg hm hv ?_ hn hdb)
  exact PyProof.Rows.callWith_builtin1 (thn (ha pos pins s σ H _ I h) fun us s1 ⟨vs,H1,I1,r1,q1⟩=>hc pins s1 σ H1 vs us Q I1 r1 q1) he hpl
theorem pe_callTy (hc:CallR X (.type T) r) (hg:Gl X x) (hm:X.mg x=none) (hv:bootBuiltins x=some (.type T)) (ha:PA X (e :: es) t) (hn:x ≠ "__name__" := by decide) (hdb:(x == ("__debug__" : Str))=false:=by decide)
    (he:starEach (e :: es) X.env=(false,eval e X.env) :: starEach es X.env:=by rfl) (hpl:(backTo pos (starEach es X.env)).any (·.1)=false:=by rfl):PE X (.Call (.Name x p) (e :: es) [] pos) (tCB r t):=by
  intro pins s σ H Q I h
  refine wpAny_Call_Name_kw (ld_blt I hg hm hv ?_ hn hdb)
  exact PyProof.Rows.callWith_type1 (thn (ha pos pins s σ H _ I h) fun us s1 ⟨vs,H1,I1,r1,q1⟩=>hc pins s1 σ H1 vs us Q I1 r1 q1) he hpl
end
end L2
namespace HT
open PySem PyProof.Rows
section
open PySem.SeqAt
open PySem.AutoSeq1 (wpAny_loadPart')
open PySem.MeetsSeq PySem.MeetsSeq2 PySem.MeetsSeq3
end
section
variable {prog:Program} {w:World} {A:Around} {E:Value→Shared→Prop} {s:Shared}
theorem cat_tup {t b:Addr} {vs ws:List Value} {Q:Value→Shared→Prop} (ht:IsTup s.heap t vs.toArray) (hb:IsTup s.heap b ws.toArray) (hv:vs≠[])
    (h1:ws=[]→Q (.ref t) s) (h2:ws≠[]→Q (.ref s.heap.objs.size) { s with heap:=s.heap.push { cls:=.type "tuple",data:=.seq (vs ++ ws).toArray } })
    (hsz:vs.length + ws.length≤sizeLine):wpAny (model prog w) A (binaryOp .Add (.ref t) (.ref b)) Q E s:=by
  obtain ⟨⟨cls,dd,data,sl⟩,ho,hc,n,hd⟩:=id ht
  obtain ⟨⟨cls2,dd2,data2,sl2⟩,ho2,hc2,n2,hd2⟩:=id hb
  simp only at hc hd hc2 hd2
  subst hc hd hc2 hd2
  have e:vs.toArray ++ ws.toArray=(vs ++ ws).toArray:=by simp
  by_cases hw:ws=[]
  · exact concat_meets ⟨_,ho,rfl⟩ ⟨_,ho2,rfl⟩ noFill_tuple_add seq_tuple_add PySem.F.slot_tuple_add PySem.F.entry_tuple_add (PySem.F.args_tuple_add_2 _ _)
      (tuple_addW1 t b vs.toArray ws.toArray n n2 dd dd2 sl sl2 (by simpa using hv) (by simp [hw])) ⟨ho,ho2,h1 hw⟩
  · refine concat_meets ⟨_,ho,rfl⟩ ⟨_,ho2,rfl⟩ noFill_tuple_add seq_tuple_add PySem.F.slot_tuple_add PySem.F.entry_tuple_add (PySem.F.args_tuple_add_2 _ _)
      (tuple_addW2 t b vs.toArray ws.toArray n n2 dd dd2 sl sl2 (by simpa using hv) (by simpa using hw) (by rw [List.size_toArray,List.size_toArray]; exact hsz)) ⟨ho,ho2,?_⟩
    rw [e]
    exact h2 hw
def sIx (n d:Nat):Option Int→Nat
  | none=>d
  | some v=>if v < 0 then (v + (n:Int)).toNat else min v.toNat n
theorem sIx_none (n d:Nat):sIx n d none=d:=rfl
theorem sIx_nat (n d k:Nat):sIx n d (some (k:Int))=min k n:=by
  show (if (k:Int) < 0 then ((k:Int) + (n:Int)).toNat else min (k:Int).toNat n)=min k n
  rw [if_neg (by omega),Int.toNat_natCast]
theorem sIx_le (n d:Nat) (hd:d≤n) (o:Option Int):sIx n d o≤n:=by
  cases o with
  | none=>exact hd
  | some v =>
    show (if v < 0 then (v + (n:Int)).toNat else min v.toNat n)≤n
    by_cases hv:v < 0
    · rw [if_pos hv]; omega
    · rw [if_neg hv]; exact Nat.min_le_right _ _
theorem clip_eq (v:Int) (n d:Nat):(if v < 0 then max (v + (n:Int)) 0 else min v (n:Int))=((sIx n d (some v):Nat):Int):=by
  show (if v < 0 then max (v + (n:Int)) 0 else min v (n:Int))=(((if v < 0 then (v + (n:Int)).toNat else min v.toNat n):Nat):Int)
  by_cases hv:v < 0
  · simp only [if_pos hv]; omega
  · simp only [if_neg hv]; omega
theorem adjust_gen (lo hi:Option Int) (n:Nat):Builtin.Slice.sliceAdjust lo hi 1 (n:Int)=(((sIx n 0 lo:Nat):Int),((sIx n n hi:Nat):Int)):=by
  have h1:¬ ((1:Int) < 0):=by omega
  unfold Builtin.Slice.sliceAdjust
  simp only [h1,if_false]
  refine Prod.ext ?_ ?_
  · cases lo with
    | none=>rfl
    | some v=>exact clip_eq v n 0
  · cases hi with
    | none=>rfl
    | some v=>exact clip_eq v n n
theorem places_gen (i j:Nat):Builtin.Slice.slicePlaces (i:Int) (j:Int) 1=j - i:=by
  unfold Builtin.Slice.slicePlaces
  have h1:(1:Int) > 0:=by omega
  simp only [h1,if_true,Int.ediv_one]
  split <;> omega
theorem slicePart_ {v:Value} {o:Option Int} {Q:Option Int→Shared→Prop} (p:IsPart v o) (h:Q o s):wpAny (model prog w) A (Builtin.Slice.slicePartIndex v) Q E s:=by
  cases p with
  | none=>exact slicePart_none h
  | int i t=>exact slicePart_int h
theorem sliceApplied_gen {sl:Addr} {vl vu:Value} {lo hi:Option Int} {n:Nat} {Q:Int × Int × Nat→Shared→Prop} (hs:s.heap.IsSliceOf sl vl vu .none) (pl:IsPart vl lo) (pu:IsPart vu hi)
    (h:Q (((sIx n 0 lo:Nat):Int),1,sIx n n hi - sIx n 0 lo) s):wpAny (model prog w) A (Builtin.Slice.sliceApplied (.ref sl) (pure (n:Int))) Q E s:=by
  obtain ⟨os,hos,hcs,hds⟩:=id hs
  unfold Builtin.Slice.sliceApplied Builtin.Slice.sliceFields
  refine wpAny_bind (wpAny_bind (wpAny_field hos hds (x:=vl) rfl (wpAny_bind (wpAny_field hos hds (x:=vu) rfl (wpAny_bind (wpAny_field hos hds (x:=.none) rfl (wpAny_pure ?_)))))))
  refine wpAny_bind (slicePart_none ?_)
  show wpAny _ _ (if ((1:Int) == 0)=true then _ else _) _ _ s
  rw [if_neg (by decide)]
  refine wpAny_bind (slicePart_ pl (wpAny_bind (slicePart_ pu (wpAny_bind (wpAny_pure ?_)))))
  show wpAny _ _ (match Builtin.Slice.sliceAdjust lo hi 1 (n:Int) with | (lo,hi)=>pure (lo,(1:Int),Builtin.Slice.slicePlaces lo hi 1)) _ _ s
  rw [adjust_gen lo hi n]
  show wpAny _ _ (pure (((sIx n 0 lo:Nat):Int),(1:Int),Builtin.Slice.slicePlaces ((sIx n 0 lo:Nat):Int) ((sIx n n hi:Nat):Int) 1)) _ _ s
  rw [places_gen]
  exact wpAny_pure h
theorem pick_gen (xs:Array Value) (i k:Nat):((List.range k).filterMap fun (m:Nat)=>xs[((i:Int) + (m:Int) * 1).toNat]?).toArray=((xs.toList.drop i).take k).toArray:=by
  have e:(fun (m:Nat)=>xs[((i:Int) + (m:Int) * 1).toNat]?)=fun m=>xs[i + m]?:=by
    funext m
    have:((i:Int) + (m:Int) * 1).toNat=i + m:=by omega
    rw [this]
  rw [e]
  have:=pick_run xs i k
  rw [List.filterMap_map] at this
  have e2:((fun x=>xs[x]?) ∘ fun x=>i + x)=fun m=>xs[i + m]?:=rfl
  rw [e2] at this
  rw [this]
theorem getItem_tuple_cut {t sl:Addr} {items:Array Value} {vl vu:Value} {lo hi:Option Int} {Q:Value→Shared→Prop} (ht:IsTup s.heap t items) (hs:s.heap.IsSliceOf sl vl vu .none) (pl:IsPart vl lo) (pu:IsPart vu hi)
    (hw:¬ (sIx items.size 0 lo=0∧sIx items.size items.size hi=items.size))
    (h:Q (.ref s.heap.objs.size) { s with heap:=s.heap.push { cls:=.type "tuple",data:=.seq ((items.toList.drop (sIx items.size 0 lo)).take (sIx items.size items.size hi - sIx items.size 0 lo)).toArray } })
    (hsz:items.size≤sizeLine):wpAny (model prog w) A (getItem (.ref t) (.ref sl)) Q E s:=by
  have htake:sizeOk (.seq ((items.toList.drop (sIx items.size 0 lo)).take (sIx items.size items.size hi - sIx items.size 0 lo)).toArray):=by
    show ((items.toList.drop (sIx items.size 0 lo)).take (sIx items.size items.size hi - sIx items.size 0 lo)).toArray.size≤sizeLine
    rw [List.size_toArray,List.length_take,List.length_drop,Array.length_toList]
    omega
  have hj:sIx items.size items.size hi≤items.size:=sIx_le _ _ (Nat.le_refl _) hi
  obtain ⟨os,hos,hcs,hds⟩:=id hs
  have hTs:s.TypeIs (.ref sl) "slice" := ⟨os,hos,hcs⟩
  unfold getItem
  try with_reducible refine wpAny_holding ?_
  first | refine wpAny_bind (wpAny_pure ?_) | skip
  refine wpAny_bind (wpAny_sequenceKey ht.typeIs (by decide) ?_)
  refine wpAny_bind (wpAny_callSpecial?_slot (name:=Str.ofString "__getitem__") ht.typeIs PyProof.Rows.slot_tuple_getitem
    (wpAny_call_entry PyProof.Rows.slot_tuple_getitem ht.typeIs entry_tuple_getitem ?_ (args_tuple_getitem _ _)))
  show wpAny _ _ (Builtin.Tuple.tupleItemsOf (.ref t) >>= _) _ _ s
  refine wpAny_bind (tupleItemsOf_ ht ?_)
  refine wpAny_bind (wpAny_typeOf hTs ?_)
  rw [if_pos (by decide)]
  refine wpAny_bind (sliceApplied_gen hs pl pu ?_)
  have hno:¬ ((((sIx items.size 0 lo:Nat):Int) == 0 && (1:Int) == 1 && (sIx items.size items.size hi - sIx items.size 0 lo) == items.size)=true):=by
    intro q
    rw [Bool.and_eq_true,Bool.and_eq_true] at q
    have q1:((sIx items.size 0 lo:Nat):Int)=0:=eq_of_beq q.1.1
    have q2:sIx items.size items.size hi - sIx items.size 0 lo=items.size:=eq_of_beq q.2
    exact hw ⟨by omega,by omega⟩
  show wpAny _ _ (if (((sIx items.size 0 lo:Nat):Int) == 0 && (1:Int) == 1 && (sIx items.size items.size hi - sIx items.size 0 lo) == items.size)=true then _ else _) _ _ s
  rw [if_neg hno,pick_gen]
  first
    | exact wpAny_bind (m:=Builtin.Tuple.tupleExact _) (wpAny_newObj_type (wpAny_pure ⟨_,rfl,wpAny_pure h⟩) htake)
    | exact wpAny_bind (m:=Builtin.Tuple.tupleExact _) (wpAny_newObj_type (wpAny_bind (wpAny_pure (wpAny_pure ⟨_,rfl,wpAny_pure h⟩))) htake)
    | exact wpAny_bind (wpAny_bind (m:=Builtin.Tuple.tupleExact _) (wpAny_newObj_type (wpAny_pure (wpAny_pure ⟨_,rfl,wpAny_pure h⟩)) htake))
    | exact wpAny_bind (wpAny_bind (m:=Builtin.Tuple.tupleExact _) (wpAny_newObj_type (wpAny_pure ⟨_,rfl,wpAny_pure h⟩) htake))
end
end HT
namespace L2
open PySem PySem.Spec PyProof.Rows
abbrev TO:=St→Hp→(Option Int→Hp→Prop)→Prop
def PO (X:Cx) (e:Option Expr) (t:TO):Prop :=
  ∀ (pins:List (Addr × Obj)) (s:Shared) (σ:St) (H:Hp) (Q:Option Int→Hp→Prop),Inv X pins σ H s→t σ H Q →
    wpAny (model X.prog X.w) X.A (evalPart e X.env) (fun u s'=>∃ o H',Inv X pins σ H' s'∧IsPart u o∧Q o H') X.xe s
def tNoPart:TO:=fun _ H Q=>Q none H
def tPart (t:TE):TO:=fun σ H Q=>t σ H fun x H1=>∃ i,x=.int i∧Q (some i) H1
section
variable {X:Cx} {e:Expr} {te:TE} {lo hi:Option Expr} {tl th:TO} {pos p2:Pos}
theorem po_none:PO X none tNoPart:=by
  intro pins s σ H Q I h
  rw [evalPart_none]
  exact wpAny_pure ⟨none,H,I,.none,h⟩
theorem po_some (h:PE X e te):PO X (some e) (tPart te):=by
  intro pins s σ H Q I hw
  rw [evalPart_some]
  refine thn (h pins s σ H _ I hw) fun u s1 ⟨x,H1,I1,r1,q1⟩=>?_
  obtain ⟨i,rfl,q⟩:=q1
  obtain ⟨t,rfl⟩:=r1
  exact ⟨some i,H1,I1,.int i t,q⟩
def SlR (X:Cx) (r:V→Option Int→Option Int→Hp→VK→Prop):Prop :=
  ∀ (pins:List (Addr × Obj)) (s:Shared) (σ:St) (H:Hp) (x:V) (v vl vu:Value) (lo hi:Option Int) (sl:Addr) (Q:VK),Inv X pins σ H s→RelV x v→s.heap.IsSliceOf sl vl vu .none→IsPart vl lo→IsPart vu hi→r x lo hi H Q →
    ∃ T id,typeLookup (.type T) "__getitem__" = pure (some (.builtin id))∧s.TypeIs v T∧wpAny (model X.prog X.w) X.A (getItem v (.ref sl)) (EP X pins σ Q) X.xe s
def tSl (r:V→Option Int→Option Int→Hp→VK→Prop) (te:TE) (tl th:TO):TE:=fun σ H Q=>te σ H fun x H1=>tl σ H1 fun l H2=>th σ H2 fun u H3=>r x l u H3 Q
theorem pe_slice {r:V→Option Int→Option Int→Hp→VK→Prop} (hr:SlR X r) (he:PE X e te) (hl:PO X lo tl) (hu:PO X hi th):PE X (.Subscript e (.Slice lo hi none p2) pos) (tSl r te tl th):=by
  intro pins s σ H Q I h
  refine Subscript_ (thn (he pins s σ H _ I h) fun v s1 ⟨x,H1,I1,r1,q1⟩=>?_)
  refine wpAny_Slice (thn (hl pins s1 σ H1 _ I1 q1) fun vl s2 ⟨l,H2,I2,pl,q2⟩=>thn (hu pins s2 σ H2 _ I2 q2) fun vu s3 ⟨u,H3,I3,pu,q3⟩=>?_)
  rw [evalPart_none]
  refine wpAny_pure ?_
  have I4:Inv X pins σ H3 { s3 with heap:=s3.heap.push { cls:=.type "slice",data:=.fields #[vl,vu,.none] } }:=I3.kept (t':=s3.toks) fun b ob q=>Heap.get?_push_of_some _ q
  obtain ⟨T,id,hT,ht,hg⟩:=hr pins { s3 with heap:=s3.heap.push { cls:=.type "slice",data:=.fields #[vl,vu,.none] } } σ H3 x v vl vu l u s3.heap.objs.size Q I4 r1 (Heap.IsSliceOf.new ..) pl pu q3
  show wpAny (model X.prog X.w) X.A (subscriptTail e (.Slice lo hi none p2) v (.ref s3.heap.objs.size)) (EP X pins σ Q) X.xe { s3 with heap:=s3.heap.push { cls:=.type "slice",data:=.fields #[vl,vu,.none] } }
  exact tail_any (ops:=[.ref s3.heap.objs.size,v]) ht hT hg (by with_unfolding_all rfl)
def cutV (xs:List V) (lo hi:Option Int):List V:=(xs.drop (HT.sIx xs.length 0 lo)).take (HT.sIx xs.length xs.length hi - HT.sIx xs.length 0 lo)
theorem cutV_length (xs:List V) (lo hi:Option Int):(cutV xs lo hi).length≤xs.length:=by
  unfold cutV
  rw [List.length_take,List.length_drop]
  omega
def rSlT (K:PySem.W.Frag):V→Option Int→Option Int→Hp→VK→Prop:=fun x lo hi H Q=>∃ a xs,x=.ref a∧SqT K H a xs ∧
  ¬ (HT.sIx xs.length 0 lo=0∧HT.sIx xs.length xs.length hi=xs.length)∧∀ p,H p=none→Q (.ref p) (upd H p (.tup (cutV xs lo hi)))
theorem sl_tup:SlR X (rSlT X.K):=by
  intro pins s σ H x v vl vu lo hi sl Q I rx hs pl pu h
  obtain ⟨a,xs,rfl,hx,hw,q⟩:=h
  cases rx
  obtain ⟨its,r,ht,hz⟩:=I.tuple hx
  have hlen:its.toArray.size=xs.length:=by rw [List.size_toArray]; exact r.length.symm
  refine ⟨"tuple",_,PyProof.Rows.slot_tuple_getitem.lookup,ht.typeIs,?_⟩
  refine HT.getItem_tuple_cut ht hs pl pu (by rw [hlen]; exact hw) ?_ (by rw [hlen]; exact hz)
  rw [hlen]
  refine ⟨.ref s.heap.objs.size,_,I.laid (t':=s.toks) (o:=.tup (cutV xs lo hi)) (fun b ob q=>Heap.get?_push_of_some _ q) (Nat.le_refl _) ?_,rfl,q _ (I.hok.fresh (Nat.le_refl _))⟩
  exact ⟨Nat.le_trans (cutV_length xs lo hi) hz,_,(r.drop (HT.sIx xs.length 0 lo)).take (HT.sIx xs.length xs.length hi - HT.sIx xs.length 0 lo),IsTup.new _ _⟩
def rCatT (K:PySem.W.Frag):R2:=fun x y H Q=>∃ a b xs ys,x=.ref a∧y=.ref b∧SqT K H a xs∧SqT K H b ys∧xs≠[]∧xs.length + ys.length≤sizeLine ∧
  (ys=[]→Q (.ref a) H)∧(ys≠[]→∀ p,H p=none→Q (.ref p) (upd H p (.tup (xs ++ ys))))
theorem Vals.nil_iff {xs:List V} {us:List Value} (r:Vals xs us):us=[]↔xs=[]:=by
  cases r with
  | nil=>simp
  | cons _ _=>simp
theorem op_catT:OpR X (binaryOp .Add) (rCatT X.K):=by
  intro pins s σ H x y v u Q I rx ry h
  obtain ⟨a,b,xs,ys,rfl,rfl,ha,hb,hx,hz,q1,q2⟩:=h
  cases rx
  cases ry
  obtain ⟨its,r1,p1,_⟩:=I.tuple ha
  obtain ⟨its2,r2,p2,_⟩:=I.tuple hb
  refine HT.cat_tup p1 p2 (fun z=>hx (r1.nil_iff.mp z)) (fun z=>⟨.ref a,H,I,rfl,q1 (r2.nil_iff.mp z)⟩) (fun z=>?_) (by rw [← r1.length,← r2.length]; exact hz)
  refine ⟨.ref s.heap.objs.size,_,I.laid (t':=s.toks) (o:=.tup (xs ++ ys)) (fun b ob q=>Heap.get?_push_of_some _ q) (Nat.le_refl _) ?_,rfl,q2 (fun w=>z (r2.nil_iff.mpr w)) _ (I.hok.fresh (Nat.le_refl _))⟩
  exact ⟨by rw [List.length_append]; exact hz,_,r1.append r2,IsTup.new _ _⟩
end
end L2
namespace L2
open PySem PySem.Spec PyProof.Rows
def ixN (n:Nat) (i:Int):Option Nat:=if 0≤i then (if i < n then some i.toNat else none) else if -(n:Int)≤i then some (i + n).toNat else none
def atI {α:Type} (xs:List α) (i:Int):Option α:=(ixN xs.length i).bind fun j=>xs[j]?
theorem ixN_seq {n:Nat} {i:Int} {j:Nat} (h:ixN n i=some j):seqIndex? i n=some j∧j < n∧-(n:Int)≤i∧i < n:=by
  unfold ixN at h
  by_cases h0:0≤i
  · rw [if_pos h0] at h
    by_cases h1:i < n
    · rw [if_pos h1] at h
      have e:i.toNat=j:=Option.some.inj h
      exact ⟨by rw [seqIndex_of h0 h1,e],by omega,by omega,h1⟩
    · rw [if_neg h1] at h; cases h
  · rw [if_neg h0] at h
    by_cases h1:-(n:Int)≤i
    · rw [if_pos h1] at h
      have e:(i + n).toNat=j:=Option.some.inj h
      exact ⟨by rw [seqIndex_neg (by omega) h1,e],by omega,h1,by omega⟩
    · rw [if_neg h1] at h; cases h
theorem atI_get {α:Type} {xs:List α} {i:Int} {v:α} (h:atI xs i=some v):∃ j,seqIndex? i xs.length=some j∧xs[j]?=some v∧j < xs.length∧-(xs.length:Int)≤i∧i < xs.length:=by
  unfold atI at h
  cases e:ixN xs.length i with
  | none=>rw [e] at h; cases h
  | some j =>
    rw [e] at h
    obtain ⟨h1,h2,h3,h4⟩:=ixN_seq e
    exact ⟨j,h1,h,h2,h3,h4⟩
theorem atI_nat {α:Type} {xs:List α} {j:Nat} {v:α} (h:xs[j]?=some v):atI xs (j:Int)=some v:=by
  have hj:j < xs.length:=(List.getElem?_eq_some_iff.mp h).1
  have e:ixN xs.length (j:Int)=some j:=by
    unfold ixN
    rw [if_pos (by omega),if_pos (by omega)]; simp
  unfold atI; rw [e]; exact h
def PlainIx (b:Expr):Prop:=∀ o i,subscripted b false o i=operate [o,i] (getItem o i)
def IxR (X:Cx) (r:R2):Prop :=
  ∀ (value slice:Expr) (pins:List (Addr × Obj)) (s:Shared) (σ:St) (H:Hp) (x y:V) (v u:Value) (Q:VK),Inv X pins σ H s→RelV x v→RelV y u→r x y H Q →
    subscripted slice false v u=operate [v,u] (getItem v u)→wpAny (model X.prog X.w) X.A (subscriptTail value slice v u) (EP X pins σ Q) X.xe s
def MtR (X:Cx) (id:String) (r:V→List V→Hp→VK→Prop):Prop :=
  ∀ (pins:List (Addr × Obj)) (s:Shared) (σ:St) (H:Hp) (x:V) (xs:List V) (v:Value) (us:List Value) (Q:VK),Inv X pins σ H s→RelV x v→Vals xs us→r x xs H Q →
    wpAny (model X.prog X.w) X.A (call (.builtin id) (v :: us)) (EP X pins σ Q) X.xe s
section
variable {X:Cx} {a b:Expr} {ta tb:TE} {pos:Pos}
theorem pe_ix {r:R2} (hr:IxR X r) (ha:PE X a ta) (hb:PE X b tb) (hs:PlainIx b):PE X (.Subscript a b pos) (tOp r ta tb):=by
  intro pins s σ H Q I h
  exact Subscript_ (binT ha hb I h fun v u s2 x y H2 I2 rx ry q=>hr a b pins s2 σ H2 x y v u Q I2 rx ry q (hs _ _))
def rIxL (K:PySem.W.Frag):R2:=fun x y H Q=>∃ p xs i v,x=.ref p∧y=.int i∧SqL K H p xs∧atI xs i=some v∧Q v H
def rIxT (K:PySem.W.Frag):R2:=fun x y H Q=>∃ p xs i v,x=.ref p∧y=.int i∧SqT K H p xs∧atI xs i=some v∧Q v H
def rIxS:R2:=fun x y H Q=>∃ z i c,x=.str z∧y=.int i∧z.length≤sizeLine∧atI z.cps.toList i=some c∧Q (.str ⟨#[c]⟩) H
theorem ix_list:IxR X (rIxL X.K):=by
  intro value slice pins s σ H x y v u Q I rx ry h hs
  obtain ⟨p,xs,i,z,rfl,rfl,hq,he,q⟩:=h
  cases rx
  obtain ⟨t,rfl⟩:=ry
  obtain ⟨its,r,pl,hz⟩:=I.list hq
  obtain ⟨j,h1,h2,h3,h4,h5⟩:=atI_get he
  obtain ⟨w,ew,rw'⟩:=r.get h2
  have hl:=r.length
  have hn:=line63
  have fin:EP X pins σ Q w s:=⟨z,H,I,rw',q⟩
  by_cases h0:0≤i
  · have hj:i.toNat=j:=by
      rw [seqIndex_of h0 h5] at h1
      exact Option.some.inj h1
    exact item_listR pl.isList h0 (by omega) (by rw [hj]; simpa using ew) fin hs
  · have hj:(i + (its.toArray.size:Int)).toNat=j:=by
      rw [seqIndex_neg (by omega) h4] at h1
      rw [List.size_toArray,← hl]
      exact Option.some.inj h1
    exact subscriptTail_builtinR (x:=w) pl.isList.typeIs slot_list_getitem.lookup
      (wpAny_getItem_list_neg (Q:=fun r s'=>r=w∧EP X pins σ Q r s') pl.isList (by omega) (by rw [List.size_toArray] <;> omega) (by omega) (by rw [hj]; simpa using ew) ⟨rfl,fin⟩) hs
theorem ix_tup:IxR X (rIxT X.K):=by
  intro value slice pins s σ H x y v u Q I rx ry h hs
  obtain ⟨p,xs,i,z,rfl,rfl,hq,he,q⟩:=h
  cases rx
  obtain ⟨t,rfl⟩:=ry
  obtain ⟨its,r,pl,hz⟩:=I.tuple hq
  obtain ⟨j,h1,h2,h3,h4,h5⟩:=atI_get he
  obtain ⟨w,ew,rw'⟩:=r.get h2
  have hl:=r.length
  have hn:=line63
  have fin:EP X pins σ Q w s:=⟨z,H,I,rw',q⟩
  exact subscriptTail_builtinR (x:=w) pl.typeIs slot_tuple_getitem.lookup
    (getItem_tuple (j:=j) (Q:=fun r s'=>r=w∧EP X pins σ Q r s') pl (by omega) (by omega) (by rw [List.size_toArray,← hl]; exact h1) (by simpa using ew) ⟨rfl,fin⟩) hs
theorem ix_str:IxR X rIxS:=by
  intro value slice pins s σ H x y v u Q I rx ry h hs
  obtain ⟨z,i,c,rfl,rfl,hz,he,q⟩:=h
  obtain ⟨t,rfl⟩:=rx
  obtain ⟨t',rfl⟩:=ry
  obtain ⟨j,h1,h2,h3,h4,h5⟩:=atI_get he
  have hl:z.cps.toList.length=z.length:=by simp [Str.length]
  rw [hl] at h1 h4 h5
  have hn:=line63
  exact tail_any (typeIs_str s z t) slot_str_getitem.lookup (getItem_str (c:=c) (by
    have e1:decide (i < -(2 ^ 63:Int))=false:=decide_eq_false (by omega)
    have e2:decide (i ≥ 2 ^ 63)=false:=decide_eq_false (by omega)
    rw [e1,e2,Bool.or_false]) (by rw [h1]; simpa using h2) ⟨.str ⟨#[c]⟩,H,I.tok _,⟨_,rfl⟩,q⟩) hs
theorem mapSeq_set (its:List Value) (n j:Nat) (u:Value):Obj.mapSeq (·.setIfInBounds j u) { cls:=.type "list",data:=.seq its.toArray n }={ cls:=.type "list",data:=.seq (its.set j u).toArray n }:=by
  simp [Obj.mapSeq]
theorem Inv.lst {pins:List (Addr × Obj)} {σ:St} {H:Hp} {s:Shared} {p:Addr} {xs:List V} (I:Inv X pins σ H s) (h:H p=some (.lst xs)) :
    ∃ (its:List Value) (n:Nat),Vals xs its∧s.heap.get? p=some { cls:=.type "list",data:=.seq its.toArray n }∧xs.length≤sizeLine:=by
  obtain ⟨z,its,n,r,e⟩:=I.hok p _ h
  exact ⟨its,n,r,e,z⟩
theorem Inv.lstUpd {pins:List (Addr × Obj)} {σ:St} {H:Hp} {s:Shared} {p:Addr} {xs ys:List V} {its its':List Value} {n n':Nat} {f:Obj→Obj} (I:Inv X pins σ H s) (h:H p=some (.lst xs))
    (ho:s.heap.get? p=some { cls:=.type "list",data:=.seq its.toArray n }) (hf:f { cls:=.type "list",data:=.seq its.toArray n }={ cls:=.type "list",data:=.seq its'.toArray n' }) (r:Vals ys its') (hz:ys.length≤sizeLine) (t:Nat) :
    Inv X pins σ (upd H p (.lst ys)) { s with heap:=s.heap.update p f,toks:=t }:=by
  have e:(s.heap.update p f).get? p=some { cls:=.type "list",data:=.seq its'.toArray n' }:=by
    rw [Heap.get?_update_self f ho (by rw [hf] <;> rfl),hf]
  refine I.write (x:=p) (e:=p) (by rw [h]; trivial) (.inl rfl) (fun b u hb q=>(Heap.get?_update_other _ _ (Ne.symm hb)).trans q) ⟨_,e⟩ ?_
  exact ⟨hz,its',n',r,e⟩
def rSetL:V→V→V→Hp→(Hp→Prop)→Prop:=fun o i v H Q=>∃ p xs k j,o=.ref p∧i=.int k∧H p=some (.lst xs)∧ixN xs.length k=some j∧Q (upd H p (.lst (xs.set j v)))
theorem set_list:PSet X rSetL:=by
  intro pins s σ H o i v ov iv u Q I ro ri rv h
  obtain ⟨p,xs,k,j,rfl,rfl,hp,hj,q⟩:=h
  cases ro
  obtain ⟨t,rfl⟩:=ri
  obtain ⟨its,n,r,ho,hz⟩:=I.lst hp
  obtain ⟨h1,h2,h3,h4⟩:=ixN_seq hj
  have hl:=r.length
  have hn:=line63
  have I':Inv X pins σ (upd H p (.lst (xs.set j v))) { s with heap:=s.heap.update p (Obj.mapSeq (·.setIfInBounds j u)) } :=
    I.lstUpd hp ho (mapSeq_set its n j u) (r.set rv j) (by rw [List.length_set]; exact hz) s.toks
  by_cases h0:0≤k
  · have hk:k.toNat=j:=by
      rw [seqIndex_of h0 h4] at h1
      exact Option.some.inj h1
    exact PySem.W.ki_setAt ho h0 (by omega) (by rw [List.size_toArray,← hl]; exact h4) (by rw [hk]; exact ⟨_,I',q⟩)
  · have hk:(k + (its.toArray.size:Int)).toNat=j:=by
      rw [seqIndex_neg (by omega) h3] at h1
      rw [List.size_toArray,← hl]
      exact Option.some.inj h1
    exact PySem.W.ki_setBack ho (by omega) (by rw [List.size_toArray,← hl]; exact h3) (by omega) (by rw [hk]; exact ⟨_,I',q⟩)
theorem slice_bounds (lo hi:Option Int) (n:Nat):(sliceBounds lo hi none n).1=((HT.sIx n 0 lo:Nat):Int)∧(sliceBounds lo hi none n).2.1=((HT.sIx n n hi:Nat):Int)∧(sliceBounds lo hi none n).2.2=1:=by
  refine ⟨?_,?_,rfl⟩
  · cases lo with
    | none=>simp [sliceBounds,HT.sIx]
    | some i =>
      simp only [sliceBounds,HT.sIx,Option.getD_none,show (1:Int) > 0 by decide,if_true]
      by_cases h:i < 0
      · simp only [h,if_true] <;> omega
      · simp only [h,if_false] <;> omega
  · cases hi with
    | none=>simp [sliceBounds,HT.sIx]
    | some i =>
      simp only [sliceBounds,HT.sIx,Option.getD_none,show (1:Int) > 0 by decide,if_true]
      by_cases h:i < 0
      · simp only [h,if_true] <;> omega
      · simp only [h,if_false] <;> omega
theorem slicePick_cut (its:List Value) (lo hi:Option Int):slicePick its.toArray lo hi none=((its.drop (HT.sIx its.length 0 lo)).take (HT.sIx its.length its.length hi - HT.sIx its.length 0 lo)).toArray:=by
  obtain ⟨h1,h2,h3⟩:=slice_bounds lo hi its.toArray.size
  unfold slicePick
  rw [h1,h2,h3]
  simp only [sliceRange_one,pick_run,List.size_toArray] <;> rfl
def rSlL (K:PySem.W.Frag):V→Option Int→Option Int→Hp→VK→Prop:=fun x lo hi H Q=>∃ a xs,x=.ref a∧SqL K H a xs∧∀ p,H p=none→Q (.ref p) (upd H p (.lst (cutV xs lo hi)))
theorem sl_list:SlR X (rSlL X.K):=by
  intro pins s σ H x v vl vu lo hi sl Q I rx hs pl pu h
  obtain ⟨a,xs,rfl,hx,q⟩:=h
  cases rx
  obtain ⟨its,r,ht,hz⟩:=I.list hx
  have hlen:=r.length
  refine ⟨"list",_,slot_list_getitem.lookup,ht.isList.typeIs,?_⟩
  refine wpAny_getItem_list_slice ht.isList hs pl pu .none (by simp) ?_ (by rw [List.size_toArray] <;> omega)
  rw [slicePick_cut,← hlen]
  refine ⟨.ref s.heap.objs.size,_,I.laid (t':=s.toks) (o:=.lst (cutV xs lo hi)) (fun b ob q=>Heap.get?_push_of_some _ q) (Nat.le_refl _) ?_,rfl,q _ (I.hok.fresh (Nat.le_refl _))⟩
  exact ⟨Nat.le_trans (cutV_length xs lo hi) hz,_,0,(r.drop (HT.sIx xs.length 0 lo)).take (HT.sIx xs.length xs.length hi - HT.sIx xs.length 0 lo),Heap.get?_push_size _ rfl⟩
def flatV:V→Bool
  | .non=>true
  | .bl _=>true
  | .int _=>true
  | .str _=>true
  | _=>false
def eqV:V→V→Bool
  | .non,.non=>true
  | .bl a,.bl b=>a == b
  | .bl a,.int b=>(if a then 1 else 0) == b
  | .int a,.bl b=>a == (if b then 1 else 0)
  | .int a,.int b=>a == b
  | .str a,.str b=>a == b
  | _,_=>false
theorem eqAt_V {A:Around} {s:Shared} {y x:V} {u v:Value} (ry:RelV y u) (rx:RelV x v) (fy:flatV y=true) (fx:flatV x=true):SeqAt.EqAt A s u v (eqV y x):=by
  cases y with
  | non =>
    cases ry
    cases x with
    | non=>cases rx; exact SeqAt.EqAt.same _
    | bl b=>cases rx; exact SeqAt.EqAt.none_bool b
    | int b=>obtain ⟨t,rfl⟩:=rx; exact SeqAt.EqAt.none_int b t
    | str b=>obtain ⟨t,rfl⟩:=rx; exact SeqAt.EqAt.none_str b t
    | _=>exact absurd (show false=true from fx) Bool.false_ne_true
  | bl a =>
    cases ry
    cases x with
    | non=>cases rx; exact SeqAt.EqAt.bool_none a
    | bl b=>cases rx; exact SeqAt.EqAt.bool_bool a b
    | int b=>obtain ⟨t,rfl⟩:=rx; exact SeqAt.EqAt.bool_int a b t
    | str b=>obtain ⟨t,rfl⟩:=rx; exact SeqAt.EqAt.bool_str a b t
    | _=>exact absurd (show false=true from fx) Bool.false_ne_true
  | int a =>
    obtain ⟨t',rfl⟩:=ry
    cases x with
    | non=>cases rx; exact SeqAt.EqAt.int_none a t'
    | bl b=>cases rx; exact SeqAt.EqAt.int_bool a t' b
    | int b=>obtain ⟨t,rfl⟩:=rx; exact SeqAt.EqAt.int_int a t' b t
    | str b=>obtain ⟨t,rfl⟩:=rx; exact SeqAt.EqAt.int_str a t' b t
    | _=>exact absurd (show false=true from fx) Bool.false_ne_true
  | str a =>
    obtain ⟨t',rfl⟩:=ry
    cases x with
    | non=>cases rx; exact SeqAt.EqAt.str_none a t'
    | bl b=>cases rx; exact SeqAt.EqAt.str_bool a t' b
    | int b=>obtain ⟨t,rfl⟩:=rx; exact SeqAt.EqAt.str_int a t' b t
    | str b=>obtain ⟨t,rfl⟩:=rx; exact SeqAt.EqAt.str_str a t' b t
    | _=>exact absurd (show false=true from fx) Bool.false_ne_true
  | _=>exact absurd (show false=true from fy) Bool.false_ne_true
def eqU (x:V) (u:Value):Bool:=match u with
  | .none=>eqV .non x
  | .bool b=>eqV (.bl b) x
  | .int i _=>eqV (.int i) x
  | .str z _=>eqV (.str z) x
  | _=>false
theorem eqU_of {x y:V} {u:Value} (r:RelV y u) (f:flatV y=true):eqU x u=eqV y x:=by
  cases y with
  | non=>cases r; rfl
  | bl b=>cases r; rfl
  | int i=>obtain ⟨t,rfl⟩:=r; rfl
  | str z=>obtain ⟨t,rfl⟩:=r; rfl
  | _=>exact absurd (show false=true from f) Bool.false_ne_true
theorem any_eqU {x:V}:∀ {xs:List V} {us:List Value},Vals xs us→xs.all flatV=true→us.any (eqU x)=xs.any fun y=>eqV y x
  | _,_,.nil,_=>rfl
  | y :: xs,u :: us,.cons r t,f=>by
    rw [List.all_cons,Bool.and_eq_true] at f
    rw [List.any_cons,List.any_cons,eqU_of r f.1,any_eqU t f.2]
theorem mem_eqAt {A:Around} {s:Shared} {x:V} {v:Value} (rx:RelV x v) (fx:flatV x=true):∀ {xs:List V} {us:List Value},Vals xs us→xs.all flatV=true→∀ u∈us,SeqAt.EqAt A s u v (eqU x u)
  | _,_,.nil,_=>fun u hu=>by cases hu
  | y :: xs,u :: us,.cons r t,f=>fun u' hu=>by
    rw [List.all_cons,Bool.and_eq_true] at f
    rcases List.mem_cons.mp hu with rfl | hu
    · rw [eqU_of r f.1]; exact eqAt_V r rx f.1 fx
    · exact mem_eqAt rx fx t f.2 u' hu
def inV (x:V) (xs:List V):Bool:=xs.any fun y=>eqV y x
def rIn (K:PySem.W.Frag) (neg:Bool):R2:=fun x y H Q=>∃ p xs,y=.ref p∧(SqL K H p xs∨SqT K H p xs)∧flatV x=true∧xs.all flatV=true∧Q (.bl (if neg then !inV x xs else inV x xs)) H
theorem op_in_seq:OpR X (compareOp .In) (rIn X.K false):=by
  intro pins s σ H x y v u Q I rx ry h
  obtain ⟨p,xs,rfl,hq,fx,fs,q⟩:=h
  cases ry
  rcases hq with hq | hq
  · obtain ⟨its,r,pl,hz⟩:=I.list hq
    refine SeqAt.in_listAt (eqU x) pl.isList (fun w hw=>mem_eqAt rx fx r fs w (by simpa using hw)) ⟨.bl _,H,I,rfl,?_⟩
    rw [show its.toArray.any (eqU x)=its.any (eqU x) by simp,any_eqU r fs]
    exact q
  · obtain ⟨its,r,pl,hz⟩:=I.tuple hq
    refine SeqAt.in_tupleAt (eqU x) pl (fun w hw=>mem_eqAt rx fx r fs w (by simpa using hw)) ⟨.bl _,H,I,rfl,?_⟩
    rw [show its.toArray.any (eqU x)=its.any (eqU x) by simp,any_eqU r fs]
    exact q
theorem call_len_seq:CallR X (.builtin "len") (fun xs H Q=>∃ p ys,xs=[.ref p]∧(SqL X.K H p ys∨SqT X.K H p ys)∧Q (.int ys.length) H):=by
  intro pins s σ H xs us Q I r h
  obtain ⟨p,ys,rfl,hq,q⟩:=h
  obtain ⟨u,rfl,rx⟩:=vals1 r
  cases rx
  have hn:=line63
  rcases hq with hq | hq
  · obtain ⟨its,r',pl,hz⟩:=I.list hq
    have hlen:=r'.length
    exact Calls.call_len_list pl.isList (by simp only [List.size_toArray] <;> omega) ⟨.int ys.length,H,I.tok _,⟨s.toks + 1,by rw [List.size_toArray,hlen]⟩,q⟩
  · obtain ⟨its,r',pl,hz⟩:=I.tuple hq
    have hlen:=r'.length
    exact len_tuple pl (by simp only [List.size_toArray] <;> omega) ⟨.int ys.length,H,I.tok _,⟨s.toks + 1,by rw [List.size_toArray,hlen]⟩,q⟩
theorem call_len_str:CallR X (.builtin "len") (fun xs H Q=>∃ z,xs=[.str z]∧z.length≤sizeLine∧Q (.int z.length) H):=by
  intro pins s σ H xs us Q I r h
  obtain ⟨z,rfl,hz,q⟩:=h
  obtain ⟨u,rfl,t,rfl⟩:=vals1 r
  have hn:=line63
  exact len_str (by omega) ⟨.int z.length,H,I.tok _,⟨_,rfl⟩,q⟩
theorem CallR.or {f:Value} {r r':List V→Hp→VK→Prop} (h:CallR X f r) (h':CallR X f r'):CallR X f (fun xs H Q=>r xs H Q∨r' xs H Q):=by
  intro pins s σ H xs us Q I rs q
  rcases q with q | q
  · exact h pins s σ H xs us Q I rs q
  · exact h' pins s σ H xs us Q I rs q
theorem call_list_of:CallR X (.type "list") (fun xs H Q=>∃ p ys,xs=[.ref p]∧(SqL X.K H p ys∨SqT X.K H p ys)∧∀ l,H l=none→Q (.ref l) (upd H l (.lst ys))):=by
  intro pins s σ H xs us Q I r h
  obtain ⟨p,ys,rfl,hq,q⟩:=h
  obtain ⟨u,rfl,rx⟩:=vals1 r
  cases rx
  have fin:∀ (its:List Value),Vals ys its→ys.length≤sizeLine→∀ (h':Heap) (c':Nat),(∀ b o',s.heap.get? b=some o'→h'.get? b=some o') →
      h'.get? s.heap.objs.size=some { cls:=.type "list",dict:=none,data:=.seq its.toArray c',slots:=#[] }→EP X pins σ Q (.ref s.heap.objs.size) { s with heap:=h' }:=fun its r' hz h' c' kp e =>
    ⟨.ref s.heap.objs.size,_,I.laid (t':=s.toks) kp (Nat.le_refl _) (show ObjOk X.prog X.w _ h' _ (.lst ys) from ⟨hz,its,c',r',e⟩),rfl,q _ (I.hok.fresh (Nat.le_refl _))⟩
  rcases hq with hq | hq
  · obtain ⟨its,r',pl,hz⟩:=I.list hq
    have hlen:=r'.length
    obtain ⟨o,ho,hc,n,hd⟩:=pl.isList
    exact call_list_seq p (.inl rfl) ho hc hd (fun h' c' kp e=>fin its r' hz h' c' kp e) (by simp only [List.size_toArray] <;> omega)
  · obtain ⟨its,r',pl,hz⟩:=I.tuple hq
    have hlen:=r'.length
    obtain ⟨o,ho,hc,n,hd⟩:=pl
    exact call_list_seq p (.inr rfl) ho hc hd (fun h' c' kp e=>fin its r' hz h' c' kp e) (by simp only [List.size_toArray] <;> omega)
theorem call_tuple_of:CallR X (.type "tuple") (fun xs H Q=>∃ p ys,xs=[.ref p]∧((SqL X.K H p ys∧∀ l,H l=none→Q (.ref l) (upd H l (.tup ys)))∨(SqT X.K H p ys∧Q (.ref p) H))):=by
  intro pins s σ H xs us Q I r h
  obtain ⟨p,ys,rfl,h⟩:=h
  obtain ⟨u,rfl,rx⟩:=vals1 r
  cases rx
  rcases h with ⟨hq,q⟩ | ⟨hq,q⟩
  · obtain ⟨its,r',pl,hz⟩:=I.list hq
    have hlen:=r'.length
    refine call_tuple_list pl.isList (fun h' kp=>?_) (by simp only [List.size_toArray] <;> omega)
    have I1:Inv X pins σ H { s with heap:=h' }:=I.kept (t':=s.toks) kp
    have I2:Inv X pins σ (upd H h'.objs.size (.tup ys)) { s with heap:=h'.push { cls:=.type "tuple",data:=.seq its.toArray } } :=
      I1.laid (t':=s.toks) (fun b o e=>Heap.get?_push_of_some _ e) (Nat.le_refl _) (show ObjOk X.prog X.w _ _ _ (.tup ys) from ⟨hz,its,r',IsTup.new _ _⟩)
    exact ⟨.ref h'.objs.size,_,I2,rfl,q _ (I1.hok.fresh (Nat.le_refl _))⟩
  · obtain ⟨its,r',pl,hz⟩:=I.tuple hq
    exact call_tuple_same pl ⟨.ref p,H,I,rfl,q⟩
def tyV (K:PySem.W.Frag) (T:String) (x:V) (H:Hp):Prop:=match x with
  | .str _=>T = "str"
  | .int _=>T = "int"
  | .ref p=>(T = "list" ∧ ∃ xs,SqL K H p xs)∨(T = "tuple" ∧ ∃ o,K.lookup p=some o∧o.cls=.type "tuple" ∧ o.dict=none) ∨
      (T = "dict" ∧ ((∃ kvs,H p=some (.dK kvs))∨∃ kvs,H p=some (.dT kvs)))∨(T = "set" ∧ ∃ S n,H p=some (.set S n))
  | _=>False
theorem tyV_is {pins:List (Addr × Obj)} {σ:St} {H:Hp} {s:Shared} {T:String} {x:V} {v:Value} (I:Inv X pins σ H s) (r:RelV x v) (ty:tyV X.K T x H) :
    s.TypeIs v T∧∀ a,v=.ref a→∃ ob,s.heap.get? a=some ob∧ob.dict=none:=by
  cases x with
  | str z =>
    obtain ⟨t,rfl⟩:=r
    cases (show T = "str" from ty)
    exact ⟨typeIs_str s z t,fun _ e=>nomatch e⟩
  | int i =>
    obtain ⟨t,rfl⟩:=r
    cases (show T = "int" from ty)
    exact ⟨typeIs_int s i t,fun _ e=>nomatch e⟩
  | ref p =>
    cases r
    rcases ty with ⟨rfl,xs,hq⟩ | ⟨rfl,o,hk,hc,hd⟩ | ⟨rfl,hk⟩ | ⟨rfl,S,n,hk⟩
    · obtain ⟨its,_,pl,_⟩:=I.list hq
      refine ⟨pl.isList.typeIs,fun a e=>?_⟩
      cases e
      obtain ⟨o,n,e,c,hd,_⟩:=pl
      exact ⟨o,e,hd⟩
    · refine ⟨⟨o,I.kIn p o hk,hc⟩,fun a e=>?_⟩
      cases e
      exact ⟨o,I.kIn _ o hk,hd⟩
    · have z:∃ o,s.heap.get? p=some o∧o.ExactDict:=by
        rcases hk with ⟨kvs,hk⟩ | ⟨kvs,hk⟩
        · obtain ⟨_,_,_,_,o,_,_,e,ex,_⟩:=I.hok p _ hk
          exact ⟨o,e,ex⟩
        · obtain ⟨_,_,_,_,o,_,_,e,ex,_⟩:=I.hok p _ hk
          exact ⟨o,e,ex⟩
      obtain ⟨o,e,ex⟩:=z
      refine ⟨⟨o,e,ex.1⟩,fun a e2=>?_⟩
      cases e2
      exact ⟨o,e,ex.2.1⟩
    · obtain ⟨o,_,_,_,e,ex,_⟩:=I.hok p _ hk
      refine ⟨⟨o,e,ex.1⟩,fun a e2=>?_⟩
      cases e2
      exact ⟨o,e,ex.2.1⟩
  | _=>exact False.elim ty
def tBM (K:PySem.W.Frag) (T:String) (r:V→List V→Hp→VK→Prop) (to:TE) (t:TA):TE:=fun σ H Q=>to σ H fun x H1=>tyV K T x H1∧t σ H1 fun xs H2=>r x xs H2 Q
variable {o e:Expr} {es:List Expr} {to:TE} {t:TA} {name:Str} {apos cpos:Pos} {T id:String} {r:V→List V→Hp→VK→Prop}
theorem pe_bm (pa:PlainAttrs T) (slot:Slot T name id) (hty:typeOf (.builtin id)=pure (.type "method_descriptor")) (hm:MtR X id r) (ho:PE X o to) (ha:PA X (e :: es) t)
    (hbase:attributeBase o name X.env (eval o X.env)=eval o X.env:=by rfl)
    (hfew:((backTo cpos (starEach (e :: es) X.env)).all (fun x=>!x.1) && (backToKw cpos (keywordEach [] X.env)).all (fun x=>x.1.isSome)
      && decide ((e :: es).length + ([]:List Keyword).length + (if ([]:List Keyword).isEmpty then 0 else 1) < 30))=true:=by rfl)
    (hline:(apos.endLine == cpos.line)=true:=by rfl) (hs:starEach (e :: es) X.env=(false,eval e X.env) :: starEach es X.env:=by rfl) (hplain:(backTo cpos (starEach es X.env)).any (·.1)=false:=by rfl) :
    PE X (.Call (.Attribute o name apos) (e :: es) [] cpos) (tBM X.K T r to t):=by
  intro pins s σ H Q I h
  refine wpAny_Call_method_late hbase hfew hline rfl (thn (ho pins s σ H _ I h) fun v s1 ⟨x,H1,I1,r1,ty,q1⟩=>?_)
  obtain ⟨h1,h2⟩:=tyV_is I1 r1 ty
  refine ⟨T,id,pa,slot,hty,h1,h2,?_⟩
  have hA:=ha cpos pins s1 σ H1 _ I1 q1
  rw [hs] at hA ⊢
  refine Calls.callWith_builtin (by show (false || (backTo cpos (starEach es X.env)).any (·.1))=false; rw [hplain] <;> rfl) (Calls.evalArgs_plain ?_)
  exact thn hA fun us s2 ⟨vs,H2,I2,r2,q2⟩=>hm pins s2 σ H2 x vs v us Q I2 r1 r2 q2
end
end L2
namespace L2
open PySem PySem.Spec PyProof.Rows
def MtM (X:Cx) (id:String) (r:V→List V→Hp→VK→Prop):Prop :=
  ∀ (pins:List (Addr × Obj)) (s:Shared) (σ:St) (H:Hp) (x:V) (xs:List V) (v:Value) (us:List Value) (Q:VK),Inv X pins σ H s→RelV x v→Vals xs us→r x xs H Q →
    wpAny (model X.prog X.w) X.A (call (.builtin id) (v :: us)) (EP X pins σ Q) X.xe s
theorem Vals.one:∀ {x:V} {us:List Value},Vals [x] us→∃ u,us=[u]∧RelV x u
  | _,_,.cons r .nil=>⟨_,rfl,r⟩
theorem Vals.two:∀ {x y:V} {us:List Value},Vals [x,y] us→∃ u v,us=[u,v]∧RelV x u∧RelV y v
  | _,_,_,.cons r (.cons q .nil)=>⟨_,_,rfl,r,q⟩
section
variable {X:Cx} {pins:List (Addr × Obj)} {σ:St} {H:Hp} {s:Shared} {l b:Addr} {xs ys zs:List V}
theorem Inv.lset {its its':List Value} {n:Nat} {f:Array Value→Array Value} {t':Nat} (I:Inv X pins σ H s) (hH:H l=some (.lst xs))
    (e:s.heap.get? l=some { cls:=.type "list",data:=.seq its.toArray n }) (hf:f its.toArray=its'.toArray) (hv:Vals ys its') (hz:ys.length≤sizeLine) :
    Inv X pins σ (upd H l (.lst ys)) { s with heap:=s.heap.update l (Obj.mapSeq f),toks:=t' }:=by
  have q:=PySem.IsL.update e f
  rw [hf] at q
  refine I.write (x:=l) (e:=l) (by rw [hH]; exact trivial) (.inl rfl) (fun b' u hb hu=>(Heap.get?_update_other s.heap (Obj.mapSeq f) (Ne.symm hb)).trans hu) ⟨_,q⟩ ?_
  exact ⟨hz,its',_,hv,q⟩
theorem Inv.lnew {its:List Value} {t':Nat} (I:Inv X pins σ H s) (hv:Vals ys its) (hz:ys.length≤sizeLine) :
    Inv X pins σ (upd H s.heap.objs.size (.lst ys)) { s with heap:=s.heap.push { cls:=.type "list",data:=.seq its.toArray },toks:=t' } :=
  I.laid (fun _ _ q=>Heap.get?_push_of_some _ q) (Nat.le_refl _) ⟨hz,its,0,hv,Heap.get?_push_size _ rfl⟩
theorem Inv.fresh (I:Inv X pins σ H s):H s.heap.objs.size=none:=I.hok.fresh (Nat.le_refl _)
theorem Inv.lstM (I:Inv X pins σ H s) (hH:H l=some (.lst xs)):xs.length≤sizeLine∧∃ (its:List Value) (n:Nat),Vals xs its∧xs.length=its.length∧s.heap.get? l=some { cls:=.type "list",data:=.seq its.toArray n }:=by
  obtain ⟨z,its,n,r,e⟩:=I.hok l _ hH
  exact ⟨z,its,n,r,r.length,e⟩
theorem notLongL {n:Nat} (h:n≤sizeLine):Builtin.List.listTooLong n=false:=by
  unfold Builtin.List.listTooLong
  exact decide_eq_false (by omega)
end
section
variable {X:Cx}
def rAppend:V→List V→Hp→VK→Prop:=fun x vs H Q=>∃ l xs y,x=.ref l∧vs=[y]∧H l=some (.lst xs)∧xs.length < sizeLine∧Q .non (upd H l (.lst (xs ++ [y])))
theorem mt_append:MtM X "list.append" rAppend:=by
  intro pins s σ H x vs v us Q I rx rv h
  obtain ⟨l,xs,y,rfl,rfl,hH,hz,q⟩:=h
  cases rx
  obtain ⟨u,rfl,ru⟩:=rv.one
  obtain ⟨z,its,n,r,hl,e⟩:=I.lstM hH
  refine call_meets F.slot_list_append ⟨_,e,rfl⟩ F.entry_list_append (F.args_list_append_2 _ _) (PySem.list_append l its.toArray n u (by rw [List.size_toArray]; omega)) ⟨e,?_⟩
  refine ⟨.non,_,I.lset (its':=its ++ [u]) hH e (by simp) (r.append (.cons ru .nil)) ?_,rfl,q⟩
  rw [List.length_append,List.length_singleton]
  omega
def rExtend:V→List V→Hp→VK→Prop:=fun x vs H Q=>∃ l b xs zs,x=.ref l∧vs=[.ref b]∧H l=some (.lst xs)∧H b=some (.lst zs)∧xs.length + zs.length≤sizeLine∧Q .non (upd H l (.lst (xs ++ zs)))
theorem mt_extend:MtM X "list.extend" rExtend:=by
  intro pins s σ H x vs v us Q I rx rv h
  obtain ⟨l,b,xs,zs,rfl,rfl,hH,hB,hz,q⟩:=h
  cases rx
  obtain ⟨u,rfl,ru⟩:=rv.one
  cases ru
  obtain ⟨z,its,n,r,hl,e⟩:=I.lstM hH
  obtain ⟨z2,its2,n2,r2,hl2,e2⟩:=I.lstM hB
  have hsz:its.toArray.size + its2.toArray.size≤sizeLine:=by rw [List.size_toArray,List.size_toArray]; omega
  have hlong:¬ (!its.toArray.isEmpty && Builtin.List.listTooLong (its.toArray.size + its2.toArray.size))=true:=by
    rw [notLongL hsz,Bool.and_false]
    exact Bool.false_ne_true
  refine call_meets F.slot_list_extend ⟨_,e,rfl⟩ F.entry_list_extend (F.args_list_extend_2 _ _)
    (AutoSeq1.list_extend_list_list_0 l its.toArray n b its2.toArray n2 hlong (by rw [List.size_toArray]; omega) (by omega)) ⟨e,e2,?_⟩
  refine ⟨.non,_,I.lset (its':=its ++ its2) hH e (by simp) (r.append r2) ?_,rfl,q⟩
  rw [List.length_append]
  omega
def rCat:R2:=fun x y H Q=>∃ l b xs zs,x=.ref l∧y=.ref b∧H l=some (.lst xs)∧H b=some (.lst zs)∧xs.length + zs.length≤sizeLine∧∀ p,H p=none→Q (.ref p) (upd H p (.lst (xs ++ zs)))
theorem op_cat:OpR X (binaryOp .Add) rCat:=by
  intro pins s σ H x y v u Q I rx ry h
  obtain ⟨l,b,xs,zs,rfl,rfl,hH,hB,hz,q⟩:=h
  cases rx
  cases ry
  obtain ⟨z,its,n,r,hl,e⟩:=I.lstM hH
  obtain ⟨z2,its2,n2,r2,hl2,e2⟩:=I.lstM hB
  refine PySem.P.add_list e e2 ?_ (by rw [List.size_toArray,List.size_toArray]; omega)
  have ea:its.toArray ++ its2.toArray=(its ++ its2).toArray:=by simp
  rw [ea]
  exact ⟨.ref _,_,I.lnew (t':=s.toks) (r.append r2) (by rw [List.length_append]; omega),rfl,q _ I.fresh⟩
end
section
variable {prog:Program} {w:World} {A:Around} {E:Value→Shared→Prop} {s:Shared}
end
section
variable {X:Cx}
end
end L2
namespace Att
open PySem PySem.W PySem.Calls PyProof.Rows
theorem ints_of_wellAll {P:Params} {h:Heap}:∀ (ns:List Int) (vs:List Value),WellAll P h vs (ns.map WData.int)→IntsAre vs ns:=by
  intro ns
  induction ns with
  | nil =>
    intro vs w
    rw [List.map_nil] at w
    cases w
    exact .nil
  | cons n ns ih =>
    intro vs w
    rw [List.map_cons] at w
    cases w with
    | cons a b =>
      cases a
      exact .cons _ _ (ih _ b)
theorem script_of {l:OpenLaw} {n:Nat} (hn:l.most=some n) {P:Params} {h:Heap} {args:List WData} {vals:List Value}
    (hpre:l.row.toRowW.claim.pre args=true) (hwl:WellAll P h vals args) :
    ∃ a vs ns,vals=[Value.ref a]∧args=[WData.list (ns.map WData.int)]∧h.get? a=some { cls:=.type "list",data:=.seq vs.toArray }∧IntsAre vs ns∧ns.length≤n:=by
  have hsh:WShape.hasAll [] args [.list .int]=true:=(pre_splitW hpre).1
  have hc:l.pre.holds [] { args:=args }=true:=(pre_splitW hpre).2
  obtain ⟨d,r,rfl,h1,h2⟩:=hasAllW_cons hsh
  obtain rfl:=hasAllW_nil h2
  obtain ⟨xs,rfl,h3⟩:=hasW_list h1
  obtain ⟨ns,rfl⟩:=items_int h3
  have hlen:ns.length≤n:=by
    unfold OpenLaw.pre at hc
    have h4:(WTm.not (.lt (.lit (.int (n:Int))) (.len (.arg 0)))).holds [] { args:=[.list (ns.map .int)] }=true:=by
      have h4:=(holds_andW hc).1
      rw [hn] at h4
      exact h4
    have h5:=condW_of h4 (w_not (w_lt w_lit (w_len_list (w_arg rfl))))
    rw [List.length_map] at h5
    refine Nat.le_of_not_lt fun q=>?_
    have q':(n:Int) < ((ns.length:Nat):Int):=by omega
    first
      | (rw [decide_eq_true q'] at h5; exact absurd h5 (by decide))
      | (simp at h5; omega)
  cases hwl with
  | cons w1 w2 =>
    cases w2
    cases w1 with
    | list ho hall=>exact ⟨_,_,ns,rfl,rfl,ho,ints_of_wellAll ns _ hall,hlen⟩
theorem post_true (l:OpenLaw) (args:List WData):l.row.toRowW.claim.post args (.bool true) args=true :=
  postW_of (r:=l.row.toRowW) (X:=(true == true))
    (show WShape.has [] (.bool true) .bool=true by first | rfl | decide | simp [WShape.has,WShape.arms,WShape.armsAll])
    (show (WTm.eq .res (.lit (.bool true))).value [] { args:=args,res:=some (.bool true),after:=args }=some (.bool (true == true)) from w_eq_bool (w_res rfl) w_lit) rfl
theorem attach_call {l:OpenLaw} {n:Nat} {q:Program} {loose:List Str} {XP:(Str→Option Value)→Heap→Prop} {YP:World→Heap→Prop} {d:DefRec}
    (hn:l.most=some n) (hdf:d.params.defaults=[])
    (call:∀ (w:World) (s₀ s₁:Shared) (mg mb:Str→Option Value) (fa:Addr) (o:Obj) (pm cd doc:Value) (a:Addr) (vs:List Value) (ns:List Int),
      Ground q loose [] XP w s₀ mg mb s₁.heap→YP w s₁.heap →
      s₁.heap.get? fa=some o→o.data=.func (docDef d.name d.params d.body d.scope pm cd doc)→s₁.heap.CodeRec cd d.name→mg d.name=some (.ref fa) →
      s₁.heap.get? a=some { cls:=.type "list",data:=.seq vs.toArray }→IntsAre vs ns→ns.length≤n→s₁.gens=#[] →
      codeAny (model l.prog w) callerA (.call (.ref fa) ⟨[.ref a],[]⟩) (fun r s'=>r=.ok (.ret (.bool true))∧OldK s₁.heap s'.heap∧s'.os=s₁.os∧AllBare s'.gens) s₁) :
    WalkO q loose XP YP l.row.toRowW d [] (fun f vs=>PySem.call f vs):=by
  intro w s₀ s₁ mg mb G Y fa o pm cd doc dV kV ho hd hcd hD hmg hg args vals as hpre hlay hrd hwl hlo
  obtain rfl:dV=.none:=Dflts.none hD hdf
  obtain rfl:kV=.none:=Dflts.noKw hD
  obtain ⟨a,vs,ns,rfl,rfl,hobj,hints,hlen⟩:=script_of hn hpre hwl
  refine enter_call (codeAny_mono (call w s₀ s₁ mg mb fa o pm cd doc a vs ns G Y ho (fd_plain hd) hcd hmg hobj hints hlen hg) fun r s' hq=>?_)
  obtain ⟨rfl,h2,h3,h4⟩:=hq
  exact ⟨.inl ⟨.bool true,.bool true,[],rfl,fun _=>rfl,.bool true,post_true l _,fun _=>⟨List.Pairwise.nil,fun _ hm=>(nomatch hm)⟩⟩,h2,h3,h4⟩
section
variable {prog:Program} {w:World} {A:Around} {E:Value→Shared→Prop} {s:Shared} {K:Frag}
end
end Att
namespace L2
open PySem PySem.Spec PyProof.Rows
theorem vals_ints:∀ {vs:List Value} {ns:List Int},IntsAre vs ns→Vals (ns.map V.int) vs
  | _,_,.nil=>.nil
  | _,_,.cons n t h=>.cons ⟨t,rfl⟩ (vals_ints h)
def Only (H:Hp):Prop:=∀ b,H b=none∨∃ o xs,H b=some (.frz o (.lst xs))
theorem law_call {P:Program} {w:World} {K:PySem.W.Frag} {mg mb:Str→Option Value} {CX:CXT} {k:Nat} {fa a:Addr} {fd:FuncData} {x:Str} {sp:Sp} {s₁:Shared} {vs:List Value} {ns:List Int}
    (KX:K.In s₁.heap) (hns:s₁.heap.Ns mainGlobals mg) (hb:s₁.heap.Ns builtinsNs mb) (hbb:∀ x:Str,x ≠ "__name__" → mb x=bootBuiltins x) (hlim:s₁.heap.NoLimit) (hg:s₁.gens=#[])
    (ha:s₁.heap.get? a=some { cls:=.type "list",data:=.seq vs.toArray }) (hi:IntsAre vs ns) (hl:ns.length≤sizeLine) (hr:Room k callerA)
    (F:∀ base:Heap,K.In base→base.Ns mainGlobals mg→FnOk P w K mg base CX k fa fd [x] sp) (hbind:∀ (s:Shared) (u:Value),BindsTo s fd ⟨[u],[]⟩ [(x,u)])
    (hsp:∀ H:Hp,Only H→SqL K H a (ns.map V.int)→sp [.ref a] H (fun v _=>v=.bl true) fun _ _ _=>False)
    (hCX:∀ H e s',CX [] H s₁ (fun _ _ _=>False) e s'→False) :
    codeAny (model P w) callerA (.call (.ref fa) ⟨[.ref a],[]⟩) (fun r s'=>r=.ok (.ret (.bool true))∧OldK s₁.heap s'.heap∧s'.os=s₁.os∧AllBare s'.gens) s₁:=by
  have rv:=vals_ints hi
  have lenV:=hi.length
  have core : ∀ H:Hp,Only H→SqL K H a (ns.map V.int)→HOk P w H s₁.heap→(∀ b,H b≠none→b=a)→(H a≠none→K.lookup a=none) →
      codeAny (model P w) callerA (.call (.ref fa) ⟨[.ref a],[]⟩) (fun r s'=>r=.ok (.ret (.bool true))∧OldK s₁.heap s'.heap∧s'.os=s₁.os∧AllBare s'.gens) s₁:=by
    intro H hO hS hok hA hK
    have base_of:∀ {b:Addr} {o:Obj},s₁.heap.get? b=some o→H b=none→(hidT s₁.heap H).get? b=some o:=fun e n=>hidT_get e n
    have noA:∀ {b:Addr} {o:Obj} {es:Array DictEntry} {ep:Nat},s₁.heap.get? b=some o→o.data=.dict es ep→H b=none:=fun {b o es ep} e d=>by
      cases q:H b with
      | none=>rfl
      | some u =>
        have e':b=a:=hA b (by rw [q]; simp)
        subst e'
        rw [ha] at e; cases e
        have d':Data.seq vs.toArray _=Data.dict es ep:=d
        cases d'
    have nsK:∀ {b:Addr} {m:Str→Option Value},s₁.heap.Ns b m→(hidT s₁.heap H).Ns b m:=fun {b m} ⟨o,es,ep,e,d,r⟩=>⟨o,es,ep,base_of e (noA e d),d,r⟩
    have hKb:K.In (hidT s₁.heap H):=fun b o e=>base_of (KX b o e) (by
      cases q:H b with
      | none=>rfl
      | some u =>
        have e':b=a:=hA b (by rw [q]; simp)
        subst e'
        rw [hK (by rw [q]; simp)] at e; cases e)
    have hM:Mod K mg (hidT s₁.heap H):=⟨hKb,nsK hns,⟨mb,nsK hb,hbb⟩,let ⟨mc,h1,h2⟩:=hlim; ⟨mc,nsK h1,h2⟩⟩
    have e0:Env0 P w K mg (hidT s₁.heap H) callerA [] s₁ H:=⟨rfl,hM,fun b o e=>of_hidT e,Nat.le_of_eq (hidT_size _ _),trivial,fun b hb=>absurd (show b∈([]:List Addr) from hb) (by simp),hok,.of_eq hg⟩
    refine codeAny_mono ((F _ hKb (nsK hns)).run callerA [] s₁ H ⟨[.ref a],[]⟩ [.ref a] [.ref a] _ _ hr e0 (hbind s₁ (.ref a)) (.cons rfl .nil) (hsp H hO hS)) fun r s' h=>?_
    cases r with
    | error e=>exact (hCX H e s' h).elim
    | ok fl =>
      cases fl with
      | next=>exact False.elim h
      | brk=>exact False.elim h
      | cont=>exact False.elim h
      | ret u =>
        obtain ⟨v,H',os,bare,un,hok',r',q⟩:=h
        have q':v=.bl true:=q
        subst q'
        obtain rfl:u=Value.bool true:=r'
        refine ⟨rfl,OldK.of_keep fun b o e=>?_,os,bare⟩
        cases q:H b with
        | none=>exact un.keep b o e q (by intro z; exact absurd (show b∈([]:List Addr) from z) (by simp)) (by simp)
        | some u =>
          rcases hO b with z | ⟨ob,xs,z⟩
          · rw [q] at z; cases z
          · have z2:=un.frzs b ob _ z
            obtain ⟨e1,_⟩:=hok b _ z
            obtain ⟨e2,_⟩:=hok' b _ z2
            rw [e] at e1; cases e1
            exact e2
  cases hk:K.lookup a with
  | some o =>
    have e:=KX a o hk
    rw [ha] at e
    cases e
    refine core (fun _=>none) (fun _=>.inl rfl) (.inr ⟨_,vs.toArray,_,hk,rfl,rfl,rfl,by rw [List.size_toArray,lenV]; exact hl,by simpa using rv⟩) (fun b u z=>by have z':(none:Option HO)=some u:=z; cases z') (fun b z=>absurd rfl z) fun z=>absurd rfl z
  | none =>
    refine core (fun b=>if b=a then some (.frz { cls:=.type "list",data:=.seq vs.toArray } (.lst (ns.map V.int))) else none) (fun b=>?_) (.inl (.inr ⟨{ cls:=.type "list",data:=.seq vs.toArray },if_pos rfl⟩)) (fun b u z=>?_) (fun b z=>?_) fun _=>hk
    · by_cases hb:b=a
      · exact .inr ⟨_,_,if_pos hb⟩
      · exact .inl (if_neg hb)
    · by_cases hb:b=a
      · have z':=(if_pos hb).symm.trans z
        cases z'
        subst hb
        exact ⟨ha,by rw [List.length_map]; exact hl,vs,_,rv,ha⟩
      · have z':=(if_neg hb).symm.trans z
        cases z'
    · by_cases hb:b=a
      · exact hb
      · exact absurd (if_neg hb) z
end L2
namespace L2
open PySem PySem.Spec PyProof.Rows
theorem walk_of {l:PySem.W.OpenLaw} {n k:Nat} {q:Program} {loose:List Str} {XP:(Str→Option Value)→Heap→Prop} {YP:World→Heap→Prop} {d:DefRec} {K:Params→PySem.W.Frag} {CX:World→CXT} {sp:World→Sp} {x:Str}
    (hn:l.most=some n) (hn2:n≤sizeLine) (hdf:d.params.defaults=[]) (hr:Room k callerA)
    (hY:∀ (w:World) (h:Heap),YP w h→(K w.params).In h)
    (F:∀ (w:World) (mg:Str→Option Value) (fa:Addr) (h:Heap),(K w.params).In h→h.Ns mainGlobals mg→mg d.name=some (.ref fa) →
      ∃ fd:FuncData,(∀ (s:Shared) (u:Value),BindsTo s fd ⟨[u],[]⟩ [(x,u)]) ∧
        ∀ base:Heap,(K w.params).In base→base.Ns mainGlobals mg→FnOk l.prog w (K w.params) mg base (CX w) k fa fd [x] (sp w))
    (hsp:∀ (w:World) (H:Hp) (a:Addr) (ns:List Int),ns.length≤n→Only H→SqL (K w.params) H a (ns.map V.int)→sp w [.ref a] H (fun v _=>v=.bl true) fun _ _ _=>False)
    (hCX:∀ (w:World) (H:Hp) (s:Shared) (e:Value) (s':Shared),CX w [] H s (fun _ _ _=>False) e s'→False) :
    PySem.W.WalkO q loose XP YP l.row.toRowW d [] (fun f vs=>PySem.call f vs):=by
  refine Att.attach_call hn hdf fun w s₀ s₁ mg mb fa o pm cd doc a vs ns G Y ho hd hcd hmg hobj hints hlen hg=>?_
  have KX:=hY w _ Y
  obtain ⟨fd,hb,hF⟩:=F w mg fa _ KX G.T.g hmg
  exact law_call KX G.T.g G.T.b G.T.builtins G.T.nolimit hg hobj hints (Nat.le_trans hlen hn2) hr hF hb (fun H hO hS=>hsp w H a ns hlen hO hS) fun H e s'=>hCX w H s₁ e s'
end L2
namespace L2
open PySem PySem.Spec PyProof.Rows
def defArgs (s:Stmt):Arguments:=match s with
  | .FunctionDef _ a _ _ _ _ _ _ _ _=>a
  | _=>{ posonlyargs:=[],args:=[],vararg:=none,kwonlyargs:=[],kw_defaults:=[],kwarg:=none,defaults:=[] }
def defBody (s:Stmt):List Stmt:=match s with
  | .FunctionDef _ _ b _ _ _ _ _ _ _=>b
  | _=>[]
def defScope (s:Stmt):Scope:=match s with
  | .FunctionDef _ _ _ _ _ _ sc _ _ _=>sc
  | _=>{ kind:=.function,names:=[],isGenerator:=false,isCoroutine:=false }
abbrev CX0:CXT:=fun _ _ _ _ _ _=>False
abbrev E0:XK:=fun _ _ _=>False
theorem pass0 {X:Cx}:Passes CX0 X E0:=fun _ _ _ _ _ _ _ h=>h.elim
section
variable {P:Program} {w:World} {K:PySem.W.Frag} {mg:Str→Option Value} {base:Heap}
end
theorem small1000 {n:Nat} (h:n≤1000):n < sizeLine:=Nat.lt_of_le_of_lt h (by decide)
section
variable {X:Cx}
theorem pv (i:Nat) {x:Str} {pos:Pos} (hN:X.N[i]?=some x:=by rfl) (hv:Vis X.env.scope x:=by first | exact Or.inl rfl | exact Or.inr (Or.inl rfl) | exact Or.inr (Or.inr rfl)) (hd:(x == ("__debug__" : Str))=false:=by decide)
    (hcd:(x == ("__classdict__" : Str))=false:=by decide):PE X (.Name x pos) (tVar i):=pe_var hN hv hd hcd
end
theorem iteF {A B:Prop} (h:B):if false=true then A else B:=by
  rw [if_neg Bool.false_ne_true]
  exact h
theorem iteT {A B:Prop} (h:A):if true=true then A else B:=by
  rw [if_pos rfl]
  exact h
theorem ite2 {c A B:Prop} [Decidable c] (h1:c→A) (h2:¬ c→B):if c then A else B:=by
  by_cases h:c
  · rw [if_pos h]
    exact h1 h
  · rw [if_neg h]
    exact h2 h
theorem iteNS {c A B:Prop} [Decidable c] (hc:c) (h:B):if (!decide c)=true then A else B:=by
  rw [decide_eq_true hc]
  exact iteF h
def Same (H H':Hp):Prop:=∀ b o,H b=some o→H' b=some o
theorem Same.refl (H:Hp):Same H H:=fun _ _ h=>h
theorem Same.trans {H H1 H2:Hp} (a:Same H H1) (b:Same H1 H2):Same H H2:=fun c o h=>b c o (a c o h)
theorem Same.free {H H':Hp} (e:Same H H') {l:Addr} (h:H' l=Option.none):H l=Option.none:=by
  cases q:H l with
  | none=>rfl
  | some o =>
    rw [e l o q] at h
    cases h
theorem Same.seq {K:PySem.W.Frag} {H H':Hp} {a:Addr} {xs:List V} (e:Same H H') (h:SqL K H a xs):SqL K H' a xs:=by
  rcases h with (h | ⟨o,h⟩) | h
  · exact .inl (.inl (e _ _ h))
  · exact .inl (.inr ⟨o,e _ _ h⟩)
  · exact .inr h
end L2
namespace L2
open PySem PySem.Spec PyProof.Rows
def closL (env:Env):List (Str × NameKind)→List (Str × Addr)→List (Str × Addr)
  | [],acc=>acc
  | (n,k) :: r,acc=>if k == .free then closL env r ((n,(env.cells.lookup n).getD 0) :: acc) else closL env r acc
theorem closL_for {env:Env} (f:Str × NameKind→List (Str × Addr)→Sem (ForInStep (List (Str × Addr))))
    (hf:∀ name kind cs,f (name,kind) cs=if kind == .free then (do let a ← cellOf env name; pure (.yield ((name,a) :: cs))) else pure (.yield cs)) :
    ∀ (names:List (Str × NameKind)) (acc:List (Str × Addr)),(∀ y∈names,y.2=.free→∃ c,env.cells.lookup y.1=some c)→forIn names acc f=(pure (closL env names acc):Sem _)
  | [],acc,_=>by rw [List.forIn_nil]; rfl
  | (n,k) :: r,acc,h=>by
    rw [List.forIn_cons,hf]
    have hr:∀ y∈r,y.2=.free→∃ c,env.cells.lookup y.1=some c:=fun y hy=>h y (List.mem_cons_of_mem _ hy)
    unfold closL
    by_cases hk:(k == NameKind.free)=true
    · rw [if_pos hk,if_pos hk]
      obtain ⟨c,hc⟩:=h (n,k) List.mem_cons_self (by simpa using hk)
      have hc':env.cells.lookup n=some c:=hc
      have e1:cellOf env n=pure c:=by unfold cellOf; rw [hc']
      rw [e1,hc']
      exact closL_for f hf r _ hr
    · rw [if_neg hk,if_neg hk]
      exact closL_for f hf r acc hr
theorem closureFor_of {env:Env} {scope:Scope} (h:∀ y∈scope.names,y.2=.free→∃ c,env.cells.lookup y.1=some c):closureFor scope env=pure (closL env scope.names []):=by
  simp only [closureFor]
  rw [closL_for (env:=env) _ (fun name kind cs=>by cases hk:kind == NameKind.free <;> simp [hk]) scope.names [] h]
  rfl
theorem closL_look {env:Env} {x:Str} {c:Addr}:∀ (names:List (Str × NameKind)) (acc:List (Str × Addr)),(∀ y∈names,y.2=.free→∃ c,env.cells.lookup y.1=some c) →
    (closL env names acc).lookup x=some c→acc.lookup x=some c∨env.cells.lookup x=some c
  | [],acc,_,h=>.inl h
  | (n, k) :: r,acc,hn,h=>by
    have hr:∀ y∈r,y.2=.free→∃ c,env.cells.lookup y.1=some c:=fun y hy=>hn y (List.mem_cons_of_mem _ hy)
    unfold closL at h
    by_cases hk:(k == NameKind.free)=true
    · rw [if_pos hk] at h
      rcases closL_look r _ hr h with q | q
      · rw [List.lookup_cons] at q
        cases hb:x == n with
        | true =>
          rw [hb] at q
          have e:x=n:=beq_iff_eq.mp hb
          obtain ⟨c',hc⟩:=hn (n,k) List.mem_cons_self (by simpa using hk)
          have hc':env.cells.lookup n=some c':=hc
          rw [hc'] at q
          right
          rw [e,hc']
          exact q
        | false =>
          rw [hb] at q
          exact .inl q
      · exact .inr q
    · rw [if_neg hk] at h
      exact closL_look r acc hr h
theorem closL_has {env:Env} {x:Str}:∀ (names:List (Str × NameKind)) (acc:List (Str × Addr)),((x,NameKind.free)∈names∨∃ c,acc.lookup x=some c)→∃ c,(closL env names acc).lookup x=some c
  | [],acc,h=>by
    rcases h with h | h
    · exact absurd h (by simp)
    · exact h
  | (n, k) :: r,acc,h=>by
    unfold closL
    by_cases hk:(k == NameKind.free)=true
    · rw [if_pos hk]
      apply closL_has r
      rcases h with h | ⟨c,h⟩
      · rcases List.mem_cons.mp h with e | h
        · cases e
          right
          exact ⟨_,by rw [List.lookup_cons,beq_self_eq_true]⟩
        · exact .inl h
      · right
        rw [List.lookup_cons]
        cases hb:x == n with
        | true=>exact ⟨_,rfl⟩
        | false=>exact ⟨c,h⟩
    · rw [if_neg hk]
      apply closL_has r
      rcases h with h | h
      · rcases List.mem_cons.mp h with e | h
        · cases e
          exact absurd (by simp) hk
        · exact .inl h
      · exact .inr h
structure CellsIn (h:Heap) (lo:Nat) (nm:Str→Prop) (cl cs:List (Str × Addr)):Prop where
  look:∀ x c,cs.lookup x=some c→cl.lookup x=some c∨(lo≤c∧h.IsCell c none∧nm x)
  inj:∀ x y c,lo≤c→cs.lookup x=some c→cs.lookup y=some c→x=y
theorem cellsFrom_in {nm:Str→Prop} {cl:List (Str × Addr)} {lo:Nat} (hcl:∀ x c,cl.lookup x=some c→c < lo):∀ (names:List (Str × NameKind)) (h:Heap) (acc:List (Str × Addr)),
    (∀ y∈names,y.2=.cell→nm y.1)→lo≤h.objs.size→CellsIn h lo nm cl acc→CellsIn (pushCells h names) lo nm cl (cellsFrom h.objs.size names acc)
  | [],_,_,_,_,x=>x
  | (name,kind) :: r,h,acc,hn,hlo,x=>by
    unfold pushCells cellsFrom
    have hr:∀ y∈r,y.2=.cell→nm y.1:=fun y hy=>hn y (List.mem_cons_of_mem _ hy)
    split
    · rename_i hk
      have hk':kind=.cell:=by simpa using hk
      have hnm:nm name:=hn (name,kind) List.mem_cons_self hk'
      have := cellsFrom_in hcl r (h.push { cls:=.type "cell",data:=.cell none }) ((name,h.objs.size) :: acc) hr (by rw [Heap.size_push]; omega)
        ⟨fun z c e=>by
            rw [List.lookup_cons] at e
            cases hb:z == name with
            | true =>
              rw [hb] at e
              cases e
              have ez:z=name:=beq_iff_eq.mp hb
              exact .inr ⟨hlo,⟨_,Heap.get?_push_size _ rfl,rfl⟩,by rw [ez]; exact hnm⟩
            | false =>
              rw [hb] at e
              rcases x.look z c e with q | ⟨q1,q2,q3⟩
              · exact .inl q
              · exact .inr ⟨q1,q2.keeps fun b o e=>Heap.get?_push_of_some _ e,q3⟩,
          fun y z c hc e1 e2=>by
            have old:∀ w,acc.lookup w=some c→c < h.objs.size:=fun w ew=>by
              rcases x.look w c ew with q | ⟨_,q2,_⟩
              · exact Nat.lt_of_lt_of_le (hcl w c q) hlo
              · exact q2.lt
            rw [List.lookup_cons] at e1 e2
            cases hb:y == name with
            | true =>
              rw [hb] at e1
              cases e1
              cases hb2:z == name with
              | true=>exact (beq_iff_eq.mp hb).trans (beq_iff_eq.mp hb2).symm
              | false =>
                rw [hb2] at e2
                exact absurd (old z e2) (Nat.lt_irrefl _)
            | false =>
              rw [hb] at e1
              cases hb2:z == name with
              | true =>
                rw [hb2] at e2
                cases e2
                exact absurd (old y e1) (Nat.lt_irrefl _)
              | false =>
                rw [hb2] at e2
                exact x.inj y z c hc e1 e2⟩
      rwa [Heap.size_push] at this
    · exact cellsFrom_in hcl r h acc hr hlo x
def inEnv (scope:Scope) (cs:List (Str × Addr)) (C:Addr) (env:Env):Env :=
  { scope:=relabel scope env,locals:=C,globals:=env.globals,cells:=cs,qual:=env.qual,func:=none,code:=env.code,frame:=env.frame,builtins:=env.builtins }
def inX (X:Cx) (scope:Scope) (N:List Str) (cs:List (Str × Addr)) (C:Addr) (s:Shared) (H:Hp) (fp:List Addr):Cx where
  prog:=X.prog
  w:=X.w
  K:=X.K
  mg:=X.mg
  base:=X.base
  A:=X.A
  N:=N
  s₀:=s
  H₀:=H
  env:=inEnv scope cs C X.env
  outer:=X.stack
  stack:=X.stack
  ex:=fp
  fn:=fun y=>scope.names.lookup y == some .cell
  calm:=X.calm
  pn:=[]
  xe:=fun _ _=>False
def capS (ix:List (Option Nat)) (σ:St):St:=ix.map fun o=>o.bind fun j=>(σ[j]?).bind id
def StLe (a b:St):Prop:=a.length=b.length∧∀ (i:Nat) v,a[i]?=some (some v)→b[i]?=some (some v)
theorem StLe.trans {a b c:St} (h:StLe a b) (h':StLe b c):StLe a c:=⟨h.1.trans h'.1,fun i v e=>h'.2 i v (h.2 i v e)⟩
theorem StLe.set {a:St} {i:Nat} {x:Option V} (h:a[i]?=some none):StLe a (a.set i x):=⟨by simp,fun j v e=>by
  by_cases hj:i=j
  · subst hj
    rw [h] at e
    cases e
  · rw [List.getElem?_set_ne hj]
    exact e⟩
def CompB (J:It) (ix:List (Option Nat)) (g:TG) (te:TE) (σ:St) (H1:Hp) (Q:VK):Prop:=∃ W:Nat→Nat→List V→Hp→Prop,(∃ m,W 0 m [] H1)∧∀ i m ys H,W i m ys H →
  (J.stop i H∧ys.length≤sizeLine∧∀ l,H l=none→Q (.ref l) (upd H l (.lst ys))) ∨
  (J.go i H∧ys.length < sizeLine∧∀ x H',J.yld i H x H'→g x (capS ix σ) H' fun σ2 H2=>StLe (capS ix σ) σ2∧te σ2 H2 fun y H3=>∃ m',m' < m∧W (i + 1) m' (ys ++ [y]) H3)
def tComp (wi:TI) (ix:List (Option Nat)) (g:TG) (te:TE):TE:=fun σ H Q=>wi σ H fun J H1=>CompB J ix g te σ H1 Q
structure CompOk (X:Cx) (scope:Scope) (N:List Str) (ix:List (Option Nat)):Prop where
  kind:scope.kind=.function
  names:∀ y∈scope.names,scope.names.lookup y.1=some y.2
  free:∀ y∈scope.names,y.2=.free→X.env.kindOf y.1=some .cell∨X.env.kindOf y.1=some .free
  len:ix.length=N.length
  cap:∀ (i:Nat),match ix[i]?,N[i]? with
    | some (some j),some x=>X.N[j]?=some x∧scope.names.lookup x=some .free
    | _,_=>True
theorem lookup_relabel {env:Env} {x:Str} {k:NameKind}:∀ {names:List (Str × NameKind)},(names.map fun (n,k)=>if (k == NameKind.free && env.scope.kind == .function && env.kindOf n == some .cell) then (n,NameKind.cell) else (n,k)).lookup x=some k →
    names.lookup x=some k∨(k=.cell∧names.lookup x=some .free)
  | [],h=>by simp at h
  | (n, k') :: r,h=>by
    have h:List.lookup x ((if (k' == NameKind.free && env.scope.kind == .function && env.kindOf n == some .cell)=true then (n,NameKind.cell) else (n,k')) :: (r.map fun (n,k)=>if (k == NameKind.free && env.scope.kind == .function && env.kindOf n == some .cell) then (n,NameKind.cell) else (n,k)))=some k:=h
    rw [List.lookup_cons]
    by_cases hc:(k' == NameKind.free && env.scope.kind == .function && env.kindOf n == some .cell)=true
    · rw [if_pos hc,List.lookup_cons] at h
      cases hb:x == n with
      | true =>
        rw [hb] at h
        cases h
        have:k'=NameKind.free:=by
          simp only [Bool.and_eq_true] at hc
          simpa using hc.1.1
        rw [this]
        exact .inr ⟨rfl,rfl⟩
      | false =>
        rw [hb] at h
        exact lookup_relabel h
    · rw [if_neg hc,List.lookup_cons] at h
      cases hb:x == n with
      | true =>
        rw [hb] at h
        exact .inl h
      | false =>
        rw [hb] at h
        exact lookup_relabel h
theorem relabel_free {env:Env} {x:Str}:∀ {names:List (Str × NameKind)},names.lookup x=some .free →
    (names.map fun (n,k)=>if (k == NameKind.free && env.scope.kind == .function && env.kindOf n == some .cell) then (n,NameKind.cell) else (n,k)).lookup x=some .cell ∨
    (names.map fun (n,k)=>if (k == NameKind.free && env.scope.kind == .function && env.kindOf n == some .cell) then (n,NameKind.cell) else (n,k)).lookup x=some .free
  | [],h=>by simp at h
  | (n, k') :: r,h=>by
    show List.lookup x ((if (k' == NameKind.free && env.scope.kind == .function && env.kindOf n == some .cell)=true then (n,NameKind.cell) else (n,k')) :: (r.map fun (n,k)=>if (k == NameKind.free && env.scope.kind == .function && env.kindOf n == some .cell) then (n,NameKind.cell) else (n,k)))=some .cell ∨
      List.lookup x ((if (k' == NameKind.free && env.scope.kind == .function && env.kindOf n == some .cell)=true then (n,NameKind.cell) else (n,k')) :: (r.map fun (n,k)=>if (k == NameKind.free && env.scope.kind == .function && env.kindOf n == some .cell) then (n,NameKind.cell) else (n,k)))=some .free
    rw [List.lookup_cons] at h
    by_cases hc:(k' == NameKind.free && env.scope.kind == .function && env.kindOf n == some .cell)=true
    · rw [if_pos hc,List.lookup_cons]
      cases hb:x == n with
      | true=>exact .inl rfl
      | false =>
        rw [hb] at h
        exact relabel_free h
    · rw [if_neg hc,List.lookup_cons]
      cases hb:x == n with
      | true =>
        rw [hb] at h
        exact .inr h
      | false =>
        rw [hb] at h
        exact relabel_free h
theorem mem_lookup {α:Type} {l:List (Str × α)} {n:Str} {c:α} (h:l.lookup n=some c):(n,c)∈l:=mem_of_lookup h
section
variable {M:Model} {A:Around} {E:Value→Shared→Prop} {s:Shared}
theorem newEnv_block {scope:Scope} {globals:Addr} {cl:List (Str × Addr)} {qual:Str} {env:Env} {Q:Env→Shared→Prop}
    (hQ:Q { scope:=scope,locals:=s.heap.objs.size,globals:=globals,cells:=cellsFrom (s.heap.objs.size + 1) scope.names cl,qual:=qual,func:=none,code:=env.code,frame:=env.frame,builtins:=env.builtins }
      { s with heap:=pushCells (s.heap.push { cls:=.type "dict",data:=.dict #[] }) scope.names }) :
    wpAny M A (newFunctionEnv scope globals cl [] qual none .none (some env)) Q E s:=by
  simp only [newFunctionEnv,Option.isSome_some,if_true]
  refine wpAny_bind (wpAny_alloc ?_)
  refine wpAny_bind (wpAny_layCells _ (fun name kind cells=>by cases hkc:kind == NameKind.cell <;> simp [hkc]) _ _ _ _ ?_)
  rw [show ({ s with heap:=s.heap.push { cls:=.type "dict",data:=.dict #[] } }:Shared).heap.objs.size=s.heap.objs.size + 1 from Heap.size_push ..]
  simp only [List.forIn_nil]
  exact wpAny_bind (wpAny_pure (wpAny_pure hQ))
end
section
variable {prog:Program} {w:World} {A:Around} {R:Result→Shared→Prop} {s:Shared}
theorem comp_loop {elt target iter:Expr} {scope:Scope} {pos:Pos} {it acc:Value} {env:Env} (I:Nat→Shared→Prop)
    (turn : ∀ n s,I n s→wpAny (model prog w) A (pyNext it) (fun r s₁=>match r with
      | none=>R (.ok .next) s₁
      | some v=>wpAny (model prog w) A (letOwnedTupleGo target it v) (fun _ s₁'=>wpAny (model prog w) A (assign target env v) (fun _ s₂=>wpAny (model prog w) A (eval elt env) (fun x s₃ =>
          wpAny (model prog w) A (call (.builtin "list.append") [acc,x]) (fun _ s₄=>∃ m,m < n∧I m s₄) (fun _ _=>False) s₃) (fun _ _=>False) s₂) (fun _ _=>False) s₁') (fun _ _=>False) s₁) (fun _ _=>False) s)
    (n:Nat) (h:I n s) :
    codeAny (model prog w) A (.compLoop (.ListComp elt [⟨target,iter,[],0⟩] scope pos) 0 it acc env) R s:=by
  refine codeAny_loop rfl I (fun n s hI=>?_) n h
  show wpAny _ _ ((compTurn (.ListComp elt [⟨target,iter,[],0⟩] scope pos) 0 it acc env).onRaise (fun x=>do noteFrame x env; theTreesLotGoes x)) _ _ s
  refine wpAny_noted ?_
  rw [compTurn_list1]
  refine wpAny_bind (wpAny_standAt (wpAny_bind (wpAny_mono (turn n s hI) (fun r s₁ h₁=>?_) fun _ _ h'=>h'.elim)))
  cases r with
  | none=>exact wpAny_pure h₁
  | some v =>
    refine wpAny_bind (wpAny_mono h₁ (fun _ s₁' h₁'=>?_) fun _ _ h'=>h'.elim)
    exact wpAny_bind (wpAny_mono h₁' (fun _ s₂ h₂=>wpAny_bind (wpAny_bind (wpAny_mono h₂ (fun x s₃ h₃=>wpAny_bind (wpAny_mono h₃
      (fun _ s₄ h₄=>wpAny_pure (wpAny_pure ⟨rfl,h₄⟩)) fun _ _ h'=>h'.elim)) fun _ _ h'=>h'.elim))) fun _ _ h'=>h'.elim)
end
end L2
namespace L2
open PySem PySem.Spec PyProof.Rows
theorem hlt3 {a c n:Nat} (h:c < a) (e:n=a + 1):c < n + 1:=by omega
theorem hno3 {a c n:Nat} (h:c < a) (e:n=a + 1) (h2:n + 1≤c):False:=by omega
theorem hno4 {a c n:Nat} (h:c < a) (e:n=a + 1) (h2:c=n):False:=by omega
theorem hno5 {a c d n:Nat} (h:d < a) (e:n=a + 1) (h2:n + 1≤c) (h3:c=d):False:=by omega
theorem hno6 {a c:Nat} (h:c < a) (h2:a=c):False:=by omega
theorem hno7 {a c n:Nat} (e:n=a + 1) (h2:n + 1≤c) (h3:c=a):False:=by omega
section
variable {X:Cx} {pins:List (Addr × Obj)} {σ:St} {H:Hp} {s:Shared}
set_option maxHeartbeats 1000000 in
theorem comp_run {elt tg iter:Expr} {scope:Scope} {pos pos':Pos} {N:List Str} {ix:List (Option Nat)} {wi:TI} {g:TG} {te:TE} {Q:VK} {use:Option (Value→Sem Unit)} {Qv:Value→Shared→Prop}
    (hc:X.calm=true) (ok:CompOk X scope N ix) (hi:PI X tg iter wi)
    (hg:∀ cs C s H fp,PG (inX X scope N cs C s H fp) tg g) (he:∀ cs C s H fp,PE (inX X scope N cs C s H fp) elt te)
    (hs:∀ x,foldedSetIterable iter X.env x=pure x) (I:Inv X pins σ H s) (h:tComp wi ix g te σ H Q)
    (fin:∀ (D C:Addr) (m:Str→Option Value) (ys:List V) (H':Hp) (s':Shared),Inv X pins σ (upd H' D (.lst ys)) s'→s'.heap.Ns C m→FpOk X pins (upd H' D (.lst ys)) C→Q (.ref D) (upd H' D (.lst ys)) →
      compPost (model X.prog X.w) X.A X.xe use Qv (.ref D) C (.ok .next) s') :
    wpAny (model X.prog X.w) X.A (comprehension (.ListComp elt [⟨tg,iter,[],0⟩] scope pos) scope X.env pos' (newList []) false (eval iter X.env) use) Qv X.xe s:=by
  have hfree:∀ y∈scope.names,y.2=.free→∃ c,X.env.cells.lookup y.1=some c:=fun y hy e=>I.ok.has y.1 (ok.free y hy e)
  refine wpAny_comprehension_free (cl:=closL X.env scope.names []) rfl hs (closureFor_of hfree) ok.kind (fun x hx hl=>by have:=ok.names x hx; rw [hl] at this; exact this) ?_
  refine thn (hi pins s σ H _ I h) fun v s1 h1=>thn h1 fun itv s2 h2=>?_
  obtain ⟨it,fp,tn,J,H2,rfl,I2,T,st2,f2,W,⟨m0,w0⟩,turn⟩:=h2
  refine wpAny_newObj_type ?_ (by show 0≤sizeLine; decide)
  refine newEnv_block ?_
  dsimp only
  generalize hh3:s2.heap.push { cls:=.type "list",dict:=none,data:=.seq ([]:List Value).toArray }=h3
  have hC:h3.objs.size=s2.heap.objs.size + 1:=by rw [← hh3,Heap.size_push]
  generalize hh4:pushCells (h3.push { cls:=.type "dict",data:=.dict #[] }) scope.names=h4
  generalize hcs:cellsFrom (h3.objs.size + 1) scope.names (closL X.env scope.names [])=cs
  have up3:∀ b o,h3.get? b=some o→h4.get? b=some o:=fun b o e=>by
    rw [← hh4]
    exact pushCells_keeps _ _ b o (Heap.get?_push_of_some _ e)
  have up:∀ b o,s2.heap.get? b=some o→h4.get? b=some o:=fun b o e=>up3 b o (by rw [← hh3]; exact Heap.get?_push_of_some _ e)
  have hD4:h4.get? s2.heap.objs.size=some { cls:=.type "list",data:=.seq ([]:List Value).toArray }:=up3 _ _ (by rw [← hh3]; exact Heap.get?_push_size _ rfl)
  have hNs:h4.Ns h3.objs.size (fun _=>none):=by
    rw [← hh4]
    exact (Heap.Ns.new h3 (.type "dict")).keeps (pushCells_keeps _ _)
  have hclE:∀ x c,(closL X.env scope.names []).lookup x=some c→X.env.cells.lookup x=some c:=fun x c e=>by
    rcases closL_look scope.names [] hfree e with q | q
    · simp at q
    · exact q
  have hclLt:∀ x c,(closL X.env scope.names []).lookup x=some c→c < s2.heap.objs.size:=fun x c e=>by
    obtain ⟨v,q⟩:=I2.cell x c (hclE x c e)
    exact q.lt
  have CI:CellsIn h4 (h3.objs.size + 1) (fun x=>(x,NameKind.cell)∈scope.names) (closL X.env scope.names []) cs:=by
    have q:=cellsFrom_in (lo:=h3.objs.size + 1) (nm:=fun x=>(x,NameKind.cell)∈scope.names) (cl:=closL X.env scope.names []) (fun x c e=>hlt3 (hclLt x c e) hC) scope.names (h3.push { cls:=.type "dict",data:=.dict #[] }) (closL X.env scope.names [])
      (fun y hy e=>by obtain ⟨a,b⟩:=y; cases e; exact hy) (by rw [Heap.size_push]; exact Nat.le_refl _)
      ⟨fun x c e=>.inl e,fun x y c hl e _=>(hno3 (hclLt x c e) hC hl).elim⟩
    rw [Heap.size_push,hcs,hh4] at q
    exact q
  have csOld:∀ x c,cs.lookup x=some c→X.env.cells.lookup x=some c∨(h3.objs.size + 1≤c∧h4.IsCell c none∧(x,NameKind.cell)∈scope.names):=fun x c e=>by
    rcases CI.look x c e with q | q
    · exact .inl (hclE x c q)
    · exact .inr q
  have capLook:∀ x,scope.names.lookup x=some .free→∃ c,cs.lookup x=some c∧X.env.cells.lookup x=some c:=fun x hx=>by
    have hm:(x,NameKind.free)∈scope.names:=mem_lookup hx
    obtain ⟨c0,e0⟩:=closL_has (env:=X.env) scope.names [] (.inl hm)
    have q:=PySem.W.cellsFrom_some scope.names (h3.objs.size + 1) (closL X.env scope.names []) (x:=x) (.inr (by rw [e0]; rfl))
    rw [hcs] at q
    obtain ⟨c,e⟩:=Option.isSome_iff_exists.mp q
    refine ⟨c,e,?_⟩
    rcases csOld x c e with z | ⟨_,_,z⟩
    · exact z
    · have z2:=ok.names _ z
      rw [hx] at z2
      cases z2
  have below:∀ b∈fp,b < s2.heap.objs.size:=fun b hb=>by
    obtain ⟨o,e,_⟩:=T.obj 0 _ st2 b hb
    exact Heap.lt_size e
  have ok':(inX X scope N cs h3.objs.size s2 H2 fp).Ok:=by
    refine ⟨I2.mod,ok.kind,I2.ok.glob,I2.ok.blt,by show s2.heap.objs.size≤h3.objs.size; omega,?_,?_,?_,I2.ok.hd,I2.ok.frames,.inl rfl,?_,I2.bs,Nat.le_trans I2.ok.bsz I2.sz,?_,?_,I2.stack,I2.stkFree⟩
    · intro x y c e1 e2
      have e1:cs.lookup x=some c:=e1
      have e2:cs.lookup y=some c:=e2
      rcases csOld x c e1 with q1 | ⟨q1,_,_⟩
      · rcases csOld y c e2 with q2 | ⟨q2,_,_⟩
        · exact I2.ok.inj x y c q1 q2
        · obtain ⟨v,z⟩:=I2.cell x c q1
          exact (hno3 z.lt hC q2).elim
      · exact CI.inj x y c q1 e1 e2
    · intro x hx
      have hx:(relabel scope X.env).names.lookup x=some .cell∨(relabel scope X.env).names.lookup x=some .free:=hx
      show ∃ c,cs.lookup x=some c
      have q:scope.names.lookup x=some .cell∨scope.names.lookup x=some .free:=by
        rcases hx with hx | hx
        · rcases lookup_relabel hx with q | ⟨_,q⟩
          · exact .inl q
          · exact .inr q
        · rcases lookup_relabel hx with q | ⟨z,q⟩
          · exact .inr q
          · cases z
      rcases q with q | q
      · have z:=PySem.W.cellsFrom_some scope.names (h3.objs.size + 1) (closL X.env scope.names []) (x:=x) (.inl q)
        rw [hcs] at z
        exact Option.isSome_iff_exists.mp z
      · obtain ⟨c,e,_⟩:=capLook x q
        exact ⟨c,e⟩
    · intro x c hf e
      have hf:(scope.names.lookup x == some .cell)=true:=hf
      have hf':scope.names.lookup x=some .cell:=by simpa using hf
      have e:cs.lookup x=some c:=e
      show s2.heap.objs.size≤c
      rcases CI.look x c e with q | ⟨q,_,_⟩
      · -- an own cell hides what is closed over: but the name would be free too
        exfalso
        have key:∀ (names:List (Str × NameKind)) (acc:List (Str × Addr)),(x,NameKind.free) ∉ names→acc.lookup x=none→(closL X.env names acc).lookup x=none:=by
          intro names
          induction names with
          | nil=>intro acc _ h; exact h
          | cons p r ih =>
            obtain ⟨n,k⟩:=p
            intro acc hm h
            unfold closL
            have hm':(x,NameKind.free) ∉ r:=fun z=>hm (List.mem_cons_of_mem _ z)
            split
            · rename_i hk
              refine ih _ hm' ?_
              rw [List.lookup_cons]
              cases hb:x == n with
              | true =>
                have e1:x=n:=beq_iff_eq.mp hb
                have e2:k=.free:=by simpa using hk
                exact absurd (by rw [e1,e2]; exact List.mem_cons_self) hm
              | false=>exact h
            · exact ih _ hm' h
        rw [key scope.names [] (fun z=>by have:=ok.names _ z; rw [hf'] at this; cases this) rfl] at q
        cases q
      · omega
    · intro b hb
      refine ⟨fun z=>?_,fun x c e z=>?_⟩
      · have z:b=h3.objs.size:=z
        exact hno4 (below b hb) hC z
      · have e:cs.lookup x=some c:=e
        rcases csOld x c e with q | ⟨q,_,_⟩
        · exact (f2 b hb).2.2.2.2.1 x c q z
        · exact hno5 (below b hb) hC q z
    · intro b o e hb
      rcases (f2 b hb).2.2.2.1 with z | z
      · exact I2.ok.noex b o e z
      · have z1:=Heap.lt_size e
        have z2:=I2.ok.bsz
        exact absurd (Nat.lt_of_lt_of_le z1 (Nat.le_trans z2 z)) (Nat.lt_irrefl _)
    · intro b hb z
      rcases List.mem_cons.mp (I2.stkSub b z) with q | q
      · exact (f2 b hb).2.1 q
      · exact (f2 b hb).2.2.1 q
  have fresh:∀ a,s2.heap.objs.size≤a→H2 a=none:=fun a ha=>I2.hok.fresh ha
  have hok4:HOk X.prog X.w H2 h4:=I2.hok.kept up
  have I4 : Inv (inX X scope N cs h3.objs.size s2 H2 fp) [(s2.heap.objs.size,{ cls:=.type "list",data:=.seq ([]:List Value).toArray })] (capS ix σ) H2 { s2 with heap:=h4 }:=by
    refine ⟨ok',rfl,I2.bare,Un.kept up,⟨_,hNs,fun i x v e1 e2 e3=>?_⟩,fun x c e=>?_,fresh _ (by show s2.heap.objs.size≤h3.objs.size; omega),fun x c e=>?_,fun p hp=>?_,hok4,?_⟩
    · have e1:N[i]?=some x:=e1
      have e2':(capS ix σ)[i]?=some (some v):=e2
      unfold capS at e2'
      rw [List.getElem?_map] at e2'
      cases hix:ix[i]? with
      | none=>rw [hix] at e2'; cases e2'
      | some o =>
        rw [hix] at e2'
        cases o with
        | none=>cases e2'
        | some j =>
          have e2'':((σ[j]?).bind id)=some v:=Option.some.inj e2'
          have hσ:σ[j]?=some (some v):=by
            cases q:σ[j]? with
            | none=>rw [q] at e2''; cases e2''
            | some o=>rw [q] at e2''; rw [show o=some v from e2'']
          have hcap:=ok.cap i
          rw [hix,e1] at hcap
          obtain ⟨hX,hfr⟩:=hcap
          obtain ⟨c,ec,eX⟩:=capLook x hfr
          obtain ⟨m,hn,hl⟩:=I2.loc
          have hk:=ok.free _ (mem_lookup hfr) rfl
          have hk:X.env.kindOf x=some .cell∨X.env.kindOf x=some .free:=hk
          obtain ⟨u,r,l⟩:=hl j x v hX hσ (by rcases hk with z | z; exact .inr (.inl z); exact .inr (.inr z))
          refine ⟨u,r,.inr ⟨relabel_free hfr,c,ec,?_⟩⟩
          rcases l with ⟨z,_⟩ | ⟨_,c',e',z⟩
          · rcases hk with y | y <;> (rw [z] at y; cases y)
          · rw [eX] at e'
            cases e'
            exact z.keeps up
    · have e:cs.lookup x=some c:=e
      rcases csOld x c e with q | ⟨_,q,_⟩
      · obtain ⟨v,z⟩:=I2.cell x c q
        exact ⟨v,z.keeps up⟩
      · exact ⟨none,q⟩
    · have e:cs.lookup x=some c:=e
      rcases csOld x c e with q | ⟨q,_,_⟩
      · exact I2.freeC x c q
      · exact fresh c (by omega)
    · have hp:p∈[(s2.heap.objs.size,({ cls:=.type "list",data:=.seq ([]:List Value).toArray }:Obj))]:=hp
      obtain rfl:=List.mem_singleton.mp hp
      refine ⟨hD4,fresh _ (Nat.le_refl _),?_,fun z=>?_,fun v z=>?_⟩
      · show s2.heap.objs.size≠h3.objs.size
        omega
      · have z:s2.heap.objs.size∈frs X.stack:=z
        obtain ⟨_,o,ho,_⟩:=I2.stack.mem z
        exact absurd (Heap.lt_size ho) (Nat.lt_irrefl _)
      · have z':Data.seq _ _=Data.cell v:=z
        cases z'
    · unfold capS
      rw [List.length_map]
      exact ok.len
  have stat:∀ {k:Nat} {its:List Value} {H':Hp},(∀ b∈fp,H' b=none)→∀ b∈fp,FpOk (inX X scope N cs h3.objs.size s2 H2 fp) [(s2.heap.objs.size,{ cls:=.type "list",data:=.seq its.toArray k })] H' b:=fun {k its H'} hn b hb=>by
    obtain ⟨h1,h2⟩:=ok'.exf b hb
    refine ⟨hn b hb,h1,ok'.exfs b hb,.inl hb,h2,fun p hp z=>?_⟩
    have hp:p∈[(s2.heap.objs.size,({ cls:=.type "list",data:=.seq its.toArray k }:Obj))]:=hp
    obtain rfl:=List.mem_singleton.mp hp
    have z:s2.heap.objs.size=b:=z
    exact hno6 (below b hb) z
  have loop:codeAny (model X.prog X.w) X.A (.compLoop (.ListComp elt [⟨tg,iter,[],0⟩] scope pos) 0 (.ref it) (.ref s2.heap.objs.size) (inEnv scope cs h3.objs.size X.env))
      (compPost (model X.prog X.w) X.A X.xe use Qv (.ref s2.heap.objs.size) h3.objs.size) { s2 with heap:=h4 }:=by
    refine comp_loop (fun n s'=>∃ (i:Nat) (ys:List V) (its:List Value) (k:Nat) (H':Hp),Inv (inX X scope N cs h3.objs.size s2 H2 fp) [(s2.heap.objs.size,{ cls:=.type "list",data:=.seq its.toArray k })] (capS ix σ) H' s'∧tn i s'.heap∧(∀ b∈fp,H' b=none)∧Vals ys its∧W i n ys H') ?_ m0
      ⟨0,[],[],0,H2,I4,T.keep 0 _ _ st2 (fun b _ o e=>up b o e),fun b hb=>(f2 b hb).1,.nil,w0⟩
    rintro n s5 ⟨i,ys,its,k,H5,I5,st5,fr5,v5,w5⟩
    rcases turn i n ys H5 w5 with ⟨stop,hz,q⟩ | ⟨go,hz,step⟩
    · refine thn (T.done (inX X scope N cs h3.objs.size s2 H2 fp) rfl rfl rfl hc i _ s5 _ H5 _ I5 (stat fr5) st5 stop) fun r s6 ⟨hr,I6⟩=>?_
      subst hr
      dsimp only
      obtain ⟨eD,nD,_,_,_⟩:=I6.pin _ (List.mem_append_right _ (List.mem_singleton.mpr rfl))
      have eD:s6.heap.get? s2.heap.objs.size=some { cls:=.type "list",data:=.seq its.toArray k }:=eD
      have nD:H5 s2.heap.objs.size=none:=nD
      obtain ⟨mC,hnC,_⟩:=I6.loc
      have hnC:s6.heap.Ns h3.objs.size mC:=hnC
      have fC:H5 h3.objs.size=none:=I6.free
      have un6:Un (frs X.stack) fp H2 H5 s2.heap s6.heap:=I6.base
      have ne2:∀ {b:Addr} {o:Obj},s2.heap.get? b=some o→b≠s2.heap.objs.size:=fun e z=>hno6 (Heap.lt_size e) z.symm
      have neH:∀ {b:Addr} {o:HO},H2 b=some o→b≠s2.heap.objs.size:=fun e=>ne_of_none e (fresh _ (Nat.le_refl _))
      have un7:Un (frs X.stack) fp H2 (upd H5 s2.heap.objs.size (.lst ys)) s2.heap s6.heap :=
        ⟨un6.keep,un6.slot,fun b o e n hx=>by rw [upd_ne (ne2 e)]; exact un6.free b o e n hx,un6.there,fun b xs e=>by rw [upd_ne (neH e)]; exact un6.tups b xs e,fun b o u e=>by rw [upd_ne (neH e)]; exact un6.frzs b o u e,
          fun b ps e=>by rw [upd_ne (neH e)]; exact un6.tbls b ps e⟩
      have hok7:HOk X.prog X.w (upd H5 s2.heap.objs.size (.lst ys)) s6.heap:=fun b u e=>by
        by_cases hb:b=s2.heap.objs.size
        · subst hb
          rw [upd_same] at e
          cases e
          exact ⟨hz,its,k,v5,eD⟩
        · rw [upd_ne hb] at e
          exact (I6.hok b u e).stay (fun _ _ _ q=>q) (fun c q=>by rw [upd_ne (ne_of_none q nD)]; exact q) fun c xs q=>by rw [upd_ne (ne_of_none q nD)]; exact q
      have I7:Inv X pins σ (upd H5 s2.heap.objs.size (.lst ys)) s6:=I2.call' I6.os un7 hok7 I6.bare fun b hb=>by
        obtain ⟨_,z1,_,z2,z3,z4⟩:=f2 b hb
        exact ⟨z2,z1,z3,z4⟩
      refine fin _ _ mC ys H5 s6 I7 hnC ?_ (q _ nD)
      exact I2.fpOk (by rw [hC]; exact Nat.le_succ _) (by rw [upd_ne (by rw [hC]; exact Nat.succ_ne_self _)]; exact fC)
    · refine thn (T.item (inX X scope N cs h3.objs.size s2 H2 fp) rfl rfl rfl hc i _ s5 _ H5 _ I5 (stat fr5) st5 go) fun r s6 ⟨u,hr,h6⟩=>?_
      subst hr
      dsimp only
      refine thn h6 fun _ s7 ⟨x,H7,I7,r7,y7,st7,fr7⟩=>?_
      have I7':=I7.pinned (stat fr7) (T.obj _ _ st7)
      refine thn (hg cs h3.objs.size s2 H2 fp _ s7 _ H7 x u _ I7' r7 (step x H7 y7)) fun _ s8 ⟨σ8,H8,I8,le8,q8⟩=>?_
      refine thn (he cs h3.objs.size s2 H2 fp _ s8 σ8 H8 _ I8 q8) fun uy s9 ⟨y,H9,I9,ry,m',hm',w9⟩=>?_
      obtain ⟨eD,nD,_,_,_⟩:=I9.pin (s2.heap.objs.size,{ cls:=.type "list",data:=.seq its.toArray k }) (List.mem_append_right _ (List.mem_append_left _ (List.mem_singleton.mpr rfl)))
      have eD:s9.heap.get? s2.heap.objs.size=some { cls:=.type "list",data:=.seq its.toArray k }:=eD
      have nD:H9 s2.heap.objs.size=none:=nD
      have hlen:=v5.length
      refine call_meets F.slot_list_append ⟨_,eD,rfl⟩ F.entry_list_append (F.args_list_append_2 _ _) (PySem.list_append s2.heap.objs.size its.toArray k uy (by rw [List.size_toArray]; omega)) ⟨eD,?_⟩
      obtain ⟨k',eN⟩:∃ k',(s9.heap.update s2.heap.objs.size (Obj.mapSeq fun xs=>xs.push uy)).get? s2.heap.objs.size=some { cls:=.type "list",data:=.seq (its ++ [uy]).toArray k' }:=by
        have q:=PySem.IsL.update eD (fun xs=>xs.push uy)
        rw [show its.toArray.push uy=(its ++ [uy]).toArray by simp] at q
        exact ⟨_,q⟩
      have fpNe:∀ b∈fp,b≠s2.heap.objs.size:=fun b hb z=>hno6 (below b hb) z.symm
      have pinFp:∀ b∈fp,∀ o,s7.heap.get? b=some o→s9.heap.get? b=some o∧H9 b=none:=fun b hb o e=>by
        have z:=I9.pin (b,o) (List.mem_append_right _ (List.mem_append_right _ (mem_pinsAt hb e)))
        exact ⟨z.1,z.2.1⟩
      have I9':Inv (inX X scope N cs h3.objs.size s2 H2 fp) [] (capS ix σ) H9 s9:=(I9.pins_of (pins':=[]) (fun p hp=>absurd hp (by simp))).weak le8.1 le8.2
      have I10:Inv (inX X scope N cs h3.objs.size s2 H2 fp) [] (capS ix σ) H9 { s9 with heap:=s9.heap.update s2.heap.objs.size (Obj.mapSeq fun xs=>xs.push uy) }:=by
        refine I9'.turned (t':=s9.toks) (it:=s2.heap.objs.size) (fun b o hb e=>(Heap.get?_update_other _ _ (Ne.symm hb)).trans e) nD (by show s2.heap.objs.size≠h3.objs.size; omega) (.inr (Nat.le_refl _)) (fun x c e z=>?_) (fun p hp=>absurd (show p∈([]:List (Addr × Obj)) from hp) (by simp))
        have e:cs.lookup x=some c:=e
        rcases csOld x c e with q | ⟨q,_,_⟩
        · obtain ⟨v,z2⟩:=I2.cell x c q
          exact hno6 z2.lt z.symm
        · exact hno7 hC q z
      refine ⟨m',hm',i + 1,ys ++ [y],its ++ [uy],k',H9,I10.pins_of (fun p hp=>?_),?_,fun b hb=>?_,v5.append (.cons ry .nil),w9⟩
      · obtain rfl:=List.mem_singleton.mp hp
        refine ⟨eN,nD,?_,fun z=>?_,fun v z=>?_⟩
        · show s2.heap.objs.size≠h3.objs.size
          omega
        · have z:s2.heap.objs.size∈frs X.stack:=z
          obtain ⟨_,o,ho,_⟩:=I2.stack.mem z
          exact absurd (Heap.lt_size ho) (Nat.lt_irrefl _)
        · have z':Data.seq _ _=Data.cell v:=z
          cases z'
      · refine T.keep (i + 1) _ _ st7 fun b hb o e=>?_
        exact (Heap.get?_update_other _ _ (Ne.symm (fpNe b hb))).trans (pinFp b hb o e).1
      · obtain ⟨o,e,_⟩:=T.obj _ _ st7 b hb
        exact (pinFp b hb o e).2
  exact codeAny_compStart_list loop (T.self _ 0 _ _ _ (T.keep 0 _ _ st2 (fun b _ o e=>up b o e)) loop)
end
end L2
namespace L2
open PySem PySem.Spec PyProof.Rows
section
variable {X:Cx} {pins:List (Addr × Obj)} {σ:St} {H:Hp} {s:Shared}
theorem Inv.gone {C:Addr} {h':Heap} (I:Inv X pins σ H s) (f:FpOk X pins H C) (sb:Heap.SameBut C s.heap h'):Inv X pins σ H { s with heap:=h' }:=by
  obtain ⟨z0,z1,_,z2,z3,z4⟩:=f
  exact I.turned (t':=s.toks) (fun b o hb e=>(sb.2 b hb).trans e) z0 z1 z2 z3 z4
theorem pe_comp {elt tg iter:Expr} {scope:Scope} {pos:Pos} {N:List Str} {ix:List (Option Nat)} {wi:TI} {g:TG} {te:TE}
    (hc:X.calm=true) (ok:CompOk X scope N ix) (hi:PI X tg iter wi)
    (hg:∀ cs C s H fp,PG (inX X scope N cs C s H fp) tg g) (he:∀ cs C s H fp,PE (inX X scope N cs C s H fp) elt te)
    (hs:∀ x,foldedSetIterable iter X.env x=pure x:=by intro _; rfl):PE X (.ListComp elt [⟨tg,iter,[],0⟩] scope pos) (tComp wi ix g te):=by
  intro pins s σ H Q I h
  rw [eval_ListComp]
  refine comp_run (use:=none) hc ok hi hg he hs I h fun D C m ys H' s' I' hn f q=>?_
  exact ⟨m,hn,fun h' sb=>⟨.ref D,_,I'.gone f sb,rfl,q⟩⟩
theorem ps_setComp {i:Nat} {x:Str} {elt tg iter:Expr} {scope:Scope} {pos pos' spos:Pos} {N:List Str} {ix:List (Option Nat)} {wi:TI} {g:TG} {te:TE}
    (hN:X.N.Nodup) (hx:X.N[i]?=some x) (hl:Loc X.env.scope x)
    (hsw:swapsWith (.ListComp elt [⟨tg,iter,[],0⟩] scope pos) (some (.Name x pos')) spos.line X.env=pure true)
    (hc:X.calm=true) (ok:CompOk X scope N ix) (hi:PI X tg iter wi)
    (hg:∀ cs C s H fp,PG (inX X scope N cs C s H fp) tg g) (he:∀ cs C s H fp,PE (inX X scope N cs C s H fp) elt te)
    (hs:∀ x,foldedSetIterable iter X.env x=pure x:=by intro _; rfl) (hf:X.fn x=true∨X.env.scope.names.lookup x=some .local:=by first | exact .inl rfl | exact .inr rfl | assumption) :
    PS X (.Assign [.Name x pos'] (.ListComp elt [⟨tg,iter,[],0⟩] scope pos) spos) (tAsg (tComp wi ix g te) (gName i)):=by
  intro pins s σ H D I h
  rw [exec_Assign_Name_used _ _ _ _ hsw]
  refine wpAny_bind (wpAny_standAt (wpAny_bind ?_))
  show wpAny _ X.A (do let _ ← comprehension (.ListComp elt [⟨tg,iter,[],0⟩] scope pos) scope X.env _ (newList []) false (eval iter X.env) (some (assign (.Name x pos') X.env))) _ _ s
  refine wpAny_bind (thn (comp_run (use:=some (assign (.Name x pos') X.env)) (Qv:=fun _ s'=>SP X pins D .next s') hc ok hi hg he hs I h fun A C m ys H' s' I' hn f q=>?_) fun _ s' hq=>wpAny_pure (wpAny_pure hq))
  show wpAny _ X.A (assign (.Name x pos') X.env (.ref A)) _ _ _
  refine wpAny_assign_Name (store_ok2 (v:=.ref A) I' hN hx hl rfl (fun s'' I'' sa=>?_) hf)
  obtain ⟨a,sb,ha⟩:=sa
  have hCa:C≠a:=by
    rcases ha with z | z
    · rw [z]; exact f.2.1
    · exact fun e=>f.2.2.2.2.1 x a z e.symm
  exact ⟨m,hn.sameBut sb hCa,fun h' sb'=>⟨_,_,I''.gone f sb',q⟩⟩
def truB:V→Bool
  | .int i=>i != 0
  | .bl b=>b
  | _=>false
def isIB:V→Bool
  | .int _=>true
  | .bl _=>true
  | _=>false
theorem tr_of {A:Around} {E:Value→Shared→Prop} {s:Shared} {P:Program} {w:World} {x:V} {u:Value} {Q:Bool→Shared→Prop} (hx:isIB x=true) (r:RelV x u) (q:Q (truB x) s):wpAny (model P w) A (truthy u) Q E s:=by
  cases x with
  | int i=>obtain ⟨t,rfl⟩:=r; exact truthy_int q
  | bl b=>cases r; exact wpAny_truthy_bool q
  | _=>exact absurd (show false=true from hx) Bool.false_ne_true
theorem kept_it {o:Obj} {h h':Heap} (hk:∀ b x,b ∉ [h.objs.size]→(h.push o).get? b=some x→h'.get? b=some x):∀ b x,h.get? b=some x→h'.get? b=some x :=
  fun b x e=>hk b x (fun hm=>by rw [List.mem_singleton.mp hm] at e; exact Nat.lt_irrefl _ (Heap.lt_size e)) (Heap.get?_push_of_some _ e)
theorem call_allL (hc:X.calm=true):CallR X (.builtin "all") (fun xs H Q=>∃ (p:Addr) (ys:List V),xs=[.ref p]∧SqL X.K H p ys∧(∀ y∈ys,isIB y=true)∧Q (.bl (ys.all truB)) H):=by
  intro pins s σ H xs us Q I r h
  obtain ⟨p,ys,rfl,hq,hf,q⟩:=h
  obtain ⟨u,rfl,rx⟩:=vals1 r
  cases rx
  obtain ⟨its,r',pl,hz⟩:=I.list hq
  have hl:=pl.isList
  have hlt:p < s.heap.objs.size:=by obtain ⟨_,e,_⟩:=hl; exact Heap.lt_size e
  refine call_all_walk (wpAny_pyIter_list hl ?_)
  refine ⟨s.heap.objs.size,[s.heap.objs.size,p],[s.heap.objs.size],its.toArray.size,_,_,fun i=>((ys.map truB)[i]?).getD true,rfl,Walks.list (A:=X.A.in1) (I.ok.hd hc) _ p (Nat.ne_of_lt hlt) its.toArray,
    ⟨⟨_,Heap.get?_push_size _ rfl,rfl,rfl⟩,hl.push _⟩,fun i v s' Q' E' hP hQ=>?_,fun h' tk hk=>?_⟩
  · have hP:its.toArray[i]?=some v:=hP
    have hi:its[i]?=some v:=by simpa using hP
    have hlen:=r'.length
    have hlt2:i < ys.length:=by rw [hlen]; exact (List.getElem?_eq_some_iff.mp hi).1
    have hy:ys[i]?=some ys[i]:=List.getElem?_eq_getElem hlt2
    obtain ⟨u,hu,ru⟩:=r'.get hy
    rw [hi] at hu
    cases hu
    dsimp only at hQ
    rw [List.getElem?_map,hy] at hQ
    exact tr_of (hf _ (List.getElem_mem hlt2)) ru hQ
  · have e:((List.range its.toArray.size).all fun i=>((ys.map truB)[i]?).getD true)=ys.all truB:=by
      have:=LSm.range_all (ys.map truB)
      rw [List.length_map,r'.length] at this
      rw [List.size_toArray,this,List.all_map]
      rfl
    rw [e]
    exact ⟨.bl _,H,I.kept (kept_it hk),rfl,q⟩
def CDivX (_i j:Int):Prop:=j≠0∧j.natAbs.log2 < 9000
theorem op_fdivX:OpR X (binaryOp .FloorDiv) (rI CDivX fun i j=>.int (i.fdiv j)):=opI fun _ _ _ _ _ _ _ hc q=>floordiv_int hc.1 q (.inl (PyProof.noPylong_of_log2 hc.2))
theorem op_mulX:OpR X (binaryOp .Mult) (rI IntMulOk fun i j=>.int (i * j)):=opI fun _ _ _ _ _ _ _ hc q=>mul_int q hc
end
end L2
namespace L2
open PySem PySem.Spec PyProof.Rows
inductive Ty | int | bool | str | non | list | tuple
def Ty.nm:Ty→String
  | .int => "int" | .bool => "bool" | .str => "str" | .non => "NoneType" | .list => "list" | .tuple => "tuple"
def subT:Ty→Ty→Bool
  | .int,.int=>true | .bool,.bool=>true | .bool,.int=>true | .str,.str=>true | .non,.non=>true | .list,.list=>true | .tuple,.tuple=>true
  | _,_=>false
def isTy (K:PySem.W.Frag):V→Hp→Ty→Prop
  | .int _,_,t=>t=.int
  | .bl _,_,t=>t=.bool
  | .str _,_,t=>t=.str
  | .non,_,t=>t=.non
  | .ref p,H,t=>(t=.list∧∃ xs,SqL K H p xs)∨(t=.tuple∧∃ xs,SqT K H p xs)
  | _,_,_=>False
theorem tty_list:typeOf (.type "list")=pure (.type "type"):=by first | rfl | kernel_rfl
theorem tty_tuple:typeOf (.type "tuple")=pure (.type "type"):=by first | rfl | kernel_rfl
theorem tty_int:typeOf (.type "int")=pure (.type "type"):=by first | rfl | kernel_rfl
theorem tty_bool:typeOf (.type "bool")=pure (.type "type"):=by first | rfl | kernel_rfl
theorem tty_str:typeOf (.type "str")=pure (.type "type"):=by first | rfl | kernel_rfl
theorem sub_int_list:isSubtype (.type "int") (.type "list")=pure false:=by rw [isSubtype_type]; kernel_rfl
theorem sub_int_tuple:isSubtype (.type "int") (.type "tuple")=pure false:=by rw [isSubtype_type]; kernel_rfl
theorem sub_int_int:isSubtype (.type "int") (.type "int")=pure true:=by rw [isSubtype_type]; kernel_rfl
theorem sub_int_bool:isSubtype (.type "int") (.type "bool")=pure false:=by rw [isSubtype_type]; kernel_rfl
theorem sub_int_str:isSubtype (.type "int") (.type "str")=pure false:=by rw [isSubtype_type]; kernel_rfl
theorem sub_bool_list:isSubtype (.type "bool") (.type "list")=pure false:=by rw [isSubtype_type]; kernel_rfl
theorem sub_bool_tuple:isSubtype (.type "bool") (.type "tuple")=pure false:=by rw [isSubtype_type]; kernel_rfl
theorem sub_bool_int:isSubtype (.type "bool") (.type "int")=pure true:=by rw [isSubtype_type]; kernel_rfl
theorem sub_bool_bool:isSubtype (.type "bool") (.type "bool")=pure true:=by rw [isSubtype_type]; kernel_rfl
theorem sub_bool_str:isSubtype (.type "bool") (.type "str")=pure false:=by rw [isSubtype_type]; kernel_rfl
theorem sub_str_list:isSubtype (.type "str") (.type "list")=pure false:=by rw [isSubtype_type]; kernel_rfl
theorem sub_str_tuple:isSubtype (.type "str") (.type "tuple")=pure false:=by rw [isSubtype_type]; kernel_rfl
theorem sub_str_int:isSubtype (.type "str") (.type "int")=pure false:=by rw [isSubtype_type]; kernel_rfl
theorem sub_str_bool:isSubtype (.type "str") (.type "bool")=pure false:=by rw [isSubtype_type]; kernel_rfl
theorem sub_str_str:isSubtype (.type "str") (.type "str")=pure true:=by rw [isSubtype_type]; kernel_rfl
theorem sub_NoneType_list:isSubtype (.type "NoneType") (.type "list")=pure false:=by rw [isSubtype_type]; kernel_rfl
theorem sub_NoneType_tuple:isSubtype (.type "NoneType") (.type "tuple")=pure false:=by rw [isSubtype_type]; kernel_rfl
theorem sub_NoneType_int:isSubtype (.type "NoneType") (.type "int")=pure false:=by rw [isSubtype_type]; kernel_rfl
theorem sub_NoneType_bool:isSubtype (.type "NoneType") (.type "bool")=pure false:=by rw [isSubtype_type]; kernel_rfl
theorem sub_NoneType_str:isSubtype (.type "NoneType") (.type "str")=pure false:=by rw [isSubtype_type]; kernel_rfl
theorem sub_list_list:isSubtype (.type "list") (.type "list")=pure true:=by rw [isSubtype_type]; kernel_rfl
theorem sub_list_tuple:isSubtype (.type "list") (.type "tuple")=pure false:=by rw [isSubtype_type]; kernel_rfl
theorem sub_list_int:isSubtype (.type "list") (.type "int")=pure false:=by rw [isSubtype_type]; kernel_rfl
theorem sub_list_bool:isSubtype (.type "list") (.type "bool")=pure false:=by rw [isSubtype_type]; kernel_rfl
theorem sub_list_str:isSubtype (.type "list") (.type "str")=pure false:=by rw [isSubtype_type]; kernel_rfl
theorem sub_tuple_list:isSubtype (.type "tuple") (.type "list")=pure false:=by rw [isSubtype_type]; kernel_rfl
theorem sub_tuple_tuple:isSubtype (.type "tuple") (.type "tuple")=pure true:=by rw [isSubtype_type]; kernel_rfl
theorem sub_tuple_int:isSubtype (.type "tuple") (.type "int")=pure false:=by rw [isSubtype_type]; kernel_rfl
theorem sub_tuple_bool:isSubtype (.type "tuple") (.type "bool")=pure false:=by rw [isSubtype_type]; kernel_rfl
theorem sub_tuple_str:isSubtype (.type "tuple") (.type "str")=pure false:=by rw [isSubtype_type]; kernel_rfl
section
variable {X:Cx}
def rIsi (K:PySem.W.Frag) (T:Ty):List V→Hp→VK→Prop:=fun xs H Q=>∃ (x:V) (Tx:Ty),xs=[x,.ty T.nm]∧isTy K x H Tx∧Q (.bl (subT Tx T)) H
theorem isi_list:CallR X (.builtin "isinstance") (rIsi X.K .list):=by
  intro pins s σ H xs us Q I r h
  obtain ⟨x,Tx,rfl,hx,q⟩:=h
  obtain ⟨u,v,rfl,ru,rv⟩:=Vals.two r
  cases rv
  cases x with
  | int i =>
    cases hx
    obtain ⟨t,rfl⟩:=ru
    exact call_isinstance (isinstance_false_int (by decide) tty_list sub_int_list) (show EP X pins σ Q (.bool false) { s with toks:=s.toks + 1 } from ⟨.bl false,H,I.tok _,rfl,q⟩)
  | bl k =>
    cases hx
    cases ru
    exact call_isinstance (isinstance_false_bool (by decide) tty_list sub_bool_list) (show EP X pins σ Q (.bool false) { s with toks:=s.toks + 1 } from ⟨.bl false,H,I.tok _,rfl,q⟩)
  | str z =>
    cases hx
    obtain ⟨t,rfl⟩:=ru
    exact call_isinstance (isinstance_false_str (by decide) tty_list sub_str_list) (show EP X pins σ Q (.bool false) { s with toks:=s.toks + 1 } from ⟨.bl false,H,I.tok _,rfl,q⟩)
  | non =>
    cases hx
    cases ru
    exact call_isinstance (isinstance_false_none (by decide) tty_list sub_NoneType_list) (show EP X pins σ Q (.bool false) { s with toks:=s.toks + 1 } from ⟨.bl false,H,I.tok _,rfl,q⟩)
  | ref p =>
    cases ru
    rcases hx with ⟨rfl,xs,hq⟩ | ⟨rfl,xs,hq⟩
    · obtain ⟨its,r',pl,hz⟩:=I.list hq
      obtain ⟨o,ho,hcl,_⟩:=pl.isList
      exact call_isinstance (isinstance_true (Tx := "list") tty_list sub_list_list) ⟨⟨o,ho,hcl⟩,.bl true,H,I,rfl,q⟩
    · obtain ⟨its,r',pl,hz⟩:=I.tuple hq
      obtain ⟨o,ho,hcl,_⟩:=pl
      exact call_isinstance (isinstance_false_tuple (by decide) tty_list sub_tuple_list) ⟨⟨o,ho,hcl⟩,(show EP X pins σ Q (.bool false) { s with toks:=s.toks + 1 } from ⟨.bl false,H,I.tok _,rfl,q⟩)⟩
  | _=>exact False.elim hx
theorem isi_tuple:CallR X (.builtin "isinstance") (rIsi X.K .tuple):=by
  intro pins s σ H xs us Q I r h
  obtain ⟨x,Tx,rfl,hx,q⟩:=h
  obtain ⟨u,v,rfl,ru,rv⟩:=Vals.two r
  cases rv
  cases x with
  | int i =>
    cases hx
    obtain ⟨t,rfl⟩:=ru
    exact call_isinstance (isinstance_false_int (by decide) tty_tuple sub_int_tuple) (show EP X pins σ Q (.bool false) { s with toks:=s.toks + 1 } from ⟨.bl false,H,I.tok _,rfl,q⟩)
  | bl k =>
    cases hx
    cases ru
    exact call_isinstance (isinstance_false_bool (by decide) tty_tuple sub_bool_tuple) (show EP X pins σ Q (.bool false) { s with toks:=s.toks + 1 } from ⟨.bl false,H,I.tok _,rfl,q⟩)
  | str z =>
    cases hx
    obtain ⟨t,rfl⟩:=ru
    exact call_isinstance (isinstance_false_str (by decide) tty_tuple sub_str_tuple) (show EP X pins σ Q (.bool false) { s with toks:=s.toks + 1 } from ⟨.bl false,H,I.tok _,rfl,q⟩)
  | non =>
    cases hx
    cases ru
    exact call_isinstance (isinstance_false_none (by decide) tty_tuple sub_NoneType_tuple) (show EP X pins σ Q (.bool false) { s with toks:=s.toks + 1 } from ⟨.bl false,H,I.tok _,rfl,q⟩)
  | ref p =>
    cases ru
    rcases hx with ⟨rfl,xs,hq⟩ | ⟨rfl,xs,hq⟩
    · obtain ⟨its,r',pl,hz⟩:=I.list hq
      obtain ⟨o,ho,hcl,_⟩:=pl.isList
      exact call_isinstance (isinstance_false_list (by decide) tty_tuple sub_list_tuple) ⟨⟨o,ho,hcl⟩,(show EP X pins σ Q (.bool false) { s with toks:=s.toks + 1 } from ⟨.bl false,H,I.tok _,rfl,q⟩)⟩
    · obtain ⟨its,r',pl,hz⟩:=I.tuple hq
      obtain ⟨o,ho,hcl,_⟩:=pl
      exact call_isinstance (isinstance_true (Tx := "tuple") tty_tuple sub_tuple_tuple) ⟨⟨o,ho,hcl⟩,.bl true,H,I,rfl,q⟩
  | _=>exact False.elim hx
theorem isi_int:CallR X (.builtin "isinstance") (rIsi X.K .int):=by
  intro pins s σ H xs us Q I r h
  obtain ⟨x,Tx,rfl,hx,q⟩:=h
  obtain ⟨u,v,rfl,ru,rv⟩:=Vals.two r
  cases rv
  cases x with
  | int i =>
    cases hx
    obtain ⟨t,rfl⟩:=ru
    exact call_isinstance (isinstance_true tty_int sub_int_int) ⟨typeIs_int s i t,.bl true,H,I,rfl,q⟩
  | bl k =>
    cases hx
    cases ru
    exact call_isinstance (isinstance_true tty_int sub_bool_int) ⟨(show s.TypeIs (.bool k) "bool" from by first | exact typeIs_bool s k | rfl),.bl true,H,I,rfl,q⟩
  | str z =>
    cases hx
    obtain ⟨t,rfl⟩:=ru
    exact call_isinstance (isinstance_false_str (by decide) tty_int sub_str_int) (show EP X pins σ Q (.bool false) { s with toks:=s.toks + 1 } from ⟨.bl false,H,I.tok _,rfl,q⟩)
  | non =>
    cases hx
    cases ru
    exact call_isinstance (isinstance_false_none (by decide) tty_int sub_NoneType_int) (show EP X pins σ Q (.bool false) { s with toks:=s.toks + 1 } from ⟨.bl false,H,I.tok _,rfl,q⟩)
  | ref p =>
    cases ru
    rcases hx with ⟨rfl,xs,hq⟩ | ⟨rfl,xs,hq⟩
    · obtain ⟨its,r',pl,hz⟩:=I.list hq
      obtain ⟨o,ho,hcl,_⟩:=pl.isList
      exact call_isinstance (isinstance_false_list (by decide) tty_int sub_list_int) ⟨⟨o,ho,hcl⟩,(show EP X pins σ Q (.bool false) { s with toks:=s.toks + 1 } from ⟨.bl false,H,I.tok _,rfl,q⟩)⟩
    · obtain ⟨its,r',pl,hz⟩:=I.tuple hq
      obtain ⟨o,ho,hcl,_⟩:=pl
      exact call_isinstance (isinstance_false_tuple (by decide) tty_int sub_tuple_int) ⟨⟨o,ho,hcl⟩,(show EP X pins σ Q (.bool false) { s with toks:=s.toks + 1 } from ⟨.bl false,H,I.tok _,rfl,q⟩)⟩
  | _=>exact False.elim hx
theorem isi_bool:CallR X (.builtin "isinstance") (rIsi X.K .bool):=by
  intro pins s σ H xs us Q I r h
  obtain ⟨x,Tx,rfl,hx,q⟩:=h
  obtain ⟨u,v,rfl,ru,rv⟩:=Vals.two r
  cases rv
  cases x with
  | int i =>
    cases hx
    obtain ⟨t,rfl⟩:=ru
    exact call_isinstance (isinstance_false_int (by decide) tty_bool sub_int_bool) (show EP X pins σ Q (.bool false) { s with toks:=s.toks + 1 } from ⟨.bl false,H,I.tok _,rfl,q⟩)
  | bl k =>
    cases hx
    cases ru
    exact call_isinstance (isinstance_true tty_bool sub_bool_bool) ⟨(show s.TypeIs (.bool k) "bool" from by first | exact typeIs_bool s k | rfl),.bl true,H,I,rfl,q⟩
  | str z =>
    cases hx
    obtain ⟨t,rfl⟩:=ru
    exact call_isinstance (isinstance_false_str (by decide) tty_bool sub_str_bool) (show EP X pins σ Q (.bool false) { s with toks:=s.toks + 1 } from ⟨.bl false,H,I.tok _,rfl,q⟩)
  | non =>
    cases hx
    cases ru
    exact call_isinstance (isinstance_false_none (by decide) tty_bool sub_NoneType_bool) (show EP X pins σ Q (.bool false) { s with toks:=s.toks + 1 } from ⟨.bl false,H,I.tok _,rfl,q⟩)
  | ref p =>
    cases ru
    rcases hx with ⟨rfl,xs,hq⟩ | ⟨rfl,xs,hq⟩
    · obtain ⟨its,r',pl,hz⟩:=I.list hq
      obtain ⟨o,ho,hcl,_⟩:=pl.isList
      exact call_isinstance (isinstance_false_list (by decide) tty_bool sub_list_bool) ⟨⟨o,ho,hcl⟩,(show EP X pins σ Q (.bool false) { s with toks:=s.toks + 1 } from ⟨.bl false,H,I.tok _,rfl,q⟩)⟩
    · obtain ⟨its,r',pl,hz⟩:=I.tuple hq
      obtain ⟨o,ho,hcl,_⟩:=pl
      exact call_isinstance (isinstance_false_tuple (by decide) tty_bool sub_tuple_bool) ⟨⟨o,ho,hcl⟩,(show EP X pins σ Q (.bool false) { s with toks:=s.toks + 1 } from ⟨.bl false,H,I.tok _,rfl,q⟩)⟩
  | _=>exact False.elim hx
theorem isi_str:CallR X (.builtin "isinstance") (rIsi X.K .str):=by
  intro pins s σ H xs us Q I r h
  obtain ⟨x,Tx,rfl,hx,q⟩:=h
  obtain ⟨u,v,rfl,ru,rv⟩:=Vals.two r
  cases rv
  cases x with
  | int i =>
    cases hx
    obtain ⟨t,rfl⟩:=ru
    exact call_isinstance (isinstance_false_int (by decide) tty_str sub_int_str) (show EP X pins σ Q (.bool false) { s with toks:=s.toks + 1 } from ⟨.bl false,H,I.tok _,rfl,q⟩)
  | bl k =>
    cases hx
    cases ru
    exact call_isinstance (isinstance_false_bool (by decide) tty_str sub_bool_str) (show EP X pins σ Q (.bool false) { s with toks:=s.toks + 1 } from ⟨.bl false,H,I.tok _,rfl,q⟩)
  | str z =>
    cases hx
    obtain ⟨t,rfl⟩:=ru
    exact call_isinstance (isinstance_true tty_str sub_str_str) ⟨typeIs_str s z t,.bl true,H,I,rfl,q⟩
  | non =>
    cases hx
    cases ru
    exact call_isinstance (isinstance_false_none (by decide) tty_str sub_NoneType_str) (show EP X pins σ Q (.bool false) { s with toks:=s.toks + 1 } from ⟨.bl false,H,I.tok _,rfl,q⟩)
  | ref p =>
    cases ru
    rcases hx with ⟨rfl,xs,hq⟩ | ⟨rfl,xs,hq⟩
    · obtain ⟨its,r',pl,hz⟩:=I.list hq
      obtain ⟨o,ho,hcl,_⟩:=pl.isList
      exact call_isinstance (isinstance_false_list (by decide) tty_str sub_list_str) ⟨⟨o,ho,hcl⟩,(show EP X pins σ Q (.bool false) { s with toks:=s.toks + 1 } from ⟨.bl false,H,I.tok _,rfl,q⟩)⟩
    · obtain ⟨its,r',pl,hz⟩:=I.tuple hq
      obtain ⟨o,ho,hcl,_⟩:=pl
      exact call_isinstance (isinstance_false_tuple (by decide) tty_str sub_tuple_str) ⟨⟨o,ho,hcl⟩,(show EP X pins σ Q (.bool false) { s with toks:=s.toks + 1 } from ⟨.bl false,H,I.tok _,rfl,q⟩)⟩
  | _=>exact False.elim hx
end
section
variable {X:Cx} {pins:List (Addr × Obj)} {σ:St} {H:Hp} {s:Shared}
theorem Inv.turnedNew {h':Heap} {t':Nat} {ch:List Addr} {T:Addr} {o:HO} (I:Inv X pins σ H s) (hf:∀ b∈ch,FpOk X pins H b) (k:∀ b u,b ∉ ch→s.heap.get? b=some u→h'.get? b=some u)
    (hT:s.heap.objs.size≤T) (new:ObjOk X.prog X.w (upd H T o) h' T o):Inv X pins σ (upd H T o) { s with heap:=h',toks:=t' }:=by
  have hn:H T=none:=I.hok.fresh hT
  have ne:∀ {b:Addr} {u:Obj},s.heap.get? b=some u→b≠T:=fun e z=>Nat.lt_irrefl _ (Nat.lt_of_lt_of_le (Heap.lt_size e) (by rw [z]; exact hT))
  have neC:∀ {b:Addr} {u:HO},H b=some u→b ∉ ch:=fun e hb=>by rw [(hf _ hb).1] at e; cases e
  refine I.step (g':=s.gens) (d':=s.drawn) (ch:=ch) (fun b hb=>?_) (fun b u _ _ hc e _=>k b u hc e) (fun b u _ _ hc e _=>⟨u.slots,k b u hc e⟩) (fun b u _ e n=>by rw [upd_ne (ne e)]; exact n)
    (fun b u hc e=>⟨u,k b u hc e⟩) (fun b xs e=>by rw [upd_ne (ne_of_none e hn)]; exact e) (fun b u v e=>by rw [upd_ne (ne_of_none e hn)]; exact e) (fun b ps e=>⟨#[],by rw [upd_ne (ne_of_none e hn),e]; simp⟩) (fun m hm=>?_) (fun b u e=>?_) I.bare
  · obtain ⟨_,z1,_,z2,z3,z4⟩:=hf b hb
    exact ⟨z2,z1,z3,z4⟩
  · obtain ⟨o',es,ep,ho,r⟩:=hm
    exact ⟨o',es,ep,k _ o' (fun hb=>(hf _ hb).2.1 rfl) ho,r⟩
  · by_cases hb:b=T
    · subst hb
      rw [upd_same] at e
      cases e
      exact new
    · rw [upd_ne hb] at e
      refine (I.hok b u e).stay (fun c v hc q=>k c v ?_ q) (fun c q=>by rw [upd_ne (ne_of_none q hn)]; exact q) fun c xs q=>by rw [upd_ne (ne_of_none q hn)]; exact q
      rcases hc with z | z
      · rw [z]; exact neC e
      · exact neC z
theorem Inv.turnedL {h':Heap} {t':Nat} {ch:List Addr} (I:Inv X pins σ H s) (hf:∀ b∈ch,FpOk X pins H b) (k:∀ b u,b ∉ ch→s.heap.get? b=some u→h'.get? b=some u):Inv X pins σ H { s with heap:=h',toks:=t' }:=by
  have neC:∀ {b:Addr} {u:HO},H b=some u→b ∉ ch:=fun e hb=>by rw [(hf _ hb).1] at e; cases e
  refine I.step (g':=s.gens) (d':=s.drawn) (ch:=ch) (fun b hb=>?_) (fun b u _ _ hc e _=>k b u hc e) (fun b u _ _ hc e _=>⟨u.slots,k b u hc e⟩) (fun _ _ _ _ n=>n)
    (fun b u hc e=>⟨u,k b u hc e⟩) (fun _ _ e=>e) (fun _ _ _ e=>e) (fun b ps e=>⟨#[],by rw [e]; simp⟩) (fun m hm=>?_) (fun b u e=>?_) I.bare
  · obtain ⟨_,z1,_,z2,z3,z4⟩:=hf b hb
    exact ⟨z2,z1,z3,z4⟩
  · obtain ⟨o',es,ep,ho,r⟩:=hm
    exact ⟨o',es,ep,k _ o' (fun hb=>(hf _ hb).2.1 rfl) ho,r⟩
  · refine (I.hok b u e).stay (fun c v hc q=>k c v ?_ q) (fun _ q=>q) fun _ _ q=>q
    rcases hc with z | z
    · rw [z]; exact neC e
    · exact neC z
end
end L2
namespace L2
open PySem PySem.Spec PyProof.Rows
theorem inX_K (X:Cx) (scope:Scope) (N:List Str) (cs:List (Str × Addr)) (C:Addr) (s:Shared) (H:Hp) (fp:List Addr):(inX X scope N cs C s H fp).K=X.K:=rfl
theorem PE.to {X:Cx} {e:Expr} {t t':TE} (h:PE X e t) (q:t=t'):PE X e t':=q ▸ h
theorem PG.to {X:Cx} {e:Expr} {t t':TG} (h:PG X e t) (q:t=t'):PG X e t':=q ▸ h
theorem compOk {X:Cx} {scope:Scope} {N:List Str} {ix:List (Option Nat)} (h1:scope.kind=.function:=by rfl) (h2:(scope.names.all fun y=>scope.names.lookup y.1 == some y.2)=true:=by rfl)
    (h3:(scope.names.all fun y=>y.2 != .free || (X.env.kindOf y.1 == some .cell || X.env.kindOf y.1 == some .free))=true:=by rfl) (h4:ix.length=N.length:=by rfl)
    (h5:((ix.zip N).all fun p=>match p.1 with | none=>true | some j=>X.N[j]? == some p.2 && scope.names.lookup p.2 == some .free)=true:=by rfl):CompOk X scope N ix where
  kind:=h1
  names:=fun y hy=>by simpa using List.all_eq_true.mp h2 y hy
  free:=fun y hy e=>by
    have:=List.all_eq_true.mp h3 y hy
    rw [e] at this
    simpa using this
  len:=h4
  cap := fun i=>by
    split
    · rename_i j x e1 e2
      have hm:(some j,x)∈ix.zip N:=List.mem_of_getElem? (i:=i) (by rw [List.getElem?_zip_eq_some]; exact ⟨e1,e2⟩)
      have:=List.all_eq_true.mp h5 _ hm
      simpa using this
    · trivial
theorem compL {K:PySem.W.Frag} {a:Addr} {xs:List V} {ix:List (Option Nat)} {g:TG} {te:TE} {σ:St} {H:Hp} {Q:VK} (Pv:Nat→List V→Hp→Prop) (h0:Pv 0 [] H) (hl:∀ i ys H,i≤xs.length→Pv i ys H→SqL K H a xs∧ys.length=i) (hz:xs.length≤sizeLine)
    (hs:∀ i x ys H (R:VK),xs[i]?=some x→Pv i ys H→(∀ y H3,Pv (i + 1) (ys ++ [y]) H3→R y H3)→g x (capS ix σ) H fun σ2 H2=>StLe (capS ix σ) σ2∧te σ2 H2 R)
    (hd:∀ ys H,Pv xs.length ys H→∀ l,H l=none→Q (.ref l) (upd H l (.lst ys))) :
    CompB (Itl K a) ix g te σ H Q:=by
  refine ⟨fun i m ys H=>m=xs.length - i∧i≤xs.length∧Pv i ys H,⟨xs.length,by simp,Nat.zero_le _,h0⟩,?_⟩
  rintro i m ys H ⟨rfl,hi,p⟩
  obtain ⟨q,ql⟩:=hl i ys H hi p
  by_cases hlt:i < xs.length
  · refine .inr ⟨⟨xs,xs[i],q,by simp [hlt]⟩,by omega,fun x H' y=>?_⟩
    obtain ⟨e,y⟩:=y
    subst e
    exact hs i x ys _ _ (y xs q) p fun v H3 z2=>⟨xs.length - (i + 1),by omega,rfl,hlt,z2⟩
  · have e:i=xs.length:=by omega
    subst e
    exact .inl ⟨⟨xs,q,Nat.le_refl _⟩,by omega,hd ys H p⟩
theorem compR {lo:Int} {n:Nat} {ix:List (Option Nat)} {g:TG} {te:TE} {σ:St} {H:Hp} {Q:VK} (Pv:Nat→List V→Hp→Prop) (h0:Pv 0 [] H) (hl:∀ i ys H,i≤n→Pv i ys H→ys.length=i) (hz:n≤sizeLine)
    (hs:∀ i ys H (R:VK),i < n→Pv i ys H→(∀ y H3,Pv (i + 1) (ys ++ [y]) H3→R y H3)→g (.int (lo + i)) (capS ix σ) H fun σ2 H2=>StLe (capS ix σ) σ2∧te σ2 H2 R)
    (hd:∀ ys H,Pv n ys H→∀ l,H l=none→Q (.ref l) (upd H l (.lst ys))) :
    CompB (Itr lo n) ix g te σ H Q:=by
  refine ⟨fun i m ys H=>m=n - i∧i≤n∧Pv i ys H,⟨n,by simp,Nat.zero_le _,h0⟩,?_⟩
  rintro i m ys H ⟨rfl,hi,p⟩
  have ql:=hl i ys H hi p
  by_cases hlt:i < n
  · refine .inr ⟨hlt,by omega,fun x H' y=>?_⟩
    obtain ⟨e,y⟩:=y
    subst e y
    exact hs i ys _ _ hlt p fun v H3 z2=>⟨n - (i + 1),by omega,rfl,hlt,z2⟩
  · have e:i=n:=by omega
    subst e
    exact .inl ⟨Nat.le_refl _,by omega,hd ys H p⟩
theorem same_upd {H:Hp} {T:Addr} {o:HO} (h:H T=none):Same H (upd H T o):=fun b u e=>by rw [upd_ne (ne_of_none e h)]; exact e
def But (B:Addr) (H H':Hp):Prop:=∀ c o,H c=some o→c≠B→H' c=some o
theorem Same.but {B:Addr} {H H':Hp} (h:Same H H'):But B H H':=fun c o e _=>h c o e
theorem But.trans {B:Addr} {H H1 H2:Hp} (a:But B H H1) (b:But B H1 H2):But B H H2:=fun c o e n=>b c o (a c o e n) n
theorem But.upd {B:Addr} {H:Hp} {o:HO}:But B H (upd H B o):=fun c u e n=>by rw [upd_ne n]; exact e
theorem But.free {B l:Addr} {H H':Hp} (h:But B H H') (n:H' l=none) (ne:l≠B):H l=none:=by
  cases q:H l with
  | none=>rfl
  | some o=>rw [h l o q ne] at n; cases n
theorem take_succ' {α:Type} {xs:List α} {i:Nat} {x:α} (h:xs[i]?=some x):xs.take (i + 1)=xs.take i ++ [x]:=by
  rw [List.take_add_one,h]
  rfl
theorem getI_map {ns:List Int} {i:Nat} {x:V} (h:(ns.map V.int)[i]?=some x):∃ n,ns[i]?=some n∧x=.int n:=by
  rw [List.getElem?_map] at h
  cases e:ns[i]? with
  | none=>rw [e] at h; cases h
  | some n=>rw [e] at h; exact ⟨n,rfl,(Option.some.inj h).symm⟩
theorem small1000' {n:Nat} (h:n≤1000):n≤sizeLine:=Nat.le_trans h (by decide)
theorem dec_ii {i j:Int}:decide (V.int i=V.int j)=decide (i=j):=by simp
structure FnAt (K:PySem.W.Frag) (mg:Str→Option Value) (x qual:Str) (st:Stmt) (dV:Value) (f:Addr) (fd:FuncData):Prop where
  ex:∃ (oc:Value) (od:Option Addr) (kV doc pm:Value) (an:Option Addr) (cdv ct:Value) (osl:Array (Option Value)),
    fd=PySem.W.fnOf x qual (defArgs st) (defBody st) (defScope st) dV kV doc pm an cdv ct∧K.lookup f=some ⟨oc,od,.func fd,osl⟩∧PySem.W.codeIn K cdv qual=true
  kp:PySem.W.keepIn K (.ref f)=true
  mg:mg x=some (.ref f)
section
variable {P:Program} {w:World} {K:PySem.W.Frag} {mg:Str→Option Value} {base:Heap}
theorem FnAt.ok {x qual:Str} {st:Stmt} {dV:Value} {f:Addr} {fd:FuncData} {N ps:List Str} {k:Nat} {sp:Sp} (F:FnAt K mg x qual st dV f fd) (S:FnScope N ps (defScope st)) (len:∀ vs H Q E,sp vs H Q E→vs.length=ps.length)
    (hbody:∀ (cdv:Value) (A:Around) (outer:List Env) (s:Shared) (H:Hp) (vs:List V) (Q:VK) (E:XK),Room k (A.deeper (envOfC qual (defScope st) s.heap.objs.size f cdv))→sp vs H Q E →
      ∃ t,PSs (cxOf CX0 P w K mg base N qual (defScope st) f cdv A outer s H E).nox (defBody st) t∧t { nx:=fun _ H'=>Q .non H',rt:=Q } (start N vs) H):FnOk P w K mg base CX0 (k + 1) f fd ps sp:=by
  obtain ⟨oc,od,kV,doc,pm,an,cdv,ct,osl,rfl,lk,hcd⟩:=F.ex
  refine fn_of lk hcd S len fun A outer s H vs Q E hr hsp=>?_
  obtain ⟨t,h,q⟩:=hbody cdv A outer s H vs Q E hr hsp
  exact ⟨t,h.nox,q⟩
theorem FnAt.binds {x qual:Str} {st:Stmt} {f:Addr} {fd:FuncData} {ps:List Str} (F:FnAt K mg x qual st .none f fd)
    (h:∀ (kV doc pm:Value) (an:Option Addr) (cdv ct:Value) (us:List Value),us.length=ps.length→bindArgs (PySem.W.fnOf x qual (defArgs st) (defBody st) (defScope st) .none kV doc pm an cdv ct) ⟨us,[]⟩=pure (ps.zip us)):Binds K fd ps []:=by
  obtain ⟨oc,od,kV,doc,pm,an,cdv,ct,osl,rfl,lk,hcd⟩:=F.ex
  exact .all (h kV doc pm an cdv ct)
theorem fnAt_mk {x qual:Str} {st:Stmt} {dV:Value} {f:Addr} {oc:Value} {od an:Option Addr} {osl:Array (Option Value)} {kV doc pm cdv ct:Value} (m:mg x=some (.ref f)) (l:K.lookup f=some ⟨oc,od,.func (PySem.W.fnOf x qual (defArgs st) (defBody st) (defScope st) dV kV doc pm an cdv ct),osl⟩)
    (c:PySem.W.codeIn K cdv qual=true) (k:PySem.W.keepIn K (.ref f)=true):FnAt K mg x qual st dV f (PySem.W.fnOf x qual (defArgs st) (defBody st) (defScope st) dV kV doc pm an cdv ct):=⟨⟨oc,od,kV,doc,pm,an,cdv,ct,osl,rfl,l,c⟩,k,m⟩
end
end L2
namespace K01
theorem fmod_pos {a b:Int} (hb:0 < b):0≤a.fmod b∧a.fmod b < b:=by
  rw [Int.fmod_eq_emod_of_nonneg a (by omega)]
  exact ⟨Int.emod_nonneg _ (by omega),Int.emod_lt_of_pos _ hb⟩
end K01
namespace L2
end L2
namespace KW
open PySem L2 PyProof.Rows K01
def top (i:Nat):Stmt:=PySem.Challenge.pw_cupweb_k63_deeds_written_and_read.main.body.getD i (.Pass ⟨0,0,0,0⟩)
structure Txt (mg:Str→Option Value):Prop where
  n_len:mg "len" = none
  n_sum:mg "sum" = none
  n_all:mg "all" = none
  n_isinstance:mg "isinstance" = none
  n_list:mg "list" = none
  n_tuple:mg "tuple" = none
  n_int:mg "int" = none
  n_bool:mg "bool" = none
  n_str:mg "str" = none
  n_range:mg "range" = none
  n_zip:mg "zip" = none
  n_set:mg "set" = none
  n_sorted:mg "sorted" = none
  n_min:mg "min" = none
theorem mul_ok {a b:Int} (h1:a.natAbs < 2 ^ 200) (h2:b.natAbs < 2 ^ 200):IntMulOk a b:=IntMulOk.of_le (intBits_le_iff.mpr h1) (intBits_le_iff.mpr h2) (by decide)
theorem log_small {n:Int} (h:n.natAbs < 2 ^ 200):n.natAbs.log2 < 9000:=by
  by_cases h0:n.natAbs=0
  · rw [h0]; decide
  · have:=(Nat.log2_lt h0).mpr h
    omega
end KW
namespace KW
open PySem L2 PyProof.Rows K01
section
variable {P:Program} {w:World} {K:PySem.W.Frag} {mg:Str→Option Value} {base:Heap}
theorem mulR {a b:Int} (h:b.natAbs < 2 ^ 64):IntMulOk a b:=.of_right (intBits_le_iff.mpr h)
theorem nz {j:Int} (h:j≠0):j≠0:=h
def Box (H:Hp) (B S:Addr):Prop:=∃ (ns:List Int) (p q t sd:Int),H B=some (.lst [.ref S,.int p,.int q,.int t,.int sd])∧H S=some (.lst (ns.map V.int))∧ns.length≤63∧0≤p
theorem box_ne {H:Hp} {B S:Addr} {ns:List Int} {x:Addr} {r:List V} (hB:H B=some (.lst (.ref x :: r))) (hS:H S=some (.lst (ns.map V.int))):S≠B:=by
  refine ne_of hS hB fun z=>?_
  cases ns with
  | nil=>cases z
  | cons n ns=>cases z
theorem Box.put {H H':Hp} {B S:Addr} {ns:List Int} {x:Addr} {r:List V} {p q t sd:Int} (hB:H B=some (.lst (.ref x :: r))) (hS:H S=some (.lst (ns.map V.int))) (hl:ns.length≤63) (hp:0≤p) (b:But B H H') (e:H' B=some (.lst [.ref S,.int p,.int q,.int t,.int sd])):Box H' B S :=
  ⟨ns,p,q,t,sd,e,b S _ hS (box_ne hB hS),hl,hp⟩
theorem Box.but {H H':Hp} {B S:Addr} (h:Box H B S) (s:Same H H'):Box H' B S:=by
  obtain ⟨ns,p,q,t,sd,h1,h2,h3,h4⟩:=h
  exact ⟨ns,p,q,t,sd,s _ _ h1,s _ _ h2,h3,h4⟩
theorem Box.at {H:Hp} {B S l:Addr} (h:Box H B S) (n:H l=none):l≠B:=by
  obtain ⟨ns,p,q,t,sd,h1,_⟩:=h
  exact (ne_of_none h1 n).symm
theorem Box.at2 {H:Hp} {B S l:Addr} (h:Box H B S) (n:H l=none):l≠S:=by
  obtain ⟨ns,p,q,t,sd,_,h1,_⟩:=h
  exact (ne_of_none h1 n).symm
theorem Box.keep {H H':Hp} {B S:Addr} (h:Box H B S) (h1:∀ o,H B=some o→H' B=some o) (h2:∀ o,H S=some o→H' S=some o):Box H' B S:=by
  obtain ⟨ns,p,q,t,sd,e1,e2,e3,e4⟩:=h
  exact ⟨ns,p,q,t,sd,h1 _ e1,h2 _ e2,e3,e4⟩
theorem cut_ints (ns:List Int) (lo hi:Option Int):∃ ms:List Int,cutV (ns.map V.int) lo hi=ms.map V.int∧ms.length≤ns.length:=by
  refine ⟨(ns.drop (HT.sIx ns.length 0 lo)).take (HT.sIx ns.length ns.length hi - HT.sIx ns.length 0 lo),?_,?_⟩
  · unfold cutV
    rw [List.length_map,List.map_take,List.map_drop]
  · rw [List.length_take,List.length_drop]
    omega
def spBox:PySem.W.Frag→Sp:=fun K vs H Q _=>∃ (a:Addr) (ns:List Int),vs=[.ref a]∧SqL K H a (ns.map V.int)∧ns.length≤63∧∀ (B S:Addr) (H':Hp),Same H H'→H B=none→H S=none→Box H' B S→Q (.ref B) H'
theorem scBox:FnScope ["_law_script","_law_seed","_law_cell"] ["_law_script"] (defScope (top 32)):=⟨rfl,rfl,rfl,by decide +kernel,rfl,by decide +kernel,by decide +kernel⟩
theorem ok_box {f:Addr} {fd:FuncData} (F:FnAt K mg "_law_box" "_law_box" (top 32) .none f fd) (T:Txt mg):FnOk P w K mg base CX0 1 f fd ["_law_script"] (spBox K):=by
  have nd:=scBox.nd
  refine F.ok scBox (fun vs H Q E h=>?_) (fun cdv A outer s H vs Q E hr h=>?_)
  · obtain ⟨a,ns,rfl,_⟩:=h
    rfl
  · obtain ⟨a,ns,rfl,hS,hl,k⟩:=h
    refine ⟨_,(pss_cons (ps_set (i:=1) nd rfl (Or.inl rfl) pe_int)
      (pss_cons (ps_for PassesOwn.never rfl (pi_list (pe_slice sl_list (pv 0) po_none (po_some pe_int))) (pg_name (i:=2) nd rfl (Or.inl rfl)) (pss_one (ps_set (i:=1) nd rfl (Or.inl rfl) (pe_op op_modN (pe_op op_add (pe_op op_add (pe_op op_mulX (pv 1) pe_int) (pv 2)) pe_int) pe_int))))
      (pss_one (ps_ret (pe_lst (pa_cons (pe_callTy call_list_of (by rfl) T.n_list boot_list (pa_cons (pe_slice sl_list (pv 0) po_none (po_some pe_int)) pa_nil)) (pa_cons pe_int (pa_cons pe_int (pa_cons pe_int (pa_cons (pv 1) pa_nil)))))))))),?_⟩
    obtain ⟨ms,ems,hms⟩:=cut_ints ns none (some 63)
    refine ⟨_,rfl,63,rfl,a,_,rfl,hS,fun p hp=>⟨p,rfl,⟨_,SqL.of upd_same⟩,?_⟩⟩
    rw [ems]
    have s1:Same H (upd H p (.lst (ms.map V.int))):=same_upd hp
    refine for_list (K:=K) (a:=p) (xs:=ms.map V.int) (fun i σ H1=>H1=upd H p (.lst (ms.map V.int))∧∃ (sd:Int) (v:Option V),σ=[some (.ref a),some (.int sd),v]) ⟨rfl,0,none,rfl⟩ ?_ ?_ ?_
    · rintro i σ H1 _ ⟨rfl,_⟩
      exact SqL.of upd_same
    · rintro i x σ H1 hx ⟨rfl,sd,v,rfl⟩
      obtain ⟨n,hn,rfl⟩:=getI_map hx
      refine ⟨_,rfl,_,_,rfl,rfl,mulR (by decide),_,rfl,_,_,rfl,rfl,_,_,rfl,rfl,_,_,rfl,rfl,nz (by decide),rfl,_,_,rfl⟩
    · rintro σ H1 ⟨rfl,sd,v,rfl⟩
      refine ⟨_,rfl,63,rfl,a,_,rfl,s1.seq hS,fun p2 hp2=>⟨p2,_,rfl,.inl (SqL.of upd_same),fun S hS'=>⟨_,rfl,(by show 5≤sizeLine; decide),fun B hB=>?_⟩⟩⟩
      rw [ems] at hS' hB ⊢
      have s2:=s1.trans ((same_upd (o:=.lst (ms.map V.int)) hp2).trans ((same_upd (o:=.lst (ms.map V.int)) hS').trans (same_upd (o:=.lst [.ref S,.int 0,.int 0,.int 0,.int sd]) hB)))
      have nSB:S≠B:=fun z=>by
        rw [z,upd_same] at hB
        cases hB
      refine k B S _ s2 ((s1.trans ((same_upd (o:=.lst (ms.map V.int)) hp2).trans (same_upd (o:=.lst (ms.map V.int)) hS'))).free hB) ((s1.trans (same_upd (o:=.lst (ms.map V.int)) hp2)).free hS') ⟨ms,0,0,0,sd,upd_same,?_,by omega,by decide⟩
      rw [upd_ne nSB,upd_same]
def spMixed:Sp:=fun vs H Q _=>∃ n t:Int,vs=[.int n,.int t]∧∀ r:Int,Q (.int r) H
theorem scMixed:FnScope ["_law_number","_law_turn","_law_one","_law_two"] ["_law_number","_law_turn"] (defScope (top 33)):=⟨rfl,rfl,rfl,by decide +kernel,rfl,by decide +kernel,by decide +kernel⟩
theorem ok_mixed {f:Addr} {fd:FuncData} (F:FnAt K mg "_law_mixed" "_law_mixed" (top 33) .none f fd):FnOk P w K mg base CX0 1 f fd ["_law_number","_law_turn"] spMixed:=by
  have nd:=scMixed.nd
  refine F.ok scMixed (fun vs H Q E h=>?_) (fun cdv A outer s H vs Q E hr h=>?_)
  · obtain ⟨n,t,rfl,_⟩:=h
    rfl
  · obtain ⟨n,t,rfl,k⟩:=h
    refine ⟨_,(pss_cons (ps_set (i:=2) nd rfl (Or.inl rfl) (pe_op op_modN (pe_op op_add (pe_op op_add (pe_op op_mulX (pv 0) pe_int) (pe_op op_mulX (pv 1) pe_int)) pe_int) pe_int))
      (pss_cons (ps_set (i:=3) nd rfl (Or.inl rfl) (pe_op op_modN (pe_op op_add (pe_op op_add (pe_op op_mulX (pv 2) (pe_op op_add (pe_op op_modN (pv 2) pe_int) pe_int)) (pe_op op_mulX (pv 1) pe_int)) (pe_op op_modN (pv 0) pe_int)) pe_int))
      (pss_one (ps_ret (pe_op op_fdivX (pv 3) pe_int))))),?_⟩
    refine ⟨_,rfl,_,_,rfl,rfl,mulR (by decide),_,rfl,_,_,rfl,rfl,mulR (by decide),_,_,rfl,rfl,_,_,rfl,rfl,_,_,rfl,rfl,nz (by decide),?_⟩
    refine ⟨_,rfl,_,rfl,_,_,rfl,rfl,nz (by decide),_,_,rfl,rfl,_,_,rfl,rfl,mulR ?_,_,rfl,_,_,rfl,rfl,mulR (by decide),_,_,rfl,rfl,_,rfl,_,_,rfl,rfl,nz (by decide),_,_,rfl,rfl,_,_,rfl,rfl,nz (by decide),?_⟩
    · have:=fmod_pos (a:=(n * 48271 + t * 69621 + 12345).fmod 2147483647) (b:=65521) (by decide)
      omega
    · exact ⟨_,rfl,_,_,rfl,rfl,⟨by decide,by decide⟩,k _⟩
def spTake:Sp:=fun vs H Q _=>∃ (B S:Addr) (m:Int),vs=[.ref B,.int m]∧Box H B S∧0 < m∧m.natAbs < 2 ^ 200∧∀ (r:Int) (H':Hp),0≤r→r < m→Box H' B S→But B H H'→Q (.int r) H'
theorem scTake:FnScope ["_law_box_here","_law_many","_law_left","_law_cell"] ["_law_box_here","_law_many"] (defScope (top 34)):=⟨rfl,rfl,rfl,by decide +kernel,rfl,by decide +kernel,by decide +kernel⟩
theorem ok_take {f f2:Addr} {fd fd2:FuncData} (F:FnAt K mg "_law_take" "_law_take" (top 34) .none f fd) (A__law_mixed:FnAt K mg "_law_mixed" "_law_mixed" (top 33) .none f2 fd2) (b__law_mixed:L2.Binds K fd2 ["_law_number","_law_turn"] []) (T:Txt mg) :
    FnOk P w K mg base CX0 2 f fd ["_law_box_here","_law_many"] spTake:=by
  have nd:=scTake.nd
  have G__law_mixed:FnOk P w K mg base CX0 1 f2 fd2 ["_law_number","_law_turn"] spMixed:=ok_mixed A__law_mixed
  refine F.ok scTake (fun vs H Q E h=>?_) (fun cdv A outer s H vs Q E hr h=>?_)
  · obtain ⟨B,S,m,rfl,_⟩:=h
    rfl
  · obtain ⟨B,S,m,rfl,⟨ns,p,q,t,sd,hB,hS,hl,hp⟩,hm,hm2,k⟩:=h
    have m0:m≠0:=by omega
    have hd:CDivX 0 m:=⟨m0,log_small hm2⟩
    have nSB:=box_ne hB hS
    refine ⟨_,(pss_cons (ps_asg (pe_op op_add (pe_ix ix_list (pv 0) pe_int (fun _ _=>rfl)) pe_int) (pg_sub (pv 0) pe_int set_list))
      (pss_cons (ps_if (pt_cmpR op_gt (pe_ix ix_list (pv 0) pe_int (fun _ _=>rfl)) pe_int (nomark _)) (pss_cons (ps_set (i:=2) nd rfl (Or.inl rfl) (pe_ix ix_list (pv 0) pe_int (fun _ _=>rfl)))
      (pss_cons (ps_asg (pe_op op_fdivX (pv 2) (pv 1)) (pg_sub (pv 0) pe_int set_list))
      (pss_one (ps_ret (pe_op op_modN (pv 2) (pv 1)))))) pss_nil)
      (pss_cons (ps_if (pt_cmpR op_ge (pe_ix ix_list (pv 0) pe_int (fun _ _=>rfl)) (pe_callB call_len_seq (by rfl) T.n_len PySem.boot_len (pa_cons (pe_ix ix_list (pv 0) pe_int (fun _ _=>rfl)) pa_nil)) (nomark _)) (pss_one (ps_ret (pe_op op_modN (pe_call (G__law_mixed.mono (by decide)) hr rfl A__law_mixed.mg A__law_mixed.kp b__law_mixed .nil pass0 (pa_cons (pe_ix ix_list (pv 0) pe_int (fun _ _=>rfl)) (pa_cons (pe_ix ix_list (pv 0) pe_int (fun _ _=>rfl)) pa_nil))) (pv 1)))) pss_nil)
      (pss_cons (ps_set (i:=3) nd rfl (Or.inl rfl) (pe_ix ix_list (pe_ix ix_list (pv 0) pe_int (fun _ _=>rfl)) (pe_ix ix_list (pv 0) pe_int (fun _ _=>rfl)) (fun _ _=>rfl)))
      (pss_cons (ps_asg (pe_op op_add (pe_ix ix_list (pv 0) pe_int (fun _ _=>rfl)) pe_int) (pg_sub (pv 0) pe_int set_list))
      (pss_cons (ps_if (pt_cmpR op_lt (pv 3) (pe_op op_pow pe_int pe_int) (nomark _)) (pss_one (ps_ret (pe_op op_modN (pe_call (G__law_mixed.mono (by decide)) hr rfl A__law_mixed.mg A__law_mixed.kp b__law_mixed .nil pass0 (pa_cons (pv 3) (pa_cons (pe_ix ix_list (pv 0) pe_int (fun _ _=>rfl)) pa_nil))) (pv 1)))) pss_nil)
      (pss_cons (ps_asg (pe_op op_fdivX (pv 3) (pv 1)) (pg_sub (pv 0) pe_int set_list))
      (pss_one (ps_ret (pe_op op_modN (pv 3) (pv 1))))))))))),?_⟩
    refine ⟨_,rfl,B,_,_,_,rfl,rfl,SqL.of hB,rfl,_,_,rfl,rfl,_,rfl,B,_,_,_,rfl,rfl,hB,rfl,?_⟩
    generalize eH1:upd H B (HO.lst (List.set [.ref S,.int p,.int q,.int t,.int sd] (Int.toNat 3) (.int (t + 1))))=H1
    have b1:But B H H1:=by rw [← eH1]; exact But.upd
    have hB1:H1 B=some (.lst [.ref S,.int p,.int q,.int (t + 1),.int sd]):=by rw [← eH1,upd_same]; rfl
    have hS1:H1 S=some (.lst (ns.map V.int)):=b1 _ _ hS nSB
    refine ⟨_,rfl,B,_,_,_,rfl,rfl,SqL.of hB1,rfl,_,_,rfl,rfl,_,rfl,?_⟩
    refine ite2 (fun hc=>?_) (fun hc=>?_)
    · refine ⟨_,rfl,B,_,_,_,rfl,rfl,SqL.of hB1,rfl,?_⟩
      refine ⟨_,rfl,_,rfl,_,_,rfl,rfl,hd,_,rfl,B,_,_,_,rfl,rfl,hB1,rfl,?_⟩
      have f:=fmod_pos (a:=q) hm
      exact ⟨_,rfl,_,rfl,_,_,rfl,rfl,m0,k _ _ f.1 f.2 (Box.put hB1 hS1 hl hp But.upd upd_same) (b1.trans But.upd)⟩
    · refine ⟨_,rfl,B,_,_,_,rfl,rfl,SqL.of hB1,rfl,_,rfl,B,_,_,_,rfl,rfl,SqL.of hB1,rfl,S,_,rfl,.inl (SqL.of hS1),_,_,rfl,rfl,_,rfl,?_⟩
      refine ite2 (fun hc2=>?_) (fun hc2=>?_)
      · refine ⟨_,rfl,B,_,_,_,rfl,rfl,SqL.of hB1,rfl,_,rfl,B,_,_,_,rfl,rfl,SqL.of hB1,rfl,_,_,rfl,fun r=>⟨_,rfl,_,_,rfl,rfl,m0,?_⟩⟩
        have f:=fmod_pos (a:=r) hm
        exact k _ _ f.1 f.2 ⟨ns,_,_,_,_,hB1,hS1,hl,hp⟩ b1
      · have hc2:¬ (((ns.map V.int).length:Int)≤p):=fun z=>hc2 (decide_eq_true z)
        rw [List.length_map] at hc2
        have hi:p.toNat < ns.length:=by omega
        have hat:atI (ns.map V.int) p=some (.int ns[p.toNat]):=by
          have h:=atI_nat (xs:=ns.map V.int) (j:=p.toNat) (v:=.int ns[p.toNat]) (by rw [List.getElem?_map,List.getElem?_eq_getElem hi]; rfl)
          rwa [Int.toNat_of_nonneg hp] at h
        refine ⟨_,rfl,B,_,_,_,rfl,rfl,SqL.of hB1,rfl,_,rfl,B,_,_,_,rfl,rfl,SqL.of hB1,rfl,S,_,_,_,rfl,rfl,SqL.of hS1,hat,?_⟩
        refine ⟨_,rfl,B,_,_,_,rfl,rfl,SqL.of hB1,rfl,_,_,rfl,rfl,_,rfl,B,_,_,_,rfl,rfl,hB1,rfl,?_⟩
        generalize eH2:upd H1 B (HO.lst (List.set [.ref S,.int p,.int q,.int (t + 1),.int sd] (Int.toNat 1) (.int (p + 1))))=H2
        have b2:But B H1 H2:=by rw [← eH2]; exact But.upd
        have hB2:H2 B=some (.lst [.ref S,.int (p + 1),.int q,.int (t + 1),.int sd]):=by rw [← eH2,upd_same]; rfl
        have hS2:H2 S=some (.lst (ns.map V.int)):=b2 _ _ hS1 nSB
        refine ⟨_,rfl,_,_,rfl,rfl,⟨by decide,by decide,by decide⟩,_,_,rfl,rfl,_,rfl,?_⟩
        refine ite2 (fun hc3=>?_) (fun hc3=>?_)
        · refine ⟨_,rfl,_,rfl,B,_,_,_,rfl,rfl,SqL.of hB2,rfl,_,_,rfl,fun r=>⟨_,rfl,_,_,rfl,rfl,m0,?_⟩⟩
          have f:=fmod_pos (a:=r) hm
          exact k _ _ f.1 f.2 ⟨ns,_,_,_,_,hB2,hS2,hl,by omega⟩ (b1.trans b2)
        · refine ⟨_,rfl,_,rfl,_,_,rfl,rfl,hd,_,rfl,B,_,_,_,rfl,rfl,hB2,rfl,?_⟩
          have f:=fmod_pos (a:=ns[p.toNat]) hm
          exact ⟨_,rfl,_,rfl,_,_,rfl,rfl,m0,k _ _ f.1 f.2 (Box.put hB2 hS2 hl (by omega) But.upd upd_same) ((b1.trans b2).trans But.upd)⟩
end
end KW
namespace TX
open PySem PyProof.Rows
theorem str_ext {a b:Str} (h:a.cps.toList=b.cps.toList):a=b:=by
  cases a; cases b
  simp only [Str.mk.injEq]
  exact Array.toList_inj.mp h
theorem app_toList (a b:Str):(a ++ b).cps.toList=a.cps.toList ++ b.cps.toList:=by
  show (a.cps ++ b.cps).toList=_
  simp
theorem cut_eq {c:Nat}:∀ {u u' v v':List Nat},c ∉ u→c ∉ u'→u ++ c :: v=u' ++ c :: v'→u=u'∧v=v'
  | [],[],v,v',_,_,h=>by simpa using h
  | [],b :: u',v,v',_,h2,h=>by
    simp only [List.nil_append,List.cons_append,List.cons.injEq] at h
    exact absurd (h.1 ▸ List.mem_cons_self) h2
  | a :: u,[],v,v',h1,_,h=>by
    simp only [List.nil_append,List.cons_append,List.cons.injEq] at h
    exact absurd (h.1 ▸ List.mem_cons_self) h1
  | a :: u,b :: u',v,v',h1,h2,h=>by
    simp only [List.cons_append,List.cons.injEq] at h
    obtain ⟨e1,e2⟩:=cut_eq (fun z=>h1 (List.mem_cons_of_mem _ z)) (fun z=>h2 (List.mem_cons_of_mem _ z)) h.2
    exact ⟨by rw [h.1,e1],e2⟩
theorem join_two (c:Nat) (x y:Str) (r:List Str):(Str.join ⟨#[c]⟩ (x :: y :: r)).cps.toList=x.cps.toList ++ c :: (Str.join ⟨#[c]⟩ (y :: r)).cps.toList:=by
  show ((x ++ (⟨#[c]⟩:Str)) ++ Str.join ⟨#[c]⟩ (y :: r)).cps.toList=_
  rw [app_toList,app_toList]
  simp
theorem join_inj (c:Nat):∀ (a b:List Str),a≠[]→b≠[]→(∀ p∈a,c ∉ p.cps.toList)→(∀ p∈b,c ∉ p.cps.toList)→Str.join ⟨#[c]⟩ a=Str.join ⟨#[c]⟩ b→a=b
  | [],_,h,_,_,_,_=>absurd rfl h
  | _ :: _,[],_,h,_,_,_=>absurd rfl h
  | [x],[y],_,_,_,_,h=>by rw [show x=y from h]
  | [x],y :: z :: r,_,_,ha,_,h=>by
    have e:x.cps.toList=y.cps.toList ++ c :: (Str.join ⟨#[c]⟩ (z :: r)).cps.toList:=by rw [← join_two,← h]; rfl
    refine absurd ?_ (ha x List.mem_cons_self)
    rw [e]; simp
  | x :: z :: r,[y],_,_,_,hb,h=>by
    have e:y.cps.toList=x.cps.toList ++ c :: (Str.join ⟨#[c]⟩ (z :: r)).cps.toList:=by rw [← join_two,h]; rfl
    refine absurd ?_ (hb y List.mem_cons_self)
    rw [e]; simp
  | x :: x2 :: r,y :: y2 :: r2,_,_,ha,hb,h=>by
    have e:=congrArg (fun s:Str=>s.cps.toList) h
    rw [join_two,join_two] at e
    obtain ⟨e1,e2⟩:=cut_eq (ha x List.mem_cons_self) (hb y List.mem_cons_self) e
    rw [str_ext e1,join_inj c (x2 :: r) (y2 :: r2) (by simp) (by simp) (fun p hp=>ha p (List.mem_cons_of_mem _ hp)) (fun p hp=>hb p (List.mem_cons_of_mem _ hp)) (str_ext e2)]
theorem split_ne (x:Str) (c:Nat):Txt.split x ⟨#[c]⟩≠[]:=by
  intro h
  have e:=StrLaws.join_split x ⟨#[c]⟩
  rw [h] at e
  have hx:x.length=0:=by rw [← e]; rfl
  unfold Txt.split at h
  rw [if_pos (by rw [hx]; rfl)] at h
  cases h
theorem split_join (c:Nat) {ps:List Str} (h0:ps≠[]) (h:∀ p∈ps,c ∉ p.cps.toList):Txt.split (Txt.join ⟨#[c]⟩ ps) ⟨#[c]⟩=ps:=by
  have e:Txt.join ⟨#[c]⟩ ps=Str.join ⟨#[c]⟩ ps:=StrLaws.glued_eq_join _ ps
  rw [e]
  exact join_inj c _ _ (split_ne _ c) h0 (StrLaws.split_free _ c) h (StrLaws.join_split _ _)
open PySem.W PySem.NumText in
theorem num_digits (m:Nat):AllDigits (Str.ofString (toString ((m:Nat):Int))).cps.toList:=by
  intro c hc
  rw [KIN.signs_num] at hc
  obtain ⟨ch,hch,e⟩:=List.mem_map.mp hc
  have r:=digit_range (Nat.isDigit_of_mem_toDigits (by decide) (by decide) hch)
  rw [← e]
  exact r
def tn (i:Int):Str:=Str.ofString (toString i)
open PySem.W PySem.NumText
theorem tn_list (m:Nat):(tn (m:Int)).cps.toList=(Nat.toDigits 10 m).map Char.toNat:=KIN.signs_num m
theorem toDigits_ne (m:Nat):Nat.toDigits 10 m≠[]:=by
  intro e
  have h:=toDigits_len_ge 10 m
  rw [e] at h
  exact absurd h (by decide)
theorem tn_ne (m:Nat):(tn (m:Int)).cps.toList≠[]:=by
  rw [tn_list]
  intro e
  exact toDigits_ne m (List.map_eq_nil_iff.mp e)
theorem tn_len {n:Int} (h0:0≤n) (h1:n < 10 ^ 30):(tn n).length≤30:=toString_length_le h0 (by decide) h1
theorem tn_len1 {n:Int} (h0:0≤n):1≤(tn n).length:=by
  obtain ⟨m,rfl⟩:=Int.eq_ofNat_of_zero_le h0
  have e:(tn (m:Int)).cps.toList.length=(tn (m:Int)).length:=Array.length_toList
  rw [← e]
  exact List.length_pos_iff.mpr (tn_ne m)
theorem tn_digits {n:Int} (h0:0≤n):AllDigits (tn n).cps.toList:=by
  obtain ⟨m,rfl⟩:=Int.eq_ofNat_of_zero_le h0
  exact num_digits m
theorem tn_reads {n:Int} (h0:0≤n) (h1:n < 10 ^ 30):PySem.intText? (tn n)=some n:=by
  have hl:=tn_len h0 h1
  have hd:=tn_digits h0
  obtain ⟨m,rfl⟩:=Int.eq_ofNat_of_zero_le h0
  have e:=intText_digits hd (tn_ne m) (Nat.le_trans hl (by decide))
  rw [tn_list,KIN.val_back] at e
  exact e
theorem digit_nought:∀ d:Nat,d < 10→(Nat.digitChar d).toNat=48→d=0:=by decide
theorem head_nought (m:Nat) (h:((Nat.toDigits 10 m).map Char.toNat).head?=some 48):m=0:=by
  induction m using Nat.strongRecOn with
  | _ m ih =>
    by_cases hm:m < 10
    · rw [Nat.toDigits_of_lt_base hm] at h
      exact digit_nought m hm (Option.some.inj h)
    · have hm':m % 10 < 10:=Nat.mod_lt m (by decide)
      have t:Nat.toDigits 10 (m / 10) ++ Nat.toDigits 10 (m % 10)=Nat.toDigits 10 (10 * (m / 10) + m % 10):=Nat.toDigits_append_toDigits (by decide) (by omega) hm'
      rw [Nat.div_add_mod] at t
      rw [← t,List.map_append,List.head?_append] at h
      have z:((Nat.toDigits 10 (m / 10)).map Char.toNat).head?=some 48:=by
        cases e:(Nat.toDigits 10 (m / 10)) with
        | nil=>exact absurd e (toDigits_ne _)
        | cons a r=>rw [e] at h; exact h
      have:=ih (m / 10) (by omega) z
      omega
theorem tn_nought {n:Int} (h0:0≤n) (h:(tn n).cps.toList.head?=some 48):n=0:=by
  obtain ⟨m,rfl⟩:=Int.eq_ofNat_of_zero_le h0
  rw [tn_list] at h
  rw [head_nought m h]
  rfl
theorem tn_neg {n:Int} (h:n < 0):(tn n).cps.toList=45 :: (tn (-n)).cps.toList:=by
  obtain ⟨m,rfl⟩:=Int.eq_negSucc_of_lt_zero h
  have e:tn (-(Int.negSucc m))=tn ((m + 1:Nat):Int):=rfl
  rw [e,tn_list]
  show (Str.ofString (toString (Int.negSucc m))).cps.toList=_
  rw [signs_ofString]
  show ("-" ++ Nat.repr (m + 1)).toList.map Char.toNat=_
  rw [String.toList_append,Nat.toList_repr]
  rfl
theorem tn_free {n:Int} {c:Nat} (hc:c < 48) (h45:c≠45):c ∉ (tn n).cps.toList:=by
  intro hm
  by_cases h:0≤n
  · have:=tn_digits h c hm
    omega
  · rw [tn_neg (by omega)] at hm
    rcases List.mem_cons.mp hm with e | e
    · exact h45 e
    · have:=tn_digits (n:=-n) (by omega) c e
      omega
theorem tn_free2 {n:Int} {c:Nat} (hc:57 < c):c ∉ (tn n).cps.toList:=by
  intro hm
  by_cases h:0≤n
  · have:=tn_digits h c hm
    omega
  · rw [tn_neg (by omega)] at hm
    rcases List.mem_cons.mp hm with e | e
    · omega
    · have:=tn_digits (n:=-n) (by omega) c e
      omega
end TX
namespace L2
open PySem PySem.Spec PyProof.Rows
section
variable {X:Cx}
theorem strsAre_of {ys:List Str}:∀ {us:List Value},Vals (ys.map V.str) us→StrsAre us ys:=by
  induction ys with
  | nil=>intro us r; cases r; exact .nil
  | cons y ys ih =>
    intro us r
    cases r with
    | cons r1 r2 =>
      obtain ⟨t,rfl⟩:=r1
      exact .cons y t (ih r2)
theorem vals_strs:∀ (l:List (Str × Tok)),Vals ((l.map (·.1)).map V.str) (strValues l)
  | []=>.nil
  | p :: r=>.cons ⟨p.2,rfl⟩ (vals_strs r)
def rJoin (K:PySem.W.Frag):V→List V→Hp→VK→Prop:=fun x vs H Q=>∃ (sep:Str) (p:Addr) (ys:List Str),x=.str sep∧vs=[.ref p]∧SqL K H p (ys.map V.str)∧(ys.map (·.length)).sum + ys.length * sep.length≤16777216∧Q (.str (Txt.join sep ys)) H
theorem mt_join:MtR X "str.join" (rJoin X.K):=by
  intro pins s σ H x xs v us Q I rx rv h
  obtain ⟨sep,p,ys,rfl,rfl,hq,hz,q⟩:=h
  obtain ⟨t,rfl⟩:=rx
  obtain ⟨u,rfl,ru⟩:=rv.one
  cases ru
  obtain ⟨its,r,pl,_⟩:=I.list hq
  exact join_list pl.isList (strsAre_of (by simpa using r)) hz fun t' k=>⟨.str _,H,I.tok k,⟨t',rfl⟩,q⟩
def rSplit:V→List V→Hp→VK→Prop:=fun x vs H Q=>∃ z y:Str,x=.str z∧vs=[.str y]∧(y.length == 0)=false∧z.length + 2≤sizeLine∧∀ l,H l=none→Q (.ref l) (upd H l (.lst ((Txt.split z y).map V.str)))
theorem split_count (x y:Str) (hsz:x.length + 2≤sizeLine):(Txt.split x y).length≤sizeLine:=by
  have e1:=StrLaws.occ_length_le x y 0 x.length (x.length + 1)
  unfold Txt.split
  split
  · show 1≤sizeLine; decide
  · split
    · show 1≤sizeLine; decide
    · rw [length_partsBetween]; omega
theorem mt_split:MtR X "str.split" rSplit:=by
  intro pins s σ H z xs v us Q I rx rv h
  obtain ⟨x,y,rfl,rfl,hy,hsz,q⟩:=h
  obtain ⟨t,rfl⟩:=rx
  obtain ⟨u',rfl,u,rfl⟩:=rv.one
  have hn:=split_count x y hsz
  have fin:∀ (l:List (Str × Tok)) (k:Nat),l.map (·.1)=Txt.split x y→EP X pins σ Q (.ref s.heap.objs.size) { s with heap:=s.heap.push { cls:=.type "list",data:=.seq (strValues l).toArray },toks:=k }:=fun l k e =>
    ⟨.ref s.heap.objs.size,_,I.lnew (t':=k) (ys:=(Txt.split x y).map V.str) (by rw [← e]; exact vals_strs l) (by rw [List.length_map]; exact hn),rfl,q _ I.fresh⟩
  have hn2:(Builtin.Str.partsBetween x (Builtin.Str.occurrences x y 0 x.length (x.length + 1)) y.length).length≤sizeLine:=by
    have e1:=StrLaws.occ_length_le x y 0 x.length (x.length + 1)
    rw [length_partsBetween]; omega
  cases h1:(decide (x.length < y.length) || decide (Builtin.Str.strKind x < Builtin.Str.strKind y))
  · cases hf:(Builtin.Str.occurrences x y 0 x.length (x.length + 1)).isEmpty
    · refine call_meets F.slot_str_split (typeIs_str _ _ _) F.entry_str_split (F.args_str_split_2 _ _) (meets_str_split_sep x y t u h1 hy hf (by omega) hn2) ?_
      show wants (EP X pins σ Q) X.xe _ { s with toks:=_,heap:=s.heap.push { cls:=.type "list",data:=.seq (strsFrom s.toks (Builtin.Str.partsBetween x (Builtin.Str.occurrences x y 0 x.length (x.length + 1)) y.length)).toArray } }
      rw [strsFrom_eq]
      exact fin (numbered s.toks _) _ ((numbered_texts _ _).trans ((if_neg (ne_true_of_eq_false h1)).trans (if_neg (ne_true_of_eq_false hf))).symm)
    · exact call_meets F.slot_str_split (typeIs_str _ _ _) F.entry_str_split (F.args_str_split_2 _ _) (meets_str_split_not_found x y t u h1 hy hf)
        (fin [(x,t)] s.toks ((if_neg (ne_true_of_eq_false h1)).trans (if_pos hf)).symm)
  · exact call_meets F.slot_str_split (typeIs_str _ _ _) F.entry_str_split (F.args_str_split_2 _ _) (meets_str_split_cannot_occur x y t u h1)
      (fin [(x,t)] s.toks (if_pos h1).symm)
def rStarts:V→List V→Hp→VK→Prop:=fun x vs H Q=>∃ z y:Str,x=.str z∧vs=[.str y]∧Q (.bl (Txt.startswith z y)) H
theorem mt_starts:MtR X "str.startswith" rStarts:=by
  intro pins s σ H z xs v us Q I rx rv h
  obtain ⟨x,y,rfl,rfl,q⟩:=h
  obtain ⟨t,rfl⟩:=rx
  obtain ⟨u',rfl,u,rfl⟩:=rv.one
  exact SC.startswith ⟨.bl _,H,I,rfl,q⟩
def rLessPre:V→List V→Hp→VK→Prop:=fun x vs H Q=>∃ z y:Str,x=.str z∧vs=[.str y]∧z.length≤sizeLine∧Q (.str (Txt.removeprefix z y)) H
theorem mt_lessPre:MtR X "str.removeprefix" rLessPre:=by
  intro pins s σ H z xs v us Q I rx rv h
  obtain ⟨x,y,rfl,rfl,hz,q⟩:=h
  obtain ⟨t,rfl⟩:=rx
  obtain ⟨u',rfl,u,rfl⟩:=rv.one
  exact SCL.removeprefix (fun t' k _=>⟨.str _,H,I.tok k,⟨t',rfl⟩,q⟩) hz
def rSlS:V→Option Int→Option Int→Hp→VK→Prop:=fun x lo hi H Q=>∃ z:Str,x=.str z∧z.length≤sizeLine∧Q (.str (Txt.slice z lo hi)) H
theorem isPart_some {v:Value} {o:Option Int} (h:IsPart v o):∃ l:Option (Int × Tok),v=partValue l∧l.map (·.1)=o:=by
  cases h with
  | none=>exact ⟨none,rfl,rfl⟩
  | int i t=>exact ⟨some (i,t),rfl,rfl⟩
theorem sl_str:SlR X rSlS:=by
  intro pins s σ H x v vl vu lo hi sl Q I rx hs pl pu h
  obtain ⟨z,rfl,hz,q⟩:=h
  obtain ⟨t,rfl⟩:=rx
  obtain ⟨l,rfl,rfl⟩:=isPart_some pl
  obtain ⟨u,rfl,rfl⟩:=isPart_some pu
  refine ⟨"str",_,F.slot_str_getitem.lookup,typeIs_str _ _ _,?_⟩
  refine wpAny_getItem_str_slice (l:=l) (u:=u) (st:=none) hs rfl ?_
  exact post_val_or_str ⟨Nat.le_trans (Txt.slice_le z _ _) hz,fun t' k=>⟨.str _,H,I.tok k,⟨t',rfl⟩,q⟩⟩
theorem call_int_text:CallR X (.type "int") (fun xs H Q=>∃ (z:Str) (n:Int),xs=[.str z]∧PySem.intText? z=some n∧z.length≤640∧Q (.int n) H):=by
  intro pins s σ H xs us Q I r h
  obtain ⟨z,n,rfl,hn,hl,q⟩:=h
  obtain ⟨u,rfl,t,rfl⟩:=vals1 r
  exact PySem.W.KIN.call_text hn hl ⟨.int n,H,I.tok _,⟨_,rfl⟩,q⟩
theorem call_str_text:CallR X (.type "str") (fun xs H Q=>∃ z:Str,xs=[.str z]∧Q (.str z) H):=by
  intro pins s σ H xs us Q I r h
  obtain ⟨z,rfl,q⟩:=h
  obtain ⟨u,rfl,t,rfl⟩:=vals1 r
  exact PySem.P.str_of_str ⟨.str z,H,I,⟨t,rfl⟩,q⟩
end
end L2
namespace L2
open PySem PySem.Spec PyProof.Rows
def Its (z:Str):It:=⟨fun i _=>i < z.length,fun i H v H'=>H'=H∧∃ c,z.cps[i]?=some c∧v=.str ⟨#[c]⟩,fun i _=>z.length≤i⟩
theorem turn_str {P:Program} {w:World} {K:PySem.W.Frag} {tg:Expr} (z:Str) (t:Tok) (it:Addr):Turn P w K tg (Its z) [it] it (fun i h=>h.IsStrIter it "str_ascii_iterator" z t i) where
  mem:=by simp
  obj:=fun i h st b hb=>by
    have e:b=it:=by simpa using hb
    subst e
    obtain ⟨o,e,c,d⟩:=st
    exact ⟨o,e,fun v z=>by rw [d] at z; cases z⟩
  keep:=fun i h h' st k=>by
    obtain ⟨o,e,r⟩:=st
    exact ⟨o,k it (by simp) o e,r⟩
  item:=by
    intro X hP hw hK hc i pins s σ H E I hf st hg
    subst hP hw hK
    obtain ⟨f0,f1,f2,f3,f4,f5⟩:=hf it (by simp)
    have hi:i < z.cps.size:=hg
    refine wpAny_pyNext_ascii_item st (c:=z.cps[i]) (by simp [hi]) fun h' st' sb=>?_
    have I1:Inv X pins σ H { s with heap:=h',toks:=s.toks + 1 }:=I.turned (t':=s.toks + 1) (fun b o hb e=>(sb.2 b hb).trans e) f0 f1 f3 f4 f5
    obtain ⟨o,e,c,d⟩:=id st'
    exact ⟨_,rfl,go_of (s:={ s with heap:=h',toks:=s.toks + 1 }) e c d (by decide) ⟨.str ⟨#[z.cps[i]]⟩,H,I1,⟨_,rfl⟩,⟨rfl,z.cps[i],by simp [hi],rfl⟩,st',fun b hb=>(hf b hb).1⟩⟩
  done:=by
    intro X hP hw hK hc i pins s σ H E I hf st hg
    subst hP hw hK
    obtain ⟨f0,f1,f2,f3,f4,f5⟩:=hf it (by simp)
    have hi:z.cps.size≤i:=hg
    exact wpAny_pyNext_ascii_end (I.ok.hd hc) st (by simp [hi]) fun h' eb=>⟨rfl,I.turned (t':=s.toks) (fun b o hb e=>eb b o hb e) f0 f1 f3 f4 f5⟩
  self:=fun _ _ _ _ _ st h=>wpAny_pyIter_striter_ascii st h
def iStr (tl:TE):TI:=fun σ H R=>tl σ H fun x H1=>∃ z,x=.str z∧z.cps.all (· < 128)=true∧R (Its z) H1
theorem pi_str {X:Cx} {tg l:Expr} {tl:TE} (hl:PE X l tl):PI X tg l (iStr tl):=by
  intro pins s σ H R I h
  refine thn (hl pins s σ H _ I h) fun v s1 ⟨x,H1,I1,r1,q1⟩=>?_
  obtain ⟨z,rfl,ha,q⟩:=q1
  obtain ⟨t,rfl⟩:=r1
  refine wpAny_pyIter_ascii ha ?_
  refine ⟨s1.heap.objs.size,[s1.heap.objs.size],_,_,H1,rfl,I1.kept (t':=s1.toks) fun b o e=>Heap.get?_push_of_some _ e,turn_str z t _,⟨_,Heap.get?_push_size _ rfl,rfl,rfl⟩,fun b hb=>?_,q⟩
  have e:b=s1.heap.objs.size:=by simpa using hb
  subst e
  exact I1.fpOk (Nat.le_refl _) (I1.hok.fresh (Nat.le_refl _))
theorem compS {z:Str} {ix:List (Option Nat)} {g:TG} {te:TE} {σ:St} {H:Hp} {Q:VK} (Pv:Nat→List V→Hp→Prop) (h0:Pv 0 [] H) (hl:∀ i ys H,i≤z.length→Pv i ys H→ys.length=i) (hz:z.length≤sizeLine)
    (hs:∀ i c ys H (R:VK),z.cps[i]?=some c→Pv i ys H→(∀ y H3,Pv (i + 1) (ys ++ [y]) H3→R y H3)→g (.str ⟨#[c]⟩) (capS ix σ) H fun σ2 H2=>StLe (capS ix σ) σ2∧te σ2 H2 R)
    (hd:∀ ys H,Pv z.length ys H→∀ l,H l=none→Q (.ref l) (upd H l (.lst ys))) :
    CompB (Its z) ix g te σ H Q:=by
  refine ⟨fun i m ys H=>m=z.length - i∧i≤z.length∧Pv i ys H,⟨z.length,by simp,Nat.zero_le _,h0⟩,?_⟩
  rintro i m ys H ⟨rfl,hi,p⟩
  have ql:=hl i ys H hi p
  by_cases hlt:i < z.length
  · refine .inr ⟨hlt,by omega,fun x H' y=>?_⟩
    obtain ⟨e,c,hc,y⟩:=y
    subst e y
    exact hs i c ys _ _ hc p fun v H3 z2=>⟨z.length - (i + 1),by omega,rfl,hlt,z2⟩
  · have e:i=z.length:=by omega
    subst e
    exact .inl ⟨Nat.le_refl _,by omega,hd ys H p⟩
end L2
namespace L2
open PySem PySem.Spec PyProof.Rows
section
variable {prog:Program} {w:World} {A:Around} {E:Value→Shared→Prop} {s:Shared}
theorem tupNext {it u:Addr} {i:Nat} {its:Array Value} {x:Value} {Q:Value→Shared→Prop} (hi:s.heap.IsTupleIter it u i) (hu:s.heap.IsTuple u its) (hx:its[i]?=some x)
    (k:∀ h',h'.IsTupleIter it u (i + 1)→Heap.SameBut it s.heap h'→Q x { s with heap:=h' }):wpAny (model prog w) A (Builtin.SmallTypes.nextOf (.ref it)) Q E s:=by
  obtain ⟨oi,gi,ci,di⟩:=id hi
  obtain ⟨ou,gu,_,nu,du⟩:=hu
  unfold Builtin.SmallTypes.nextOf
  refine wpAny_bind (wpAny_callSpecial?_slot (name:=Str.ofString "__next__") hi.typeIs F.slot_tuple_iterator_next (wpAny_call_entry F.slot_tuple_iterator_next hi.typeIs F.entry_tuple_iterator_next ?_ (F.args_tuple_iterator_next_1 _)))
  show wpAny (model prog w) _ (field (.ref it) 0 >>= _) _ _ s
  refine wpAny_bind (wpAny_field gi di (x:=.ref u) rfl ?_)
  show wpAny (model prog w) _ (if (Value.ref u == Value.none)=true then _ else _) _ _ s
  rw [if_neg (show ¬ ((Value.ref u == Value.none)=true) from Bool.false_ne_true)]
  show wpAny (model prog w) _ (field (.ref it) 1 >>= _) _ _ s
  refine wpAny_bind (wpAny_field gi di (x:=.int i 0) rfl ?_)
  show wpAny (model prog w) _ (seqItems? (.ref u) >>= _) _ _ s
  refine wpAny_bind (wpAny_seqItems gu du ?_)
  simp only [Int.toNat_natCast,hx]
  refine wpAny_bind (wpAny_setField gi di (by simp) (wpAny_pure ⟨x,rfl,wpAny_pure (k _ ?_ (Heap.SameBut.update ..))⟩))
  refine ⟨_,Heap.get?_update_self _ gi (Obj.isFreed_of_fields (Obj.data_mapFields di _)),(Obj.cls_mapFields ..).trans ci,?_⟩
  rw [Obj.data_mapFields di]
  simp [rawInt]
theorem tupEnd {it u:Addr} {i:Nat} {its:Array Value} {Q:Value→Shared→Prop} (hh:A.handled=none) (hi:s.heap.IsTupleIter it u i) (hu:s.heap.IsTuple u its) (hx:its[i]?=none)
    (k:∀ h' e,Heap.ExtBut it s.heap h'→(∃ o,h'.get? e=some o∧o.cls=.type "StopIteration")→E (.ref e) { s with heap:=h' }):wpAny (model prog w) A (Builtin.SmallTypes.nextOf (.ref it)) Q E s:=by
  obtain ⟨oi,gi,ci,di⟩:=id hi
  obtain ⟨ou,gu,_,nu,du⟩:=hu
  unfold Builtin.SmallTypes.nextOf
  refine wpAny_bind (wpAny_callSpecial?_slot (name:=Str.ofString "__next__") hi.typeIs F.slot_tuple_iterator_next (wpAny_call_entry F.slot_tuple_iterator_next hi.typeIs F.entry_tuple_iterator_next ?_ (F.args_tuple_iterator_next_1 _)))
  show wpAny (model prog w) _ (field (.ref it) 0 >>= _) _ _ s
  refine wpAny_bind (wpAny_field gi di (x:=.ref u) rfl ?_)
  show wpAny (model prog w) _ (if (Value.ref u == Value.none)=true then _ else _) _ _ s
  rw [if_neg (show ¬ ((Value.ref u == Value.none)=true) from Bool.false_ne_true)]
  show wpAny (model prog w) _ (field (.ref it) 1 >>= _) _ _ s
  refine wpAny_bind (wpAny_field gi di (x:=.int i 0) rfl ?_)
  show wpAny (model prog w) _ (seqItems? (.ref u) >>= _) _ _ s
  refine wpAny_bind (wpAny_seqItems gu du ?_)
  simp only [Int.toNat_natCast,hx]
  refine wpAny_bind (wpAny_rule (wpAny_bind (wpAny_setField gi di (by simp) ?_)))
  show wpAny (model prog w) _ (newExc (.type "StopIteration") [] >>= _) _ _ _
  refine wpAny_bind ?_
  simp only [newExc,newTuple]
  refine wpAny_bind (wpAny_newObj_type ?_ (by size_fits))
  refine wpAny_bind (m:=firstArgMember _ _) (wpAny_of_eq (a:=.none) (by first | rfl | (simp only [firstArgMember]; rfl)) ?_)
  refine wpAny_newObj_type ?_ (by size_fits)
  simp only [raiseNew]
  refine wpAny_bind (wpAny_handled ?_)
  rw [show A.in1.handled=none from hh]
  exact wpAny_bind (wpAny_pure (wpAny_throw (k _ _ (((Heap.SameBut.update ..).extBut.push _).push _) ⟨_,Heap.get?_push_size _ rfl,rfl⟩)))
theorem drawsTup (hh:A.handled=none) (it u:Addr) (hne:u≠it) (its:Array Value):Draws prog w A it [it,u] its.size (fun i v=>its[i]?=some v) (fun i h=>h.IsTupleIter it u i∧h.IsTuple u its) where
  live:=fun _ _ st=>by obtain ⟨⟨o,ho,_⟩,_⟩:=st; exact ⟨o,ho⟩
  frame:=fun _ _ _ st hk=>⟨st.1.at (hk it (by simp)),st.2.at (hk u (by simp))⟩
  item:=fun i s Q E hi st k=>tupNext st.1 st.2 (x:=its[i]) (by simp [hi]) fun h' a b=>k _ h' s.toks (by simp [hi]) ⟨a,st.2.extBut b.extBut hne⟩ b
  done:=fun s Q E st k=>tupEnd hh st.1 st.2 (by simp) k
end
end L2
namespace L2
open PySem PySem.Spec PyProof.Rows
structure Far (z TI TO i1 i2:Addr) (f1 f2:List Addr):Prop where
  a1:TI≠z
  a2:TO≠z
  a3:i1≠z
  a4:i2≠z
  a5:TI≠TO
  a6:TI≠i1
  a7:TI≠i2
  a8:TO≠i1
  a9:TO≠i2
  b1:z ∉ f1
  b2:TO ∉ f1
  b3:i2 ∉ f1
  b4:z ∉ f2
  b5:TO ∉ f2
  b6:i1 ∉ f2
theorem ne_mem {a:Addr} {f:List Addr} (h:a ∉ f):∀ b∈f,b≠a:=fun b hb e=>h (e ▸ hb)
section
variable {prog:Program} {w:World} {A:Around} {E:Value→Shared→Prop} {s:Shared} {z TI TO i1 i2:Addr} {f1 f2:List Addr} {n1 n2 k1 k2:Nat} {P1 P2:Nat→Value→Prop} {S1 S2:Nat→Heap→Prop} {a b:Value}
abbrev Kp (z TO i1 i2:Addr) (h h':Heap):Prop:=∀ c o,c≠z→c≠TO→c≠i1→c≠i2→h.get? c=some o→h'.get? c=some o
theorem zipItem {Q:Value→Shared→Prop} (D:Far z TI TO i1 i2 f1 f2) (D1:∀ A',A'.handled=none→Draws prog w A' i1 f1 n1 P1 S1) (D2:∀ A',A'.handled=none→Draws prog w A' i2 f2 n2 P2 S2) (hh:A.handled=none)
    (hz:IsZip s.heap z TI TO .none) (hI:IsPair s.heap TI (.ref i1) (.ref i2)) (hO:IsPair s.heap TO a b) (s1:S1 k1 s.heap) (s2:S2 k2 s.heap) (l1:k1 < n1) (l2:k2 < n2)
    (k:∀ x y h' tk,P1 k1 x→P2 k2 y→IsZip h' z TI TO (rawInt s.heap.objs.size)→IsPair h' TO x y→S1 (k1 + 1) h'→S2 (k2 + 1) h'→IsPair h' s.heap.objs.size x y→Kp z TO i1 i2 s.heap h'→Q (.ref s.heap.objs.size) { s with heap:=h',toks:=tk }) :
    wpAny (model prog w) A (Builtin.«zip.__next__» ⟨[.ref z],[]⟩) (fun fin s'=>∃ v,fin=.done (.ret v)∧Q v s') E s:=by
  show wpAny (model prog w) A (field (.ref z) 2 >>= _) _ _ _
  refine wpAny_bind (wpAny_field hz rfl (x:=.bool false) rfl ?_)
  show wpAny (model prog w) A (field (.ref z) 3 >>= _) _ _ _
  refine wpAny_bind (wpAny_field hz rfl (x:=.ref TI) rfl ?_)
  refine wpAny_bind (wpAny_seqItems hI rfl ?_)
  show wpAny (model prog w) A (Builtin.SmallTypes.ownedTupleIsFree (.ref z) >>= _) _ _ _
  refine wpAny_bind ?_
  unfold Builtin.SmallTypes.ownedTupleIsFree
  refine wpAny_bind (wpAny_field hz rfl (x:=.none) rfl (wpAny_pure ?_))
  simp only [if_true]
  refine wpAny_bind (wpAny_rule ?_)
  refine wpAny_bind (wpAny_field hz rfl (x:=.ref TO) rfl ?_)
  refine wpAny_bind (wpAny_setField_rec hz (by simp) fun g1 z1 c1=>?_)
  replace z1:IsZip g1 z TI TO .ellipsis:=z1
  refine wpAny_bind ?_
  simp only [List.zipIdx_cons,List.zipIdx_nil,List.forIn_cons,List.forIn_nil]
  refine wpAny_bind (wpAny_bind (wpAny_onRaise ?_))
  show wpAny (model prog w) _ (Builtin.SmallTypes.nextOf (.ref i1) >>= _) _ _ _
  refine wpAny_bind ((D1 _ hh).item k1 _ _ _ l1 ((D1 _ hh).frame _ _ _ s1 fun c hc o e=>c1.extBut _ _ (ne_mem D.b1 c hc) e) fun x g2 t2 px q2 c2=>wpAny_pure ?_)
  have o2:IsPair g2 TO a b:=c2.extBut _ _ D.a8 (c1.extBut _ _ D.a2 hO)
  refine wpAny_bind (wpAny_seqItems o2 rfl ?_)
  refine wpAny_bind (wpAny_updateSeq_pair o2 fun g3 o3 c3=>?_)
  replace o3:IsPair g3 TO x b:=o3
  refine wpAny_bind (wpAny_letGo (wpAny_pure ?_))
  refine wpAny_bind (wpAny_bind (wpAny_onRaise ?_))
  show wpAny (model prog w) _ (Builtin.SmallTypes.nextOf (.ref i2) >>= _) _ _ _
  refine wpAny_bind ((D2 _ hh).item k2 _ _ _ l2 ((D2 _ hh).frame _ _ _ s2 fun c hc o e=>c3.extBut _ _ (ne_mem D.b5 c hc) (c2.extBut _ _ (ne_mem D.b6 c hc) (c1.extBut _ _ (ne_mem D.b4 c hc) e))) fun y g4 t4 py q4 c4=>wpAny_pure ?_)
  have o4:IsPair g4 TO x b:=c4.extBut _ _ D.a9 o3
  refine wpAny_bind (wpAny_seqItems o4 rfl ?_)
  refine wpAny_bind (wpAny_updateSeq_pair o4 fun g5 o5 c5=>?_)
  replace o5:IsPair g5 TO x y:=o5
  refine wpAny_bind (wpAny_letGo (wpAny_pure (wpAny_pure ?_)))
  refine wpAny_bind (wpAny_seqItems o5 rfl ?_)
  refine wpAny_bind (wpAny_newTuple ?_)
  have sz:g5.objs.size=s.heap.objs.size:=by rw [c5.1,c4.1,c3.1,c2.1,c1.1]
  have z5:IsZip g5 z TI TO .ellipsis:=c5.extBut _ _ D.a2.symm (c4.extBut _ _ D.a4.symm (c3.extBut _ _ D.a2.symm (c2.extBut _ _ D.a3.symm z1)))
  have kp5:Kp z TO i1 i2 s.heap g5:=fun c o e1 e2 e3 e4 e=>c5.extBut _ _ e2 (c4.extBut _ _ e4 (c3.extBut _ _ e2 (c2.extBut _ _ e3 (c1.extBut _ _ e1 e))))
  have q1':S1 (k1 + 1) g5:=(D1 _ hh).frame _ _ _ q2 fun c hc o e=>c5.extBut _ _ (ne_mem D.b2 c hc) (c4.extBut _ _ (ne_mem D.b3 c hc) (c3.extBut _ _ (ne_mem D.b2 c hc) e))
  have q2':S2 (k2 + 1) g5:=(D2 _ hh).frame _ _ _ q4 fun c hc o e=>c5.extBut _ _ (ne_mem D.b5 c hc) e
  have lz:z < g5.objs.size:=Heap.lt_size z5
  show wpAny (model prog w) A (Builtin.SmallTypes.ownedTupleHandOut (.ref z) (.ref g5.objs.size) >>= _) _ _ _
  refine wpAny_bind ?_
  unfold Builtin.SmallTypes.ownedTupleHandOut
  have z6:IsZip (g5.push { cls:=.type "tuple",data:=.seq #[x,y] }) z TI TO .ellipsis:=Heap.get?_push_of_some _ z5
  refine wpAny_bind (wpAny_setField_rec z6 (by simp) fun g7 z7 c7=>?_)
  replace z7:IsZip g7 z TI TO (rawInt g5.objs.size):=z7
  refine wpAny_setField_rec z7 (by simp) fun g8 z8 c8=>?_
  replace z8:IsZip g8 z TI TO (rawInt g5.objs.size):=z8
  have up:∀ c o,c≠z→g5.get? c=some o→g8.get? c=some o:=fun c o e1 e=>c8.extBut _ _ e1 (c7.extBut _ _ e1 (Heap.get?_push_of_some _ e))
  have p8:IsPair g8 g5.objs.size x y:=c8.extBut _ _ (Nat.ne_of_gt lz) (c7.extBut _ _ (Nat.ne_of_gt lz) (Heap.get?_push_size _ rfl))
  rw [sz] at z8 p8
  refine wpAny_pure ⟨_,rfl,?_⟩
  show Q (.ref g5.objs.size) _
  rw [sz]
  exact k x y g8 _ px py z8 (up _ _ D.a2 o5) ((D1 _ hh).frame _ _ _ q1' fun c hc o e=>up c o (ne_mem D.b1 c hc) e) ((D2 _ hh).frame _ _ _ q2' fun c hc o e=>up c o (ne_mem D.b4 c hc) e) p8 fun c o e1 e2 e3 e4 e=>up c o e1 (kp5 c o e1 e2 e3 e4 e)
theorem zipEnd {Q:Fin→Shared→Prop} (D:Far z TI TO i1 i2 f1 f2) (D1:∀ A',A'.handled=none→Draws prog w A' i1 f1 n1 P1 S1) (hh:A.handled=none)
    (hz:IsZip s.heap z TI TO .none) (hI:IsPair s.heap TI (.ref i1) (.ref i2)) (s1:S1 n1 s.heap)
    (k:∀ h' e,Kp z TO i1 i2 s.heap h'→(∃ o,h'.get? e=some o∧o.cls=.type "StopIteration")→E (.ref e) { s with heap:=h' }) :
    wpAny (model prog w) A (Builtin.«zip.__next__» ⟨[.ref z],[]⟩) Q E s:=by
  show wpAny (model prog w) A (field (.ref z) 2 >>= _) _ _ _
  refine wpAny_bind (wpAny_field hz rfl (x:=.bool false) rfl ?_)
  show wpAny (model prog w) A (field (.ref z) 3 >>= _) _ _ _
  refine wpAny_bind (wpAny_field hz rfl (x:=.ref TI) rfl ?_)
  refine wpAny_bind (wpAny_seqItems hI rfl ?_)
  show wpAny (model prog w) A (Builtin.SmallTypes.ownedTupleIsFree (.ref z) >>= _) _ _ _
  refine wpAny_bind ?_
  unfold Builtin.SmallTypes.ownedTupleIsFree
  refine wpAny_bind (wpAny_field hz rfl (x:=.none) rfl (wpAny_pure ?_))
  simp only [if_true]
  refine wpAny_bind (wpAny_rule ?_)
  refine wpAny_bind (wpAny_field hz rfl (x:=.ref TO) rfl ?_)
  refine wpAny_bind (wpAny_setField_rec hz (by simp) fun g1 z1 c1=>?_)
  replace z1:IsZip g1 z TI TO .ellipsis:=z1
  refine wpAny_bind ?_
  simp only [List.zipIdx_cons,List.zipIdx_nil,List.forIn_cons,List.forIn_nil]
  refine wpAny_bind (wpAny_bind (wpAny_onRaise ?_))
  show wpAny (model prog w) _ (Builtin.SmallTypes.nextOf (.ref i1) >>= _) _ _ _
  refine wpAny_bind ((D1 _ hh).done _ _ _ ((D1 _ hh).frame _ _ _ s1 fun c hc o e=>c1.extBut _ _ (ne_mem D.b1 c hc) e) fun g2 e c2 he=>?_)
  obtain ⟨oe,ge,ce⟩:=he
  have z2:IsZip g2 z TI TO .ellipsis:=c2 _ _ D.a3.symm z1
  have ez:e≠z:=fun q=>by subst q; rw [z2] at ge; cases ge; simp at ce
  exact wpAny_setField_rec z2 (by simp) fun g3 _ c3=>k g3 e (fun c o e1 _ e3 _ q=>c3.extBut _ _ e1 (c2 _ _ e3 (c1.extBut _ _ e1 q))) ⟨oe,c3.extBut _ _ ez ge,ce⟩
theorem zipNext {Q:Option Value→Shared→Prop} (D:Far z TI TO i1 i2 f1 f2) (D1:∀ A',A'.handled=none→Draws prog w A' i1 f1 n1 P1 S1) (D2:∀ A',A'.handled=none→Draws prog w A' i2 f2 n2 P2 S2) (hh:A.handled=none)
    (hz:IsZip s.heap z TI TO .none) (hI:IsPair s.heap TI (.ref i1) (.ref i2)) (hO:IsPair s.heap TO a b) (s1:S1 k1 s.heap) (s2:S2 k2 s.heap) (l1:k1 < n1) (l2:k2 < n2)
    (k:∀ x y h' tk,P1 k1 x→P2 k2 y→IsZip h' z TI TO (rawInt s.heap.objs.size)→IsPair h' TO x y→S1 (k1 + 1) h'→S2 (k2 + 1) h'→IsPair h' s.heap.objs.size x y→Kp z TO i1 i2 s.heap h'→Q (some (.ref s.heap.objs.size)) { s with heap:=h',toks:=tk }) :
    wpAny (model prog w) A (pyNext (.ref z)) Q E s:=by
  have hT:s.TypeIs (.ref z) "zip" := ⟨_,hz,rfl⟩
  unfold pyNext
  exact wpAny_bind (wpAny_attempt (wpAny_callSpecial?_slot (name:=Str.ofString "__next__") hT F.slot_zip_next (wpAny_call_entry F.slot_zip_next hT F.entry_zip_next (zipItem D D1 D2 hh hz hI hO s1 s2 l1 l2 fun x y h' tk b1 b2 b3 b4 b5 b6 b7 b8=>wpAny_pure (k x y h' tk b1 b2 b3 b4 b5 b6 b7 b8)) (F.args_zip_next_1 _))))
theorem zipStop {Q:Option Value→Shared→Prop} (D:Far z TI TO i1 i2 f1 f2) (D1:∀ A',A'.handled=none→Draws prog w A' i1 f1 n1 P1 S1) (hh:A.handled=none)
    (hz:IsZip s.heap z TI TO .none) (hI:IsPair s.heap TI (.ref i1) (.ref i2)) (s1:S1 n1 s.heap) (k:∀ h',Kp z TO i1 i2 s.heap h'→Q none { s with heap:=h' }):wpAny (model prog w) A (pyNext (.ref z)) Q E s:=by
  have hT:s.TypeIs (.ref z) "zip" := ⟨_,hz,rfl⟩
  unfold pyNext
  refine wpAny_bind (wpAny_attempt (wpAny_callSpecial?_slot (name:=Str.ofString "__next__") hT F.slot_zip_next (wpAny_call_entry F.slot_zip_next hT F.entry_zip_next (zipEnd D D1 hh hz hI s1 fun h' e kp he=>?_) (F.args_zip_next_1 _))))
  obtain ⟨o,ho,hc⟩:=he
  exact wpAny_bind (wpAny_isInstance (T := "StopIteration") (b:=true) ⟨o,ho,hc⟩ isSubtype_stop (wpAny_pure (k _ kp)))
end
end L2
namespace L2
open PySem PySem.Spec PyProof.Rows
def SqK (k:Bool) (K:PySem.W.Frag) (H:Hp) (a:Addr) (xs:List V):Prop:=match k with | true=>SqT K H a xs | false=>SqL K H a xs
def itK (k:Bool) (h:Heap) (it a:Addr) (i:Nat):Prop:=match k with | true=>h.IsTupleIter it a i | false=>h.IsListIter it a i
def seqK (k:Bool) (h:Heap) (a:Addr) (its:Array Value):Prop:=match k with | true=>h.IsTuple a its | false=>h.IsList a its
theorem itK.at {k:Bool} {h h':Heap} {it a:Addr} {i:Nat} (x:itK k h it a i) (e:∀ o,h.get? it=some o→h'.get? it=some o):itK k h' it a i:=by
  cases k with
  | true=>exact Heap.IsTupleIter.at x e
  | false=>exact Heap.IsListIter.at x e
theorem itK.obj {k:Bool} {h:Heap} {it a:Addr} {i:Nat} (x:itK k h it a i):∃ o,h.get? it=some o∧∀ v,o.data≠.cell v:=by
  cases k with
  | true=>obtain ⟨o,e,_,d⟩:=x; exact ⟨o,e,fun v q=>by rw [d] at q; cases q⟩
  | false=>obtain ⟨o,e,_,d⟩:=x; exact ⟨o,e,fun v q=>by rw [d] at q; cases q⟩
theorem drawsK {prog:Program} {w:World} {A:Around} (k:Bool) (hh:A.handled=none) (it u:Addr) (hne:u≠it) (its:Array Value):Draws prog w A it [it,u] its.size (fun i v=>its[i]?=some v) (fun i h=>itK k h it u i∧seqK k h u its):=by
  cases k with
  | true=>exact drawsTup hh it u hne its
  | false=>exact Draws.list hh it u hne its
theorem Inv.sqK {X:Cx} {pins:List (Addr × Obj)} {σ:St} {H:Hp} {s:Shared} {k:Bool} {a:Addr} {xs:List V} (I:Inv X pins σ H s) (h:SqK k X.K H a xs):∃ its:List Value,Vals xs its∧seqK k s.heap a its.toArray∧xs.length≤sizeLine:=by
  cases k with
  | true=>obtain ⟨its,r,t,z⟩:=I.tuple h; exact ⟨its,r,t,z⟩
  | false=>obtain ⟨its,r,t,z⟩:=I.list h; exact ⟨its,r,t.isList,z⟩
theorem Inv.sqK_inj {X:Cx} {pins:List (Addr × Obj)} {σ:St} {H:Hp} {s:Shared} {k:Bool} {a:Addr} {xs ys:List V} (I:Inv X pins σ H s) (h:SqK k X.K H a xs) (h':SqK k X.K H a ys):xs=ys:=by
  cases k with
  | true=>exact I.tuple_inj h h'
  | false=>exact I.list_inj h h'
theorem far_of {z TI TO i1 i2 a b:Addr} (D:ZipApart z TI TO i1 i2 a b):Far z TI TO i1 i2 [i1,a] [i2,b] :=
  ⟨D.TIz,D.TOz,D.i1z,D.i2z,D.TITO,D.TIi1,D.TIi2,D.TOi1,D.TOi2,by simp [D.i1z.symm,D.l1z.symm],by simp [D.TOi1,D.l1TO.symm],by simp [D.i12.symm,D.l1i2.symm],
    by simp [D.i2z.symm,D.l2z.symm],by simp [D.TOi2,D.l2TO.symm],by simp [D.i12,D.l2i1.symm]⟩
def Itk (k1 k2:Bool) (K:PySem.W.Frag) (a b:Addr):It :=
  ⟨fun i H=>∃ xs ys x y,SqK k1 K H a xs∧SqK k2 K H b ys∧xs[i]?=some x∧ys[i]?=some y,
   fun i H p H'=>∃ T x y,p=.ref T∧H T=none∧H'=upd H T (.tup [x,y])∧(∀ xs,SqK k1 K H a xs→xs[i]?=some x)∧(∀ ys,SqK k2 K H b ys→ys[i]?=some y),
   fun i H=>∃ xs,SqK k1 K H a xs∧xs.length=i⟩
abbrev zipSk (k1 k2:Bool) (z TI TO i1 i2 a b:Addr) (i:Nat) (h:Heap):Prop:=IsZip h z TI TO .none∧IsPair h TI (.ref i1) (.ref i2)∧(∃ u v,IsPair h TO u v)∧itK k1 h i1 a i∧itK k2 h i2 b i
theorem turn_zipK {P:Program} {w:World} {K:PySem.W.Frag} {elts:List Expr} {k:Nat} {pos:Pos} {k1 k2:Bool} {z TI TO i1 i2 a b:Addr} (D:ZipApart z TI TO i1 i2 a b) :
    Turn P w K (.Tuple elts k pos) (Itk k1 k2 K a b) [z,TI,TO,i1,i2] z (zipSk k1 k2 z TI TO i1 i2 a b) where
  mem:=by simp
  obj:=fun i h st c hc=>by
    obtain ⟨hz,hI,⟨u,v,hO⟩,h1,h2⟩:=st
    simp only [List.mem_cons,List.not_mem_nil,or_false] at hc
    rcases hc with rfl | rfl | rfl | rfl | rfl
    · exact ⟨_,hz,fun v q=>by have q':Data.fields _=Data.cell v:=q; cases q'⟩
    · exact ⟨_,hI,fun v q=>by have q':Data.seq _ _=Data.cell v:=q; cases q'⟩
    · exact ⟨_,hO,fun v q=>by have q':Data.seq _ _=Data.cell v:=q; cases q'⟩
    · exact h1.obj
    · exact h2.obj
  keep:=fun i h h' st kp=>by
    obtain ⟨hz,hI,⟨u,v,hO⟩,h1,h2⟩:=st
    exact ⟨kp z (by simp) _ hz,kp TI (by simp) _ hI,⟨u,v,kp TO (by simp) _ hO⟩,h1.at (kp i1 (by simp)),h2.at (kp i2 (by simp))⟩
  item:=by
    intro X hP hw hK hc i pins s σ H E I hf st hg
    subst hP hw hK
    obtain ⟨xs,ys,x,y,q1,q2,hx,hy⟩:=hg
    obtain ⟨hz,hI,⟨u,v,hO⟩,h1,h2⟩:=st
    obtain ⟨its,r1,p1,z1⟩:=I.sqK q1
    obtain ⟨its2,r2,p2,z2⟩:=I.sqK q2
    obtain ⟨ux,hux,rx⟩:=r1.get hx
    obtain ⟨uy,huy,ry⟩:=r2.get hy
    have lx:i < its.toArray.size:=by rw [List.size_toArray]; exact (List.getElem?_eq_some_iff.mp hux).1
    have ly:i < its2.toArray.size:=by rw [List.size_toArray]; exact (List.getElem?_eq_some_iff.mp huy).1
    refine zipNext (k1:=i) (k2:=i) (far_of D) (fun A' hA=>drawsK k1 hA i1 a D.l1i1 its.toArray) (fun A' hA=>drawsK k2 hA i2 b D.l2i2 its2.toArray) (I.ok.hd hc) hz hI hO ⟨h1,p1⟩ ⟨h2,p2⟩ lx ly fun x' y' h' tk e1 e2 a1 a2 a3 a4 a5 hk=>?_
    have ex:x'=ux:=by
      have e1:its[i]?=some x':=by simpa using e1
      exact Option.some.inj (e1.symm.trans hux)
    have ey:y'=uy:=by
      have e2:its2[i]?=some y':=by simpa using e2
      exact Option.some.inj (e2.symm.trans huy)
    subst ex ey
    refine ⟨_,rfl,?_⟩
    have hf4:∀ c∈[z,TO,i1,i2],FpOk X pins H c:=fun c hc=>hf c (by simp only [List.mem_cons,List.not_mem_nil,or_false] at hc ⊢; rcases hc with q | q | q | q <;> simp [q])
    have tup:ObjOk X.prog X.w (upd H s.heap.objs.size (.tup [x,y])) h' s.heap.objs.size (.tup [x,y]):=⟨by show 2≤sizeLine; decide,[x',y'],.cons rx (.cons ry .nil),_,a5,rfl,_,rfl⟩
    have I1:Inv X pins σ (upd H s.heap.objs.size (.tup [x,y])) { s with heap:=h',toks:=tk } :=
      I.turnedNew (t':=tk) hf4 (fun c o hc e=>hk c o (fun q=>hc (by simp [q])) (fun q=>hc (by simp [q])) (fun q=>hc (by simp [q])) (fun q=>hc (by simp [q])) e) (Nat.le_refl _) tup
    have fpn:∀ c∈[z,TI,TO,i1,i2],upd H s.heap.objs.size (.tup [x,y]) c=none:=fun c hc=>by
      obtain ⟨o,e⟩:∃ o,s.heap.get? c=some o:=by
        obtain ⟨o1,e1,_⟩:=h1.obj
        obtain ⟨o2,e2,_⟩:=h2.obj
        simp only [List.mem_cons,List.not_mem_nil,or_false] at hc
        rcases hc with rfl | rfl | rfl | rfl | rfl
        · exact ⟨_,hz⟩
        · exact ⟨_,hI⟩
        · exact ⟨_,hO⟩
        · exact ⟨_,e1⟩
        · exact ⟨_,e2⟩
      rw [upd_ne (Nat.ne_of_lt (Heap.lt_size e))]
      exact (hf c hc).1
    refine wpAny_letOwnedTupleGo_zip (s:={ s with heap:=h',toks:=tk }) a1 fun h2' hz2 sb=>?_
    have zz:=hf z (by simp)
    refine ⟨.ref s.heap.objs.size,_,I1.turned (t':=tk) (it:=z) (fun c o hc e=>(sb.2 c hc).trans e) (fpn z (by simp)) zz.2.1 zz.2.2.2.1 zz.2.2.2.2.1 zz.2.2.2.2.2,rfl,⟨_,x,y,rfl,I.hok.fresh (Nat.le_refl _),rfl,fun xs' q=>by rw [I.sqK_inj q q1]; exact hx,fun ys' q=>by rw [I.sqK_inj q q2]; exact hy⟩,?_,fpn⟩
    exact ⟨hz2,(sb.2 _ D.TIz).trans (hk _ _ D.TIz D.TITO D.TIi1 D.TIi2 hI),⟨_,_,(sb.2 _ D.TOz).trans a2⟩,a3.1.at fun o e=>(sb.2 _ D.i1z).trans e,a4.1.at fun o e=>(sb.2 _ D.i2z).trans e⟩
  done:=by
    intro X hP hw hK hc i pins s σ H E I hf st hg
    subst hP hw hK
    obtain ⟨xs,q1,hl⟩:=hg
    obtain ⟨hz,hI,⟨u,v,hO⟩,h1,h2⟩:=st
    obtain ⟨its,r1,p1,z1⟩:=I.sqK q1
    have l1:=r1.length
    have e:i=its.toArray.size:=by rw [List.size_toArray]; omega
    subst e
    refine zipStop (far_of D) (fun A' hA=>drawsK k1 hA i1 a D.l1i1 its.toArray) (I.ok.hd hc) hz hI ⟨h1,p1⟩ fun h' hk=>⟨rfl,?_⟩
    have hf4:∀ c∈[z,TO,i1,i2],FpOk X pins H c:=fun c hc=>hf c (by simp only [List.mem_cons,List.not_mem_nil,or_false] at hc ⊢; rcases hc with q | q | q | q <;> simp [q])
    exact I.turnedL (t':=s.toks) hf4 (fun c o hc e=>hk c o (fun q=>hc (by simp [q])) (fun q=>hc (by simp [q])) (fun q=>hc (by simp [q])) (fun q=>hc (by simp [q])) e)
  self:=fun _ _ _ _ _ st h=>wpAny_pyIter_zip st.1 h
end L2
namespace L2
open PySem PySem.Spec PyProof.Rows
def itO (k:Bool) (a:Addr):Obj:={ cls:=.type (match k with | true => "tuple_iterator" | false => "list_iterator"),data:=.fields #[.ref a,.int 0 0] }
theorem seqK.push {k:Bool} {h:Heap} {a:Addr} {its:Array Value} (x:seqK k h a its) (o:Obj):seqK k (h.push o) a its:=by
  cases k with
  | true=>exact Heap.IsTuple.push x o
  | false=>exact Heap.IsList.push x o
theorem seqK.lt {k:Bool} {h:Heap} {a:Addr} {its:Array Value} (x:seqK k h a its):a < h.objs.size:=by
  cases k with
  | true=>obtain ⟨o,e,_⟩:=x; exact Heap.lt_size e
  | false=>obtain ⟨o,e,_⟩:=x; exact Heap.lt_size e
theorem itK.new {k:Bool} {h:Heap} {it a:Addr} (e:h.get? it=some (itO k a)):itK k h it a 0:=by
  cases k with
  | true=>exact ⟨_,e,rfl,rfl⟩
  | false=>exact ⟨_,e,rfl,rfl⟩
section
variable {prog:Program} {w:World} {A:Around} {E:Value→Shared→Prop} {s:Shared}
theorem iterK {k:Bool} {a:Addr} {its:Array Value} {Q:Value→Shared→Prop} (h:seqK k s.heap a its) (q:Q (.ref s.heap.objs.size) { s with heap:=s.heap.push (itO k a) }):wpAny (model prog w) A (pyIter (.ref a)) Q E s:=by
  cases k with
  | true=>exact wpAny_pyIter_tuple h q
  | false=>exact wpAny_pyIter_list h q
end
abbrev zk1 (k1:Bool) (h:Heap) (a:Addr):Heap:=h.push (itO k1 a)
abbrev zk2 (k1 k2:Bool) (h:Heap) (a b:Addr):Heap:=(zk1 k1 h a).push (itO k2 b)
abbrev zk3 (k1 k2:Bool) (h:Heap) (a b:Addr):Heap:=(zk2 k1 k2 h a b).push { cls:=.type "tuple",data:=.seq #[.ref h.objs.size,.ref (zk1 k1 h a).objs.size] }
abbrev zk4 (k1 k2:Bool) (h:Heap) (a b:Addr):Heap:=(zk3 k1 k2 h a b).push { cls:=.type "tuple",data:=.seq #[.none,.none] }
abbrev zk5 (k1 k2:Bool) (h:Heap) (a b:Addr):Heap:=(zk4 k1 k2 h a b).push { cls:=.type "zip",data:=.fields #[.none,.bool false,.bool false,.ref (zk2 k1 k2 h a b).objs.size,.ref (zk3 k1 k2 h a b).objs.size] }
theorem meetsZk (k1 k2:Bool) (a b:Addr) (xs ys:Array Value) :
    Meets (Builtin.«zip.__new__» ⟨[.type "zip",.ref a,.ref b],[]⟩) (fun _ R s=>seqK k1 s.heap a xs∧seqK k2 s.heap b ys∧R (.ok (.ret (.ref (zk4 k1 k2 s.heap a b).objs.size))) { s with heap:=zk5 k1 k2 s.heap a b }) :=
  .of_wp fun prog w A R s h=>by
    obtain ⟨hp,g,d,tk,os⟩:=s
    obtain ⟨q1,q2,h⟩:=h
    have hsub:=sub_zip
    have L1:seqK k1 (Shared.heap ⟨hp,g,d,tk,os⟩) a xs:=q1
    have L2:seqK k2 (Shared.heap ⟨hp.push (itO k1 a),g,d,tk,os⟩) b ys:=seqK.push q2 _
    wp_walk using iterK L1,iterK L2
    exact ⟨_,rfl,h⟩
section
variable {prog:Program} {w:World} {A:Around} {E:Value→Shared→Prop} {s:Shared}
theorem callZk {k1 k2:Bool} {a b:Addr} {xs ys:Array Value} {Q:Value→Shared→Prop} (q1:seqK k1 s.heap a xs) (q2:seqK k2 s.heap b ys)
    (k:∀ h',zipSk k1 k2 (s.heap.objs.size + 4) (s.heap.objs.size + 2) (s.heap.objs.size + 3) s.heap.objs.size (s.heap.objs.size + 1) a b 0 h'→(∀ c o,s.heap.get? c=some o→h'.get? c=some o)→Q (.ref (s.heap.objs.size + 4)) { s with heap:=h' }) :
    wpAny (model prog w) A (call (.type "zip") [.ref a,.ref b]) Q E s:=by
  refine callType_new F.called_zip (by decide) (F.typeCall_zip_2 _ _) (F.newCall_zip_2 _ _) (fun obj=>F.args_object_init_3 obj _ _) F.entry_zip_new (meetsZk k1 k2 a b xs ys) ⟨q1,q2,?_⟩
  have z1:(zk1 k1 s.heap a).objs.size=s.heap.objs.size + 1:=Heap.size_push ..
  have z2:(zk2 k1 k2 s.heap a b).objs.size=s.heap.objs.size + 2:=by rw [Heap.size_push,z1]
  have z3:(zk3 k1 k2 s.heap a b).objs.size=s.heap.objs.size + 3:=by rw [Heap.size_push,z2]
  have z4:(zk4 k1 k2 s.heap a b).objs.size=s.heap.objs.size + 4:=by rw [Heap.size_push,z3]
  have up:∀ c o,s.heap.get? c=some o→(zk5 k1 k2 s.heap a b).get? c=some o:=fun c o x=>Heap.get?_push_of_some _ (Heap.get?_push_of_some _ (Heap.get?_push_of_some _ (Heap.get?_push_of_some _ (Heap.get?_push_of_some _ x))))
  have g5:(zk5 k1 k2 s.heap a b).get? (zk4 k1 k2 s.heap a b).objs.size=some _:=Heap.get?_push_size _ rfl
  have g4:(zk5 k1 k2 s.heap a b).get? (zk3 k1 k2 s.heap a b).objs.size=some _:=Heap.get?_push_of_some _ (Heap.get?_push_size _ rfl)
  have g3:(zk5 k1 k2 s.heap a b).get? (zk2 k1 k2 s.heap a b).objs.size=some _:=Heap.get?_push_of_some _ (Heap.get?_push_of_some _ (Heap.get?_push_size _ rfl))
  have g2:(zk5 k1 k2 s.heap a b).get? (zk1 k1 s.heap a).objs.size=some _:=Heap.get?_push_of_some _ (Heap.get?_push_of_some _ (Heap.get?_push_of_some _ (Heap.get?_push_size (o:=itO k2 b) _ (by cases k2 <;> rfl))))
  have g1:(zk5 k1 k2 s.heap a b).get? s.heap.objs.size=some _:=Heap.get?_push_of_some _ (Heap.get?_push_of_some _ (Heap.get?_push_of_some _ (Heap.get?_push_of_some _ (Heap.get?_push_size (o:=itO k1 a) _ (by cases k1 <;> rfl)))))
  show _∧_
  rw [z2,z3,z4] at g5
  rw [z1,z2] at g3
  rw [z3] at g4
  rw [z1] at g2
  rw [z4]
  exact ⟨⟨_,g5,rfl⟩,k _ ⟨g5,g3,⟨_,_,g4⟩,itK.new g1,itK.new g2⟩ up⟩
end
section
variable {X:Cx}
def iZipK (k1 k2:Bool) (K:PySem.W.Frag) (ta:TA):TI:=fun σ H R=>ta σ H fun vs H1=>∃ a b,vs=[.ref a,.ref b]∧(∃ xs,SqK k1 K H1 a xs)∧(∃ ys,SqK k2 K H1 b ys)∧R (Itk k1 k2 K a b) H1
theorem pi_zipK (k1 k2:Bool) {a b:Expr} {ta:TA} {p pos tpos:Pos} {elts:List Expr} {k:Nat} (hg:Gl X "zip") (hm:X.mg "zip" = none) (ha:PA X [a,b] ta) (hs:starEach [a,b] X.env=[(false,eval a X.env),(false,eval b X.env)]:=by rfl) (hs2:starEach [b] X.env=[(false,eval b X.env)]:=by rfl) :
    PI X (.Tuple elts k tpos) (.Call (.Name "zip" p) [a,b] [] pos) (iZipK k1 k2 X.K ta):=by
  intro pins s σ H R I h
  refine Call_ (ld_blt I hg hm boot_zip (PyProof.Rows.callWith_type1 (thn (ha pos pins s σ H _ I h) fun us s1 ⟨vs,H1,I1,r1,q1⟩=>?_) (by rw [hs,hs2]) (by rw [hs2]; rfl)))
  obtain ⟨l1,l2,e,⟨xs,q1⟩,⟨ys,q2⟩,q⟩:=q1
  subst e
  obtain ⟨u,v,rfl,ru,rv⟩:=Vals.two r1
  cases ru
  cases rv
  obtain ⟨its,t1,p1,z1⟩:=I1.sqK q1
  obtain ⟨its2,t2,p2,z2⟩:=I1.sqK q2
  refine callZk p1 p2 fun h' st hk=>?_
  refine wpAny_pyIter_zip (s:={ s1 with heap:=h' }) st.1 ?_
  refine ⟨_,_,_,_,H1,rfl,I1.kept (t':=s1.toks) hk,turn_zipK (zipApart_new p1.lt p2.lt),st,fun c hc=>?_,q⟩
  simp only [List.mem_cons,List.not_mem_nil,or_false] at hc
  have up:∀ k,FpOk X pins H1 (s1.heap.objs.size + k):=fun k=>I1.fpOk (Nat.le_add_right _ k) (I1.hok.fresh (Nat.le_add_right _ k))
  rcases hc with rfl | rfl | rfl | rfl | rfl
  · exact up 4
  · exact up 2
  · exact up 3
  · exact up 0
  · exact up 1
end
theorem compZK {k1 k2:Bool} {K:PySem.W.Frag} {a b:Addr} {xs zs:List V} {ix:List (Option Nat)} {g:TG} {te:TE} {σ:St} {H:Hp} {Q:VK} (Pv:Nat→List V→Hp→Prop) (h0:Pv 0 [] H) (hlen:xs.length=zs.length) (hl:∀ i ys H,i≤xs.length→Pv i ys H→SqK k1 K H a xs∧SqK k2 K H b zs∧ys.length=i) (hz:xs.length≤sizeLine)
    (hs:∀ i x z ys H T (R:VK),xs[i]?=some x→zs[i]?=some z→Pv i ys H→H T=none→(∀ y H3,Pv (i + 1) (ys ++ [y]) H3→R y H3)→g (.ref T) (capS ix σ) (upd H T (.tup [x,z])) fun σ2 H2=>StLe (capS ix σ) σ2∧te σ2 H2 R)
    (hd:∀ ys H,Pv xs.length ys H→∀ l,H l=none→Q (.ref l) (upd H l (.lst ys))) :
    CompB (Itk k1 k2 K a b) ix g te σ H Q:=by
  refine ⟨fun i m ys H=>m=xs.length - i∧i≤xs.length∧Pv i ys H,⟨xs.length,by simp,Nat.zero_le _,h0⟩,?_⟩
  rintro i m ys H ⟨rfl,hi,p⟩
  obtain ⟨q,q2,ql⟩:=hl i ys H hi p
  by_cases hlt:i < xs.length
  · refine .inr ⟨⟨xs,zs,xs[i],zs[i]'(by omega),q,q2,by simp [hlt],by simp⟩,by omega,fun x H' y=>?_⟩
    obtain ⟨T,x,z,rfl,hT,rfl,y1,y2⟩:=y
    exact hs i x z ys _ T _ (y1 xs q) (y2 zs q2) p hT fun v H3 z2=>⟨xs.length - (i + 1),by omega,rfl,hlt,z2⟩
  · have e:i=xs.length:=by omega
    subst e
    exact .inl ⟨⟨xs,q,rfl⟩,by omega,hd ys H p⟩
end L2
namespace L2
open PySem PySem.Spec PyProof.Rows
section
variable {κ:Type} [DecidableEq κ]
def valV (kvs:List (κ × V)) (k:κ):Option V:=(kvs.find? fun kv=>decide (kv.1=k)).map (·.2)
theorem valV_pos {p:κ × V} {r:List (κ × V)} {k:κ} (e:p.1=k):valV (p :: r) k=some p.2:=by simp [valV,List.find?_cons,e]
theorem valV_neg {p:κ × V} {r:List (κ × V)} {k:κ} (e:¬ p.1=k):valV (p :: r) k=valV r k:=by simp [valV,List.find?_cons,e]
theorem RelO.getD {o:Option V} {u:Option Value} {d:V} {d':Value} (r:RelO o u) (rd:RelV d d'):RelV (o.getD d) (u.getD d'):=by
  cases o with
  | none=>cases u with
    | none=>exact rd
    | some _=>exact (show False from r).elim
  | some _=>cases u with
    | none=>exact (show False from r).elim
    | some _=>exact r
theorem KV.val {kvs:List (κ × V)} {vs:List (κ × Value)} (r:KV kvs vs) (k:κ):RelO (valV kvs k) (valueAt vs k):=by
  unfold KV at r
  induction r with
  | nil=>exact True.intro
  | @cons p q ps qs h t ih =>
    obtain ⟨h1,h2⟩:=h
    by_cases e:p.1=k
    · have e':q.1=k:=h1.symm.trans e
      have b:valueAt (q :: qs) k=some q.2:=by simp [valueAt,List.find?_cons,e']
      rw [valV_pos e,b]; exact h2
    · have e':¬ q.1=k:=fun z=>e (h1.trans z)
      have b:valueAt (q :: qs) k=valueAt qs k:=by simp [valueAt,List.find?_cons,e']
      rw [valV_neg e,b]; exact ih
end
theorem kV_is {P:Program} {w:World} {k:Key} {u:Value} (r:RelV (kV k) u):(mixKind P w).is k u=true:=by
  cases k with
  | inl i=>obtain ⟨t,e⟩:=(show ∃ t,u=Value.int i t from r); subst e; exact mixKind_int P w i t
  | inr x=>obtain ⟨t,e⟩:=(show ∃ t,u=Value.str x t from r); subst e; exact mixKind_str P w x t
abbrev KT (H:Hp):List (List Key × V)→List (List Key × Addr × Value)→Prop:=Paired fun p q=>p.1=q.1∧H q.2.1=some (.tup (p.1.map kV))∧RelV p.2 q.2.2
section
variable {P:Program} {w:World} {H:Hp} {h:Heap} {a:Addr}
end
section
variable {X:Cx} {pins:List (Addr × Obj)} {σ:St} {H:Hp} {s:Shared} {a:Addr} {y v:V} {u r:Value} {o:Option V} {A:Around} {E:Value→Shared→Prop}
end
section
variable {X:Cx} {pins:List (Addr × Obj)} {σ:St} {H:Hp} {s:Shared} {a:Addr} {kvs:List (Key × V)} {k:Key} {u:Value} {A:Around} {E:Value→Shared→Prop}
end
def NoSl (i:Expr):Prop:=∀ ov iv,subscripted i false ov iv=operate [ov,iv] (getItem ov iv)
theorem subD_of {prog:Program} {w:World} {A:Around} {E:Value→Shared→Prop} {s:Shared} {env:Env} {value slice:Expr} {pos:Pos} {T id:String} {Q:Value→Shared→Prop}
    (hl:typeLookup (.type T) "__getitem__" = pure (some (.builtin id))) (hs:NoSl slice)
    (h:wpAny (model prog w) A (eval value env) (fun o s₁=>wpAny (model prog w) A (eval slice env) (fun i s₂=>s₂.TypeIs o T∧wpAny (model prog w) A (getItem o i) Q E s₂) E s₁) E s) :
    wpAny (model prog w) A (eval (.Subscript value slice pos) env) Q E s:=by
  refine Subscript_ (wpAny_mono h (fun o s₁ h₁=>wpAny_mono h₁ (fun i s₂ h₂=>?_) fun _ _ x=>x) fun _ _ x=>x)
  obtain ⟨hT,h₂⟩:=h₂
  unfold subscriptTail
  refine wpAny_bind ?_
  rw [getitemInPython_of_ne hT.not_modules]
  refine wpAny_bind (wpAny_specialOf hT hl ?_)
  have fin:wpAny (model prog w) A (subscripted slice false o i) (fun r s₃=>wpAny (model prog w) A (letTemporaryGo value o r >>= fun _=>pure r) Q E s₃) E s₂:=by
    rw [hs o i]
    exact wpAny_operating (wpAny_mono h₂ (fun r s₃ h₃=>wpAny_bind (wpAny_letTemporaryGo (wpAny_pure h₃))) fun _ _ x=>x)
  first
    | exact wpAny_pure (wpAny_bind fin)
    | exact wpAny_bind (wpAny_pure (wpAny_bind fin))
    | exact wpAny_bind fin
section
variable {X:Cx} {o i e value:Expr} {pos pos' tpos:Pos} {td ty tv:TE}
end
section
variable {X:Cx} {pos:Pos}
end
structure M1 (X:Cx) (o:Expr) (m:Str) (apos:Pos) (e:Expr) (cpos:Pos):Prop where
  base:attributeBase o m X.env (eval o X.env)=eval o X.env
  few:((backTo cpos (starEach [e] X.env)).all (fun x=>!x.1) && (backToKw cpos (keywordEach [] X.env)).all (fun x=>x.1.isSome)
    && decide (([e]:List Expr).length + ([]:List Keyword).length + (if ([]:List Keyword).isEmpty then 0 else 1) < 30))=true
  line:(apos.endLine == cpos.line)=true
  trees:backTo cpos (starEach [e] X.env)=[(false,eval e X.env)]
section
variable {X:Cx} {pins:List (Addr × Obj)} {σ:St} {H:Hp} {s:Shared} {a:Addr} {y d:V} {u r:Value} {o:Option V} {A:Around} {E:Value→Shared→Prop}
end
section
variable {X:Cx} {o e f:Expr} {apos cpos:Pos} {td ty tx:TE}
end
section
variable {X:Cx} {pins:List (Addr × Obj)} {σ:St} {H:Hp} {s:Shared} {a:Addr} {kvs:List (Key × V)} {A:Around} {E:Value→Shared→Prop}
end
section
variable {X:Cx} {pins:List (Addr × Obj)} {σ:St} {H:Hp} {s:Shared} {a:Addr} {y:V} {u:Value} {A:Around} {E:Value→Shared→Prop}
end
end L2
namespace L2
open PySem PySem.Spec PyProof.Rows
def Ent (w:World) (e:DictEntry) (kv:Str × V):Prop:=(∃ t,e.key=.str kv.1 t)∧e.hash=hashStr w kv.1∧RelV kv.2 e.val
inductive Ents (w:World):List DictEntry→List (Str × V)→Prop
  | nil:Ents w [] []
  | cons {e:DictEntry} {kv:Str × V} {es:List DictEntry} {kvs:List (Str × V)}:Ent w e kv→Ents w es kvs→Ents w (e :: es) (kv :: kvs)
def SqD (w:World) (K:PySem.W.Frag) (a:Addr) (kvs:List (Str × V)):Prop :=
  (a == sysModules)=false∧(kvs.map (·.1)).Nodup∧∃ o es ep,K.lookup a=some o∧o.ExactDict∧o.data=.dict es ep∧Ents w es.toList kvs
def atS (kvs:List (Str × V)) (x:Str):Option V:=valV (kvs.map fun kv=>((Sum.inr kv.1:Key),kv.2)) (Sum.inr x)
theorem ents_vals {P:Program} {w:World} {es:List DictEntry} {kvs:List (Str × V)} (h:Ents w es kvs) :
    ∃ vs:List (Key × Value),KV (kvs.map fun kv=>((Sum.inr kv.1:Key),kv.2)) vs∧Pairs (mixKind P w) es vs∧(∀ e∈es,∃ k,(mixKind P w).is k e.key=true∧e.hash=(mixKind P w).hash k)∧vs.map (·.1)=kvs.map (fun kv=>(Sum.inr kv.1:Key)):=by
  induction h with
  | nil=>exact ⟨[],.nil,.nil,fun _ h=>(nomatch h),rfl⟩
  | @cons e kv es kvs h1 _ ih =>
    obtain ⟨vs,r1,r2,r3,r4⟩:=ih
    obtain ⟨⟨t,ek⟩,eh,rv⟩:=h1
    have is:(mixKind P w).is (Sum.inr kv.1) e.key=true:=by rw [ek]; exact mixKind_str P w kv.1 t
    refine ⟨(Sum.inr kv.1,e.val) :: vs,.cons ⟨rfl,rv⟩ r1,.cons is rfl r2,fun e' h'=>?_,by rw [List.map_cons,List.map_cons,r4]⟩
    rcases List.mem_cons.mp h' with rfl | h'
    · exact ⟨Sum.inr kv.1,is,eh⟩
    · exact r3 e' h'
theorem SqD.dict {X:Cx} {pins:List (Addr × Obj)} {σ:St} {H:Hp} {s:Shared} {a:Addr} {kvs:List (Str × V)} (h:SqD X.w X.K a kvs) (I:Inv X pins σ H s) :
    ∃ vs,KV (kvs.map fun kv=>((Sum.inr kv.1:Key),kv.2)) vs∧s.heap.DictOf (mixKind X.prog X.w) a vs:=by
  obtain ⟨_,nd,o,es,ep,hk,ex,hd,en⟩:=h
  obtain ⟨vs,r1,r2,r3,r4⟩:=ents_vals (P:=X.prog) en
  refine ⟨vs,r1,o,es,ep,I.kIn a o hk,ex,hd,fun e he=>r3 e (by simpa using he),r2,?_⟩
  rw [r4]
  have:kvs.map (fun kv=>(Sum.inr kv.1:Key))=(kvs.map (·.1)).map Sum.inr:=by rw [List.map_map]; rfl
  rw [this]
  exact List.Pairwise.map _ (fun a b hab e=>hab (Sum.inr.inj e)) nd
section
variable {X:Cx} {o i e:Expr} {td ty:TE} {pos apos cpos:Pos}
def tSGet (w:World) (K:PySem.W.Frag) (td ty:TE):TE:=fun σ H Q=>td σ H fun x H1=>ty σ H1 fun y H2=>∃ a kvs z v,x=.ref a∧SqD w K a kvs∧y=.str z∧atS kvs z=some v∧Q v H2
theorem pe_sget (ho:PE X o td) (hi:PE X i ty) (hs:NoSl i):PE X (.Subscript o i pos) (tSGet X.w X.K td ty):=by
  intro pins s σ H Q I h
  refine subD_of PySem.F.slot_dict_getitem.lookup hs (thn (ho pins s σ H _ I h) fun u s1 ⟨x,H1,I1,rx,q1⟩=>thn (hi pins s1 σ H1 _ I1 q1) fun iv s2 ⟨y,H2,I2,ry,a,kvs,z,v,ex,g,ey,ev,q2⟩=>?_)
  subst ex ey
  obtain rfl:u=Value.ref a:=rx
  obtain ⟨vs,rel,dd⟩:=g.dict I2
  obtain ⟨w',hw,rw'⟩:=RelO.some_of (v:=v) (o:=valueAt vs (Sum.inr z)) (by rw [← ev]; exact rel.val (Sum.inr z))
  exact ⟨dd.typeIs,wpAny_getItem_of (kV_is (k:=Sum.inr z) ry) dd.mapOf hw ⟨v,H2,I2.tok _,rw',q2⟩⟩
def tSGet1 (w:World) (K:PySem.W.Frag) (td ty:TE):TE:=fun σ H Q=>td σ H fun x H1=>∃ a kvs,x=.ref a∧SqD w K a kvs∧ty σ H1 fun y H2=>∃ z,y=.str z∧Q ((atS kvs z).getD .non) H2
theorem pe_sget1 (ho:PE X o td) (he:PE X e ty) (m:M1 X o "get" apos e cpos):PE X (.Call (.Attribute o "get" apos) [e] [] cpos) (tSGet1 X.w X.K td ty):=by
  intro pins s σ H Q I h
  refine wpAny_Call_method m.base m.few m.line PySem.F.plainAttrs_dict PySem.F.slot_dict_get PySem.F.type_dict_get (thn (ho pins s σ H _ I h) fun u s1 ⟨x,H1,I1,rx,a,kvs,ex,g,q1⟩=>?_)
  subst ex
  obtain rfl:u=Value.ref a:=rx
  obtain ⟨vs,rel,dd⟩:=g.dict I1
  obtain ⟨ob,_,_,ho',hx,_⟩:=id dd
  refine ⟨dd.typeIs,fun b eb=>?_,?_⟩
  · cases eb
    exact ⟨ob,ho',hx.2.1⟩
  rw [m.trees]
  refine Calls.callWith_builtin rfl (Calls.evalArgs_plain (Calls.spliced_cons (thn (he pins s1 σ H1 _ I1 q1) fun iv s2 ⟨y,H2,I2,ry,z,ey,q2⟩=>Calls.spliced_nil ?_)))
  subst ey
  obtain ⟨vs2,rel2,dd2⟩:=g.dict I2
  exact call_meetsIn PySem.F.slot_dict_get dd2.typeIs PySem.F.entry_dict_get (PySem.F.args_dict_get_2 _ _) (meets_dict_get (mixKind X.prog X.w) a (kV_is (k:=Sum.inr z) ry) g.1) ⟨_,dd2.mapOf,⟨_,H2,I2.tok _,RelO.getD (d:=.non) (d':=.none) (rel2.val (Sum.inr z)) (show RelV .non .none from rfl),q2⟩⟩
end
end L2
namespace L2
open PySem PySem.Spec PyProof.Rows
section
variable {prog:Program} {w:World} {A:Around} {E:Value→Shared→Prop} {s:Shared}
theorem unpackStar {t:Addr} {x:Value} {rs:List Value} {Q:List Value→Shared→Prop} (ht:IsTup s.heap t (x :: rs).toArray) (hh:A.handled=none) (hz:rs.length≤16000)
    (k:∀ (g:Heap) tk,(∀ b o,s.heap.get? b=some o→g.get? b=some o)→Q [x,.ref g.objs.size] { s with heap:=g.push { cls:=.type "list",data:=.seq rs.toArray },toks:=tk }) :
    wpAny (model prog w) A (unpackItems (.ref t) 2 (some 1)) Q E s:=by
  have ne:t≠s.heap.objs.size:=by obtain ⟨o,e,_⟩:=ht; exact Nat.ne_of_lt (Heap.lt_size e)
  have zz:((x :: rs).toArray).size=rs.length + 1:=by simp
  unfold unpackItems
  refine wpAny_bind ?_
  unfold notIterableAtAll
  refine wpAny_bind (wpAny_specialOf ht.typeIs slot_tuple_iter.lookup (wpAny_pure ?_))
  simp only [Bool.false_eq_true,if_false]
  refine wpAny_bind (wpAny_holding (iter_tuple ht ?_))
  refine wpAny_bind (wpAny_holding (draw_tuple ne 1 0 _ _ ⟨_,Heap.get?_push_size _ rfl,rfl,rfl⟩ (ht.push _) (by rw [zz]; omega) fun g1 i1 c1=>?_))
  have t1:IsTup g1 t (x :: rs).toArray:=(ht.push _).extBut c1.extBut ne
  rw [Nat.zero_add] at i1
  have li:s.heap.objs.size < g1.objs.size:=by obtain ⟨o,e,_⟩:=id i1; exact Heap.lt_size e
  have lt:t < g1.objs.size:=by obtain ⟨o,e,_⟩:=id t1; exact Heap.lt_size e
  show wpAny (model prog w) A (if ([x]:List Value).length < 1 then _ else _) _ _ _
  rw [if_neg (by simp)]
  refine wpAny_bind (wpAny_holding (PySem.W.kun_collect (s:={ s with heap:=g1 }) (T := "tuple_iterator") (.inr (.inr (.inr rfl))) (Walks.tuple (A:=A.in1) hh s.heap.objs.size t ne (x :: rs).toArray) (fun j u st=>st.1.typeIs) (k:=1) (by rw [zz]; omega) ⟨i1,t1⟩ li lt (fun g2 tk kp=>?_) (by rw [zz,sizeLine_eq]; omega)))
  show wpAny (model prog w) A (if rs.length < 2 - 1 - 1 then _ else _) _ _ _
  rw [if_neg (by omega)]
  have up:∀ b o,s.heap.get? b=some o→g2.get? b=some o:=fun b o e=>by
    have nb:b≠s.heap.objs.size:=Nat.ne_of_lt (Heap.lt_size e)
    exact kp b o nb (c1.extBut b o nb (Heap.get?_push_of_some _ e))
  have e1:rs.take (rs.length - (2 - 1 - 1))=rs:=by rw [List.take_of_length_le (by omega)]
  have e2:rs.drop (rs.length - (2 - 1 - 1))=[]:=by rw [List.drop_of_length_le (by omega)]
  show wpAny (model prog w) A (newList (rs.take (rs.length - (2 - 1 - 1))) >>= fun d=>pure ([x] ++ [d] ++ rs.drop (rs.length - (2 - 1 - 1)))) _ _ _
  rw [e1,e2]
  exact wpAny_bind (wpAny_newList (wpAny_pure (k g2 tk up)) (by rw [sizeLine_eq]; omega))
end
section
variable {X:Cx} {pos:Pos}
def gStar (K:PySem.W.Frag) (t:TGs):TG:=fun v σ H Q=>∃ a x xs,v=.ref a∧SqT K H a (x :: xs)∧xs.length≤16000∧∀ D,H D=none→t [x,.ref D] σ (upd H D (.lst xs)) Q
theorem pg_star {es:List Expr} {k:Nat} {t:TGs} (hc:X.calm=true) (h:PGs X es t)
    (hn:(assignEach es X.env).length=2:=by rfl) (hst:(assignEach es X.env).findIdx? (·.1)=some 1:=by rfl):PG X (.Tuple es k pos) (gStar X.K t):=by
  intro pins s σ H v u Q I r hw
  obtain ⟨a,x,xs,rfl,hq,hl,hw⟩:=hw
  cases r
  obtain ⟨its,rv,ht,hz⟩:=I.tuple hq
  cases rv with
  | @cons _ u0 _ us r0 rs =>
    rw [assign_Tuple]
    refine wpAny_bind (wpAny_standAt ?_)
    unfold unpack
    rw [hn,hst]
    refine wpAny_bind (wpAny_holding (unpackStar ht (I.ok.hd hc) (by rw [← rs.length]; exact hl) fun g tk kp=>?_))
    have I1:Inv X pins σ H { s with heap:=g,toks:=tk }:=I.kept kp
    have I2:=I1.lnew (t':=tk) (ys:=xs) rs (by simp at hz; omega)
    exact h pins _ σ _ _ _ Q I2 (.cons r0 (.cons (show RelV (.ref g.objs.size) (.ref g.objs.size) from rfl) .nil)) (hw _ I1.fresh)
theorem pgs_starred {e:Expr} {p:Pos} {t:TG} (h1:PG X e t)
    (hs:(assignEach [.Starred e p] X.env).map (·.2)=[assign e X.env]:=by rfl):PGs X [.Starred e p] (gCons t gNil):=by
  intro pins s σ H vs us Q I r h
  obtain ⟨v,vr,e1,h⟩:=h
  subst e1
  cases r with
  | cons r rr =>
    rw [hs]
    refine assignInOrder_cons (thn (h1 pins s σ H _ _ _ I r h) fun _ s1 ⟨σ1,H1,I1,q1⟩=>?_)
    obtain ⟨e2,q1⟩:=q1
    subst e2
    cases rr
    exact assignInOrder_nil ⟨σ1,H1,I1,q1⟩
end
end L2
namespace L2
open PySem PySem.Spec PyProof.Rows
section
variable {X:Cx} {x:Str} {i:Nat} {p pos:Pos} {e:Expr} {es:List Expr} {t:TA}
structure Fn1 (X:Cx) (f:Addr) (r:List V→Hp→VK→Prop):Prop where
  kp:PySem.W.keepIn X.K (.ref f)=true
  run:∀ (pins:List (Addr × Obj)) (s:Shared) (σ:St) (H:Hp) (vs:List V) (us:List Value) (Q:VK),Inv X pins σ H s→Vals vs us→r vs H Q→wpAny (model X.prog X.w) X.A (call (.ref f) us) (EP X pins σ Q) X.xe s
def tCallV (X:Cx) (i:Nat) (r:Addr→List V→Hp→VK→Prop) (t:TA):TE:=fun σ H Q=>∃ f,σ[i]?=some (some (.ref f))∧Fn1 X f (r f)∧t σ H fun vs H1=>r f vs H1 Q
theorem pe_callV (r:Addr→List V→Hp→VK→Prop) (hN:X.N[i]?=some x) (hv:Vis X.env.scope x) (ha:PA X (e :: es) t) (hd:(x == ("__debug__" : Str))=false:=by decide) (hcd:(x == ("__classdict__" : Str))=false:=by decide)
    (he:starEach (e :: es) X.env=(false,eval e X.env) :: starEach es X.env:=by rfl) (hpl:(backTo pos (starEach es X.env)).any (·.1)=false:=by rfl):PE X (.Call (.Name x p) (e :: es) [] pos) (tCallV X i r t):=by
  intro pins s σ H Q I h
  obtain ⟨f,ef,F,h⟩:=h
  refine wpAny_Call_Name_kw (thn (pe_var (pos:=p) hN hv hd hcd pins s σ H (fun v H'=>v=.ref f∧H'=H) I ⟨_,ef,rfl,rfl⟩) fun u s1 ⟨v,H1,I1,r1,ev,eH⟩=>?_)
  subst ev eH
  cases r1
  refine PySem.W.callWith_K (h₀:=X.base) I1.ok.mod.kin F.kp (thn (ha pos pins s1 σ _ _ I1 h) fun us s2 ⟨vs,H2,I2,r2,q⟩=>⟨I2.kIn,?_⟩) he hpl
  exact F.run pins s2 σ H2 vs us Q I2 r2 q
theorem Fn1.of {k:Nat} {f:Addr} {fd:FuncData} {ps:List Str} {sp:Sp} (F:FnOk X.prog X.w X.K X.mg X.base CX0 k f fd ps sp) (hk:PySem.W.keepIn X.K (.ref f)=true) (hr:Room k X.A) (hb:Binds X.K fd ps []):Fn1 X f (fun vs H Q=>sp vs H Q E0) :=
  ⟨hk,fun pins s σ H vs us Q I r h=>run_fn F hr hb .nil pass0 I r (by rw [List.append_nil]; exact h)⟩
end
end L2
namespace L2
open PySem PySem.Spec PyProof.Rows
section
variable {X:Cx} {a b:Expr} {rest:List Expr} {ta tb:TE} {pos:Pos}
def tOrS (ta tb:TE):TE:=fun σ H Q=>ta σ H fun x H1=>∃ z:Str,x=.str z∧z.length≤sizeLine∧(z.length≠0→Q (.str z) H1)∧(z.length=0→tb σ H1 Q)
theorem pe_orS (ha:PE X a ta) (hb:PE X (.BoolOp .Or (b :: rest) pos) tb):PE X (.BoolOp .Or (a :: b :: rest) pos) (tOrS ta tb):=by
  intro pins s σ H Q I h
  refine BoolOp_or (thn (ha pins s σ H _ I h) fun v s1 ⟨x,H1,I1,r1,q1⟩=>?_)
  obtain ⟨z,rfl,hz,q2,q3⟩:=q1
  refine thn (tru_ok pins s1 σ H1 (.str z) v (fun k H2=>H2=H1∧k=((z.length:Int) != 0)) I1 r1 ⟨_,⟨hz,rfl⟩,rfl,rfl⟩) fun k s2 ⟨H2,I2,eH,ek⟩=>?_
  subst eH ek
  by_cases h0:z.length=0
  · rw [h0]
    exact hb pins s2 σ _ Q I2 (q3 h0)
  · have e:((z.length:Int) != 0)=true:=by simp; omega
    rw [e]
    exact ⟨.str z,_,I2,r1,q2 h0⟩
end
theorem compTu {K:PySem.W.Frag} {a:Addr} {xs:List V} {ix:List (Option Nat)} {g:TG} {te:TE} {σ:St} {H:Hp} {Q:VK} (Pv:Nat→List V→Hp→Prop) (h0:Pv 0 [] H) (hl:∀ i ys H,i≤xs.length→Pv i ys H→SqT K H a xs∧ys.length=i) (hz:xs.length≤sizeLine)
    (hs:∀ i x ys H (R:VK),xs[i]?=some x→Pv i ys H→(∀ y H3,Pv (i + 1) (ys ++ [y]) H3→R y H3)→g x (capS ix σ) H fun σ2 H2=>StLe (capS ix σ) σ2∧te σ2 H2 R)
    (hd:∀ ys H,Pv xs.length ys H→∀ l,H l=none→Q (.ref l) (upd H l (.lst ys))) :
    CompB (Itt K a) ix g te σ H Q:=by
  refine ⟨fun i m ys H=>m=xs.length - i∧i≤xs.length∧Pv i ys H,⟨xs.length,by simp,Nat.zero_le _,h0⟩,?_⟩
  rintro i m ys H ⟨rfl,hi',p⟩
  obtain ⟨q,ql⟩:=hl i ys H hi' p
  by_cases hlt:i < xs.length
  · refine .inr ⟨⟨xs,xs[i],q,by simp [hlt]⟩,by omega,fun x H' y=>?_⟩
    obtain ⟨e,y⟩:=y
    subst e
    exact hs i x ys _ _ (y xs q) p fun v H3 z2=>⟨xs.length - (i + 1),by omega,rfl,hlt,z2⟩
  · have e:i=xs.length:=by omega
    subst e
    exact .inl ⟨⟨xs,q,Nat.le_refl _⟩,by omega,hd ys H p⟩
end L2
namespace TX
open PySem PyProof.Rows
inductive Part
  | name (z:Str) | face (ns:List Int) | num (n:Int) | nums (ns:List Int)
def joinN (c:Nat) (ns:List Int):Str:=Txt.join ⟨#[c]⟩ (ns.map tn)
def textP:Part→Str
  | .name z=>z
  | .face ns=>joinN 46 ns
  | .num n=>tn n
  | .nums []=>⟨#[45]⟩
  | .nums (n :: ns)=>joinN 44 (n :: ns)
def kindP:Part→Str
  | .name _ => "name" | .face _ => "face" | .num _ => "number" | .nums _ => "numbers"
def Name (z:Str):Prop:=1≤z.length∧z.length≤8∧∀ c∈z.cps.toList,97≤c∧c≤122
def Nat30 (n:Int):Prop:=0≤n∧n < 10 ^ 30
def Int30 (n:Int):Prop:=-(10 ^ 30) < n∧n < 10 ^ 30
def GoodP:Part→Prop
  | .name z=>Name z
  | .face ns=>ns≠[]∧ns.length≤6∧∀ n∈ns,Nat30 n
  | .num n=>Nat30 n
  | .nums ns=>ns.length≤6∧∀ n∈ns,Int30 n
theorem join_mem {c d:Nat}:∀ {ps:List Str},d∈(Str.join ⟨#[c]⟩ ps).cps.toList→d=c∨∃ p∈ps,d∈p.cps.toList
  | [],h=>by cases h
  | [x],h=>.inr ⟨x,List.mem_cons_self,h⟩
  | x :: y :: r,h=>by
    rw [join_two] at h
    rcases List.mem_append.mp h with h | h
    · exact .inr ⟨x,List.mem_cons_self,h⟩
    · rcases List.mem_cons.mp h with h | h
      · exact .inl h
      · rcases join_mem h with h | ⟨p,hp,h⟩
        · exact .inl h
        · exact .inr ⟨p,List.mem_cons_of_mem _ hp,h⟩
theorem joinN_eq (c:Nat) (ns:List Int):joinN c ns=Str.join ⟨#[c]⟩ (ns.map tn):=StrLaws.glued_eq_join _ _
theorem joinN_free {c d:Nat} {ns:List Int} (hcd:d≠c) (h:∀ n:Int,d ∉ (tn n).cps.toList):d ∉ (joinN c ns).cps.toList:=by
  rw [joinN_eq]
  intro hm
  rcases join_mem hm with e | ⟨p,hp,e⟩
  · exact hcd e
  · obtain ⟨n,_,rfl⟩:=List.mem_map.mp hp
    exact h n e
theorem textP_free {p:Part} (g:GoodP p) {d:Nat} (hd:d=32∨d=59):d ∉ (textP p).cps.toList:=by
  have fn:∀ n:Int,d ∉ (tn n).cps.toList:=fun n=>by
    rcases hd with rfl | rfl
    · exact tn_free (by decide) (by decide)
    · exact tn_free2 (by decide)
  cases p with
  | name z=>intro hm; have:=g.2.2 d hm; omega
  | face ns=>exact joinN_free (by omega) fn
  | num n=>exact fn n
  | nums ns =>
    cases ns with
    | nil=>intro hm; have:d∈[45]:=hm; simp at this; omega
    | cons n ns=>exact joinN_free (by omega) fn
theorem tn_len_all {n:Int} (h:Int30 n):(tn n).length≤31:=by
  by_cases h0:0≤n
  · exact Nat.le_trans (tn_len h0 h.2) (by decide)
  · have e:=congrArg List.length (tn_neg (n:=n) (by omega))
    have l1:(tn n).cps.toList.length=(tn n).length:=Array.length_toList
    have l2:(tn (-n)).cps.toList.length=(tn (-n)).length:=Array.length_toList
    have l3:=tn_len (n:=-n) (by omega) (by have:=h.1; omega)
    rw [List.length_cons] at e
    omega
theorem Nat30.int {n:Int} (h:Nat30 n):Int30 n:=⟨by have:=h.1; omega,h.2⟩
theorem join_len (c:Nat) (ps:List Str):(Txt.join ⟨#[c]⟩ ps).length≤(ps.map (·.length)).sum + ps.length * 1:=by
  have e:Txt.join ⟨#[c]⟩ ps=Str.join ⟨#[c]⟩ ps:=StrLaws.glued_eq_join _ ps
  rw [e]
  exact StrLaws.join_length_le _ _
theorem sum_tn {ns:List Int} (h:∀ n∈ns,Int30 n):((ns.map tn).map (·.length)).sum≤ns.length * 31:=by
  have:=StrLaws.sumLen_le (B:=31) (ns.map tn) (fun y hy=>by obtain ⟨n,hn,rfl⟩:=List.mem_map.mp hy; exact tn_len_all (h n hn))
  rwa [List.length_map] at this
theorem joinN_len {c:Nat} {ns:List Int} (h:∀ n∈ns,Int30 n) (hl:ns.length≤6):(joinN c ns).length≤200:=by
  have a:=join_len c (ns.map tn)
  have b:=sum_tn h
  rw [List.length_map] at a
  show (Txt.join ⟨#[c]⟩ (ns.map tn)).length≤200
  omega
theorem textP_len {p:Part} (g:GoodP p):(textP p).length≤200:=by
  cases p with
  | name z=>exact Nat.le_trans g.2.1 (by decide)
  | face ns=>exact joinN_len (fun n hn=>(g.2.2 n hn).int) g.2.1
  | num n=>exact Nat.le_trans (tn_len_all (Nat30.int g)) (by decide)
  | nums ns =>
    cases ns with
    | nil=>decide
    | cons n ns=>exact joinN_len g.2 g.1
end TX
namespace KX
open PySem L2 PyProof.Rows K01 KW TX
abbrev top (i:Nat):Stmt:=KW.top i
def T_BUNDLE:V:=.str "bundle"
def T_LETTERS:V:=.str "abcdefghijklmnopqrstuvwxyz"
def T_LONGEST_NAME:V:=.int 8
def T_DIGITS:V:=.str "0123456789"
def T_MOST_FIGURES:V:=.int 30
def T_ALL:V:=.str "all:"
def T_NO_NUMBERS:V:=.str "-"
structure TxtX (mg:Str→Option Value) (tk:Nat→Tok) (T_FORMS T_READERS:Addr):Prop extends KW.Txt mg where
  c_BUNDLE:mg "BUNDLE" = some (.str "bundle" (tk 0))
  c_LETTERS:mg "LETTERS" = some (.str "abcdefghijklmnopqrstuvwxyz" (tk 1))
  c_LONGEST_NAME:mg "LONGEST_NAME" = some (.int 8 (tk 2))
  c_DIGITS:mg "DIGITS" = some (.str "0123456789" (tk 3))
  c_MOST_FIGURES:mg "MOST_FIGURES" = some (.int 30 (tk 4))
  c_ALL:mg "ALL" = some (.str "all:" (tk 5))
  c_NO_NUMBERS:mg "NO_NUMBERS" = some (.str "-" (tk 6))
  c_FORMS:mg "FORMS" = some (.ref T_FORMS)
  c_READERS:mg "READERS" = some (.ref T_READERS)
theorem s_dot:(Str.ofString ".")=⟨#[46]⟩:=by decide +kernel
theorem s_comma:(Str.ofString ",")=⟨#[44]⟩:=by decide +kernel
theorem s_blank:(Str.ofString " ")=⟨#[32]⟩:=by decide +kernel
theorem s_semi:(Str.ofString ";")=⟨#[59]⟩:=by decide +kernel
theorem s_minus:(Str.ofString "-")=⟨#[45]⟩:=by decide +kernel
theorem log_30 {n:Int} (h:Int30 n):n.natAbs.log2 < 1920:=by
  have:=log_small (n:=n) (by have:=h.1; have:=h.2; omega)
  by_cases h0:n.natAbs=0
  · rw [h0]; decide
  · exact (Nat.log2_lt h0).mpr (Nat.lt_of_lt_of_le (show n.natAbs < 2 ^ 200 by have:=h.1; have:=h.2; omega) (Nat.pow_le_pow_right (by decide) (by decide)))
section
variable {P:Program} {w:World} {K:PySem.W.Frag} {mg:Str→Option Value} {base:Heap} {tk:Nat→Tok} {T_FORMS T_READERS:Addr}
def spFaceText:PySem.W.Frag→Sp:=fun K vs H Q _=>∃ (a:Addr) (ns:List Int),vs=[.ref a]∧SqT K H a (ns.map V.int)∧ns.length≤6∧(∀ n∈ns,Int30 n)∧∀ H',Same H H'→Q (.str (joinN 46 ns)) H'
theorem scFaceText:FnScope ["face"] ["face"] (defScope (top 4)):=⟨rfl,rfl,rfl,by decide +kernel,rfl,by decide +kernel,by decide +kernel⟩
theorem ok_faceText {f:Addr} {fd:FuncData} (F:FnAt K mg "face_text" "face_text" (top 4) .none f fd) (T:TxtX mg tk T_FORMS T_READERS):FnOk P w K mg base CX0 1 f fd ["face"] (spFaceText K):=by
  have nd:=scFaceText.nd
  refine F.ok scFaceText (fun vs H Q E h=>?_) (fun cdv A outer s H vs Q E hr h=>?_)
  · obtain ⟨a,k,rfl,_⟩:=h
    rfl
  · obtain ⟨a,ns,rfl,ha,h6,hb,q⟩:=h
    refine ⟨_,(pss_one (ps_ret (pe_bm PySem.F.plainAttrs_str PySem.F.slot_str_join PySem.F.type_str_join mt_join pe_str (pa_cons (pe_comp (by rfl) (compOk (N:=["point"]) (ix:=[none])) (pi_tup (pv 0)) (by intro _ _ _ _ _; exact PG.to (pg_name (i:=0) (show (["point"]:List Str).Nodup by decide +kernel) rfl (Or.inl rfl)) (by (try simp only [inX_K]); rfl)) (by intro _ _ _ _ _; exact PE.to (pe_callTy call_str_int (by rfl) T.n_str boot_str (pa_cons (pv 0) pa_nil)) (by (try simp only [inX_K]); rfl))) pa_nil)))),?_⟩
    have hl:(ns.map V.int).length=ns.length:=List.length_map ..
    refine ⟨rfl,_,rfl,a,rfl,⟨_,ha⟩,?_⟩
    refine compTu (K:=K) (a:=a) (xs:=ns.map V.int) (fun i ys H1=>H1=H∧ys=((ns.map tn).take i).map V.str) ⟨rfl,rfl⟩ ?_ (by rw [hl]; exact small1000' (by omega)) ?_ ?_
    · rintro i ys H1 hi ⟨rfl,rfl⟩
      rw [hl] at hi
      exact ⟨ha,by simp; omega⟩
    · rintro i x ys H1 R hx ⟨rfl,rfl⟩ kR
      obtain ⟨n,hn,rfl⟩:=getI_map hx
      refine ⟨StLe.set rfl,_,rfl,n,rfl,log_30 (hb n (List.mem_of_getElem? hn)),?_⟩
      refine kR _ _ ⟨rfl,?_⟩
      rw [take_succ' (xs:=ns.map tn) (x:=tn n) (by rw [List.getElem?_map,hn]; rfl)]
      simp
      rfl
    · rintro ys H1 ⟨rfl,rfl⟩ l hl'
      rw [hl,List.take_of_length_le (by simp)]
      have z:=sum_tn hb
      refine ⟨_,l,ns.map tn,rfl,rfl,SqL.of upd_same,?_,?_⟩
      · show ((ns.map tn).map (·.length)).sum + (ns.map tn).length * (Str.ofString ".").length≤16777216
        rw [s_dot,List.length_map]
        show _ + ns.length * 1≤_
        omega
      · rw [s_dot]
        exact q _ (same_upd hl')
end
end KX
namespace KX
open PySem L2 PyProof.Rows K01 KW TX
theorem iteDF' {c A B:Prop} [Decidable c] (hc:¬ c) (h:B):if decide c=true then A else B:=by
  rw [decide_eq_false hc]; exact iteF h
theorem iteDT' {c A B:Prop} [Decidable c] (hc:c) (h:A):if decide c=true then A else B:=by
  rw [decide_eq_true hc]; exact iteT h
theorem str_ne {a b:Str} (h:a≠b):¬ (V.str a=V.str b):=fun e=>h (V.str.inj e)
theorem letter_in:∀ k:Nat,k < 26→(!(Builtin.Str.occurrences (Str.ofString "abcdefghijklmnopqrstuvwxyz") ⟨#[97 + k]⟩ 0 (Str.ofString "abcdefghijklmnopqrstuvwxyz").length 1).isEmpty)=true:=by decide +kernel
theorem digit_in:∀ k:Nat,k < 10→(!(Builtin.Str.occurrences (Str.ofString "0123456789") ⟨#[48 + k]⟩ 0 (Str.ofString "0123456789").length 1).isEmpty)=true:=by decide +kernel
theorem letter_in' {c:Nat} (h:97≤c∧c≤122):(!(Builtin.Str.occurrences (Str.ofString "abcdefghijklmnopqrstuvwxyz") ⟨#[c]⟩ 0 (Str.ofString "abcdefghijklmnopqrstuvwxyz").length 1).isEmpty)=true:=by
  have:=letter_in (c - 97) (by omega)
  rwa [show 97 + (c - 97)=c by omega] at this
theorem digit_in' {c:Nat} (h:48≤c∧c≤57):(!(Builtin.Str.occurrences (Str.ofString "0123456789") ⟨#[c]⟩ 0 (Str.ofString "0123456789").length 1).isEmpty)=true:=by
  have:=digit_in (c - 48) (by omega)
  rwa [show 48 + (c - 48)=c by omega] at this
theorem ascii_of {z:Str} (h:∀ c∈z.cps.toList,c < 128):z.cps.all (· < 128)=true:=by
  rw [← Array.all_toList,List.all_eq_true]
  intro c hc
  exact decide_eq_true (h c hc)
theorem len_list (z:Str):z.cps.toList.length=z.length:=Array.length_toList
theorem tn_pos (n:Int):1≤(tn n).length:=by
  by_cases h:0≤n
  · exact tn_len1 h
  · have e:=congrArg List.length (tn_neg (n:=n) (by omega))
    rw [List.length_cons,len_list] at e
    omega
theorem join_pos {c:Nat} {x:Str} (hx:1≤x.length):∀ r:List Str,1≤(Str.join ⟨#[c]⟩ (x :: r)).length
  | []=>hx
  | y :: r=>by
    have e:=congrArg List.length (join_two c x y r)
    rw [len_list,List.length_append,List.length_cons,len_list] at e
    omega
theorem joinN_pos (c:Nat) (n:Int) (ns:List Int):1≤(joinN c (n :: ns)).length:=by
  rw [joinN_eq,List.map_cons]
  exact join_pos (tn_pos n) _
def PartAt (K:PySem.W.Frag) (H:Hp) (v:V):Part→Prop
  | .name z=>v=.str z
  | .num n=>v=.int n
  | .face ns=>∃ a,v=.ref a∧SqT K H a (ns.map V.int)
  | .nums ns=>∃ a,v=.ref a∧SqT K H a (ns.map V.int)
section
variable {P:Program} {w:World} {K:PySem.W.Frag} {mg:Str→Option Value} {base:Heap} {tk:Nat→Tok} {T_FORMS T_READERS:Addr}
def spIsName:Sp:=fun vs H Q _=>∃ z:Str,vs=[.str z]∧Name z∧∀ H',Same H H'→Q (.bl true) H'
theorem scIsName:FnScope ["text"] ["text"] (defScope (top 9)):=⟨rfl,rfl,rfl,by decide +kernel,rfl,by decide +kernel,by decide +kernel⟩
theorem ok_isName {f:Addr} {fd:FuncData} (F:FnAt K mg "is_name" "is_name" (top 9) .none f fd) (T:TxtX mg tk T_FORMS T_READERS):FnOk P w K mg base CX0 1 f fd ["text"] spIsName:=by
  have nd:=scIsName.nd
  refine F.ok scIsName (fun vs H Q E h=>?_) (fun cdv A outer s H vs Q E hr h=>?_)
  · obtain ⟨z,rfl,_⟩:=h
    rfl
  · obtain ⟨z,rfl,⟨h1,h8,hc⟩,q⟩:=h
    refine ⟨_,(pss_one (ps_ret (pe_and (pe_chain op_le op_le pe_int (pe_callB call_len_str (by rfl) T.n_len PySem.boot_len (pa_cons (pv 0) pa_nil)) (pe_glob (v:=T_LONGEST_NAME) (by rfl) T.c_LONGEST_NAME ⟨_,rfl⟩)) (pe_one (pe_callB (call_allL (by rfl)) (by rfl) T.n_all boot_all (pa_cons (pe_comp (by rfl) (compOk (N:=["sign"]) (ix:=[none])) (pi_str (pv 0)) (by intro _ _ _ _ _; exact PG.to (pg_name (i:=0) (show (["sign"]:List Str).Nodup by decide +kernel) rfl (Or.inl rfl)) (by (try simp only [inX_K]); rfl)) (by intro _ _ _ _ _; exact PE.to (pe_cmpR op_in_str (pv 0) (pe_glob (v:=T_LETTERS) (by rfl) T.c_LETTERS ⟨_,rfl⟩) (by rfl)) (by (try simp only [inX_K]); rfl))) pa_nil)))))),?_⟩
    refine ⟨_,rfl,z,rfl,small1000' (by omega),_,_,rfl,rfl,_,rfl,?_⟩
    rw [if_pos (decide_eq_true (by omega))]
    refine ⟨_,_,rfl,rfl,_,rfl,?_⟩
    rw [if_pos (decide_eq_true (by show ((z.length:Nat):Int)≤8; omega))]
    refine ⟨_,rfl,z,rfl,ascii_of (fun c h=>by have:=hc c h; omega),?_⟩
    refine compS (z:=z) (fun i ys H1=>H1=H∧ys=List.replicate i (V.bl true)) ⟨rfl,rfl⟩ (fun i ys H1 hi p=>by rw [p.2]; exact List.length_replicate) (small1000' (by omega)) ?_ ?_
    · rintro i c ys H1 R hx ⟨rfl,rfl⟩ kR
      have hm:c∈z.cps.toList:=by
        rw [← Array.getElem?_toList] at hx
        exact List.mem_of_getElem? hx
      refine ⟨StLe.set rfl,_,rfl,_,_,rfl,rfl,?_⟩
      rw [letter_in' (hc c hm)]
      exact kR _ _ ⟨rfl,List.replicate_succ'.symm⟩
    · rintro ys H1 ⟨rfl,rfl⟩ l hl'
      refine ⟨l,_,rfl,SqL.of upd_same,fun y hy=>by rw [(List.mem_replicate.mp hy).2]; rfl,?_⟩
      have e:((List.replicate z.length (V.bl true)).all truB)=true:=by rw [List.all_eq_true]; intro y hy; rw [(List.mem_replicate.mp hy).2]; rfl
      rw [e]
      exact q _ (same_upd hl')
def spNumbersText:PySem.W.Frag→Sp:=fun K vs H Q _=>∃ (a:Addr) (ns:List Int),vs=[.ref a]∧SqT K H a (ns.map V.int)∧ns.length≤6∧(∀ n∈ns,Int30 n)∧∀ H',Same H H'→Q (.str (textP (.nums ns))) H'
theorem scNumbersText:FnScope ["numbers"] ["numbers"] (defScope (top 16)):=⟨rfl,rfl,rfl,by decide +kernel,rfl,by decide +kernel,by decide +kernel⟩
theorem ok_numbersText {f:Addr} {fd:FuncData} (F:FnAt K mg "numbers_text" "numbers_text" (top 16) .none f fd) (T:TxtX mg tk T_FORMS T_READERS):FnOk P w K mg base CX0 1 f fd ["numbers"] (spNumbersText K):=by
  have nd:=scNumbersText.nd
  refine F.ok scNumbersText (fun vs H Q E h=>?_) (fun cdv A outer s H vs Q E hr h=>?_)
  · obtain ⟨a,k,rfl,_⟩:=h
    rfl
  · obtain ⟨a,ns,rfl,ha,h6,hb,q⟩:=h
    refine ⟨_,(pss_one (ps_ret (pe_orS (pe_bm PySem.F.plainAttrs_str PySem.F.slot_str_join PySem.F.type_str_join mt_join pe_str (pa_cons (pe_comp (by rfl) (compOk (N:=["number"]) (ix:=[none])) (pi_tup (pv 0)) (by intro _ _ _ _ _; exact PG.to (pg_name (i:=0) (show (["number"]:List Str).Nodup by decide +kernel) rfl (Or.inl rfl)) (by (try simp only [inX_K]); rfl)) (by intro _ _ _ _ _; exact PE.to (pe_callTy call_str_int (by rfl) T.n_str boot_str (pa_cons (pv 0) pa_nil)) (by (try simp only [inX_K]); rfl))) pa_nil)) (pe_one (pe_glob (v:=T_NO_NUMBERS) (by rfl) T.c_NO_NUMBERS ⟨_,rfl⟩))))),?_⟩
    have hl:(ns.map V.int).length=ns.length:=List.length_map ..
    refine ⟨rfl,_,rfl,a,rfl,⟨_,ha⟩,?_⟩
    refine compTu (K:=K) (a:=a) (xs:=ns.map V.int) (fun i ys H1=>H1=H∧ys=((ns.map tn).take i).map V.str) ⟨rfl,rfl⟩ ?_ (by rw [hl]; exact small1000' (by omega)) ?_ ?_
    · rintro i ys H1 hi ⟨rfl,rfl⟩
      rw [hl] at hi
      exact ⟨ha,by simp; omega⟩
    · rintro i x ys H1 R hx ⟨rfl,rfl⟩ kR
      obtain ⟨n,hn,rfl⟩:=getI_map hx
      refine ⟨StLe.set rfl,_,rfl,n,rfl,log_30 (hb n (List.mem_of_getElem? hn)),?_⟩
      refine kR _ _ ⟨rfl,?_⟩
      rw [take_succ' (xs:=ns.map tn) (x:=tn n) (by rw [List.getElem?_map,hn]; rfl)]
      simp
      rfl
    · rintro ys H1 ⟨rfl,rfl⟩ l hl'
      rw [hl,List.take_of_length_le (by simp)]
      have z:=sum_tn hb
      refine ⟨_,l,ns.map tn,rfl,rfl,SqL.of upd_same,?_,?_⟩
      · show ((ns.map tn).map (·.length)).sum + (ns.map tn).length * (Str.ofString ",").length≤16777216
        rw [s_comma,List.length_map]
        show _ + ns.length * 1≤_
        omega
      · have zl:=joinN_len (c:=44) hb h6
        rw [s_comma]
        refine ⟨_,rfl,small1000' (Nat.le_trans zl (by decide)),fun h0=>?_,fun h0=>?_⟩
        · cases ns with
          | nil=>exact absurd (by decide) h0
          | cons n ns=>exact q _ (same_upd hl')
        · cases ns with
          | nil =>
            show Q (.str (Str.ofString "-")) _
            rw [s_minus]
            exact q _ (same_upd hl')
          | cons n ns=>exact absurd h0 (by have:=joinN_pos 44 n ns; show (joinN 44 (n :: ns)).length≠0; omega)
def spPartText:PySem.W.Frag→Sp:=fun K vs H Q _=>∃ (v:V) (p:Part),vs=[.str (kindP p),v]∧PartAt K H v p∧GoodP p∧∀ H',Same H H'→Q (.str (textP p)) H'
theorem scPartText:FnScope ["kind","part"] ["kind","part"] (defScope (top 17)):=⟨rfl,rfl,rfl,by decide +kernel,rfl,by decide +kernel,by decide +kernel⟩
theorem ok_partText {f:Addr} {fd:FuncData} (F:FnAt K mg "part_text" "part_text" (top 17) .none f fd) (T:TxtX mg tk T_FORMS T_READERS)
    {f_face_text:Addr} {d_face_text:FuncData} (A_face_text:FnAt K mg "face_text" "face_text" (top 4) .none f_face_text d_face_text) (b_face_text:L2.Binds K d_face_text ["face"] []) (G_face_text:FnOk P w K mg base CX0 1 f_face_text d_face_text ["face"] (spFaceText K)) {f_numbers_text:Addr} {d_numbers_text:FuncData} (A_numbers_text:FnAt K mg "numbers_text" "numbers_text" (top 16) .none f_numbers_text d_numbers_text) (b_numbers_text:L2.Binds K d_numbers_text ["numbers"] []) (G_numbers_text:FnOk P w K mg base CX0 1 f_numbers_text d_numbers_text ["numbers"] (spNumbersText K)):FnOk P w K mg base CX0 2 f fd ["kind","part"] (spPartText K):=by
  have nd:=scPartText.nd
  refine F.ok scPartText (fun vs H Q E h=>?_) (fun cdv A outer s H vs Q E hr h=>?_)
  · obtain ⟨v,p,rfl,_⟩:=h
    rfl
  · obtain ⟨v,p,rfl,hp,gp,q⟩:=h
    refine ⟨_,(pss_cons (ps_if (pt_cmpR op_eq (pv 0) pe_str (nomark _)) (pss_one (ps_ret (pe_call (G_face_text.mono (by decide)) hr rfl A_face_text.mg A_face_text.kp b_face_text .nil pass0 (pa_cons (pv 1) pa_nil)))) pss_nil)
      (pss_cons (ps_if (pt_cmpR op_eq (pv 0) pe_str (nomark _)) (pss_one (ps_ret (pe_call (G_numbers_text.mono (by decide)) hr rfl A_numbers_text.mg A_numbers_text.kp b_numbers_text .nil pass0 (pa_cons (pv 1) pa_nil)))) pss_nil)
      (pss_one (ps_ret (pe_callTy (call_str_int.or call_str_text) (by rfl) T.n_str boot_str (pa_cons (pv 1) pa_nil)))))),?_⟩
    cases p with
    | name z =>
      cases hp
      refine ⟨_,rfl,rfl,_,rfl,iteDF' (str_ne (show (Str.ofString "name")≠Str.ofString "face" by decide +kernel)) ?_⟩
      refine ⟨_,rfl,rfl,_,rfl,iteDF' (str_ne (show (Str.ofString "name")≠Str.ofString "numbers" by decide +kernel)) ?_⟩
      exact ⟨_,rfl,.inr ⟨z,rfl,q _ (Same.refl _)⟩⟩
    | num n =>
      cases hp
      refine ⟨_,rfl,rfl,_,rfl,iteDF' (str_ne (show (Str.ofString "number")≠Str.ofString "face" by decide +kernel)) ?_⟩
      refine ⟨_,rfl,rfl,_,rfl,iteDF' (str_ne (show (Str.ofString "number")≠Str.ofString "numbers" by decide +kernel)) ?_⟩
      exact ⟨_,rfl,.inl ⟨n,rfl,log_30 (Nat30.int gp),q _ (Same.refl _)⟩⟩
    | face ns =>
      obtain ⟨a,rfl,ha⟩:=hp
      refine ⟨_,rfl,rfl,_,rfl,iteDT' rfl ?_⟩
      exact ⟨_,rfl,a,ns,rfl,ha,gp.2.1,fun n hn=>(gp.2.2 n hn).int,q⟩
    | nums ns =>
      obtain ⟨a,rfl,ha⟩:=hp
      refine ⟨_,rfl,rfl,_,rfl,iteDF' (str_ne (show (Str.ofString "numbers")≠Str.ofString "face" by decide +kernel)) ?_⟩
      refine ⟨_,rfl,rfl,_,rfl,iteDT' rfl ?_⟩
      exact ⟨_,rfl,a,ns,rfl,ha,gp.1,gp.2,q⟩
end
end KX
namespace KX
open PySem L2 PyProof.Rows K01 KW TX
theorem _root_.L2.Same.sqT {K:PySem.W.Frag} {H H':Hp} {a:Addr} {xs:List V} (e:Same H H') (h:SqT K H a xs):SqT K H' a xs:=by
  rcases h with (h | ⟨o,h⟩) | h
  · exact .inl (.inl (e _ _ h))
  · exact .inl (.inr ⟨o,e _ _ h⟩)
  · exact .inr h
def forms:List (Str × List Str):=[("begin",["name"]),("drop",["name"]),("forget",["name"]),("put",["name","face"]),("take",["name","face"]),("finer",["name","face"]),("lesser",["name","face"]),("keep",["name","name","name","number","number","numbers"])]
def FormsOk (w:World) (K:PySem.W.Frag) (a:Addr):Prop:=∃ kvs,SqD w K a kvs∧∀ x∈forms,∃ b,atS kvs x.1=some (.ref b)∧∀ H,SqT K H b (x.2.map V.str)
abbrev Deed:=Str × List Part
def GoodD (d:Deed):Prop:=(d.1,d.2.map kindP)∈forms∧∀ p∈d.2,GoodP p
def PartsAt (K:PySem.W.Frag) (H:Hp) (vs:List V) (ps:List Part):Prop:=vs.length=ps.length∧∀ (i:Nat) (v:V) (p:Part),vs[i]?=some v→ps[i]?=some p→PartAt K H v p
def DeedAt (K:PySem.W.Frag) (H:Hp) (v:V) (d:Deed):Prop:=∃ a vs,v=.ref a∧SqT K H a (.str d.1 :: vs)∧PartsAt K H vs d.2
def textD (d:Deed):Str:=Txt.join ⟨#[32]⟩ (d.1 :: d.2.map textP)
theorem PartAt.same {K:PySem.W.Frag} {H H':Hp} {v:V} {p:Part} (h:PartAt K H v p) (s:Same H H'):PartAt K H' v p:=by
  cases p with
  | name z=>exact h
  | num n=>exact h
  | face ns=>obtain ⟨a,e,h⟩:=h; exact ⟨a,e,s.sqT h⟩
  | nums ns=>obtain ⟨a,e,h⟩:=h; exact ⟨a,e,s.sqT h⟩
theorem PartsAt.same {K:PySem.W.Frag} {H H':Hp} {vs:List V} {ps:List Part} (h:PartsAt K H vs ps) (s:Same H H'):PartsAt K H' vs ps:=⟨h.1,fun i v p a b=>(h.2 i v p a b).same s⟩
theorem DeedAt.same {K:PySem.W.Frag} {H H':Hp} {v:V} {d:Deed} (h:DeedAt K H v d) (s:Same H H'):DeedAt K H' v d:=by
  obtain ⟨a,vs,e,h1,h2⟩:=h
  exact ⟨a,vs,e,s.sqT h1,h2.same s⟩
theorem good_few {d:Deed} (g:GoodD d):d.2.length≤6:=by
  have h:=g.1
  have e:d.2.length=(d.2.map kindP).length:=(List.length_map ..).symm
  rw [e]
  have all:∀ x∈forms,x.2.length≤6:=by decide +kernel
  exact all _ h
theorem good_word {d:Deed} (g:GoodD d):d.1.length≤6:=by
  have all:∀ x∈forms,x.1.length≤6:=by decide +kernel
  exact all _ g.1
theorem sum_textP {ps:List Part} (h:∀ p∈ps,GoodP p):((ps.map textP).map (·.length)).sum≤ps.length * 200:=by
  have:=StrLaws.sumLen_le (B:=200) (ps.map textP) (fun y hy=>by obtain ⟨n,hn,rfl⟩:=List.mem_map.mp hy; exact textP_len (h n hn))
  rwa [List.length_map] at this
theorem textD_len {d:Deed} (g:GoodD d):(textD d).length≤1300:=by
  have a:=join_len 32 (d.1 :: d.2.map textP)
  have b:=sum_textP g.2
  have c:=good_few g
  have e:=good_word g
  rw [List.map_cons,List.sum_cons,List.length_cons,List.length_map] at a
  show (Txt.join ⟨#[32]⟩ (d.1 :: d.2.map textP)).length≤1300
  omega
section
variable {P:Program} {w:World} {K:PySem.W.Frag} {mg:Str→Option Value} {base:Heap} {tk:Nat→Tok} {T_FORMS T_READERS:Addr}
def spPlainText:PySem.W.Frag→Sp:=fun K vs H Q _=>∃ (v:V) (d:Deed),vs=[v]∧DeedAt K H v d∧GoodD d∧∀ H',Same H H'→Q (.str (textD d)) H'
theorem scPlainText:FnScope ["deed","word","parts"] ["deed"] (defScope (top 18)):=⟨rfl,rfl,rfl,by decide +kernel,rfl,by decide +kernel,by decide +kernel⟩
set_option maxHeartbeats 4000000 in
theorem ok_plainText {f:Addr} {fd:FuncData} (F:FnAt K mg "plain_text" "plain_text" (top 18) .none f fd) (T:TxtX mg tk T_FORMS T_READERS) (FO:FormsOk w K T_FORMS)
    {f_part_text:Addr} {d_part_text:FuncData} (A_part_text:FnAt K mg "part_text" "part_text" (top 17) .none f_part_text d_part_text) (b_part_text:L2.Binds K d_part_text ["kind","part"] []) (G_part_text:FnOk P w K mg base CX0 2 f_part_text d_part_text ["kind","part"] (spPartText K)):FnOk P w K mg base CX0 3 f fd ["deed"] (spPlainText K):=by
  have nd:=scPlainText.nd
  refine F.ok scPlainText (fun vs H Q E h=>?_) (fun cdv A outer s H vs Q E hr h=>?_)
  · obtain ⟨v,d,rfl,_⟩:=h
    rfl
  · obtain ⟨v,⟨wd,ps⟩,rfl,⟨a,xs,rfl,ha,hp⟩,g,q⟩:=h
    obtain ⟨kvs,hD,hF⟩:=FO
    obtain ⟨b,hb,hT⟩:=hF _ g.1
    have c6:ps.length≤6:=good_few g
    have w6:wd.length≤6:=good_word g
    have hk:((ps.map kindP).map V.str).length=ps.length:=by rw [List.length_map,List.length_map]
    refine ⟨_,(pss_cons (ps_asg (pv 0) (pg_star (by rfl) (pgs_cons (pg_name (i:=1) nd rfl (Or.inl rfl)) (pgs_starred (pg_name (i:=2) nd rfl (Or.inl rfl))))))
      (pss_one (ps_ret (pe_bm PySem.F.plainAttrs_str PySem.F.slot_str_join PySem.F.type_str_join mt_join pe_str (pa_cons (pe_op (op_cat) (pe_lst (pa_cons (pv 1) pa_nil)) (pe_comp (by rfl) (compOk (N:=["kind","part"]) (ix:=[none,none])) (pi_zipK true false (by rfl) T.n_zip (pa_cons (pe_sget (pe_glob (v:=.ref T_FORMS) (by rfl) T.c_FORMS rfl) (pv 1) (fun _ _=>rfl)) (pa_cons (pv 2) pa_nil))) (by intro _ _ _ _ _; exact PG.to (pg_tup (n:=2) (by rfl) (pgs_cons (pg_name (i:=0) (show (["kind","part"]:List Str).Nodup by decide +kernel) rfl (Or.inl rfl)) (pgs_cons (pg_name (i:=1) (show (["kind","part"]:List Str).Nodup by decide +kernel) rfl (Or.inl rfl)) pgs_nil))) (by (try simp only [inX_K]); rfl)) (by intro _ _ _ _ _; exact PE.to (pe_call (G_part_text.mono (by decide)) hr rfl A_part_text.mg A_part_text.kp b_part_text .nil pass0 (pa_cons (pv 0) (pa_cons (pv 1) pa_nil))) (by (try simp only [inX_K]); rfl)))) pa_nil))))),?_⟩
    refine ⟨_,rfl,a,_,_,rfl,ha,by rw [hp.1]; exact Nat.le_trans c6 (by decide),fun D hDn=>⟨_,_,rfl,_,_,rfl,rfl,?_⟩⟩
    have s1:Same H (upd H D (.lst xs)):=same_upd hDn
    refine ⟨rfl,_,rfl,(by show 1≤sizeLine; decide),fun l hl=>?_⟩
    have s2:=s1.trans (same_upd (o:=.lst [V.str wd]) hl)
    have hDl:upd (upd H D (.lst xs)) l (.lst [V.str wd]) D=some (.lst xs):=by rw [upd_ne (fun z=>by rw [z] at hl; rw [← z,upd_same] at hl; cases hl)]; exact upd_same
    refine ⟨_,rfl,T_FORMS,kvs,wd,_,rfl,hD,rfl,hb,_,rfl,b,D,rfl,⟨_,hT _⟩,⟨_,SqL.of hDl⟩,?_⟩
    generalize eG:upd (upd H D (.lst xs)) l (.lst [V.str wd])=G at *
    have hlG:G l=some (.lst [V.str wd]):=by rw [← eG]; exact upd_same
    refine compZK (k1:=true) (k2:=false) (K:=K) (a:=b) (b:=D) (xs:=(ps.map kindP).map V.str) (zs:=xs) (fun i ys H1=>Same G H1∧ys=((ps.map textP).take i).map V.str) ⟨Same.refl _,rfl⟩ (by rw [hk]; exact hp.1.symm) ?_ (by rw [hk]; exact small1000' (by omega)) ?_ ?_
    · rintro i ys H1 hi ⟨s3,rfl⟩
      rw [hk] at hi
      exact ⟨hT _,SqL.of (s3 _ _ hDl),by simp; omega⟩
    · rintro i x z ys H1 U R hx hz ⟨s3,rfl⟩ hU kR
      rw [List.map_map,List.getElem?_map] at hx
      obtain ⟨p,hpi,rfl⟩:=Option.map_eq_some_iff.mp hx
      have s4:=s3.trans (same_upd (o:=.tup [V.str (kindP p),z]) hU)
      refine ⟨U,_,rfl,SqT.of upd_same,rfl,_,_,rfl,_,_,rfl,rfl,StLe.trans (StLe.set rfl) (StLe.set rfl),_,rfl,_,rfl,z,p,rfl,((hp.2 i z p hz hpi).same s2).same s4,g.2 p (List.mem_of_getElem? hpi),fun H3 s5=>?_⟩
      refine kR _ _ ⟨s4.trans s5,?_⟩
      rw [take_succ' (xs:=ps.map textP) (x:=textP p) (by rw [List.getElem?_map,hpi]; rfl)]
      simp
    · rintro ys H1 ⟨s3,rfl⟩ m hm
      rw [hk,List.take_of_length_le (by simp)]
      have s4:=s3.trans (same_upd (o:=.lst ((ps.map textP).map V.str)) hm)
      refine ⟨l,m,[V.str wd],_,rfl,rfl,s4 _ _ hlG,upd_same,?_,fun r hr'=>?_⟩
      · rw [List.length_map,List.length_map]
        exact small1000' (by simp; omega)
      · have z:((ps.map textP).map (·.length)).sum≤ps.length * 200:=sum_textP g.2
        refine ⟨_,r,wd :: ps.map textP,rfl,rfl,SqL.of upd_same,?_,?_⟩
        · show ((wd :: ps.map textP).map (·.length)).sum + (wd :: ps.map textP).length * (Str.ofString " ").length≤16777216
          rw [s_blank,List.map_cons,List.sum_cons,List.length_cons,List.length_map]
          show _ + (ps.length + 1) * 1≤_
          omega
        · rw [s_blank]
          exact q _ (s2.trans (s4.trans (same_upd hr')))
theorem word_ne {d:Deed} (g:GoodD d):d.1≠Str.ofString "bundle" := by
  have all:∀ x∈forms,x.1≠Str.ofString "bundle" := by decide +kernel
  exact all _ g.1
theorem scDeedText:FnScope ["deed"] ["deed"] (defScope (top 19)):=⟨rfl,rfl,rfl,by decide +kernel,rfl,by decide +kernel,by decide +kernel⟩
theorem ok_deedText1 {f:Addr} {fd:FuncData} (F:FnAt K mg "deed_text" "deed_text" (top 19) .none f fd) (T:TxtX mg tk T_FORMS T_READERS)
    {f_plain_text:Addr} {d_plain_text:FuncData} (A_plain_text:FnAt K mg "plain_text" "plain_text" (top 18) .none f_plain_text d_plain_text) (b_plain_text:L2.Binds K d_plain_text ["deed"] []) (G_plain_text:FnOk P w K mg base CX0 3 f_plain_text d_plain_text ["deed"] (spPlainText K)):FnOk P w K mg base CX0 4 f fd ["deed"] (spPlainText K):=by
  have nd:=scDeedText.nd
  refine F.ok scDeedText (fun vs H Q E h=>?_) (fun cdv A outer s H vs Q E hr h=>?_)
  · obtain ⟨v,d,rfl,_⟩:=h
    rfl
  · obtain ⟨v,d,rfl,hd,g,q⟩:=h
    obtain ⟨a,xs,e,ha,hp⟩:=id hd
    subst e
    refine ⟨_,(pss_cons (ps_if (pt_cmpR op_ne (pe_ix ix_tup (pv 0) pe_int (fun _ _=>rfl)) (pe_glob (v:=T_BUNDLE) (by rfl) T.c_BUNDLE ⟨_,rfl⟩) (nomark _)) (pss_one (ps_ret (pe_call (G_plain_text.mono (by decide)) hr rfl A_plain_text.mg A_plain_text.kp b_plain_text .nil pass0 (pa_cons (pv 0) pa_nil)))) pss_nil)
      (pss_one ps_never)),?_⟩
    refine ⟨_,rfl,a,_,_,V.str d.1,rfl,rfl,ha,atI_nat (j:=0) rfl,rfl,_,rfl,?_⟩
    show (if (!decide (V.str d.1=V.str (Str.ofString "bundle")))=true then _ else _)
    rw [decide_eq_false (str_ne (word_ne g))]
    exact iteT ⟨_,rfl,_,d,rfl,hd,g,q⟩
end
end KX
namespace KX
open PySem L2 PyProof.Rows K01 KW TX
def BundleAt (K:PySem.W.Frag) (H:Hp) (v:V) (ds:List Deed):Prop :=
  ∃ a b vs,v=.ref a∧SqT K H a [.str "bundle",.ref b]∧SqT K H b vs∧vs.length=ds.length∧∀ (i:Nat) (x:V) (d:Deed),vs[i]?=some x→ds[i]?=some d→DeedAt K H x d
def textI (d:Deed):Str:=Str.ofString " " ++ textD d
def textB (ds:List Deed):Str:=Str.ofString "all:" ++ Txt.join ⟨#[59]⟩ (ds.map textI)
theorem textI_len {d:Deed} (g:GoodD d):(textI d).length≤1301:=by
  have:=textD_len g
  show (Str.ofString " " ++ textD d).length≤1301
  rw [Str.length_append,s_blank]
  show 1 + _≤_
  omega
theorem sum_textI {ds:List Deed} (h:∀ d∈ds,GoodD d):((ds.map textI).map (·.length)).sum≤ds.length * 1301:=by
  have:=StrLaws.sumLen_le (B:=1301) (ds.map textI) (fun y hy=>by obtain ⟨n,hn,rfl⟩:=List.mem_map.mp hy; exact textI_len (h n hn))
  rwa [List.length_map] at this
theorem joinB_len {ds:List Deed} (h:∀ d∈ds,GoodD d) (h3:ds.length≤3):(Txt.join ⟨#[59]⟩ (ds.map textI)).length≤4000:=by
  have a:=join_len 59 (ds.map textI)
  have b:=sum_textI h
  rw [List.length_map] at a
  omega
section
variable {P:Program} {w:World} {K:PySem.W.Frag} {mg:Str→Option Value} {base:Heap} {tk:Nat→Tok} {T_FORMS T_READERS:Addr}
def spBundleText:PySem.W.Frag→Sp:=fun K vs H Q _=>∃ (v:V) (ds:List Deed),vs=[v]∧BundleAt K H v ds∧ds.length≤3∧(∀ d∈ds,GoodD d)∧∀ H',Same H H'→Q (.str (textB ds)) H'
set_option maxHeartbeats 4000000 in
theorem ok_deedText2 {f_deed_text:Addr} {d_deed_text:FuncData} (A_deed_text:FnAt K mg "deed_text" "deed_text" (top 19) .none f_deed_text d_deed_text) (b_deed_text:L2.Binds K d_deed_text ["deed"] []) (G_deed_text:FnOk P w K mg base CX0 4 f_deed_text d_deed_text ["deed"] (spPlainText K)) {f_plain_text:Addr} {d_plain_text:FuncData} (A_plain_text:FnAt K mg "plain_text" "plain_text" (top 18) .none f_plain_text d_plain_text) (b_plain_text:L2.Binds K d_plain_text ["deed"] []) (G_plain_text:FnOk P w K mg base CX0 3 f_plain_text d_plain_text ["deed"] (spPlainText K)) (T:TxtX mg tk T_FORMS T_READERS):FnOk P w K mg base CX0 5 f_deed_text d_deed_text ["deed"] (spBundleText K):=by
  have nd:=scDeedText.nd
  refine A_deed_text.ok scDeedText (fun vs H Q E h=>?_) (fun cdv A outer s H vs Q E hr h=>?_)
  · obtain ⟨v,d,rfl,_⟩:=h
    rfl
  · obtain ⟨v,ds,rfl,⟨a,b,xs,rfl,ha,hb,hl,hd⟩,h3,g,q⟩:=h
    refine ⟨_,(pss_cons (ps_if (pt_cmpR op_ne (pe_ix ix_tup (pv 0) pe_int (fun _ _=>rfl)) (pe_glob (v:=T_BUNDLE) (by rfl) T.c_BUNDLE ⟨_,rfl⟩) (nomark _)) (pss_one (ps_ret (pe_call (G_plain_text.mono (by decide)) hr rfl A_plain_text.mg A_plain_text.kp b_plain_text .nil pass0 (pa_cons (pv 0) pa_nil)))) pss_nil)
      (pss_one (ps_ret (pe_op (op_add_str) (pe_glob (v:=T_ALL) (by rfl) T.c_ALL ⟨_,rfl⟩) (pe_bm PySem.F.plainAttrs_str PySem.F.slot_str_join PySem.F.type_str_join mt_join pe_str (pa_cons (pe_comp (by rfl) (compOk (N:=["part"]) (ix:=[none])) (pi_tup (pe_ix ix_tup (pv 0) pe_int (fun _ _=>rfl))) (by intro _ _ _ _ _; exact PG.to (pg_name (i:=0) (show (["part"]:List Str).Nodup by decide +kernel) rfl (Or.inl rfl)) (by (try simp only [inX_K]); rfl)) (by intro _ _ _ _ _; exact PE.to (pe_op (op_add_str) pe_str (pe_call (G_deed_text.mono (by decide)) hr rfl A_deed_text.mg A_deed_text.kp b_deed_text .nil pass0 (pa_cons (pv 0) pa_nil))) (by (try simp only [inX_K]); rfl))) pa_nil)))))),?_⟩
    refine ⟨_,rfl,a,_,_,V.str (Str.ofString "bundle"),rfl,rfl,ha,atI_nat (j:=0) rfl,rfl,_,rfl,iteNS rfl ?_⟩
    refine ⟨rfl,_,rfl,a,_,_,V.ref b,rfl,rfl,ha,atI_nat (j:=1) rfl,b,rfl,⟨_,hb⟩,?_⟩
    refine compTu (K:=K) (a:=b) (xs:=xs) (fun i ys H1=>Same H H1∧ys=((ds.map textI).take i).map V.str) ⟨Same.refl _,rfl⟩ ?_ (by rw [hl]; exact small1000' (by omega)) ?_ ?_
    · rintro i ys H1 hi ⟨s3,rfl⟩
      exact ⟨s3.sqT hb,by simp; omega⟩
    · rintro i x ys H1 R hx ⟨s3,rfl⟩ kR
      have hi:i < ds.length:=by rw [← hl]; exact (List.getElem?_eq_some_iff.mp hx).1
      have hdi:ds[i]?=some ds[i]:=by simp [hi]
      have gi:=g _ (List.mem_of_getElem? hdi)
      refine ⟨StLe.set rfl,_,rfl,x,ds[i],rfl,(hd i x _ hx hdi).same s3,gi,fun H3 s5=>?_⟩
      refine ⟨_,_,rfl,rfl,?_,?_⟩
      · have:=textD_len gi
        show (Str.ofString " ").length + (textD ds[i]).length≤sizeLine
        rw [s_blank,sizeLine_eq]
        show 1 + _≤_
        omega
      · refine kR _ _ ⟨s3.trans s5,?_⟩
        rw [take_succ' (xs:=ds.map textI) (x:=textI ds[i]) (by rw [List.getElem?_map,hdi]; rfl)]
        simp
        rfl
    · rintro ys H1 ⟨s3,rfl⟩ m hm
      rw [hl,List.take_of_length_le (by simp)]
      have z:=sum_textI g
      refine ⟨_,m,ds.map textI,rfl,rfl,SqL.of upd_same,?_,?_⟩
      · show ((ds.map textI).map (·.length)).sum + (ds.map textI).length * (Str.ofString ";").length≤16777216
        rw [s_semi,List.length_map]
        show _ + ds.length * 1≤_
        omega
      · rw [s_semi]
        refine ⟨_,_,rfl,rfl,?_,q _ (s3.trans (same_upd hm))⟩
        have:=joinB_len g h3
        show (Str.ofString "all:").length + _≤sizeLine
        rw [show (Str.ofString "all:").length=4 by decide +kernel,sizeLine_eq]
        omega
end
end KX
namespace TX
open PySem PyProof.Rows
theorem starts_one (x:Str) (c:Nat):Txt.startswith x ⟨#[c]⟩=decide (x.cps.toList[0]?=some c):=by
  have h:=StrLaws.subAt_one x c 0
  rw [Bool.eq_iff_iff,decide_eq_true_eq,← h]
  unfold Txt.startswith
  rw [Bool.and_eq_true,decide_eq_true_eq]
theorem slice_none (x:Str) (hl:1≤x.length):Builtin.Str.strSliceIndices (some 1) none 1 x.length=Builtin.Str.strSliceIndices (some ((1:Nat):Int)) (some (x.length:Int)) 1 x.length:=by
  have h2:¬ (((x.length:Nat):Int) < 0):=by omega
  have e2:max (0:Int) (min (x.length:Int) (x.length:Int))=x.length:=by omega
  simp only [Builtin.Str.strSliceIndices,h2,if_false,e2,show ((1:Int) > 0)=True from by simp,if_true]
  rfl
theorem slice_one {x:Str} {c:Nat} {r:List Nat} (h:x.cps.toList=c :: r):(Txt.slice x (some 1) none).cps.toList=r:=by
  have hl:x.length=r.length + 1:=by
    have e:x.cps.toList.length=x.length:=Array.length_toList
    rw [← e,h,List.length_cons]
  have e:=StrLaws.sliced_plain x (a:=1) (b:=x.length) (by omega) (Nat.le_refl _)
  have len:(Builtin.Str.strSliceIndices (some ((1:Nat):Int)) (some (x.length:Int)) 1 x.length).length=r.length:=by
    rw [StrLaws.strSliceIndices_plain (by omega) (Nat.le_refl _),List.length_map,List.length_range]
    omega
  unfold Txt.slice
  rw [slice_none x (by omega),if_neg (by rw [len,hl]; simp)]
  rw [e,h]
  simp [hl]
end TX
namespace KX
open PySem L2 PyProof.Rows K01 KW TX
section
variable {P:Program} {w:World} {K:PySem.W.Frag} {mg:Str→Option Value} {base:Heap} {tk:Nat→Tok} {T_FORMS T_READERS:Addr}
def spReadName:Sp:=fun vs H Q _=>∃ z:Str,vs=[.str z]∧Name z∧∀ H',Same H H'→Q (.str z) H'
theorem scReadName:FnScope ["word"] ["word"] (defScope (top 20)):=⟨rfl,rfl,rfl,by decide +kernel,rfl,by decide +kernel,by decide +kernel⟩
theorem ok_readName {f:Addr} {fd:FuncData} (F:FnAt K mg "read_name" "read_name" (top 20) .none f fd) (T:TxtX mg tk T_FORMS T_READERS)
    {f_is_name:Addr} {d_is_name:FuncData} (A_is_name:FnAt K mg "is_name" "is_name" (top 9) .none f_is_name d_is_name) (b_is_name:L2.Binds K d_is_name ["text"] []) (G_is_name:FnOk P w K mg base CX0 1 f_is_name d_is_name ["text"] (spIsName)):FnOk P w K mg base CX0 2 f fd ["word"] spReadName:=by
  have nd:=scReadName.nd
  refine F.ok scReadName (fun vs H Q E h=>?_) (fun cdv A outer s H vs Q E hr h=>?_)
  · obtain ⟨z,rfl,_⟩:=h
    rfl
  · obtain ⟨z,rfl,hz,q⟩:=h
    refine ⟨_,(pss_cons (ps_if (pt_not (pt_truth (pe_call (G_is_name.mono (by decide)) hr rfl A_is_name.mg A_is_name.kp b_is_name .nil pass0 (pa_cons (pv 0) pa_nil)) (fun _=>rfl))) (pss_one ps_never) pss_nil)
      (pss_one (ps_ret (pv 0)))),?_⟩
    refine ⟨_,rfl,z,rfl,hz,fun H' s1=>⟨true,rfl,?_⟩⟩
    exact iteF ⟨_,rfl,q _ s1⟩
def spReadNumber:Sp:=fun vs H Q _=>∃ n:Int,vs=[.str (tn n)]∧Nat30 n∧∀ H',Same H H'→Q (.int n) H'
theorem scReadNumber:FnScope ["word"] ["word"] (defScope (top 21)):=⟨rfl,rfl,rfl,by decide +kernel,rfl,by decide +kernel,by decide +kernel⟩
theorem s_nought:Str.ofString "0" = ⟨#[48]⟩:=by decide +kernel
theorem tn_zero:tn 0=⟨#[48]⟩:=by decide +kernel
set_option maxHeartbeats 4000000 in
theorem ok_readNumber {f:Addr} {fd:FuncData} (F:FnAt K mg "read_number" "read_number" (top 21) .none f fd) (T:TxtX mg tk T_FORMS T_READERS):FnOk P w K mg base CX0 1 f fd ["word"] spReadNumber:=by
  have nd:=scReadNumber.nd
  refine F.ok scReadNumber (fun vs H Q E h=>?_) (fun cdv A outer s H vs Q E hr h=>?_)
  · obtain ⟨z,rfl,_⟩:=h
    rfl
  · obtain ⟨n,rfl,hn,q⟩:=h
    have h1:=tn_len1 hn.1
    have h30:=tn_len hn.1 hn.2
    have hd:=tn_digits hn.1
    have rd:=tn_reads hn.1 hn.2
    have hN:=fun h=>tn_nought hn.1 h
    have hZ:n=0→tn n=⟨#[48]⟩:=fun e=>by rw [e]; exact tn_zero
    generalize tn n=z at *
    refine ⟨_,(pss_cons (ps_if (PW.pt (pw_or (pt_not (pt_chain op_le op_le pe_int (pe_callB call_len_str (by rfl) T.n_len PySem.boot_len (pa_cons (pv 0) pa_nil)) (pe_glob (v:=T_MOST_FIGURES) (by rfl) T.c_MOST_FIGURES ⟨_,rfl⟩))) (pw_or1 (pt_not (pt_truth (pe_callB (call_allL (by rfl)) (by rfl) T.n_all boot_all (pa_cons (pe_comp (by rfl) (compOk (N:=["sign"]) (ix:=[none])) (pi_str (pv 0)) (by intro _ _ _ _ _; exact PG.to (pg_name (i:=0) (show (["sign"]:List Str).Nodup by decide +kernel) rfl (Or.inl rfl)) (by (try simp only [inX_K]); rfl)) (by intro _ _ _ _ _; exact PE.to (pe_cmpR op_in_str (pv 0) (pe_glob (v:=T_DIGITS) (by rfl) T.c_DIGITS ⟨_,rfl⟩) (by rfl)) (by (try simp only [inX_K]); rfl))) pa_nil)) (fun _=>rfl)))))) (pss_one ps_never) pss_nil)
      (pss_cons (ps_if (PW.pt (pw_and (pt_cmpR op_eq (pe_ix ix_str (pv 0) pe_int (fun _ _=>rfl)) pe_str (nomark _)) (pw_and1 (pt_cmpR op_ne (pv 0) pe_str (nomark _))))) (pss_one ps_never) pss_nil)
      (pss_one (ps_ret (pe_callTy call_int_text (by rfl) T.n_int boot_int (pa_cons (pv 0) pa_nil)))))),?_⟩
    refine ⟨_,rfl,z,rfl,small1000' (by omega),_,_,rfl,rfl,_,rfl,?_⟩
    rw [if_pos (decide_eq_true (by omega))]
    refine ⟨_,_,rfl,rfl,_,rfl,?_⟩
    have e1:decide (((z.length:Nat):Int)≤30)=true:=decide_eq_true (by omega)
    show (if (!decide (((z.length:Nat):Int)≤30))=true then _ else _)
    rw [e1]
    refine iteF ?_
    refine ⟨_,rfl,z,rfl,ascii_of (fun c h=>by have:=hd c h; omega),?_⟩
    refine compS (z:=z) (fun i ys H1=>H1=H∧ys=List.replicate i (V.bl true)) ⟨rfl,rfl⟩ (fun i ys H1 hi p=>by rw [p.2]; exact List.length_replicate) (small1000' (by omega)) ?_ ?_
    · rintro i c ys H1 R hx ⟨rfl,rfl⟩ kR
      have hm:c∈z.cps.toList:=by
        rw [← Array.getElem?_toList] at hx
        exact List.mem_of_getElem? hx
      refine ⟨StLe.set rfl,_,rfl,_,_,rfl,rfl,?_⟩
      rw [digit_in' (hd c hm)]
      exact kR _ _ ⟨rfl,List.replicate_succ'.symm⟩
    · rintro ys H1 ⟨rfl,rfl⟩ l hl'
      refine ⟨l,_,rfl,SqL.of upd_same,fun y hy=>by rw [(List.mem_replicate.mp hy).2]; rfl,?_⟩
      have e:((List.replicate z.length (V.bl true)).all truB)=true:=by rw [List.all_eq_true]; intro y hy; rw [(List.mem_replicate.mp hy).2]; rfl
      rw [e]
      refine ⟨true,rfl,iteF ?_⟩
      obtain ⟨c,r,hcr⟩:∃ c r,z.cps.toList=c :: r:=by
        cases hz:z.cps.toList with
        | nil=>have:=len_list z; rw [hz] at this; simp at this; omega
        | cons c r=>exact ⟨c,r,rfl⟩
      refine ⟨_,rfl,z,_,c,rfl,rfl,small1000' (by omega),(by rw [hcr]; exact atI_nat (j:=0) rfl),rfl,_,rfl,?_⟩
      refine ite2 (fun hc=>?_) (fun hc=>?_)
      · have hc:=of_decide_eq_true hc
        have ec:(⟨#[c]⟩:Str)=⟨#[48]⟩:=by rw [← s_nought]; exact V.str.inj hc
        have ec:c=48:=by injection ec with e; simpa using e
        have hz:=hZ (hN (by rw [hcr,ec]; rfl))
        refine ⟨_,rfl,rfl,_,rfl,iteNS (by show V.str z=V.str (Str.ofString "0"); rw [s_nought,hz]) ?_⟩
        exact ⟨_,rfl,z,n,rfl,rd,by omega,q _ (same_upd hl')⟩
      · exact ⟨_,rfl,z,n,rfl,rd,by omega,q _ (same_upd hl')⟩
end
end KX
namespace KX
open PySem L2 PyProof.Rows K01 KW TX
section
variable {P:Program} {w:World} {K:PySem.W.Frag} {mg:Str→Option Value} {base:Heap} {tk:Nat→Tok} {T_FORMS T_READERS:Addr}
def spReadSigned:Sp:=fun vs H Q _=>∃ n:Int,vs=[.str (tn n)]∧Int30 n∧∀ H',Same H H'→Q (.int n) H'
theorem scReadSigned:FnScope ["word","number"] ["word"] (defScope (top 22)):=⟨rfl,rfl,rfl,by decide +kernel,rfl,by decide +kernel,by decide +kernel⟩
theorem starts_minus (n:Int):Txt.startswith (tn n) (Str.ofString "-")=decide (n < 0):=by
  rw [s_minus,starts_one,Bool.eq_iff_iff,decide_eq_true_eq,decide_eq_true_eq]
  constructor
  · intro h
    by_cases h0:0≤n
    · have:=tn_digits h0 45 (List.mem_of_getElem? h)
      omega
    · omega
  · intro h
    rw [tn_neg h]
    rfl
set_option maxHeartbeats 4000000 in
theorem ok_readSigned {f:Addr} {fd:FuncData} (F:FnAt K mg "read_signed" "read_signed" (top 22) .none f fd) (T:TxtX mg tk T_FORMS T_READERS)
    {f_read_number:Addr} {d_read_number:FuncData} (A_read_number:FnAt K mg "read_number" "read_number" (top 21) .none f_read_number d_read_number) (b_read_number:L2.Binds K d_read_number ["word"] []) (G_read_number:FnOk P w K mg base CX0 1 f_read_number d_read_number ["word"] (spReadNumber)):FnOk P w K mg base CX0 2 f fd ["word"] spReadSigned:=by
  have nd:=scReadSigned.nd
  refine F.ok scReadSigned (fun vs H Q E h=>?_) (fun cdv A outer s H vs Q E hr h=>?_)
  · obtain ⟨z,rfl,_⟩:=h
    rfl
  · obtain ⟨n,rfl,hn,q⟩:=h
    refine ⟨_,(pss_cons (ps_if (pt_not (pt_truth (pe_bm PySem.F.plainAttrs_str PySem.F.slot_str_startswith PySem.F.type_str_startswith mt_starts (pv 0) (pa_cons pe_str pa_nil)) (fun _=>rfl))) (pss_one (ps_ret (pe_call (G_read_number.mono (by decide)) hr rfl A_read_number.mg A_read_number.kp b_read_number .nil pass0 (pa_cons (pv 0) pa_nil)))) pss_nil)
      (pss_cons (ps_set (i:=1) nd rfl (Or.inl rfl) (pe_call (G_read_number.mono (by decide)) hr rfl A_read_number.mg A_read_number.kp b_read_number .nil pass0 (pa_cons (pe_slice sl_str (pv 0) (po_some pe_int) po_none) pa_nil)))
      (pss_cons (ps_if (pt_cmpR op_eq (pv 1) pe_int (nomark _)) (pss_one ps_never) pss_nil)
      (pss_one (ps_ret (pe_un un_neg (pv 1))))))),?_⟩
    refine ⟨_,rfl,rfl,_,_,rfl,rfl,_,rfl,?_⟩
    rw [starts_minus]
    by_cases h0:n < 0
    · rw [decide_eq_true h0]
      refine iteF ?_
      have e:Txt.slice (tn n) (some 1) none=tn (-n):=str_ext (slice_one (tn_neg h0))
      refine ⟨_,rfl,1,rfl,tn n,rfl,small1000' (by have:=tn_len_all hn; omega),-n,?_,⟨by omega,by have:=hn.1; omega⟩,fun H' s1=>?_⟩
      · rw [e]
        rfl
      · refine ⟨_,rfl,rfl,_,rfl,iteDF' (fun z=>by have:=V.int.inj z; omega) ?_⟩
        refine ⟨_,rfl,_,rfl,?_⟩
        show Q (V.int (- -n)) _
        rw [Int.neg_neg]
        exact q _ s1
    · rw [decide_eq_false h0]
      exact iteT ⟨_,rfl,n,rfl,⟨by omega,hn.2⟩,q⟩
def spReadFace:Sp:=fun vs H Q _=>∃ ns:List Int,vs=[.str (joinN 46 ns)]∧ns≠[]∧ns.length≤6∧(∀ n∈ns,Nat30 n)∧∀ (l:Addr) (H':Hp),Same H H'→H l=none→H' l=some (.tup (ns.map V.int))→Q (.ref l) H'
theorem scReadFace:FnScope ["word"] ["word"] (defScope (top 23)):=⟨rfl,rfl,rfl,by decide +kernel,rfl,by decide +kernel,by decide +kernel⟩
theorem split_joinN {c:Nat} (hc:c < 48) (h45:c≠45) {ns:List Int} (h:ns≠[]):Txt.split (joinN c ns) ⟨#[c]⟩=ns.map tn :=
  split_join c (by simpa using h) fun p hp=>by
    obtain ⟨n,_,rfl⟩:=List.mem_map.mp hp
    exact tn_free hc h45
set_option maxHeartbeats 4000000 in
theorem ok_readFace {f:Addr} {fd:FuncData} (F:FnAt K mg "read_face" "read_face" (top 23) .none f fd) (T:TxtX mg tk T_FORMS T_READERS)
    {f_read_number:Addr} {d_read_number:FuncData} (A_read_number:FnAt K mg "read_number" "read_number" (top 21) .none f_read_number d_read_number) (b_read_number:L2.Binds K d_read_number ["word"] []) (G_read_number:FnOk P w K mg base CX0 1 f_read_number d_read_number ["word"] (spReadNumber)):FnOk P w K mg base CX0 2 f fd ["word"] spReadFace:=by
  have nd:=scReadFace.nd
  refine F.ok scReadFace (fun vs H Q E h=>?_) (fun cdv A outer s H vs Q E hr h=>?_)
  · obtain ⟨z,rfl,_⟩:=h
    rfl
  · obtain ⟨ns,rfl,h0,h6,hb,q⟩:=h
    have z:=joinN_len (c:=46) (fun n hn=>(hb n hn).int) h6
    refine ⟨_,(pss_one (ps_ret (pe_callTy call_tuple_of (by rfl) T.n_tuple boot_tuple (pa_cons (pe_comp (by rfl) (compOk (N:=["point"]) (ix:=[none])) (pi_list (pe_bm PySem.F.plainAttrs_str PySem.F.slot_str_split PySem.F.type_str_split mt_split (pv 0) (pa_cons pe_str pa_nil))) (by intro _ _ _ _ _; exact PG.to (pg_name (i:=0) (show (["point"]:List Str).Nodup by decide +kernel) rfl (Or.inl rfl)) (by (try simp only [inX_K]); rfl)) (by intro _ _ _ _ _; exact PE.to (pe_call (G_read_number.mono (by decide)) hr rfl A_read_number.mg A_read_number.kp b_read_number .nil pass0 (pa_cons (pv 0) pa_nil)) (by (try simp only [inX_K]); rfl))) pa_nil)))),?_⟩
    refine ⟨_,rfl,rfl,_,_,rfl,rfl,by rw [s_dot]; rfl,by rw [sizeLine_eq]; omega,fun S hS=>?_⟩
    rw [s_dot,split_joinN (by decide) (by decide) h0]
    have s1:Same H (upd H S (.lst ((ns.map tn).map V.str))):=same_upd hS
    have hl:((ns.map tn).map V.str).length=ns.length:=by rw [List.length_map,List.length_map]
    refine ⟨S,rfl,⟨_,SqL.of upd_same⟩,?_⟩
    refine compL (K:=K) (a:=S) (xs:=(ns.map tn).map V.str) (fun i ys H1=>Same (upd H S (.lst ((ns.map tn).map V.str))) H1∧ys=(ns.take i).map V.int) ⟨Same.refl _,rfl⟩ ?_ (by rw [hl]; exact small1000' (by omega)) ?_ ?_
    · rintro i ys H1 hi ⟨s3,rfl⟩
      rw [hl] at hi
      exact ⟨SqL.of (s3 _ _ upd_same),by simp; omega⟩
    · rintro i x ys H1 R hx ⟨s3,rfl⟩ kR
      rw [List.map_map,List.getElem?_map] at hx
      obtain ⟨n,hn,rfl⟩:=Option.map_eq_some_iff.mp hx
      refine ⟨StLe.set rfl,_,rfl,n,rfl,hb n (List.mem_of_getElem? hn),fun H3 s5=>?_⟩
      refine kR _ _ ⟨s3.trans s5,?_⟩
      rw [take_succ' hn]
      simp
    · rintro ys H1 ⟨s3,rfl⟩ m hm
      rw [hl,List.take_length]
      have s4:=s1.trans (s3.trans (same_upd (o:=.lst (ns.map V.int)) hm))
      refine ⟨m,_,rfl,.inl ⟨SqL.of upd_same,fun r hr'=>?_⟩⟩
      exact q r _ (s4.trans (same_upd hr')) (s4.free hr') upd_same
end
end KX
namespace L2
open PySem PySem.Spec PyProof.Rows
theorem cut_front {x:V} {xs:List V}:cutV (x :: xs) none (some 1)=[x]:=by
  unfold cutV
  rw [HT.sIx_none]
  have e:=HT.sIx_nat (x :: xs).length (x :: xs).length 1
  rw [show ((1:Nat):Int)=1 from rfl] at e
  rw [e,List.length_cons]
  have:min 1 (xs.length + 1)=1:=by omega
  rw [this]
  rfl
theorem cut_rest {x:V} {xs:List V}:cutV (x :: xs) (some 1) none=xs:=by
  unfold cutV
  rw [HT.sIx_none]
  have e:=HT.sIx_nat (x :: xs).length 0 1
  rw [show ((1:Nat):Int)=1 from rfl] at e
  rw [e,List.length_cons]
  have:min 1 (xs.length + 1)=1:=by omega
  rw [this]
  simp
theorem FnOk.union {ι:Type} {P:Program} {w:World} {K:PySem.W.Frag} {mg:Str→Option Value} {base:Heap} {CX:CXT} {k:Nat} {f:Addr} {fd:FuncData} {ps:List Str} {sp:Sp} {sps:ι→Sp}
    (F:∀ i,FnOk P w K mg base CX k f fd ps (sps i)) (h:∀ vs H Q E,sp vs H Q E→∃ i,sps i vs H Q E):FnOk P w K mg base CX k f fd ps sp :=
  ⟨fun vs H Q E q=>by obtain ⟨i,q⟩:=h _ _ _ _ q; exact (F i).len vs H Q E q,fun A outer s H args us vs Q E hr he hb hv hs=>by obtain ⟨i,q⟩:=h _ _ _ _ hs; exact (F i).run A outer s H args us vs Q E hr he hb hv q⟩
end L2
namespace TX
open PySem PyProof.Rows
theorem len_list' (z:Str):z.cps.toList.length=z.length:=Array.length_toList
theorem joinN_head (c:Nat) (n:Int) (ns:List Int):∃ r,(joinN c (n :: ns)).cps.toList=(tn n).cps.toList ++ r:=by
  rw [joinN_eq,List.map_cons]
  cases ns with
  | nil=>exact ⟨[],(List.append_nil _).symm⟩
  | cons m ns=>exact ⟨_,join_two _ _ _ _⟩
theorem tn_dash (n:Int) (r:List Nat):(tn n).cps.toList ++ r≠[45]:=by
  intro e
  by_cases h:0≤n
  · cases hz:(tn n).cps.toList with
    | nil =>
      have a:=len_list' (tn n)
      rw [hz] at a
      have b:=tn_len1 h
      rw [← a] at b
      exact absurd b (by decide)
    | cons c q =>
      have a:=tn_digits h c (by rw [hz]; exact List.mem_cons_self)
      rw [hz,List.cons_append] at e
      have e:=(List.cons.inj e).1
      omega
  · rw [tn_neg (by omega),List.cons_append] at e
    have b:=tn_len1 (n:=-n) (by omega)
    rw [← len_list'] at b
    have e:=congrArg List.length (List.cons.inj e).2
    rw [List.length_append,List.length_nil] at e
    omega
theorem nums_ne (n:Int) (ns:List Int):textP (.nums (n :: ns))≠⟨#[45]⟩:=by
  intro e
  obtain ⟨r,h⟩:=joinN_head 44 n ns
  have e:joinN 44 (n :: ns)=⟨#[45]⟩:=e
  rw [e] at h
  exact tn_dash n r h.symm
theorem starts_not {x y:Str} {c d:Nat} {r q:List Nat} (hx:x.cps.toList=c :: r) (hy:y.cps.toList=d :: q) (h:c≠d):Txt.startswith x y=false:=by
  unfold Txt.startswith
  have e:Builtin.Str.subAt x y 0=false:=by
    rw [StrLaws.subAt_eq,List.drop_zero,hx,hy]
    have l:y.length=q.length + 1:=by rw [← len_list',hy,List.length_cons]
    rw [l,List.take_succ_cons]
    simp [h]
  rw [e,Bool.and_false]
theorem starts_app (a y:Str):Txt.startswith (a ++ y) a=true:=PySem.W.KT.starts_app a y
theorem less_app (a y:Str):Txt.removeprefix (a ++ y) a=y:=by
  rw [StrLaws.removeprefix_eq]
  have h:=starts_app a y
  unfold Txt.startswith at h
  rw [if_pos h]
  apply str_ext
  show ((a ++ y).cps.toList.drop a.length).take ((a ++ y).length - a.length)=y.cps.toList
  rw [app_toList,← len_list' a,List.drop_left,Str.length_append,← len_list' a,← len_list' y,show a.cps.toList.length + y.cps.toList.length - a.cps.toList.length=y.cps.toList.length by omega,List.take_length]
end TX
namespace KX
open PySem L2 PyProof.Rows K01 KW TX
section
variable {P:Program} {w:World} {K:PySem.W.Frag} {mg:Str→Option Value} {base:Heap} {tk:Nat→Tok} {T_FORMS T_READERS:Addr}
def spReadNumbers:Sp:=fun vs H Q _=>∃ ns:List Int,vs=[.str (textP (.nums ns))]∧ns.length≤6∧(∀ n∈ns,Int30 n)∧∀ (l:Addr) (H':Hp),Same H H'→H l=none→H' l=some (.tup (ns.map V.int))→Q (.ref l) H'
theorem scReadNumbers:FnScope ["word"] ["word"] (defScope (top 24)):=⟨rfl,rfl,rfl,by decide +kernel,rfl,by decide +kernel,by decide +kernel⟩
set_option maxHeartbeats 4000000 in
theorem ok_readNumbers {f:Addr} {fd:FuncData} (F:FnAt K mg "read_numbers" "read_numbers" (top 24) .none f fd) (T:TxtX mg tk T_FORMS T_READERS)
    {f_read_signed:Addr} {d_read_signed:FuncData} (A_read_signed:FnAt K mg "read_signed" "read_signed" (top 22) .none f_read_signed d_read_signed) (b_read_signed:L2.Binds K d_read_signed ["word"] []) (G_read_signed:FnOk P w K mg base CX0 2 f_read_signed d_read_signed ["word"] (spReadSigned)):FnOk P w K mg base CX0 3 f fd ["word"] spReadNumbers:=by
  have nd:=scReadNumbers.nd
  refine F.ok scReadNumbers (fun vs H Q E h=>?_) (fun cdv A outer s H vs Q E hr h=>?_)
  · obtain ⟨z,rfl,_⟩:=h
    rfl
  · obtain ⟨ns,rfl,h6,hb,q⟩:=h
    refine ⟨_,(pss_cons (ps_if (pt_cmpR op_eq (pv 0) (pe_glob (v:=T_NO_NUMBERS) (by rfl) T.c_NO_NUMBERS ⟨_,rfl⟩) (nomark _)) (pss_one (ps_ret (pe_tup pa_nil))) pss_nil)
      (pss_one (ps_ret (pe_callTy call_tuple_of (by rfl) T.n_tuple boot_tuple (pa_cons (pe_comp (by rfl) (compOk (N:=["number"]) (ix:=[none])) (pi_list (pe_bm PySem.F.plainAttrs_str PySem.F.slot_str_split PySem.F.type_str_split mt_split (pv 0) (pa_cons pe_str pa_nil))) (by intro _ _ _ _ _; exact PG.to (pg_name (i:=0) (show (["number"]:List Str).Nodup by decide +kernel) rfl (Or.inl rfl)) (by (try simp only [inX_K]); rfl)) (by intro _ _ _ _ _; exact PE.to (pe_call (G_read_signed.mono (by decide)) hr rfl A_read_signed.mg A_read_signed.kp b_read_signed .nil pass0 (pa_cons (pv 0) pa_nil)) (by (try simp only [inX_K]); rfl))) pa_nil))))),?_⟩
    cases ns with
    | nil =>
      refine ⟨_,rfl,rfl,_,rfl,iteDT' (by show V.str ⟨#[45]⟩=V.str (Str.ofString "-"); rw [s_minus]) ?_⟩
      exact ⟨by decide,fun p hp=>q p _ (same_upd hp) hp upd_same⟩
    | cons n ms =>
      refine ⟨_,rfl,rfl,_,rfl,iteDF' (str_ne (by rw [s_minus]; exact nums_ne n ms)) ?_⟩
      have z:(joinN 44 (n :: ms)).length≤200:=joinN_len hb h6
      have h0:n :: ms≠[]:=by simp
      rw [show textP (.nums (n :: ms))=joinN 44 (n :: ms) from rfl]
      generalize n :: ms=ns at *
      refine ⟨_,rfl,rfl,_,_,rfl,rfl,by rw [s_comma]; rfl,by rw [sizeLine_eq]; omega,fun S hS=>?_⟩
      rw [s_comma,split_joinN (by decide) (by decide) h0]
      have s1:Same H (upd H S (.lst ((ns.map tn).map V.str))):=same_upd hS
      have hl:((ns.map tn).map V.str).length=ns.length:=by rw [List.length_map,List.length_map]
      refine ⟨S,rfl,⟨_,SqL.of upd_same⟩,?_⟩
      refine compL (K:=K) (a:=S) (xs:=(ns.map tn).map V.str) (fun i ys H1=>Same (upd H S (.lst ((ns.map tn).map V.str))) H1∧ys=(ns.take i).map V.int) ⟨Same.refl _,rfl⟩ ?_ (by rw [hl]; exact small1000' (by omega)) ?_ ?_
      · rintro i ys H1 hi ⟨s3,rfl⟩
        rw [hl] at hi
        exact ⟨SqL.of (s3 _ _ upd_same),by simp; omega⟩
      · rintro i x ys H1 R hx ⟨s3,rfl⟩ kR
        rw [List.map_map,List.getElem?_map] at hx
        obtain ⟨n,hn,rfl⟩:=Option.map_eq_some_iff.mp hx
        refine ⟨StLe.set rfl,_,rfl,n,rfl,hb n (List.mem_of_getElem? hn),fun H3 s5=>?_⟩
        refine kR _ _ ⟨s3.trans s5,?_⟩
        rw [take_succ' hn]
        simp
      · rintro ys H1 ⟨s3,rfl⟩ m hm
        rw [hl,List.take_length]
        have s4:=s1.trans (s3.trans (same_upd (o:=.lst (ns.map V.int)) hm))
        refine ⟨m,_,rfl,.inl ⟨SqL.of upd_same,fun r hr'=>?_⟩⟩
        exact q r _ (s4.trans (same_upd hr')) (s4.free hr') upd_same
theorem scReadPart:FnScope ["kind","word","reader"] ["kind","word"] (defScope (top 26)):=⟨rfl,rfl,rfl,by decide +kernel,rfl,by decide +kernel,by decide +kernel⟩
theorem ok_readPart1 {f fr:Addr} {fd fdr:FuncData} {sp:Sp} {k:Nat} {kvs:List (Str × V)} {kind:Str} (F:FnAt K mg "read_part" "read_part" (top 26) .none f fd) (T:TxtX mg tk T_FORMS T_READERS) (hD:SqD w K T_READERS kvs) (hk:atS kvs kind=some (.ref fr))
    (G:FnOk P w K mg base CX0 k fr fdr ["word"] sp) (kp:PySem.W.keepIn K (.ref fr)=true) (hb:L2.Binds K fdr ["word"] []):FnOk P w K mg base CX0 (k + 1) f fd ["kind","word"] (fun vs H Q _=>∃ z:Str,vs=[.str kind,.str z]∧sp [.str z] H Q E0):=by
  have nd:=scReadPart.nd
  refine F.ok scReadPart (fun vs H Q E h=>?_) (fun cdv A outer s H vs Q E hr h=>?_)
  · obtain ⟨z,rfl,_⟩:=h
    rfl
  · obtain ⟨z,rfl,h⟩:=h
    refine ⟨_,(pss_cons (ps_set (i:=2) nd rfl (Or.inl rfl) (pe_sget (pe_glob (v:=.ref T_READERS) (by rfl) T.c_READERS rfl) (pv 0) (fun _ _=>rfl)))
      (pss_one (ps_ret (pe_callV (i:=2) (fun _ vs H Q ↦ sp vs H Q E0) rfl (Or.inl rfl) (pa_cons (pv 1) pa_nil))))),?_⟩
    refine ⟨_,rfl,T_READERS,kvs,kind,_,rfl,hD,rfl,hk,?_⟩
    exact ⟨fr,rfl,Fn1.of G kp hr hb,_,rfl,h⟩
def spReadPart:PySem.W.Frag→Sp:=fun K vs H Q _=>∃ p:Part,vs=[.str (kindP p),.str (textP p)]∧GoodP p∧∀ v H',Same H H'→PartAt K H' v p→Q v H'
def ReadersOk (w:World) (K:PySem.W.Frag) (a f1 f2 f3 f4:Addr):Prop:=∃ kvs,SqD w K a kvs∧atS kvs (Str.ofString "name")=some (.ref f1)∧atS kvs (Str.ofString "face")=some (.ref f2)∧atS kvs (Str.ofString "number")=some (.ref f3)∧atS kvs (Str.ofString "numbers")=some (.ref f4)
theorem ok_readPart {f:Addr} {fd:FuncData} (F:FnAt K mg "read_part" "read_part" (top 26) .none f fd) (T:TxtX mg tk T_FORMS T_READERS)
    {f_read_name:Addr} {d_read_name:FuncData} (A_read_name:FnAt K mg "read_name" "read_name" (top 20) .none f_read_name d_read_name) (b_read_name:L2.Binds K d_read_name ["word"] []) (G_read_name:FnOk P w K mg base CX0 2 f_read_name d_read_name ["word"] (spReadName)) {f_read_face:Addr} {d_read_face:FuncData} (A_read_face:FnAt K mg "read_face" "read_face" (top 23) .none f_read_face d_read_face) (b_read_face:L2.Binds K d_read_face ["word"] []) (G_read_face:FnOk P w K mg base CX0 2 f_read_face d_read_face ["word"] (spReadFace)) {f_read_number:Addr} {d_read_number:FuncData} (A_read_number:FnAt K mg "read_number" "read_number" (top 21) .none f_read_number d_read_number) (b_read_number:L2.Binds K d_read_number ["word"] []) (G_read_number:FnOk P w K mg base CX0 1 f_read_number d_read_number ["word"] (spReadNumber)) {f_read_numbers:Addr} {d_read_numbers:FuncData} (A_read_numbers:FnAt K mg "read_numbers" "read_numbers" (top 24) .none f_read_numbers d_read_numbers) (b_read_numbers:L2.Binds K d_read_numbers ["word"] []) (G_read_numbers:FnOk P w K mg base CX0 3 f_read_numbers d_read_numbers ["word"] (spReadNumbers)) (R:ReadersOk w K T_READERS f_read_name f_read_face f_read_number f_read_numbers):FnOk P w K mg base CX0 4 f fd ["kind","word"] (spReadPart K):=by
  obtain ⟨kvs,hD,h1,h2,h3,h4⟩:=R
  have g1:=(ok_readPart1 F T hD h1 G_read_name A_read_name.kp b_read_name).mono (show 2 + 1≤4 by decide)
  have g2:=(ok_readPart1 F T hD h2 G_read_face A_read_face.kp b_read_face).mono (show 2 + 1≤4 by decide)
  have g3:=(ok_readPart1 F T hD h3 G_read_number A_read_number.kp b_read_number).mono (show 1 + 1≤4 by decide)
  have g4:=(ok_readPart1 F T hD h4 G_read_numbers A_read_numbers.kp b_read_numbers).mono (show 3 + 1≤4 by decide)
  refine FnOk.union (ι:=Part) (sps:=fun p vs H Q _=>vs=[.str (kindP p),.str (textP p)]∧GoodP p∧∀ v H',Same H H'→PartAt K H' v p→Q v H') (fun p=>?_) (fun vs H Q E h=>h)
  cases p with
  | name z=>exact g1.imp fun vs H Q E h=>⟨z,h.1,z,rfl,h.2.1,fun H' s=>h.2.2 _ H' s rfl⟩
  | face ns=>exact g2.imp fun vs H Q E h=>⟨_,h.1,ns,rfl,h.2.1.1,h.2.1.2.1,h.2.1.2.2,fun l H' s _ e=>h.2.2 _ H' s ⟨l,rfl,SqT.of e⟩⟩
  | num n=>exact g3.imp fun vs H Q E h=>⟨_,h.1,n,rfl,h.2.1,fun H' s=>h.2.2 _ H' s rfl⟩
  | nums ns=>exact g4.imp fun vs H Q E h=>⟨_,h.1,ns,rfl,h.2.1.1,h.2.1.2,fun l H' s _ e=>h.2.2 _ H' s ⟨l,rfl,SqT.of e⟩⟩
end
end KX
namespace KX
open PySem L2 PyProof.Rows K01 KW TX
theorem PartsAt.snoc {K:PySem.W.Frag} {H:Hp} {vs:List V} {ps:List Part} {v:V} {p:Part} (h:PartsAt K H vs ps) (hp:PartAt K H v p):PartsAt K H (vs ++ [v]) (ps ++ [p]):=by
  refine ⟨by simp [h.1],fun i x q hx hq=>?_⟩
  rw [List.getElem?_append] at hx hq
  by_cases hi:i < vs.length
  · rw [if_pos hi] at hx
    rw [if_pos (h.1 ▸ hi)] at hq
    exact h.2 i x q hx hq
  · rw [if_neg hi,h.1] at hx
    rw [if_neg (h.1 ▸ hi)] at hq
    cases hj:i - ps.length with
    | zero=>rw [hj] at hx hq; cases hx; cases hq; exact hp
    | succ n=>rw [hj] at hx; cases hx
section
variable {P:Program} {w:World} {K:PySem.W.Frag} {mg:Str→Option Value} {base:Heap} {tk:Nat→Tok} {T_FORMS T_READERS:Addr}
def spReadWords:PySem.W.Frag→Sp:=fun K vs H Q _=>∃ (W D:Addr) (d:Deed),vs=[.ref W,.ref D]∧H W=some (.lst (V.str d.1 :: (d.2.map textP).map V.str))∧SqT K H D ((d.2.map kindP).map V.str)∧GoodD d∧∀ v H',Same H H'→DeedAt K H' v d→Q v H'
theorem scReadWords:FnScope ["words","kinds"] ["words","kinds"] (defScope (top 27)):=⟨rfl,rfl,rfl,by decide +kernel,rfl,by decide +kernel,by decide +kernel⟩
set_option maxHeartbeats 4000000 in
theorem ok_readWords {f:Addr} {fd:FuncData} (F:FnAt K mg "read_words" "read_words" (top 27) .none f fd) (T:TxtX mg tk T_FORMS T_READERS)
    {f_read_part:Addr} {d_read_part:FuncData} (A_read_part:FnAt K mg "read_part" "read_part" (top 26) .none f_read_part d_read_part) (b_read_part:L2.Binds K d_read_part ["kind","word"] []) (G_read_part:FnOk P w K mg base CX0 4 f_read_part d_read_part ["kind","word"] (spReadPart K)):FnOk P w K mg base CX0 5 f fd ["words","kinds"] (spReadWords K):=by
  have nd:=scReadWords.nd
  refine F.ok scReadWords (fun vs H Q E h=>?_) (fun cdv A outer s H vs Q E hr h=>?_)
  · obtain ⟨W,D,d,rfl,_⟩:=h
    rfl
  · obtain ⟨W,D,⟨wd,ps⟩,rfl,hW,hD,g,q⟩:=h
    have c6:ps.length≤6:=good_few g
    have hk:((ps.map kindP).map V.str).length=ps.length:=by rw [List.length_map,List.length_map]
    have ht:((ps.map textP).map V.str).length=ps.length:=by rw [List.length_map,List.length_map]
    refine ⟨_,(pss_cons (ps_if (PW.pt (pw_or (pt_cmpR op_isN (pv 1) pe_non (nomark _)) (pw_or1 (pt_cmpR op_ne (pe_callB call_len_seq (by rfl) T.n_len PySem.boot_len (pa_cons (pv 0) pa_nil)) (pe_op op_add (pe_callB call_len_seq (by rfl) T.n_len PySem.boot_len (pa_cons (pv 1) pa_nil)) pe_int) (nomark _))))) (pss_one ps_never) pss_nil)
      (pss_one (ps_ret (pe_callTy call_tuple_of (by rfl) T.n_tuple boot_tuple (pa_cons (pe_op (op_cat) (pe_slice sl_list (pv 0) po_none (po_some pe_int)) (pe_comp (by rfl) (compOk (N:=["kind","word"]) (ix:=[none,none])) (pi_zipK true false (by rfl) T.n_zip (pa_cons (pv 1) (pa_cons (pe_slice sl_list (pv 0) (po_some pe_int) po_none) pa_nil))) (by intro _ _ _ _ _; exact PG.to (pg_tup (n:=2) (by rfl) (pgs_cons (pg_name (i:=0) (show (["kind","word"]:List Str).Nodup by decide +kernel) rfl (Or.inl rfl)) (pgs_cons (pg_name (i:=1) (show (["kind","word"]:List Str).Nodup by decide +kernel) rfl (Or.inl rfl)) pgs_nil))) (by (try simp only [inX_K]); rfl)) (by intro _ _ _ _ _; exact PE.to (pe_call (G_read_part.mono (by decide)) hr rfl A_read_part.mg A_read_part.kp b_read_part .nil pass0 (pa_cons (pv 0) (pa_cons (pv 1) pa_nil))) (by (try simp only [inX_K]); rfl)))) pa_nil))))),?_⟩
    refine ⟨_,rfl,rfl,_,rfl,iteF ?_⟩
    refine ⟨_,rfl,W,_,rfl,.inl (SqL.of hW),_,rfl,D,_,rfl,.inr hD,_,_,rfl,rfl,rfl,_,rfl,iteNS (by simp) ?_⟩
    refine ⟨_,rfl,1,rfl,W,_,rfl,SqL.of hW,fun l hl=>?_⟩
    rw [cut_front]
    have s1:Same H (upd H l (.lst [V.str wd])):=same_upd hl
    refine ⟨_,rfl,_,rfl,1,rfl,W,_,rfl,SqL.of (s1 _ _ hW),fun b hb=>?_⟩
    rw [cut_rest]
    have s2:=s1.trans (same_upd (o:=.lst ((ps.map textP).map V.str)) hb)
    have hlG:=(same_upd (o:=.lst ((ps.map textP).map V.str)) hb) _ _ (upd_same (H:=H) (a:=l) (o:=.lst [V.str wd]))
    have hbG:(upd (upd H l (.lst [V.str wd])) b (.lst ((ps.map textP).map V.str))) b=some (.lst ((ps.map textP).map V.str)):=upd_same
    generalize eG:upd (upd H l (.lst [V.str wd])) b (.lst ((ps.map textP).map V.str))=G at *
    refine ⟨D,b,rfl,⟨_,s2.sqT hD⟩,⟨_,SqL.of hbG⟩,?_⟩
    refine compZK (k1:=true) (k2:=false) (K:=K) (a:=D) (b:=b) (xs:=(ps.map kindP).map V.str) (zs:=(ps.map textP).map V.str) (fun i ys H1=>Same G H1∧PartsAt K H1 ys (ps.take i)) ⟨Same.refl _,rfl,fun i v p h=>by cases h⟩ (by rw [hk,ht]) ?_ (by rw [hk]; exact small1000' (by omega)) ?_ ?_
    · rintro i ys H1 hi ⟨s3,hp⟩
      rw [hk] at hi
      exact ⟨s3.sqT (s2.sqT hD),SqL.of (s3 _ _ hbG),by rw [hp.1,List.length_take]; omega⟩
    · rintro i x z ys H1 U R hx hz ⟨s3,hp⟩ hU kR
      rw [List.map_map,List.getElem?_map] at hx hz
      obtain ⟨p,hpi,rfl⟩:=Option.map_eq_some_iff.mp hx
      rw [hpi] at hz
      cases hz
      have s4:=same_upd (o:=.tup [V.str (kindP p),V.str (textP p)]) hU
      refine ⟨U,_,rfl,SqT.of upd_same,rfl,_,_,rfl,_,_,rfl,rfl,StLe.trans (StLe.set rfl) (StLe.set rfl),_,rfl,_,rfl,p,rfl,g.2 p (List.mem_of_getElem? hpi),fun v H3 s5 hv=>?_⟩
      refine kR _ _ ⟨(s3.trans s4).trans s5,?_⟩
      rw [take_succ' hpi]
      exact ((hp.same s4).same s5).snoc hv
    · rintro ys H1 ⟨s3,hp⟩ m hm
      rw [hk,List.take_length] at hp
      have s4:=same_upd (o:=.lst ys) hm
      refine ⟨l,m,[V.str wd],ys,rfl,rfl,s4 _ _ (s3 _ _ hlG),upd_same,small1000' (by rw [hp.1]; simp; omega),fun r hr'=>?_⟩
      have s5:=same_upd (o:=.lst ([V.str wd] ++ ys)) hr'
      refine ⟨r,_,rfl,.inl ⟨SqL.of upd_same,fun t ht'=>?_⟩⟩
      have s6:=same_upd (o:=.tup ([V.str wd] ++ ys)) ht'
      refine q _ _ (s2.trans (s3.trans (s4.trans (s5.trans s6)))) ⟨t,ys,rfl,SqT.of upd_same,((hp.same s4).same s5).same s6⟩
theorem word_free {d:Deed} (g:GoodD d):32 ∉ d.1.cps.toList∧59 ∉ d.1.cps.toList:=by
  have all:∀ x∈forms,32 ∉ x.1.cps.toList∧59 ∉ x.1.cps.toList:=by decide +kernel
  exact all _ g.1
theorem split_textD {d:Deed} (g:GoodD d):Txt.split (textD d) ⟨#[32]⟩=d.1 :: d.2.map textP :=
  split_join 32 (by simp) fun p hp=>by
    rcases List.mem_cons.mp hp with rfl | hp
    · exact (word_free g).1
    · obtain ⟨q,hq,rfl⟩:=List.mem_map.mp hp
      exact textP_free (g.2 q hq) (.inl rfl)
def spReadPlain:PySem.W.Frag→Sp:=fun K vs H Q _=>∃ d:Deed,vs=[.str (textD d)]∧GoodD d∧∀ v H',Same H H'→DeedAt K H' v d→Q v H'
theorem scReadPlain:FnScope ["text","words"] ["text"] (defScope (top 28)):=⟨rfl,rfl,rfl,by decide +kernel,rfl,by decide +kernel,by decide +kernel⟩
set_option maxHeartbeats 4000000 in
theorem ok_readPlain {f:Addr} {fd:FuncData} (F:FnAt K mg "read_plain" "read_plain" (top 28) .none f fd) (T:TxtX mg tk T_FORMS T_READERS) (FO:FormsOk w K T_FORMS)
    {f_read_words:Addr} {d_read_words:FuncData} (A_read_words:FnAt K mg "read_words" "read_words" (top 27) .none f_read_words d_read_words) (b_read_words:L2.Binds K d_read_words ["words","kinds"] []) (G_read_words:FnOk P w K mg base CX0 5 f_read_words d_read_words ["words","kinds"] (spReadWords K)):FnOk P w K mg base CX0 6 f fd ["text"] (spReadPlain K):=by
  have nd:=scReadPlain.nd
  refine F.ok scReadPlain (fun vs H Q E h=>?_) (fun cdv A outer s H vs Q E hr h=>?_)
  · obtain ⟨d,rfl,_⟩:=h
    rfl
  · obtain ⟨d,rfl,g,q⟩:=h
    obtain ⟨kvs,hD,hF⟩:=FO
    obtain ⟨b,hb,hT⟩:=hF _ g.1
    have z:=textD_len g
    refine ⟨_,(pss_cons (ps_set (i:=1) nd rfl (Or.inl rfl) (pe_bm PySem.F.plainAttrs_str PySem.F.slot_str_split PySem.F.type_str_split mt_split (pv 0) (pa_cons pe_str pa_nil)))
      (pss_one (ps_ret (pe_call (G_read_words.mono (by decide)) hr rfl A_read_words.mg A_read_words.kp b_read_words .nil pass0 (pa_cons (pv 1) (pa_cons (pe_sget1 (pe_glob (v:=.ref T_FORMS) (by rfl) T.c_FORMS rfl) (pe_ix ix_list (pv 1) pe_int (fun _ _=>rfl)) ⟨rfl,rfl,rfl,rfl⟩) pa_nil)))))),?_⟩
    refine ⟨_,rfl,rfl,_,_,rfl,rfl,by rw [s_blank]; rfl,by rw [sizeLine_eq]; omega,fun S hS=>?_⟩
    rw [s_blank,split_textD g]
    have s1:Same H (upd H S (.lst ((d.1 :: d.2.map textP).map V.str))):=same_upd hS
    refine ⟨_,rfl,T_FORMS,kvs,rfl,hD,_,rfl,S,_,_,V.str d.1,rfl,rfl,SqL.of upd_same,atI_nat (j:=0) rfl,d.1,rfl,?_⟩
    rw [hb]
    exact ⟨S,b,d,rfl,upd_same,hT _,g,fun v H' s=>q v H' (s1.trans s)⟩
theorem textI_list (d:Deed):(textI d).cps.toList=32 :: (textD d).cps.toList:=by
  show (Str.ofString " " ++ textD d).cps.toList=_
  rw [app_toList,s_blank]
  rfl
def spReadBehind:PySem.W.Frag→Sp:=fun K vs H Q _=>∃ d:Deed,vs=[.str (textI d)]∧GoodD d∧∀ v H',Same H H'→DeedAt K H' v d→Q v H'
theorem scReadBehind:FnScope ["text"] ["text"] (defScope (top 29)):=⟨rfl,rfl,rfl,by decide +kernel,rfl,by decide +kernel,by decide +kernel⟩
theorem ok_readBehind {f:Addr} {fd:FuncData} (F:FnAt K mg "read_behind_blank" "read_behind_blank" (top 29) .none f fd) (T:TxtX mg tk T_FORMS T_READERS)
    {f_read_plain:Addr} {d_read_plain:FuncData} (A_read_plain:FnAt K mg "read_plain" "read_plain" (top 28) .none f_read_plain d_read_plain) (b_read_plain:L2.Binds K d_read_plain ["text"] []) (G_read_plain:FnOk P w K mg base CX0 6 f_read_plain d_read_plain ["text"] (spReadPlain K)):FnOk P w K mg base CX0 7 f fd ["text"] (spReadBehind K):=by
  have nd:=scReadBehind.nd
  refine F.ok scReadBehind (fun vs H Q E h=>?_) (fun cdv A outer s H vs Q E hr h=>?_)
  · obtain ⟨d,rfl,_⟩:=h
    rfl
  · obtain ⟨d,rfl,g,q⟩:=h
    have z:=textI_len g
    have e1:Txt.startswith (textI d) (Str.ofString " ")=true:=by rw [s_blank,starts_one,textI_list]; rfl
    have e2:Txt.slice (textI d) (some 1) none=textD d:=str_ext (slice_one (textI_list d))
    refine ⟨_,(pss_cons (ps_if (pt_not (pt_truth (pe_bm PySem.F.plainAttrs_str PySem.F.slot_str_startswith PySem.F.type_str_startswith mt_starts (pv 0) (pa_cons pe_str pa_nil)) (fun _=>rfl))) (pss_one ps_never) pss_nil)
      (pss_one (ps_ret (pe_call (G_read_plain.mono (by decide)) hr rfl A_read_plain.mg A_read_plain.kp b_read_plain .nil pass0 (pa_cons (pe_slice sl_str (pv 0) (po_some pe_int) po_none) pa_nil))))),?_⟩
    refine ⟨_,rfl,rfl,_,_,rfl,rfl,_,rfl,?_⟩
    rw [e1]
    refine iteF ?_
    refine ⟨_,rfl,1,rfl,textI d,rfl,by rw [sizeLine_eq]; omega,d,by rw [e2]; rfl,g,q⟩
end
end KX
namespace KX
open PySem L2 PyProof.Rows K01 KW TX
theorem join_head (c:Nat) (x:Str) (r:List Str):∃ q,(Txt.join ⟨#[c]⟩ (x :: r)).cps.toList=x.cps.toList ++ q:=by
  have e:Txt.join ⟨#[c]⟩ (x :: r)=Str.join ⟨#[c]⟩ (x :: r):=StrLaws.glued_eq_join _ _
  rw [e]
  cases r with
  | nil=>exact ⟨[],(List.append_nil _).symm⟩
  | cons y r=>exact ⟨_,join_two _ _ _ _⟩
theorem textD_head {d:Deed} (g:GoodD d):∃ c r,(textD d).cps.toList=c :: r∧c≠97:=by
  have all:∀ x∈forms,x.1.cps.toList≠[]∧x.1.cps.toList.head?≠some 97:=by decide +kernel
  obtain ⟨h1,h2⟩:=all _ g.1
  obtain ⟨q,e⟩:=join_head 32 d.1 (d.2.map textP)
  cases hz:d.1.cps.toList with
  | nil=>exact absurd hz h1
  | cons c r =>
    rw [hz] at e
    refine ⟨c,r ++ q,e,fun z=>h2 ?_⟩
    show d.1.cps.toList.head?=some 97
    rw [hz,z]
    rfl
theorem all_list:(Str.ofString "all:").cps.toList=[97,108,108,58]:=by decide +kernel
theorem textD_ne {d:Deed} (g:GoodD d):textD d≠Str.ofString "all:" := by
  intro e
  obtain ⟨c,r,h,hc⟩:=textD_head g
  rw [e,all_list] at h
  exact hc (List.cons.inj h).1.symm
theorem textI_free {d:Deed} (g:GoodD d):59 ∉ (textI d).cps.toList:=by
  rw [textI_list]
  intro hm
  rcases List.mem_cons.mp hm with e | hm
  · cases e
  · have e:textD d=Str.join ⟨#[32]⟩ (d.1 :: d.2.map textP):=StrLaws.glued_eq_join _ _
    rw [e] at hm
    rcases join_mem hm with e | ⟨p,hp,h⟩
    · cases e
    · rcases List.mem_cons.mp hp with rfl | hp
      · exact (word_free g).2 h
      · obtain ⟨q,hq,rfl⟩:=List.mem_map.mp hp
        exact textP_free (g.2 q hq) (.inr rfl) h
theorem textB_ne (d:Deed) (ds:List Deed):textB (d :: ds)≠Str.ofString "all:" := by
  intro e
  have e:=congrArg (fun z:Str=>z.cps.toList.length) e
  have e:(Str.ofString "all:" ++ Txt.join ⟨#[59]⟩ (textI d :: ds.map textI)).cps.toList.length=(Str.ofString "all:").cps.toList.length:=e
  obtain ⟨q,h⟩:=join_head 59 (textI d) (ds.map textI)
  rw [app_toList,h,textI_list,List.length_append,List.length_append,List.length_cons] at e
  omega
def DeedsAt (K:PySem.W.Frag) (H:Hp) (vs:List V) (ds:List Deed):Prop:=vs.length=ds.length∧∀ (i:Nat) (x:V) (d:Deed),vs[i]?=some x→ds[i]?=some d→DeedAt K H x d
theorem DeedsAt.same {K:PySem.W.Frag} {H H':Hp} {vs:List V} {ds:List Deed} (h:DeedsAt K H vs ds) (s:Same H H'):DeedsAt K H' vs ds:=⟨h.1,fun i v p a b=>(h.2 i v p a b).same s⟩
theorem DeedsAt.snoc {K:PySem.W.Frag} {H:Hp} {vs:List V} {ps:List Deed} {v:V} {p:Deed} (h:DeedsAt K H vs ps) (hp:DeedAt K H v p):DeedsAt K H (vs ++ [v]) (ps ++ [p]):=by
  refine ⟨by simp [h.1],fun i x q hx hq=>?_⟩
  rw [List.getElem?_append] at hx hq
  by_cases hi:i < vs.length
  · rw [if_pos hi] at hx
    rw [if_pos (h.1 ▸ hi)] at hq
    exact h.2 i x q hx hq
  · rw [if_neg hi,h.1] at hx
    rw [if_neg (h.1 ▸ hi)] at hq
    cases hj:i - ps.length with
    | zero=>rw [hj] at hx hq; cases hx; cases hq; exact hp
    | succ n=>rw [hj] at hx; cases hx
section
variable {P:Program} {w:World} {K:PySem.W.Frag} {mg:Str→Option Value} {base:Heap} {tk:Nat→Tok} {T_FORMS T_READERS:Addr}
theorem scDeedOf:FnScope ["text"] ["text"] (defScope (top 30)):=⟨rfl,rfl,rfl,by decide +kernel,rfl,by decide +kernel,by decide +kernel⟩
set_option maxHeartbeats 4000000 in
theorem ok_deedOf1 {f:Addr} {fd:FuncData} (F:FnAt K mg "deed_of" "deed_of" (top 30) .none f fd) (T:TxtX mg tk T_FORMS T_READERS)
    {f_read_plain:Addr} {d_read_plain:FuncData} (A_read_plain:FnAt K mg "read_plain" "read_plain" (top 28) .none f_read_plain d_read_plain) (b_read_plain:L2.Binds K d_read_plain ["text"] []) (G_read_plain:FnOk P w K mg base CX0 6 f_read_plain d_read_plain ["text"] (spReadPlain K)) {f_read_behind_blank:Addr} {d_read_behind_blank:FuncData} (A_read_behind_blank:FnAt K mg "read_behind_blank" "read_behind_blank" (top 29) .none f_read_behind_blank d_read_behind_blank) (b_read_behind_blank:L2.Binds K d_read_behind_blank ["text"] []) (G_read_behind_blank:FnOk P w K mg base CX0 7 f_read_behind_blank d_read_behind_blank ["text"] (spReadBehind K)):FnOk P w K mg base CX0 8 f fd ["text"] (spReadPlain K):=by
  have nd:=scDeedOf.nd
  refine F.ok scDeedOf (fun vs H Q E h=>?_) (fun cdv A outer s H vs Q E hr h=>?_)
  · obtain ⟨d,rfl,_⟩:=h
    rfl
  · obtain ⟨d,rfl,g,q⟩:=h
    have e1:Txt.startswith (textD d) (Str.ofString "all:")=false:=by
      obtain ⟨c,r,h,hc⟩:=textD_head g
      exact starts_not h all_list hc
    refine ⟨_,(pss_cons (ps_if (pt_cmpR op_eq (pv 0) (pe_glob (v:=T_ALL) (by rfl) T.c_ALL ⟨_,rfl⟩) (nomark _)) (pss_one (ps_ret (pe_tup (pa_cons (pe_glob (v:=T_BUNDLE) (by rfl) T.c_BUNDLE ⟨_,rfl⟩) (pa_cons (pe_tup pa_nil) pa_nil))))) pss_nil)
      (pss_cons (ps_if (pt_not (pt_truth (pe_bm PySem.F.plainAttrs_str PySem.F.slot_str_startswith PySem.F.type_str_startswith mt_starts (pv 0) (pa_cons (pe_glob (v:=T_ALL) (by rfl) T.c_ALL ⟨_,rfl⟩) pa_nil)) (fun _=>rfl))) (pss_one (ps_ret (pe_call (G_read_plain.mono (by decide)) hr rfl A_read_plain.mg A_read_plain.kp b_read_plain .nil pass0 (pa_cons (pv 0) pa_nil)))) pss_nil)
      (pss_one (ps_ret (pe_tup (pa_cons (pe_glob (v:=T_BUNDLE) (by rfl) T.c_BUNDLE ⟨_,rfl⟩) (pa_cons (pe_callTy call_tuple_of (by rfl) T.n_tuple boot_tuple (pa_cons (pe_comp (by rfl) (compOk (N:=["part"]) (ix:=[none])) (pi_list (pe_bm PySem.F.plainAttrs_str PySem.F.slot_str_split PySem.F.type_str_split mt_split (pe_bm PySem.F.plainAttrs_str PySem.F.slot_str_removeprefix PySem.F.type_str_removeprefix mt_lessPre (pv 0) (pa_cons (pe_glob (v:=T_ALL) (by rfl) T.c_ALL ⟨_,rfl⟩) pa_nil)) (pa_cons pe_str pa_nil))) (by intro _ _ _ _ _; exact PG.to (pg_name (i:=0) (show (["part"]:List Str).Nodup by decide +kernel) rfl (Or.inl rfl)) (by (try simp only [inX_K]); rfl)) (by intro _ _ _ _ _; exact PE.to (pe_call (G_read_behind_blank.mono (by decide)) hr rfl A_read_behind_blank.mg A_read_behind_blank.kp b_read_behind_blank .nil pass0 (pa_cons (pv 0) pa_nil)) (by (try simp only [inX_K]); rfl))) pa_nil)) pa_nil))))))),?_⟩
    refine ⟨_,rfl,rfl,_,rfl,iteDF' (str_ne (textD_ne g)) ?_⟩
    refine ⟨_,rfl,rfl,textD d,Str.ofString "all:",rfl,rfl,_,rfl,?_⟩
    rw [e1]
    exact iteT ⟨_,rfl,d,rfl,g,q⟩
def spDeedOf2:PySem.W.Frag→Sp:=fun K vs H Q _=>∃ ds:List Deed,vs=[.str (textB ds)]∧ds.length≤3∧(∀ d∈ds,GoodD d)∧∀ v H',Same H H'→BundleAt K H' v ds→Q v H'
set_option maxHeartbeats 4000000 in
theorem ok_deedOf2 {f:Addr} {fd:FuncData} (F:FnAt K mg "deed_of" "deed_of" (top 30) .none f fd) (T:TxtX mg tk T_FORMS T_READERS)
    {f_read_plain:Addr} {d_read_plain:FuncData} (A_read_plain:FnAt K mg "read_plain" "read_plain" (top 28) .none f_read_plain d_read_plain) (b_read_plain:L2.Binds K d_read_plain ["text"] []) (G_read_plain:FnOk P w K mg base CX0 6 f_read_plain d_read_plain ["text"] (spReadPlain K)) {f_read_behind_blank:Addr} {d_read_behind_blank:FuncData} (A_read_behind_blank:FnAt K mg "read_behind_blank" "read_behind_blank" (top 29) .none f_read_behind_blank d_read_behind_blank) (b_read_behind_blank:L2.Binds K d_read_behind_blank ["text"] []) (G_read_behind_blank:FnOk P w K mg base CX0 7 f_read_behind_blank d_read_behind_blank ["text"] (spReadBehind K)):FnOk P w K mg base CX0 8 f fd ["text"] (spDeedOf2 K):=by
  have nd:=scDeedOf.nd
  refine F.ok scDeedOf (fun vs H Q E h=>?_) (fun cdv A outer s H vs Q E hr h=>?_)
  · obtain ⟨d,rfl,_⟩:=h
    rfl
  · obtain ⟨ds,rfl,h3,g,q⟩:=h
    refine ⟨_,(pss_cons (ps_if (pt_cmpR op_eq (pv 0) (pe_glob (v:=T_ALL) (by rfl) T.c_ALL ⟨_,rfl⟩) (nomark _)) (pss_one (ps_ret (pe_tup (pa_cons (pe_glob (v:=T_BUNDLE) (by rfl) T.c_BUNDLE ⟨_,rfl⟩) (pa_cons (pe_tup pa_nil) pa_nil))))) pss_nil)
      (pss_cons (ps_if (pt_not (pt_truth (pe_bm PySem.F.plainAttrs_str PySem.F.slot_str_startswith PySem.F.type_str_startswith mt_starts (pv 0) (pa_cons (pe_glob (v:=T_ALL) (by rfl) T.c_ALL ⟨_,rfl⟩) pa_nil)) (fun _=>rfl))) (pss_one (ps_ret (pe_call (G_read_plain.mono (by decide)) hr rfl A_read_plain.mg A_read_plain.kp b_read_plain .nil pass0 (pa_cons (pv 0) pa_nil)))) pss_nil)
      (pss_one (ps_ret (pe_tup (pa_cons (pe_glob (v:=T_BUNDLE) (by rfl) T.c_BUNDLE ⟨_,rfl⟩) (pa_cons (pe_callTy call_tuple_of (by rfl) T.n_tuple boot_tuple (pa_cons (pe_comp (by rfl) (compOk (N:=["part"]) (ix:=[none])) (pi_list (pe_bm PySem.F.plainAttrs_str PySem.F.slot_str_split PySem.F.type_str_split mt_split (pe_bm PySem.F.plainAttrs_str PySem.F.slot_str_removeprefix PySem.F.type_str_removeprefix mt_lessPre (pv 0) (pa_cons (pe_glob (v:=T_ALL) (by rfl) T.c_ALL ⟨_,rfl⟩) pa_nil)) (pa_cons pe_str pa_nil))) (by intro _ _ _ _ _; exact PG.to (pg_name (i:=0) (show (["part"]:List Str).Nodup by decide +kernel) rfl (Or.inl rfl)) (by (try simp only [inX_K]); rfl)) (by intro _ _ _ _ _; exact PE.to (pe_call (G_read_behind_blank.mono (by decide)) hr rfl A_read_behind_blank.mg A_read_behind_blank.kp b_read_behind_blank .nil pass0 (pa_cons (pv 0) pa_nil)) (by (try simp only [inX_K]); rfl))) pa_nil)) pa_nil))))))),?_⟩
    cases ds with
    | nil =>
      refine ⟨_,rfl,rfl,_,rfl,iteDT' (by show V.str (textB [])=V.str (Str.ofString "all:"); rw [show textB []=Str.ofString "all:" by decide +kernel]) ?_⟩
      refine ⟨by decide,fun b hb=>⟨(show 2≤sizeLine by decide),fun a ha=>?_⟩⟩
      refine q _ _ ((same_upd hb).trans (same_upd ha)) ⟨a,b,[],rfl,SqT.of upd_same,SqT.of ((same_upd ha) _ _ upd_same),rfl,fun i x d h=>by cases h⟩
    | cons d0 dr =>
      refine ⟨_,rfl,rfl,_,rfl,iteDF' (str_ne (textB_ne d0 dr)) ?_⟩
      have h0:d0 :: dr≠[]:=by simp
      generalize d0 :: dr=ds at *
      have zl:=joinB_len g h3
      have zb:(textB ds).length≤4004:=by
        show (Str.ofString "all:" ++ Txt.join ⟨#[59]⟩ (ds.map textI)).length≤4004
        rw [Str.length_append,show (Str.ofString "all:").length=4 by decide +kernel]
        omega
      have e1:Txt.startswith (textB ds) (Str.ofString "all:")=true:=starts_app _ _
      have e2:Txt.removeprefix (textB ds) (Str.ofString "all:")=Txt.join ⟨#[59]⟩ (ds.map textI):=less_app _ _
      have e3:Txt.split (Txt.join ⟨#[59]⟩ (ds.map textI)) ⟨#[59]⟩=ds.map textI:=split_join 59 (by simpa using h0) fun p hp=>by
        obtain ⟨d,hd,rfl⟩:=List.mem_map.mp hp
        exact textI_free (g d hd)
      refine ⟨_,rfl,rfl,textB ds,Str.ofString "all:",rfl,rfl,_,rfl,?_⟩
      rw [e1]
      refine iteF ?_
      refine ⟨_,rfl,rfl,textB ds,Str.ofString "all:",rfl,rfl,by rw [sizeLine_eq]; omega,rfl,_,Str.ofString ";",rfl,rfl,by rw [s_semi]; rfl,by rw [sizeLine_eq,e2]; omega,fun S hS=>?_⟩
      rw [e2,s_semi,e3] at *
      have s1:Same H (upd H S (.lst ((ds.map textI).map V.str))):=same_upd hS
      have hSG:(upd H S (.lst ((ds.map textI).map V.str))) S=some (.lst ((ds.map textI).map V.str)):=upd_same
      generalize eG:upd H S (.lst ((ds.map textI).map V.str))=G at *
      have hl:((ds.map textI).map V.str).length=ds.length:=by rw [List.length_map,List.length_map]
      refine ⟨S,rfl,⟨_,SqL.of hSG⟩,?_⟩
      refine compL (K:=K) (a:=S) (xs:=(ds.map textI).map V.str) (fun i ys H1=>Same G H1∧DeedsAt K H1 ys (ds.take i)) ⟨Same.refl _,rfl,fun i v p h=>by cases h⟩ ?_ (by rw [hl]; exact small1000' (by omega)) ?_ ?_
      · rintro i ys H1 hi ⟨s3,hp⟩
        rw [hl] at hi
        exact ⟨SqL.of (s3 _ _ hSG),by rw [hp.1,List.length_take]; omega⟩
      · rintro i x ys H1 R hx ⟨s3,hp⟩ kR
        rw [List.map_map,List.getElem?_map] at hx
        obtain ⟨d,hd,rfl⟩:=Option.map_eq_some_iff.mp hx
        refine ⟨StLe.set rfl,_,rfl,d,rfl,g d (List.mem_of_getElem? hd),fun v H3 s5 hv=>?_⟩
        refine kR _ _ ⟨s3.trans s5,?_⟩
        rw [take_succ' hd]
        exact (hp.same s5).snoc hv
      · rintro ys H1 ⟨s3,hp⟩ m hm
        rw [hl,List.take_length] at hp
        have s4:=same_upd (o:=.lst ys) hm
        refine ⟨m,_,rfl,.inl ⟨SqL.of upd_same,fun r hr'=>?_⟩⟩
        have s5:=same_upd (o:=.tup ys) hr'
        refine ⟨(show 2≤sizeLine by decide),fun a ha=>?_⟩
        have s6:=same_upd (o:=.tup [V.str (Str.ofString "bundle"),V.ref r]) ha
        have hp:=((hp.same s4).same s5).same s6
        exact q _ _ (s1.trans (s3.trans (s4.trans (s5.trans s6)))) ⟨a,r,ys,rfl,SqT.of upd_same,SqT.of (s6 _ _ upd_same),hp.1,hp.2⟩
end
end KX
namespace KX
open PySem L2 PyProof.Rows K01 KW TX
inductive AlkX (K:PySem.W.Frag) (H:Hp):Nat→V→V→Prop
  | int {d:Nat} (n:Int):AlkX K H (d + 1) (.int n) (.int n)
  | str {d:Nat} (z:Str):AlkX K H (d + 1) (.str z) (.str z)
  | tup {d:Nat} {a b:Addr} {xs ys:List V} (ha:SqT K H a xs) (hb:SqT K H b ys) (hl:xs.length=ys.length) (hz:xs.length≤1000) (h:∀ (i:Nat) (x y:V),xs[i]?=some x→ys[i]?=some y→AlkX K H d x y):AlkX K H (d + 1) (.ref a) (.ref b)
theorem AlkX.same {K:PySem.W.Frag} {H H':Hp} {d:Nat} {x y:V} (h:AlkX K H d x y) (e:Same H H'):AlkX K H' d x y:=by
  induction h with
  | int n=>exact .int n
  | str b=>exact .str b
  | tup ha hb hl hz _ ih=>exact .tup (e.sqT ha) (e.sqT hb) hl hz ih
theorem all_true:∀ n:Nat,((List.replicate n (V.bl true)).all truB)=true
  | 0=>rfl
  | n + 1=>by rw [List.replicate_succ,List.all_cons,all_true n]; rfl
theorem alk_part {K:PySem.W.Frag} {H:Hp} {x y:V} {p:Part} (hx:PartAt K H x p) (hy:PartAt K H y p) (g:GoodP p):AlkX K H 2 x y:=by
  have row:∀ {a b:Addr} {ns:List Int},ns.length≤6→SqT K H a (ns.map V.int)→SqT K H b (ns.map V.int)→AlkX K H 2 (.ref a) (.ref b):=fun h6 ha hb=>by
    refine .tup ha hb rfl (by rw [List.length_map]; omega) fun i x y hx hy=>?_
    obtain ⟨n,hn,rfl⟩:=getI_map hx
    obtain ⟨k,hk,rfl⟩:=getI_map hy
    rw [hn] at hk
    cases hk
    exact .int n
  cases p with
  | name z=>cases hx; cases hy; exact .str z
  | num n=>cases hx; cases hy; exact .int n
  | face ns =>
    obtain ⟨a,rfl,ha⟩:=hx
    obtain ⟨b,rfl,hb⟩:=hy
    exact row g.2.1 ha hb
  | nums ns =>
    obtain ⟨a,rfl,ha⟩:=hx
    obtain ⟨b,rfl,hb⟩:=hy
    exact row g.1 ha hb
theorem alk_deed {K:PySem.W.Frag} {H:Hp} {x y:V} {d:Deed} (hx:DeedAt K H x d) (hy:DeedAt K H y d) (g:GoodD d):AlkX K H 3 x y:=by
  obtain ⟨a,xs,rfl,ha,hp⟩:=hx
  obtain ⟨b,ys,rfl,hb,hq⟩:=hy
  have c6:=good_few g
  refine .tup ha hb (by simp [hp.1,hq.1]) (by rw [List.length_cons,hp.1]; omega) fun i x y hx hy=>?_
  cases i with
  | zero=>cases hx; cases hy; exact .str _
  | succ i =>
    have hx:xs[i]?=some x:=by simpa using hx
    have hy:ys[i]?=some y:=by simpa using hy
    have hi:i < d.2.length:=by rw [← hp.1]; exact (List.getElem?_eq_some_iff.mp hx).1
    have hd:d.2[i]?=some d.2[i]:=by simp [hi]
    exact alk_part (hp.2 i x _ hx hd) (hq.2 i y _ hy hd) (g.2 _ (List.mem_of_getElem? hd))
theorem alk_bundle {K:PySem.W.Frag} {H:Hp} {x y:V} {ds:List Deed} (hx:BundleAt K H x ds) (hy:BundleAt K H y ds) (h3:ds.length≤3) (g:∀ d∈ds,GoodD d):AlkX K H 5 x y:=by
  obtain ⟨a,b,xs,rfl,ha,hb,hl,hd⟩:=hx
  obtain ⟨a',b',ys,rfl,ha',hb',hl',hd'⟩:=hy
  refine .tup ha ha' rfl (show 2≤1000 by decide) fun i x y hx hy=>?_
  match i with
  | 0=>cases hx; cases hy; exact .str _
  | 1 =>
    cases hx; cases hy
    refine .tup hb hb' (by rw [hl,hl']) (by omega) fun i x y hx hy=>?_
    have hi:i < ds.length:=by rw [← hl]; exact (List.getElem?_eq_some_iff.mp hx).1
    have he:ds[i]?=some ds[i]:=by simp [hi]
    exact alk_deed (hd i x _ hx he) (hd' i y _ hy he) (g _ (List.mem_of_getElem? he))
  | i + 2=>cases hx
section
variable {P:Program} {w:World} {K:PySem.W.Frag} {mg:Str→Option Value} {base:Heap}
def spAlkX (K:PySem.W.Frag) (d:Nat):Sp:=fun vs H Q _=>∃ x y:V,vs=[x,y]∧AlkX K H d x y∧∀ H',Same H H'→Q (.bl true) H'
theorem scAlkX:FnScope ["_law_found","_law_due"] ["_law_found","_law_due"] (defScope (top 35)):=⟨rfl,rfl,rfl,by decide +kernel,rfl,by decide +kernel,by decide +kernel⟩
set_option maxHeartbeats 4000000 in
theorem ok_alkX {f:Addr} {fd:FuncData} (A__law_alike:FnAt K mg "_law_alike" "_law_alike" (top 35) .none f fd) (b__law_alike:L2.Binds K fd ["_law_found","_law_due"] []) (T:KW.Txt mg):∀ d:Nat,FnOk P w K mg base CX0 d f fd ["_law_found","_law_due"] (spAlkX K d)
  | 0=>⟨fun _ _ _ _ ⟨_,_,_,h,_⟩=>(nomatch h),fun _ _ _ _ _ _ _ _ _ _ _ _ _ ⟨_,_,_,h,_⟩=>(nomatch h)⟩
  | d + 1 => by
    have nd:=scAlkX.nd
    have G__law_alike:FnOk P w K mg base CX0 d f fd ["_law_found","_law_due"] (spAlkX K d):=ok_alkX A__law_alike b__law_alike T d
    refine A__law_alike.ok scAlkX (fun vs H Q E h=>?_) (fun cdv A outer s H vs Q E hr h=>?_)
    · obtain ⟨x,y,rfl,_⟩:=h
      rfl
    · obtain ⟨x,y,rfl,h,k⟩:=h
      refine ⟨_,(pss_cons (ps_if (PW.pt (pw_or (pt_truth (pe_callB isi_list (by rfl) T.n_isinstance boot_isinstance (pa_cons (pv 1) (pa_cons (pe_bltn (v:=.ty "list") (by rfl) T.n_list boot_list rfl) pa_nil))) (fun _=>rfl)) (pw_or1 (pt_truth (pe_callB isi_tuple (by rfl) T.n_isinstance boot_isinstance (pa_cons (pv 1) (pa_cons (pe_bltn (v:=.ty "tuple") (by rfl) T.n_tuple boot_tuple rfl) pa_nil))) (fun _=>rfl))))) (pss_cons (ps_if (PW.pt (pw_or (pt_cmpR op_ne (pe_callB isi_list (by rfl) T.n_isinstance boot_isinstance (pa_cons (pv 0) (pa_cons (pe_bltn (v:=.ty "list") (by rfl) T.n_list boot_list rfl) pa_nil))) (pe_callB isi_list (by rfl) T.n_isinstance boot_isinstance (pa_cons (pv 1) (pa_cons (pe_bltn (v:=.ty "list") (by rfl) T.n_list boot_list rfl) pa_nil))) (nomark _)) (pw_or1 (pt_cmpR op_ne (pe_callB isi_tuple (by rfl) T.n_isinstance boot_isinstance (pa_cons (pv 0) (pa_cons (pe_bltn (v:=.ty "tuple") (by rfl) T.n_tuple boot_tuple rfl) pa_nil))) (pe_callB isi_tuple (by rfl) T.n_isinstance boot_isinstance (pa_cons (pv 1) (pa_cons (pe_bltn (v:=.ty "tuple") (by rfl) T.n_tuple boot_tuple rfl) pa_nil))) (nomark _))))) (pss_one (ps_ret pe_bl)) pss_nil)
      (pss_one (ps_ret (pe_and (pe_cmpR op_eq (pe_callB call_len_seq (by rfl) T.n_len PySem.boot_len (pa_cons (pv 0) pa_nil)) (pe_callB call_len_seq (by rfl) T.n_len PySem.boot_len (pa_cons (pv 1) pa_nil)) (nomark _)) (pe_one (pe_callB (call_allL (by rfl)) (by rfl) T.n_all boot_all (pa_cons (pe_comp (by rfl) (compOk (N:=["_law_one","_law_other"]) (ix:=[none,none])) (pi_zipK true true (by rfl) T.n_zip (pa_cons (pv 0) (pa_cons (pv 1) pa_nil))) (by intro _ _ _ _ _; exact PG.to (pg_tup (n:=2) (by rfl) (pgs_cons (pg_name (i:=0) (show (["_law_one","_law_other"]:List Str).Nodup by decide +kernel) rfl (Or.inl rfl)) (pgs_cons (pg_name (i:=1) (show (["_law_one","_law_other"]:List Str).Nodup by decide +kernel) rfl (Or.inl rfl)) pgs_nil))) (by (try simp only [inX_K]); rfl)) (by intro _ _ _ _ _; exact PE.to (pe_call G__law_alike hr rfl A__law_alike.mg A__law_alike.kp b__law_alike .nil pass0 (pa_cons (pv 0) (pa_cons (pv 1) pa_nil))) (by (try simp only [inX_K]); rfl))) pa_nil))))))) pss_nil)
      (pss_cons (ps_if (PW.pt (pw_or (pt_cmpR op_isN (pv 1) pe_non (nomark _)) (pw_or1 (pt_cmpR op_isN (pv 0) pe_non (nomark _))))) (pss_one (ps_ret (pe_and (pe_cmpR op_isN (pv 0) pe_non (nomark _)) (pe_one (pe_cmpR op_isN (pv 1) pe_non (nomark _)))))) pss_nil)
      (pss_cons (ps_if (PW.pt (pw_or (pt_cmpR op_ne (pe_callB isi_bool (by rfl) T.n_isinstance boot_isinstance (pa_cons (pv 0) (pa_cons (pe_bltn (v:=.ty "bool") (by rfl) T.n_bool boot_bool rfl) pa_nil))) (pe_callB isi_bool (by rfl) T.n_isinstance boot_isinstance (pa_cons (pv 1) (pa_cons (pe_bltn (v:=.ty "bool") (by rfl) T.n_bool boot_bool rfl) pa_nil))) (nomark _)) (pw_or1 (pt_cmpR op_ne (pe_callB isi_int (by rfl) T.n_isinstance boot_isinstance (pa_cons (pv 0) (pa_cons (pe_bltn (v:=.ty "int") (by rfl) T.n_int boot_int rfl) pa_nil))) (pe_callB isi_int (by rfl) T.n_isinstance boot_isinstance (pa_cons (pv 1) (pa_cons (pe_bltn (v:=.ty "int") (by rfl) T.n_int boot_int rfl) pa_nil))) (nomark _))))) (pss_one (ps_ret pe_bl)) pss_nil)
      (pss_one (ps_ret (pe_and (pe_cmpR op_eq (pe_callB isi_str (by rfl) T.n_isinstance boot_isinstance (pa_cons (pv 0) (pa_cons (pe_bltn (v:=.ty "str") (by rfl) T.n_str boot_str rfl) pa_nil))) (pe_callB isi_str (by rfl) T.n_isinstance boot_isinstance (pa_cons (pv 1) (pa_cons (pe_bltn (v:=.ty "str") (by rfl) T.n_str boot_str rfl) pa_nil))) (nomark _)) (pe_one (pe_cmpR op_eq (pv 0) (pv 1) (nomark _))))))))),?_⟩
      cases h with
      | int n =>
        refine ⟨_,rfl,_,.int,rfl,rfl,_,rfl,iteF ⟨_,rfl,_,.int,rfl,rfl,_,rfl,iteF ?_⟩⟩
        refine ⟨_,rfl,rfl,_,rfl,iteF ⟨_,rfl,rfl,_,rfl,iteF ?_⟩⟩
        refine ⟨_,rfl,_,.int,rfl,rfl,_,rfl,_,.int,rfl,rfl,rfl,_,rfl,iteNS rfl ⟨_,rfl,_,.int,rfl,rfl,_,rfl,_,.int,rfl,rfl,rfl,_,rfl,iteNS rfl ?_⟩⟩
        refine ⟨_,rfl,_,.int,rfl,rfl,_,rfl,_,.int,rfl,rfl,rfl,_,rfl,iteDT' rfl ⟨_,rfl,_,rfl,rfl,?_⟩⟩
        rw [decide_eq_true rfl]
        exact k _ (Same.refl _)
      | str z =>
        refine ⟨_,rfl,_,.str,rfl,rfl,_,rfl,iteF ⟨_,rfl,_,.str,rfl,rfl,_,rfl,iteF ?_⟩⟩
        refine ⟨_,rfl,rfl,_,rfl,iteF ⟨_,rfl,rfl,_,rfl,iteF ?_⟩⟩
        refine ⟨_,rfl,_,.str,rfl,rfl,_,rfl,_,.str,rfl,rfl,rfl,_,rfl,iteNS rfl ⟨_,rfl,_,.str,rfl,rfl,_,rfl,_,.str,rfl,rfl,rfl,_,rfl,iteNS rfl ?_⟩⟩
        refine ⟨_,rfl,_,.str,rfl,rfl,_,rfl,_,.str,rfl,rfl,rfl,_,rfl,iteDT' rfl ⟨_,rfl,_,rfl,rfl,?_⟩⟩
        rw [decide_eq_true rfl]
        exact k _ (Same.refl _)
      | @tup _ a b xs ys ha hb hl hz h =>
        have la:isTy K (.ref a) H .tuple:=.inr ⟨rfl,_,ha⟩
        have lb:isTy K (.ref b) H .tuple:=.inr ⟨rfl,_,hb⟩
        refine ⟨_,rfl,_,.tuple,rfl,lb,_,rfl,iteF ⟨_,rfl,_,.tuple,rfl,lb,_,rfl,iteT ?_⟩⟩
        refine ⟨_,rfl,_,.tuple,rfl,la,_,rfl,_,.tuple,rfl,lb,rfl,_,rfl,iteNS rfl ⟨_,rfl,_,.tuple,rfl,la,_,rfl,_,.tuple,rfl,lb,rfl,_,rfl,iteNS rfl ?_⟩⟩
        refine ⟨_,rfl,a,_,rfl,.inr ha,_,rfl,b,_,rfl,.inr hb,rfl,_,rfl,?_⟩
        rw [dec_ii]
        refine iteDT' (by rw [hl]) ?_
        refine ⟨_,rfl,_,rfl,a,b,rfl,⟨_,ha⟩,⟨_,hb⟩,?_⟩
        refine compZK (k1:=true) (k2:=true) (K:=K) (a:=a) (b:=b) (xs:=xs) (zs:=ys) (fun i zs H1=>Same H H1∧zs=List.replicate i (V.bl true)) ⟨Same.refl _,rfl⟩ hl ?_ (small1000' hz) ?_ ?_
        · rintro i zs H1 hi ⟨s1,rfl⟩
          exact ⟨s1.sqT ha,s1.sqT hb,List.length_replicate⟩
        · rintro i x z zs H1 U R hx hz' ⟨s1,rfl⟩ hU kR
          have s2:=s1.trans (same_upd (o:=.tup [x,z]) hU)
          refine ⟨U,_,rfl,SqT.of upd_same,rfl,_,_,rfl,_,_,rfl,rfl,StLe.trans (StLe.set rfl) (StLe.set rfl),_,rfl,_,rfl,x,z,rfl,(h i x z hx hz').same s2,fun H3 s3=>?_⟩
          exact kR _ _ ⟨s2.trans s3,List.replicate_succ'.symm⟩
        · rintro zs H1 ⟨s1,rfl⟩ l hl'
          refine ⟨l,_,rfl,SqL.of upd_same,fun y hy=>?_,?_⟩
          · rw [(List.mem_replicate.mp hy).2]
            rfl
          · rw [all_true]
            exact k _ (s1.trans (same_upd hl'))
end
end KX
namespace KX
open PySem L2 PyProof.Rows K01 KW TX
theorem upd_at {H:Hp} {p:Addr} {o:HO} (h:H p=none):upd H p o p=some o:=upd_same
theorem let_at:∀ k:Nat,k < 26→(Str.ofString "abcdefghijklmnopqrstuvwxyz").cps.toList[k]?=some (97 + k):=by decide +kernel
theorem let_atI {n:Int} (h0:0≤n) (h1:n < 26):atI (Str.ofString "abcdefghijklmnopqrstuvwxyz").cps.toList n=some (97 + n.toNat):=by
  have h:=atI_nat (let_at n.toNat (by omega))
  rwa [Int.toNat_of_nonneg h0] at h
theorem s_empty:(Str.ofString "").cps.toList=[]:=by decide +kernel
theorem join_none:∀ cs:List Nat,(Str.join (Str.ofString "") (cs.map fun c=>(⟨#[c]⟩:Str))).cps.toList=cs
  | []=>rfl
  | [c]=>rfl
  | c :: d :: r=>by
    show ((⟨#[c]⟩ ++ Str.ofString "") ++ Str.join (Str.ofString "") ((d :: r).map fun c=>(⟨#[c]⟩:Str))).cps.toList=_
    rw [app_toList,app_toList,s_empty,join_none (d :: r)]
    rfl
def nameOf (rs:List Int):Str:=Txt.join (Str.ofString "") (rs.map fun z=>(⟨#[97 + z.toNat]⟩:Str))
theorem nameOf_list (rs:List Int):(nameOf rs).cps.toList=rs.map fun z=>97 + z.toNat:=by
  have e:nameOf rs=Str.join (Str.ofString "") (rs.map fun z=>(⟨#[97 + z.toNat]⟩:Str)):=StrLaws.glued_eq_join _ _
  rw [e]
  have:=join_none (rs.map fun z=>97 + z.toNat)
  rwa [List.map_map] at this
theorem nameOf_name {rs:List Int} (h1:1≤rs.length) (h8:rs.length≤8) (h:∀ z∈rs,0≤z∧z < 26):Name (nameOf rs):=by
  have l:(nameOf rs).length=rs.length:=by rw [← len_list,nameOf_list,List.length_map]
  refine ⟨by omega,by omega,fun c hc=>?_⟩
  rw [nameOf_list] at hc
  obtain ⟨z,hz,rfl⟩:=List.mem_map.mp hc
  have:=h z hz
  omega
theorem cut_take {xs:List V} {j:Nat} (h:j≤xs.length):cutV xs none (some (j:Int))=xs.take j:=by
  unfold cutV
  rw [HT.sIx_none,HT.sIx_nat,Nat.min_eq_left h]
  simp
theorem cut_drop {xs:List V} {j:Nat} (h:j≤xs.length):cutV xs (some (j:Int)) none=xs.drop j:=by
  unfold cutV
  rw [HT.sIx_none,HT.sIx_nat,Nat.min_eq_left h]
  exact List.take_of_length_le (by rw [List.length_drop]; exact Nat.le_refl _)
theorem fmod_nat (i a:Nat):((0:Int) + (i:Int)).fmod ((a:Int) + 1)=((i % (a + 1):Nat):Int):=by
  rw [Int.zero_add,Int.fmod_eq_emod_of_nonneg _ (by omega)]
  simp
section
variable {P:Program} {w:World} {K:PySem.W.Frag} {mg:Str→Option Value} {base:Heap}
def spTenNames:Sp:=fun vs H Q _=>∃ B S:Addr,vs=[.ref B]∧Box H B S∧∀ (ns:List Str) (l:Addr) (H':Hp),ns.length=10→(∀ z∈ns,Name z)→Box H' B S→But B H H'→H l=none→H' l=some (.lst (ns.map V.str))→l≠B→Q (.ref l) H'
theorem scTenNames:FnScope ["_law_box_here","_law_size","_law_base","_law_at","_law_letters","_law_start","_law_found","_law_k","_law_row"] ["_law_box_here"] (defScope (top 36)):=⟨rfl,rfl,rfl,by decide +kernel,rfl,by decide +kernel,by decide +kernel⟩
set_option maxHeartbeats 8000000 in
theorem ok_tenNames {f:Addr} {fd:FuncData} (F:FnAt K mg "_law_ten_names" "_law_ten_names" (top 36) .none f fd) (T:KW.Txt mg)
    {f__law_take:Addr} {d__law_take:FuncData} (A__law_take:FnAt K mg "_law_take" "_law_take" (top 34) .none f__law_take d__law_take) (b__law_take:L2.Binds K d__law_take ["_law_box_here","_law_many"] []) (G__law_take:FnOk P w K mg base CX0 2 f__law_take d__law_take ["_law_box_here","_law_many"] (spTake)):FnOk P w K mg base CX0 3 f fd ["_law_box_here"] spTenNames:=by
  have nd:=scTenNames.nd
  refine F.ok scTenNames (fun vs H Q E h=>?_) (fun cdv A outer s H vs Q E hr h=>?_)
  · obtain ⟨B,S,rfl,_⟩:=h
    rfl
  · obtain ⟨B,S,rfl,bx,k⟩:=h
    refine ⟨_,(pss_cons (ps_set (i:=1) nd rfl (Or.inl rfl) (pe_call (G__law_take.mono (by decide)) hr rfl A__law_take.mg A__law_take.kp b__law_take .nil pass0 (pa_cons (pv 0) (pa_cons pe_int pa_nil))))
      (pss_cons (ps_setComp (i:=2) nd rfl (Or.inl rfl) rfl (by rfl) (compOk (N:=["_law_k","_law_box_here"]) (ix:=[none,some 0])) (pi_range1 (by rfl) T.n_range (pa_cons (pv 1) pa_nil)) (by intro _ _ _ _ _; exact PG.to (pg_name (i:=0) (show (["_law_k","_law_box_here"]:List Str).Nodup by decide +kernel) rfl (Or.inl rfl)) (by (try simp only [inX_K]); rfl)) (by intro _ _ _ _ _; exact PE.to (pe_call (G__law_take.mono (by decide)) hr rfl A__law_take.mg A__law_take.kp b__law_take .nil pass0 (pa_cons (pv 1) (pa_cons pe_int pa_nil))) (by (try simp only [inX_K]); rfl)))
      (pss_cons (ps_set (i:=3) nd rfl (Or.inl rfl) (pe_call (G__law_take.mono (by decide)) hr rfl A__law_take.mg A__law_take.kp b__law_take .nil pass0 (pa_cons (pv 0) (pa_cons (pe_op op_add (pv 1) pe_int) pa_nil))))
      (pss_cons (ps_set (i:=4) nd rfl (Or.inr rfl) pe_str)
      (pss_cons (ps_set (i:=5) nd rfl (Or.inl rfl) (pe_call (G__law_take.mono (by decide)) hr rfl A__law_take.mg A__law_take.kp b__law_take .nil pass0 (pa_cons (pv 0) (pa_cons pe_int pa_nil))))
      (pss_cons (ps_set (i:=6) nd rfl (Or.inl rfl) (pe_lst pa_nil))
      (pss_cons (ps_for PassesOwn.never rfl (pi_range1 (by rfl) T.n_range (pa_cons pe_int pa_nil)) (pg_name (i:=7) nd rfl (Or.inl rfl)) (pss_cons (ps_set (i:=8) nd rfl (Or.inl rfl) (pe_slice sl_list (pe_op (op_cat) (pe_op (op_cat) (pe_slice sl_list (pv 2) po_none (po_some (pv 3))) (pe_lst (pa_cons (pe_op op_modN (pe_op op_add (pv 5) (pv 7)) pe_int) pa_nil))) (pe_slice sl_list (pv 2) (po_some (pv 3)) po_none)) (po_some (pe_op op_modN (pv 7) (pe_op op_add (pv 3) pe_int))) po_none))
      (pss_one (ps_expr (pe_bm PySem.F.plainAttrs_list PySem.F.slot_list_append PySem.F.type_list_append mt_append (pv 6) (pa_cons (pe_bm PySem.F.plainAttrs_str PySem.F.slot_str_join PySem.F.type_str_join mt_join pe_str (pa_cons (pe_comp (by rfl) (compOk (N:=["_law_one","_law_letters"]) (ix:=[none,some 4])) (pi_list (pv 8)) (by intro _ _ _ _ _; exact PG.to (pg_name (i:=0) (show (["_law_one","_law_letters"]:List Str).Nodup by decide +kernel) rfl (Or.inl rfl)) (by (try simp only [inX_K]); rfl)) (by intro _ _ _ _ _; exact PE.to (pe_ix ix_str (pv 1) (pv 0) (fun _ _=>rfl)) (by (try simp only [inX_K]); rfl))) pa_nil)) pa_nil))))))
      (pss_one (ps_ret (pv 6)))))))))),?_⟩
    refine ⟨_,rfl,B,S,_,rfl,bx,by decide,by decide,fun r H1 r0 r1 bx1 b1=>?_⟩
    obtain ⟨n,rfl⟩:=Int.eq_ofNat_of_zero_le r0
    refine ⟨_,rfl,n,rfl,by omega,by omega,?_⟩
    rw [Int.toNat_natCast]
    refine compR (lo:=0) (n:=n) (fun i ys H2=>∃ ns:List Int,ys=ns.map V.int∧ns.length=i∧(∀ z∈ns,0≤z∧z < 26)∧Box H2 B S∧But B H H2) ⟨[],rfl,rfl,fun _ h=>absurd h (by simp),bx1,b1⟩ ?_ (small1000' (by omega)) ?_ ?_
    · rintro i ys H2 hi ⟨ns,rfl,hl,_⟩
      rw [List.length_map,hl]
    · rintro i ys H2 R hi ⟨ns,rfl,hl,hn,bx2,b2⟩ kR
      refine ⟨StLe.set rfl,_,rfl,B,S,_,rfl,bx2,by decide,by decide,fun r H3 r0 r1 bx3 b3=>kR _ _ ⟨ns ++ [r],by simp,by simp [hl],fun z hz=>?_,bx3,b2.trans b3⟩⟩
      rcases List.mem_append.mp hz with hz | hz
      · exact hn z hz
      · rw [List.mem_singleton.mp hz]
        exact ⟨r0,r1⟩
    · rintro ys H2 ⟨bs,rfl,hl,hn,bx2,b2⟩ L hL
      have s3:=same_upd (o:=.lst (bs.map V.int)) hL
      have nLB:L≠B:=bx2.at hL
      have fL:H L=none:=b2.free hL nLB
      have hL3:upd H2 L (.lst (bs.map V.int)) L=some (.lst (bs.map V.int)):=upd_same
      have bx3:=bx2.but s3
      have b3:=b2.trans s3.but
      generalize upd H2 L (.lst (bs.map V.int))=H3 at *
      refine ⟨_,rfl,_,rfl,_,_,rfl,rfl,B,S,_,rfl,bx3,by omega,Nat.lt_of_le_of_lt (show ((n:Int) + 1).natAbs≤20001 by omega) (by decide),fun r H4 r0 r1' bx4 b4=>?_⟩
      obtain ⟨a,rfl⟩:=Int.eq_ofNat_of_zero_le r0
      have hL4:=b4 _ _ hL3 nLB
      refine ⟨_,rfl,B,S,_,rfl,bx4,by decide,by decide,fun st H5 t0 t1 bx5 b5=>?_⟩
      have hL5:=b5 _ _ hL4 nLB
      refine ⟨by decide,fun G hG=>?_⟩
      have b6:=b3.trans (b4.trans b5)
      have s7:=same_upd (o:=.lst []) hG
      have nGB:G≠B:=bx5.at hG
      have fG:H G=none:=b6.free hG nGB
      have nLG:L≠G:=ne_of_none hL5 hG
      refine ⟨10,rfl,by decide,by decide,for_range (lo:=0) (n:=10) (fun i σ H8=>Box H8 B S∧But B H H8∧H8 L=some (.lst (bs.map V.int))∧(∃ ns:List Str,H8 G=some (.lst (ns.map V.str))∧ns.length=i∧∀ z∈ns,Name z)∧∃ v7 v8:Option V,σ=[some (.ref B),some (.int n),some (.ref L),some (.int a),some (.str (Str.ofString "abcdefghijklmnopqrstuvwxyz")),some (.int st),some (.ref G),v7,v8])
        ⟨bx5.but s7,b6.trans s7.but,s7 _ _ hL5,⟨[],upd_same,rfl,fun _ h=>absurd h (by simp)⟩,none,none,rfl⟩ ?_ ?_⟩
      · rintro i σ H8 hi ⟨bx8,b8,hL8,⟨ns,hG8,hns,hnm⟩,v7,v8,rfl⟩
        have hbl:(bs.map V.int).length=n:=by rw [List.length_map,hl]
        refine ⟨_,rfl,_,rfl,(a:Int),rfl,L,_,rfl,SqL.of hL8,fun p1 hp1=>?_⟩
        rw [cut_take (by omega)]
        have s1:=same_upd (o:=.lst ((bs.map V.int).take a)) hp1
        refine ⟨_,rfl,_,rfl,_,_,rfl,rfl,_,_,rfl,rfl,nz (by decide),(show 1≤sizeLine by decide),fun p2 hp2=>?_⟩
        have fm:=fmod_pos (a:=st + (0 + (i:Int))) (b:=26) (by decide)
        dsimp only
        generalize (st + (0 + (i:Int))).fmod 26=c at *
        have s2:=same_upd (o:=.lst [V.int c]) hp2
        refine ⟨p1,p2,_,_,rfl,rfl,s2 _ _ upd_same,upd_same,small1000' (by rw [List.length_take,hbl]; simp; omega),fun p3 hp3=>?_⟩
        have s3':=same_upd (o:=.lst ((bs.map V.int).take a ++ [V.int c])) hp3
        refine ⟨_,rfl,_,rfl,(a:Int),rfl,L,_,rfl,SqL.of ((s1.trans (s2.trans s3')) _ _ hL8),fun p4 hp4=>?_⟩
        rw [cut_drop (by omega)]
        have s4:=same_upd (o:=.lst ((bs.map V.int).drop a)) hp4
        refine ⟨p3,p4,_,_,rfl,rfl,s4 _ _ upd_same,upd_same,small1000' (by rw [List.length_append,List.length_take,List.length_drop,hbl]; simp; omega),fun p5 hp5=>?_⟩
        have s5:=same_upd (o:=.lst ((bs.map V.int).take a ++ [V.int c] ++ (bs.map V.int).drop a)) hp5
        have eX:(bs.map V.int).take a ++ [V.int c] ++ (bs.map V.int).drop a=(bs.take a ++ [c] ++ bs.drop a).map V.int:=by simp
        refine ⟨_,rfl,_,rfl,_,_,rfl,rfl,_,_,rfl,rfl,nz (by omega),_,rfl,p5,_,rfl,SqL.of upd_same,fun p6 hp6=>?_⟩
        have hj:i % (a + 1) < a + 1:=Nat.mod_lt _ (by omega)
        have hXl:(bs.take a ++ [c] ++ bs.drop a).length=n + 1:=by simp; omega
        have hXm:∀ z∈bs.take a ++ [c] ++ bs.drop a,0≤z∧z < 26:=fun z hz=>by
          rcases List.mem_append.mp hz with hz | hz
          · rcases List.mem_append.mp hz with hz | hz
            · exact hn z (List.mem_of_mem_take hz)
            · rw [List.mem_singleton.mp hz]; exact fm
          · exact hn z (List.mem_of_mem_drop hz)
        have eR:cutV ((bs.map V.int).take a ++ [V.int c] ++ (bs.map V.int).drop a) (some (((0:Int) + (i:Int)).fmod ((a:Int) + 1))) none=((bs.take a ++ [c] ++ bs.drop a).drop (i % (a + 1))).map V.int:=by
          rw [eX,fmod_nat,cut_drop (by rw [List.length_map,hXl]; omega),List.map_drop]
        rw [eR]
        have hRl:((bs.take a ++ [c] ++ bs.drop a).drop (i % (a + 1))).length=n + 1 - i % (a + 1):=by rw [List.length_drop,hXl]
        have hRm:∀ z∈(bs.take a ++ [c] ++ bs.drop a).drop (i % (a + 1)),0≤z∧z < 26:=fun z hz=>hXm z (List.mem_of_mem_drop hz)
        generalize (bs.take a ++ [c] ++ bs.drop a).drop (i % (a + 1))=rs at *
        have s6:=same_upd (o:=.lst (rs.map V.int)) hp6
        have sA:Same H8 _:=s1.trans (s2.trans (s3'.trans (s4.trans (s5.trans s6))))
        have hp:=upd_at (o:=.lst (rs.map V.int)) hp6
        have hG9:=sA _ _ hG8
        refine ⟨_,rfl,.inl ⟨rfl,_,SqL.of hG9⟩,rfl,_,rfl,p6,rfl,⟨_,SqL.of hp⟩,?_⟩
        refine compL (K:=K) (a:=p6) (xs:=rs.map V.int) (fun i ys H1=>Same H8 H1∧H1 p6=some (.lst (rs.map V.int))∧ys=((rs.map fun z=>(⟨#[97 + z.toNat]⟩:Str)).take i).map V.str) ⟨sA,hp,rfl⟩ ?_ (by rw [List.length_map]; exact small1000' (by omega)) ?_ ?_
        · rintro i ys H1 hi ⟨sA,hp,rfl⟩
          rw [List.length_map] at hi
          exact ⟨SqL.of hp,by simp; omega⟩
        · rintro i x ys H1 R hx ⟨sA,hp,rfl⟩ kR
          obtain ⟨z,hz,rfl⟩:=getI_map hx
          have zb:=hRm z (List.mem_of_getElem? hz)
          refine ⟨StLe.set rfl,_,rfl,_,rfl,_,z,_,rfl,rfl,by decide,let_atI zb.1 zb.2,kR _ _ ⟨sA,hp,?_⟩⟩
          rw [take_succ' (xs:=rs.map fun z=>(⟨#[97 + z.toNat]⟩:Str)) (x:=⟨#[97 + z.toNat]⟩) (by rw [List.getElem?_map,hz]; rfl)]
          simp
        · rintro ys H1 ⟨sA,hp,rfl⟩ m hm
          rw [List.length_map,List.take_of_length_le (by simp)]
          have sz:=StrLaws.sumLen_le (B:=1) (rs.map fun z=>(⟨#[97 + z.toNat]⟩:Str)) (fun y hy=>by obtain ⟨n,hn,rfl⟩:=List.mem_map.mp hy; exact Nat.le_refl 1)
          rw [List.length_map] at sz
          have sB:=same_upd (o:=.lst ((rs.map fun z=>(⟨#[97 + z.toNat]⟩:Str)).map V.str)) hm
          refine ⟨_,m,rs.map fun z=>(⟨#[97 + z.toNat]⟩:Str),rfl,rfl,SqL.of upd_same,?_,?_⟩
          · rw [show (Str.ofString "").length=0 by decide +kernel,Nat.mul_zero]
            omega
          · refine ⟨G,_,_,rfl,rfl,sB _ _ (sA _ _ hG8),small1000 (by rw [List.length_map]; omega),?_⟩
            have sC:=sA.trans sB
            refine ⟨(bx8.but sC).keep (fun o e=>?_) (fun o e=>?_),fun c o e h=>?_,?_,⟨ns ++ [nameOf rs],?_,by simp [hns],fun z hz=>?_⟩,_,_,rfl⟩
            · rw [upd_ne nGB.symm]; exact e
            · rw [upd_ne (bx5.at2 hG).symm]; exact e
            · rw [upd_ne (ne_of_none e fG)]; exact sC _ _ (b8 c o e h)
            · rw [upd_ne nLG]; exact sC _ _ hL8
            · rw [upd_same,List.map_append]; rfl
            · rcases List.mem_append.mp hz with hz | hz
              · exact hnm z hz
              · rw [List.mem_singleton.mp hz]
                exact nameOf_name (by omega) (by omega) hRm
      · rintro σ H8 ⟨bx8,b8,hL8,⟨ns,hG8,hns,hnm⟩,v7,v8,rfl⟩
        exact ⟨_,rfl,k ns G H8 hns hnm bx8 b8 fG hG8 nGB⟩
end
end KX
namespace KX
open PySem L2 PyProof.Rows K01 KW TX
theorem kind_name {p:Part} (h:kindP p=Str.ofString "name"):∃ z,p=.name z:=by
  cases p with
  | name z=>exact ⟨z,rfl⟩
  | face ns=>exact absurd (show Str.ofString "face" = Str.ofString "name" from h) (by decide +kernel)
  | num n=>exact absurd (show Str.ofString "number" = Str.ofString "name" from h) (by decide +kernel)
  | nums ns=>exact absurd (show Str.ofString "numbers" = Str.ofString "name" from h) (by decide +kernel)
theorem kind_face {p:Part} (h:kindP p=Str.ofString "face"):∃ z,p=.face z:=by
  cases p with
  | name z=>exact absurd (show Str.ofString "name" = Str.ofString "face" from h) (by decide +kernel)
  | face ns=>exact ⟨ns,rfl⟩
  | num n=>exact absurd (show Str.ofString "number" = Str.ofString "face" from h) (by decide +kernel)
  | nums ns=>exact absurd (show Str.ofString "numbers" = Str.ofString "face" from h) (by decide +kernel)
theorem kind_num {p:Part} (h:kindP p=Str.ofString "number"):∃ z,p=.num z:=by
  cases p with
  | name z=>exact absurd (show Str.ofString "name" = Str.ofString "number" from h) (by decide +kernel)
  | face ns=>exact absurd (show Str.ofString "face" = Str.ofString "number" from h) (by decide +kernel)
  | num n=>exact ⟨n,rfl⟩
  | nums ns=>exact absurd (show Str.ofString "numbers" = Str.ofString "number" from h) (by decide +kernel)
theorem kind_nums {p:Part} (h:kindP p=Str.ofString "numbers"):∃ z,p=.nums z:=by
  cases p with
  | name z=>exact absurd (show Str.ofString "name" = Str.ofString "numbers" from h) (by decide +kernel)
  | face ns=>exact absurd (show Str.ofString "face" = Str.ofString "numbers" from h) (by decide +kernel)
  | num n=>exact absurd (show Str.ofString "number" = Str.ofString "numbers" from h) (by decide +kernel)
  | nums ns=>exact ⟨ns,rfl⟩
theorem kinds1 {ps:List Part} (h:ps.map kindP=[Str.ofString "name"]):∃ z,ps=[.name z]:=by
  obtain ⟨p,r,rfl,h1,k1⟩:=List.map_eq_cons_iff.mp h
  obtain ⟨z,rfl⟩:=kind_name h1
  have e:=List.map_eq_nil_iff.mp k1
  subst e
  exact ⟨z,rfl⟩
theorem kinds2 {ps:List Part} (h:ps.map kindP=[Str.ofString "name",Str.ofString "face"]):∃ z ns,ps=[.name z,.face ns]:=by
  obtain ⟨p,r,rfl,h1,k1⟩:=List.map_eq_cons_iff.mp h
  obtain ⟨p,r,rfl,h2,k2⟩:=List.map_eq_cons_iff.mp k1
  obtain ⟨z,rfl⟩:=kind_name h1
  obtain ⟨ns,rfl⟩:=kind_face h2
  have e:=List.map_eq_nil_iff.mp k2
  subst e
  exact ⟨z,ns,rfl⟩
theorem kinds6 {ps:List Part} (h:ps.map kindP=[Str.ofString "name",Str.ofString "name",Str.ofString "name",Str.ofString "number",Str.ofString "number",Str.ofString "numbers"]):∃ x y z m n ns,ps=[.name x,.name y,.name z,.num m,.num n,.nums ns]:=by
  obtain ⟨p,r,rfl,h1,k1⟩:=List.map_eq_cons_iff.mp h
  obtain ⟨p,r,rfl,h2,k2⟩:=List.map_eq_cons_iff.mp k1
  obtain ⟨p,r,rfl,h3,k3⟩:=List.map_eq_cons_iff.mp k2
  obtain ⟨p,r,rfl,h4,k4⟩:=List.map_eq_cons_iff.mp k3
  obtain ⟨p,r,rfl,h5,k5⟩:=List.map_eq_cons_iff.mp k4
  obtain ⟨p,r,rfl,h6,k6⟩:=List.map_eq_cons_iff.mp k5
  obtain ⟨x,rfl⟩:=kind_name h1
  obtain ⟨y,rfl⟩:=kind_name h2
  obtain ⟨z,rfl⟩:=kind_name h3
  obtain ⟨m,rfl⟩:=kind_num h4
  obtain ⟨n,rfl⟩:=kind_num h5
  obtain ⟨ns,rfl⟩:=kind_nums h6
  have e:=List.map_eq_nil_iff.mp k6
  subst e
  exact ⟨x,y,z,m,n,ns,rfl⟩
def words1:List Str:=["begin","drop","forget"]
def words2:List Str:=["put","take","finer","lesser"]
theorem good_cases {d:Deed} (g:GoodD d):(d.1∈words1∧∃ z,d.2=[.name z])∨(d.1∈words2∧∃ z ns,d.2=[.name z,.face ns])∨(d.1=Str.ofString "keep" ∧ ∃ x y z m n ns,d.2=[.name x,.name y,.name z,.num m,.num n,.nums ns]):=by
  have all:∀ x∈forms,(x.1∈words1∧x.2=[Str.ofString "name"])∨(x.1∈words2∧x.2=[Str.ofString "name",Str.ofString "face"])∨(x.1=Str.ofString "keep" ∧ x.2=[Str.ofString "name",Str.ofString "name",Str.ofString "name",Str.ofString "number",Str.ofString "number",Str.ofString "numbers"]):=by decide +kernel
  rcases all _ g.1 with ⟨h1,h2⟩ | ⟨h1,h2⟩ | ⟨h1,h2⟩
  · exact .inl ⟨h1,kinds1 h2⟩
  · exact .inr (.inl ⟨h1,kinds2 h2⟩)
  · exact .inr (.inr ⟨h1,kinds6 h2⟩)
theorem join2 (x y:Str):Txt.join ⟨#[32]⟩ [x,y]=x ++ Str.ofString " " ++ y:=by
  have e:Txt.join ⟨#[32]⟩ [x,y]=Str.join ⟨#[32]⟩ [x,y]:=StrLaws.glued_eq_join _ _
  rw [e,s_blank]
  rfl
theorem join3 (x y z:Str):Txt.join ⟨#[32]⟩ [x,y,z]=x ++ Str.ofString " " ++ y ++ Str.ofString " " ++ z:=by
  have e:Txt.join ⟨#[32]⟩ [x,y,z]=Str.join ⟨#[32]⟩ [x,y,z]:=StrLaws.glued_eq_join _ _
  rw [e,s_blank]
  apply str_ext
  show ((x ++ ⟨#[32]⟩) ++ ((y ++ ⟨#[32]⟩) ++ z)).cps.toList=_
  simp only [app_toList,List.append_assoc]
section
variable {P:Program} {w:World} {K:PySem.W.Frag} {mg:Str→Option Value} {base:Heap}
theorem scRowText:FnScope ["_law_numbers"] ["_law_numbers"] (defScope (top 37)):=⟨rfl,rfl,rfl,by decide +kernel,rfl,by decide +kernel,by decide +kernel⟩
set_option maxHeartbeats 4000000 in
theorem ok_rowText {f:Addr} {fd:FuncData} (F:FnAt K mg "_law_row_text" "_law_row_text" (top 37) .none f fd) (T:KW.Txt mg):FnOk P w K mg base CX0 1 f fd ["_law_numbers"] (spNumbersText K):=by
  have nd:=scRowText.nd
  refine F.ok scRowText (fun vs H Q E h=>?_) (fun cdv A outer s H vs Q E hr h=>?_)
  · obtain ⟨a,k,rfl,_⟩:=h
    rfl
  · obtain ⟨a,ns,rfl,ha,h6,hb,q⟩:=h
    refine ⟨_,(pss_one (ps_ret (pe_ifExp (pt_cmpR op_gt (pe_callB call_len_seq (by rfl) T.n_len PySem.boot_len (pa_cons (pv 0) pa_nil)) pe_int (nomark _)) (pe_bm PySem.F.plainAttrs_str PySem.F.slot_str_join PySem.F.type_str_join mt_join pe_str (pa_cons (pe_comp (by rfl) (compOk (N:=["_law_number"]) (ix:=[none])) (pi_tup (pv 0)) (by intro _ _ _ _ _; exact PG.to (pg_name (i:=0) (show (["_law_number"]:List Str).Nodup by decide +kernel) rfl (Or.inl rfl)) (by (try simp only [inX_K]); rfl)) (by intro _ _ _ _ _; exact PE.to (pe_callTy call_str_int (by rfl) T.n_str boot_str (pa_cons (pv 0) pa_nil)) (by (try simp only [inX_K]); rfl))) pa_nil)) pe_str))),?_⟩
    have hl:(ns.map V.int).length=ns.length:=List.length_map ..
    refine ⟨_,rfl,a,_,rfl,.inr ha,_,_,rfl,rfl,_,rfl,?_⟩
    rw [hl]
    cases ns with
    | nil =>
      refine iteF ?_
      show Q (.str (Str.ofString "-")) _
      rw [s_minus]
      exact q _ (Same.refl _)
    | cons n0 nr =>
      refine iteDT' (by rw [List.length_cons]; omega) ?_
      rw [show textP (.nums (n0 :: nr))=joinN 44 (n0 :: nr) from rfl] at q
      generalize n0 :: nr=ns at *
      refine ⟨rfl,_,rfl,a,rfl,⟨_,ha⟩,?_⟩
      refine compTu (K:=K) (a:=a) (xs:=ns.map V.int) (fun i ys H1=>H1=H∧ys=((ns.map tn).take i).map V.str) ⟨rfl,rfl⟩ ?_ (by rw [hl]; exact small1000' (by omega)) ?_ ?_
      · rintro i ys H1 hi ⟨rfl,rfl⟩
        rw [hl] at hi
        exact ⟨ha,by simp; omega⟩
      · rintro i x ys H1 R hx ⟨rfl,rfl⟩ kR
        obtain ⟨n,hn,rfl⟩:=getI_map hx
        refine ⟨StLe.set rfl,_,rfl,n,rfl,log_30 (hb n (List.mem_of_getElem? hn)),?_⟩
        refine kR _ _ ⟨rfl,?_⟩
        rw [take_succ' (xs:=ns.map tn) (x:=tn n) (by rw [List.getElem?_map,hn]; rfl)]
        simp
        rfl
      · rintro ys H1 ⟨rfl,rfl⟩ l hl'
        rw [hl,List.take_of_length_le (by simp)]
        have z:=sum_tn hb
        refine ⟨_,l,ns.map tn,rfl,rfl,SqL.of upd_same,?_,?_⟩
        · show ((ns.map tn).map (·.length)).sum + (ns.map tn).length * (Str.ofString ",").length≤16777216
          rw [s_comma,List.length_map]
          show _ + ns.length * 1≤_
          omega
        · rw [s_comma]
          exact q _ (same_upd hl')
end
end KX
namespace KX
open PySem L2 PyProof.Rows K01 KW TX
theorem PartsAt.nil {K:PySem.W.Frag} {H:Hp} {xs:List V} (h:PartsAt K H xs []):xs=[]:=List.eq_nil_of_length_eq_zero h.1
theorem PartsAt.cons {K:PySem.W.Frag} {H:Hp} {xs:List V} {p:Part} {ps:List Part} (h:PartsAt K H xs (p :: ps)):∃ x r,xs=x :: r∧PartAt K H x p∧PartsAt K H r ps:=by
  cases xs with
  | nil=>exact absurd h.1 (by simp)
  | cons x r=>exact ⟨x,r,rfl,h.2 0 x p rfl rfl,by have:=h.1; simpa using this,fun i v q hv hq=>h.2 (i + 1) v q (by simpa using hv) (by simpa using hq)⟩
theorem in1:∀ x∈words1,inV (.str x) [V.str (Str.ofString "begin"),V.str (Str.ofString "drop"),V.str (Str.ofString "forget")]=true:=by decide +kernel
theorem in2:∀ x∈words2,inV (.str x) [V.str (Str.ofString "begin"),V.str (Str.ofString "drop"),V.str (Str.ofString "forget")]=false:=by decide +kernel
theorem ne1:∀ x∈words1,x≠Str.ofString "keep" := by decide +kernel
theorem ne2:∀ x∈words2,x≠Str.ofString "keep" := by decide +kernel
theorem add_len {x y:Str} {a b:Nat} (h1:x.length≤a) (h2:y.length≤b):(x ++ y).length≤a + b:=by rw [Str.length_append]; omega
section
variable {P:Program} {w:World} {K:PySem.W.Frag} {mg:Str→Option Value} {base:Heap}
theorem scLawText:FnScope ["_law_deed"] ["_law_deed"] (defScope (top 38)):=⟨rfl,rfl,rfl,by decide +kernel,rfl,by decide +kernel,by decide +kernel⟩
set_option maxHeartbeats 4000000 in
theorem ok_lawText1 {f:Addr} {fd:FuncData} (F:FnAt K mg "_law_text" "_law_text" (top 38) .none f fd) (T:KW.Txt mg)
    {f__law_row_text:Addr} {d__law_row_text:FuncData} (A__law_row_text:FnAt K mg "_law_row_text" "_law_row_text" (top 37) .none f__law_row_text d__law_row_text) (b__law_row_text:L2.Binds K d__law_row_text ["_law_numbers"] []) (G__law_row_text:FnOk P w K mg base CX0 1 f__law_row_text d__law_row_text ["_law_numbers"] (spNumbersText K)):FnOk P w K mg base CX0 2 f fd ["_law_deed"] (spPlainText K):=by
  have nd:=scLawText.nd
  refine F.ok scLawText (fun vs H Q E h=>?_) (fun cdv A outer s H vs Q E hr h=>?_)
  · obtain ⟨v,d,rfl,_⟩:=h
    rfl
  · obtain ⟨v,⟨wd,ps⟩,rfl,⟨a,xs,rfl,ha,hp⟩,g,q⟩:=h
    have w6:wd.length≤6:=good_word g
    have sb:(Str.ofString " ").length≤1:=by decide +kernel
    have gp:=g.2
    have nb:wd≠Str.ofString "bundle" := word_ne g
    refine ⟨_,(pss_cons (ps_if (pt_cmpR op_eq (pe_ix ix_tup (pv 0) pe_int (fun _ _=>rfl)) pe_str (nomark _)) (pss_one ps_never) pss_nil)
      (pss_cons (ps_if (pt_cmpR op_eq (pe_ix ix_tup (pv 0) pe_int (fun _ _=>rfl)) pe_str (nomark _)) (pss_one (ps_ret (pe_bm PySem.F.plainAttrs_str PySem.F.slot_str_join PySem.F.type_str_join mt_join pe_str (pa_cons (pe_op (op_cat) (pe_comp (by rfl) (compOk (N:=["_law_thing"]) (ix:=[none])) (pi_tup (pe_slice sl_tup (pv 0) po_none (po_some pe_int))) (by intro _ _ _ _ _; exact PG.to (pg_name (i:=0) (show (["_law_thing"]:List Str).Nodup by decide +kernel) rfl (Or.inl rfl)) (by (try simp only [inX_K]); rfl)) (by intro _ _ _ _ _; exact PE.to (pe_callTy (call_str_int.or call_str_text) (by rfl) T.n_str boot_str (pa_cons (pv 0) pa_nil)) (by (try simp only [inX_K]); rfl))) (pe_lst (pa_cons (pe_call (G__law_row_text.mono (by decide)) hr rfl A__law_row_text.mg A__law_row_text.kp b__law_row_text .nil pass0 (pa_cons (pe_ix ix_tup (pv 0) pe_int (fun _ _=>rfl)) pa_nil)) pa_nil))) pa_nil)))) pss_nil)
      (pss_cons (ps_if (pt_cmpR (op_in_seq) (pe_ix ix_tup (pv 0) pe_int (fun _ _=>rfl)) (pe_tup (pa_cons pe_str (pa_cons pe_str (pa_cons pe_str pa_nil)))) (by rfl)) (pss_one (ps_ret (pe_op (op_add_str) (pe_op (op_add_str) (pe_ix ix_tup (pv 0) pe_int (fun _ _=>rfl)) pe_str) (pe_ix ix_tup (pv 0) pe_int (fun _ _=>rfl))))) pss_nil)
      (pss_one (ps_ret (pe_op (op_add_str) (pe_op (op_add_str) (pe_op (op_add_str) (pe_op (op_add_str) (pe_ix ix_tup (pv 0) pe_int (fun _ _=>rfl)) pe_str) (pe_ix ix_tup (pv 0) pe_int (fun _ _=>rfl))) pe_str) (pe_bm PySem.F.plainAttrs_str PySem.F.slot_str_join PySem.F.type_str_join mt_join pe_str (pa_cons (pe_comp (by rfl) (compOk (N:=["_law_point"]) (ix:=[none])) (pi_tup (pe_ix ix_tup (pv 0) pe_int (fun _ _=>rfl))) (by intro _ _ _ _ _; exact PG.to (pg_name (i:=0) (show (["_law_point"]:List Str).Nodup by decide +kernel) rfl (Or.inl rfl)) (by (try simp only [inX_K]); rfl)) (by intro _ _ _ _ _; exact PE.to (pe_callTy call_str_int (by rfl) T.n_str boot_str (pa_cons (pv 0) pa_nil)) (by (try simp only [inX_K]); rfl))) pa_nil)))))))),?_⟩
    rcases good_cases g with ⟨hw,z,e⟩ | ⟨hw,z,ns,e⟩ | ⟨hw,x,y,z,m,n,ns,e⟩
    · cases e
      obtain ⟨v,r,rfl,hv,hp⟩:=hp.cons
      cases hp.nil
      cases hv
      have z8:z.length≤8:=(gp (.name z) (by simp)).2.1
      refine ⟨_,rfl,a,_,_,V.str wd,rfl,rfl,ha,atI_nat (j:=0) rfl,rfl,_,rfl,iteDF' (str_ne nb) ?_⟩
      refine ⟨_,rfl,a,_,_,V.str wd,rfl,rfl,ha,atI_nat (j:=0) rfl,rfl,_,rfl,iteDF' (str_ne (ne1 _ hw)) ?_⟩
      refine ⟨_,rfl,a,_,_,V.str wd,rfl,rfl,ha,atI_nat (j:=0) rfl,(show 3≤sizeLine by decide),fun p hp=>⟨p,_,rfl,.inr (SqT.of upd_same),rfl,rfl,true,congrArg V.bl (in1 _ hw),iteT ?_⟩⟩
      have s1:=same_upd (o:=.tup [V.str (Str.ofString "begin"),V.str (Str.ofString "drop"),V.str (Str.ofString "forget")]) hp
      have l1:=add_len w6 sb
      have l2:=add_len l1 z8
      refine ⟨_,rfl,a,_,_,V.str wd,rfl,rfl,s1.sqT ha,atI_nat (j:=0) rfl,wd,Str.ofString " ",rfl,rfl,small1000' (by omega),_,rfl,a,_,_,V.str z,rfl,rfl,s1.sqT ha,atI_nat (j:=1) rfl,_,z,rfl,rfl,small1000' (by omega),?_⟩
      have:=q _ s1
      rwa [show textD (wd,[Part.name z])=wd ++ Str.ofString " " ++ z from join2 wd z] at this
    · cases e
      obtain ⟨v,r,rfl,hv,hp⟩:=hp.cons
      obtain ⟨v2,r,rfl,hv2,hp⟩:=hp.cons
      cases hp.nil
      cases hv
      obtain ⟨t,rfl,ht⟩:=hv2
      have z8:z.length≤8:=(gp (.name z) (by simp)).2.1
      have gf:GoodP (.face ns):=gp (.face ns) (by simp)
      have hb:∀ n∈ns,Int30 n:=fun n hn=>(gf.2.2 n hn).int
      have jl:(joinN 46 ns).length≤200:=joinN_len hb gf.2.1
      have h6:=gf.2.1
      refine ⟨_,rfl,a,_,_,V.str wd,rfl,rfl,ha,atI_nat (j:=0) rfl,rfl,_,rfl,iteDF' (str_ne nb) ?_⟩
      refine ⟨_,rfl,a,_,_,V.str wd,rfl,rfl,ha,atI_nat (j:=0) rfl,rfl,_,rfl,iteDF' (str_ne (ne2 _ hw)) ?_⟩
      refine ⟨_,rfl,a,_,_,V.str wd,rfl,rfl,ha,atI_nat (j:=0) rfl,(show 3≤sizeLine by decide),fun p hp=>⟨p,_,rfl,.inr (SqT.of upd_same),rfl,rfl,false,congrArg V.bl (in2 _ hw),iteF ?_⟩⟩
      have s1:=same_upd (o:=.tup [V.str (Str.ofString "begin"),V.str (Str.ofString "drop"),V.str (Str.ofString "forget")]) hp
      have l1:=add_len w6 sb
      have l2:=add_len l1 z8
      have l3:=add_len l2 sb
      refine ⟨_,rfl,a,_,_,V.str wd,rfl,rfl,s1.sqT ha,atI_nat (j:=0) rfl,wd,Str.ofString " ",rfl,rfl,small1000' (by omega),_,rfl,a,_,_,V.str z,rfl,rfl,s1.sqT ha,atI_nat (j:=1) rfl,_,z,rfl,rfl,small1000' (by omega),_,Str.ofString " ",rfl,rfl,small1000' (by omega),?_⟩
      refine ⟨rfl,_,rfl,a,_,_,V.ref t,rfl,rfl,s1.sqT ha,atI_nat (j:=2) rfl,t,rfl,⟨_,s1.sqT ht⟩,?_⟩
      have hl:(ns.map V.int).length=ns.length:=List.length_map ..
      refine compTu (K:=K) (a:=t) (xs:=ns.map V.int) (fun i ys H1=>Same H H1∧ys=((ns.map tn).take i).map V.str) ⟨s1,rfl⟩ ?_ (by rw [hl]; exact small1000' (by omega)) ?_ ?_
      · rintro i ys H1 hi ⟨s2,rfl⟩
        rw [hl] at hi
        exact ⟨s2.sqT ht,by simp; omega⟩
      · rintro i x ys H1 R hx ⟨s2,rfl⟩ kR
        obtain ⟨n,hn,rfl⟩:=getI_map hx
        refine ⟨StLe.set rfl,_,rfl,n,rfl,log_30 (hb n (List.mem_of_getElem? hn)),?_⟩
        refine kR _ _ ⟨s2,?_⟩
        rw [take_succ' (xs:=ns.map tn) (x:=tn n) (by rw [List.getElem?_map,hn]; rfl)]
        simp
        rfl
      · rintro ys H1 ⟨s2,rfl⟩ l hl'
        rw [hl,List.take_of_length_le (by simp)]
        have zz:=sum_tn hb
        refine ⟨_,l,ns.map tn,rfl,rfl,SqL.of upd_same,?_,?_⟩
        · show ((ns.map tn).map (·.length)).sum + (ns.map tn).length * (Str.ofString ".").length≤16777216
          rw [s_dot,List.length_map]
          show _ + ns.length * 1≤_
          omega
        · rw [s_dot]
          refine ⟨_,_,rfl,rfl,small1000' ?_,?_⟩
          · show _ + (joinN 46 ns).length≤1000
            omega
          · have:=q _ (s2.trans (same_upd (o:=.lst ((ns.map tn).map V.str)) hl'))
            rwa [show textD (wd,[Part.name z,Part.face ns])=wd ++ Str.ofString " " ++ z ++ Str.ofString " " ++ joinN 46 ns from join3 wd z _] at this
    · cases e
      cases hw
      obtain ⟨v1,r,rfl,hv1,hp⟩:=hp.cons
      obtain ⟨v2,r,rfl,hv2,hp⟩:=hp.cons
      obtain ⟨v3,r,rfl,hv3,hp⟩:=hp.cons
      obtain ⟨v4,r,rfl,hv4,hp⟩:=hp.cons
      obtain ⟨v5,r,rfl,hv5,hp⟩:=hp.cons
      obtain ⟨v6,r,rfl,hv6,hp⟩:=hp.cons
      cases hp.nil
      cases hv1
      cases hv2
      cases hv3
      cases hv4
      cases hv5
      obtain ⟨t,rfl,ht⟩:=hv6
      have gm:Nat30 m:=gp (.num m) (by simp)
      have gn:Nat30 n:=gp (.num n) (by simp)
      have gs:GoodP (.nums ns):=gp (.nums ns) (by simp)
      refine ⟨_,rfl,a,_,_,V.str (Str.ofString "keep"),rfl,rfl,ha,atI_nat (j:=0) rfl,rfl,_,rfl,iteDF' (str_ne nb) ?_⟩
      refine ⟨_,rfl,a,_,_,V.str (Str.ofString "keep"),rfl,rfl,ha,atI_nat (j:=0) rfl,rfl,_,rfl,iteDT' rfl ?_⟩
      refine ⟨rfl,_,rfl,6,rfl,a,_,rfl,ha,(fun h=>absurd h.2 (by show ¬ (min 6 7=7); decide)),fun p hp=>⟨p,rfl,⟨_,SqT.of upd_same⟩,?_⟩⟩
      have s1:=same_upd (o:=.tup [V.str (Str.ofString "keep"),V.str x,V.str y,V.str z,V.int m,V.int n]) hp
      have hp1:=upd_at (o:=.tup [V.str (Str.ofString "keep"),V.str x,V.str y,V.str z,V.int m,V.int n]) hp
      have hst:∀ (i:Nat) (v:V),[V.str (Str.ofString "keep"),V.str x,V.str y,V.str z,V.int m,V.int n][i]?=some v→∃ t,[Str.ofString "keep",x,y,z,tn m,tn n][i]?=some t∧((∃ k,v=.int k∧t=tn k∧Int30 k)∨v=.str t):=fun i v hv=>by
        match i with
        | 0=>cases hv; exact ⟨_,rfl,.inr rfl⟩
        | 1=>cases hv; exact ⟨_,rfl,.inr rfl⟩
        | 2=>cases hv; exact ⟨_,rfl,.inr rfl⟩
        | 3=>cases hv; exact ⟨_,rfl,.inr rfl⟩
        | 4=>cases hv; exact ⟨_,rfl,.inl ⟨m,rfl,rfl,gm.int⟩⟩
        | 5=>cases hv; exact ⟨_,rfl,.inl ⟨n,rfl,rfl,gn.int⟩⟩
        | i + 6=>cases hv
      refine compTu (K:=K) (a:=p) (xs:=[V.str (Str.ofString "keep"),V.str x,V.str y,V.str z,V.int m,V.int n]) (fun i ys H1=>Same H H1∧H1 p=some (.tup [V.str (Str.ofString "keep"),V.str x,V.str y,V.str z,V.int m,V.int n])∧ys=([Str.ofString "keep",x,y,z,tn m,tn n].take i).map V.str) ⟨s1,hp1,rfl⟩ ?_ (show 6≤sizeLine by decide) ?_ ?_
      · rintro i ys H1 hi ⟨s2,hp2,rfl⟩
        have hi:i≤6:=hi
        refine ⟨SqT.of hp2,?_⟩
        rw [List.length_map,List.length_take]
        show min i 6=i
        omega
      · rintro i v ys H1 R hx ⟨s2,hp2,rfl⟩ kR
        obtain ⟨t,ht,hv⟩:=hst i v hx
        rcases hv with ⟨k,rfl,rfl,hk⟩ | rfl
        · refine ⟨StLe.set rfl,_,rfl,.inl ⟨k,rfl,log_30 hk,kR _ _ ⟨s2,hp2,?_⟩⟩⟩
          rw [take_succ' ht]
          simp
          rfl
        · refine ⟨StLe.set rfl,_,rfl,.inr ⟨_,rfl,kR _ _ ⟨s2,hp2,?_⟩⟩⟩
          rw [take_succ' ht]
          simp
      · rintro ys H1 ⟨s2,hp2,rfl⟩ l hl
        have el:([Str.ofString "keep",x,y,z,tn m,tn n].take [V.str (Str.ofString "keep"),V.str x,V.str y,V.str z,V.int m,V.int n].length)=[Str.ofString "keep",x,y,z,tn m,tn n]:=rfl
        rw [el]
        have s3:=same_upd (o:=.lst ([Str.ofString "keep",x,y,z,tn m,tn n].map V.str)) hl
        have hl3:=upd_at (o:=.lst ([Str.ofString "keep",x,y,z,tn m,tn n].map V.str)) hl
        refine ⟨_,rfl,a,_,_,V.ref t,rfl,rfl,(s2.trans s3).sqT ha,atI_nat (j:=6) rfl,t,ns,rfl,(s2.trans s3).sqT ht,gs.1,gs.2,fun H4 s4=>⟨(show 1≤sizeLine by decide),fun p2 hp2=>?_⟩⟩
        have s5:=same_upd (o:=.lst [V.str (textP (.nums ns))]) hp2
        refine ⟨l,p2,_,_,rfl,rfl,s5 _ _ (s4 _ _ hl3),upd_same,(show 6 + 1≤sizeLine by decide),fun p3 hp3=>?_⟩
        have s6:=s2.trans (s3.trans (s4.trans (s5.trans (same_upd (o:=.lst ([Str.ofString "keep",x,y,z,tn m,tn n].map V.str ++ [V.str (textP (.nums ns))])) hp3))))
        have sz:=sum_textP gp
        refine ⟨_,p3,[Str.ofString "keep",x,y,z,tn m,tn n,textP (.nums ns)],rfl,rfl,SqL.of upd_same,?_,?_⟩
        · show (([Str.ofString "keep",x,y,z,tn m,tn n,textP (.nums ns)]:List Str).map (·.length)).sum + 7 * (Str.ofString " ").length≤16777216
          have sz:(([x,y,z,tn m,tn n,textP (.nums ns)]:List Str).map (·.length)).sum≤6 * 200:=sz
          rw [List.map_cons,List.sum_cons]
          have w6:(Str.ofString "keep").length≤6:=w6
          omega
        · rw [s_blank]
          exact q _ s6
end
end KX
namespace KX
open PySem L2 PyProof.Rows K01 KW TX
theorem sqT_but {K:PySem.W.Frag} {H H':Hp} {B a:Addr} {xs l:List V} (hB:H B=some (.lst l)) (b:But B H H') (h:SqT K H a xs):SqT K H' a xs:=by
  rcases h with (h | ⟨o,h⟩) | h
  · exact .inl (.inl (b _ _ h (fun z=>by rw [z,hB] at h; cases h)))
  · exact .inl (.inr ⟨o,b _ _ h (fun z=>by rw [z,hB] at h; cases h)⟩)
  · exact .inr h
theorem PartAt.but {K:PySem.W.Frag} {H H':Hp} {B:Addr} {l:List V} {v:V} {p:Part} (h:PartAt K H v p) (hB:H B=some (.lst l)) (b:But B H H'):PartAt K H' v p:=by
  cases p with
  | name z=>exact h
  | num n=>exact h
  | face ns=>obtain ⟨a,e,h⟩:=h; exact ⟨a,e,sqT_but hB b h⟩
  | nums ns=>obtain ⟨a,e,h⟩:=h; exact ⟨a,e,sqT_but hB b h⟩
theorem DeedAt.but {K:PySem.W.Frag} {H H':Hp} {B:Addr} {l:List V} {v:V} {d:Deed} (h:DeedAt K H v d) (hB:H B=some (.lst l)) (b:But B H H'):DeedAt K H' v d:=by
  obtain ⟨a,vs,e,h1,h2⟩:=h
  exact ⟨a,vs,e,sqT_but hB b h1,h2.1,fun i v p x y=>(h2.2 i v p x y).but hB b⟩
theorem DeedsAt.but {K:PySem.W.Frag} {H H':Hp} {B:Addr} {l:List V} {vs:List V} {ds:List Deed} (h:DeedsAt K H vs ds) (hB:H B=some (.lst l)) (b:But B H H'):DeedsAt K H' vs ds:=⟨h.1,fun i v p x y=>(h.2 i v p x y).but hB b⟩
theorem box_lst {H:Hp} {B S:Addr} (h:Box H B S):∃ l,H B=some (.lst l):=by
  obtain ⟨ns,p,q,t,sd,h,_⟩:=h
  exact ⟨_,h⟩
section
variable {P:Program} {w:World} {K:PySem.W.Frag} {mg:Str→Option Value} {base:Heap}
set_option maxHeartbeats 4000000 in
theorem ok_lawText2 {f__law_text:Addr} {d__law_text:FuncData} (A__law_text:FnAt K mg "_law_text" "_law_text" (top 38) .none f__law_text d__law_text) (b__law_text:L2.Binds K d__law_text ["_law_deed"] []) (G__law_text:FnOk P w K mg base CX0 2 f__law_text d__law_text ["_law_deed"] (spPlainText K)) (T:KW.Txt mg):FnOk P w K mg base CX0 3 f__law_text d__law_text ["_law_deed"] (spBundleText K):=by
  have nd:=scLawText.nd
  refine A__law_text.ok scLawText (fun vs H Q E h=>?_) (fun cdv A outer s H vs Q E hr h=>?_)
  · obtain ⟨v,d,rfl,_⟩:=h
    rfl
  · obtain ⟨v,ds,rfl,⟨a,b,xs,rfl,ha,hb,hl,hd⟩,h3,g,q⟩:=h
    refine ⟨_,(pss_cons (ps_if (pt_cmpR op_eq (pe_ix ix_tup (pv 0) pe_int (fun _ _=>rfl)) pe_str (nomark _)) (pss_one (ps_ret (pe_op (op_add_str) pe_str (pe_bm PySem.F.plainAttrs_str PySem.F.slot_str_join PySem.F.type_str_join mt_join pe_str (pa_cons (pe_comp (by rfl) (compOk (N:=["_law_some"]) (ix:=[none])) (pi_tup (pe_ix ix_tup (pv 0) pe_int (fun _ _=>rfl))) (by intro _ _ _ _ _; exact PG.to (pg_name (i:=0) (show (["_law_some"]:List Str).Nodup by decide +kernel) rfl (Or.inl rfl)) (by (try simp only [inX_K]); rfl)) (by intro _ _ _ _ _; exact PE.to (pe_op (op_add_str) pe_str (pe_call (G__law_text.mono (by decide)) hr rfl A__law_text.mg A__law_text.kp b__law_text .nil pass0 (pa_cons (pv 0) pa_nil))) (by (try simp only [inX_K]); rfl))) pa_nil))))) pss_nil)
      (pss_cons (ps_if (pt_cmpR op_eq (pe_ix ix_tup (pv 0) pe_int (fun _ _=>rfl)) pe_str (nomark _)) (pss_one ps_never) pss_nil)
      (pss_cons (ps_if (pt_cmpR (op_in_seq) (pe_ix ix_tup (pv 0) pe_int (fun _ _=>rfl)) (pe_tup (pa_cons pe_str (pa_cons pe_str (pa_cons pe_str pa_nil)))) (by rfl)) (pss_one ps_never) pss_nil)
      (pss_one ps_never)))),?_⟩
    refine ⟨_,rfl,a,_,_,V.str (Str.ofString "bundle"),rfl,rfl,ha,atI_nat (j:=0) rfl,rfl,_,rfl,iteDT' rfl ?_⟩
    refine ⟨rfl,_,rfl,a,_,_,V.ref b,rfl,rfl,ha,atI_nat (j:=1) rfl,b,rfl,⟨_,hb⟩,?_⟩
    refine compTu (K:=K) (a:=b) (xs:=xs) (fun i ys H1=>Same H H1∧ys=((ds.map textI).take i).map V.str) ⟨Same.refl _,rfl⟩ ?_ (by rw [hl]; exact small1000' (by omega)) ?_ ?_
    · rintro i ys H1 hi ⟨s3,rfl⟩
      exact ⟨s3.sqT hb,by simp; omega⟩
    · rintro i x ys H1 R hx ⟨s3,rfl⟩ kR
      have hi:i < ds.length:=by rw [← hl]; exact (List.getElem?_eq_some_iff.mp hx).1
      have hdi:ds[i]?=some ds[i]:=by simp [hi]
      have gi:=g _ (List.mem_of_getElem? hdi)
      refine ⟨StLe.set rfl,_,rfl,x,ds[i],rfl,(hd i x _ hx hdi).same s3,gi,fun H3 s5=>?_⟩
      refine ⟨_,_,rfl,rfl,?_,?_⟩
      · have:=textD_len gi
        show (Str.ofString " ").length + (textD ds[i]).length≤sizeLine
        rw [s_blank,sizeLine_eq]
        show 1 + _≤_
        omega
      · refine kR _ _ ⟨s3.trans s5,?_⟩
        rw [take_succ' (xs:=ds.map textI) (x:=textI ds[i]) (by rw [List.getElem?_map,hdi]; rfl)]
        simp
        rfl
    · rintro ys H1 ⟨s3,rfl⟩ m hm
      rw [hl,List.take_of_length_le (by simp)]
      have z:=sum_textI g
      refine ⟨_,m,ds.map textI,rfl,rfl,SqL.of upd_same,?_,?_⟩
      · show ((ds.map textI).map (·.length)).sum + (ds.map textI).length * (Str.ofString ";").length≤16777216
        rw [s_semi,List.length_map]
        show _ + ds.length * 1≤_
        omega
      · rw [s_semi]
        refine ⟨_,_,rfl,rfl,?_,q _ (s3.trans (same_upd hm))⟩
        have:=joinB_len g h3
        show (Str.ofString "all:").length + _≤sizeLine
        rw [show (Str.ofString "all:").length=4 by decide +kernel,sizeLine_eq]
        omega
def spGreat:Sp:=fun vs H Q _=>∃ B S:Addr,vs=[.ref B]∧Box H B S∧∀ (n:Int) (H':Hp),Nat30 n→Box H' B S→But B H H'→Q (.int n) H'
theorem scGreat:FnScope ["_law_box_here"] ["_law_box_here"] (defScope (top 39)):=⟨rfl,rfl,rfl,by decide +kernel,rfl,by decide +kernel,by decide +kernel⟩
set_option maxHeartbeats 4000000 in
theorem ok_great {f:Addr} {fd:FuncData} (F:FnAt K mg "_law_great_number" "_law_great_number" (top 39) .none f fd) (T:KW.Txt mg)
    {f__law_take:Addr} {d__law_take:FuncData} (A__law_take:FnAt K mg "_law_take" "_law_take" (top 34) .none f__law_take d__law_take) (b__law_take:L2.Binds K d__law_take ["_law_box_here","_law_many"] []) (G__law_take:FnOk P w K mg base CX0 2 f__law_take d__law_take ["_law_box_here","_law_many"] (spTake)):FnOk P w K mg base CX0 3 f fd ["_law_box_here"] spGreat:=by
  have nd:=scGreat.nd
  refine F.ok scGreat (fun vs H Q E h=>?_) (fun cdv A outer s H vs Q E hr h=>?_)
  · obtain ⟨B,S,rfl,_⟩:=h
    rfl
  · obtain ⟨B,S,rfl,bx,k⟩:=h
    refine ⟨_,(pss_one (ps_ret (pe_ix ix_list (pe_lst (pa_cons pe_int (pa_cons pe_int (pa_cons (pe_call (G__law_take.mono (by decide)) hr rfl A__law_take.mg A__law_take.kp b__law_take .nil pass0 (pa_cons (pv 0) (pa_cons pe_int pa_nil))) (pa_cons (pe_op op_sub (pe_op op_pow pe_int pe_int) pe_int) (pa_cons (pe_call (G__law_take.mono (by decide)) hr rfl A__law_take.mg A__law_take.kp b__law_take .nil pass0 (pa_cons (pv 0) (pa_cons (pe_op op_pow pe_int pe_int) pa_nil))) pa_nil)))))) (pe_call (G__law_take.mono (by decide)) hr rfl A__law_take.mg A__law_take.kp b__law_take .nil pass0 (pa_cons (pv 0) (pa_cons pe_int pa_nil))) (fun _ _=>rfl)))),?_⟩
    refine ⟨_,rfl,B,S,_,rfl,bx,by decide,by decide,fun r1 H1 r10 r11 bx1 b1=>?_⟩
    refine ⟨_,_,rfl,rfl,⟨by decide,by decide,by decide⟩,_,_,rfl,rfl,?_⟩
    refine ⟨_,rfl,_,_,rfl,rfl,⟨by decide,by decide,by decide⟩,B,S,_,rfl,bx1,by decide,by decide,fun r2 H2 r20 r21 bx2 b2=>?_⟩
    refine ⟨(show 5≤sizeLine by decide),fun l hl=>?_⟩
    have s3:=same_upd (o:=.lst [V.int 0,V.int 9,V.int r1,V.int ((10:Int) ^ Int.toNat 30 - 1),V.int r2]) hl
    have hl3:=upd_at (o:=.lst [V.int 0,V.int 9,V.int r1,V.int ((10:Int) ^ Int.toNat 30 - 1),V.int r2]) hl
    have nl:l≠B:=bx2.at hl
    refine ⟨_,rfl,B,S,_,rfl,bx2.but s3,by decide,by decide,fun r3 H4 r30 r31 bx4 b4=>?_⟩
    obtain ⟨j,rfl⟩:=Int.eq_ofNat_of_zero_le r30
    have b5:=b1.trans (b2.trans (s3.but.trans b4))
    have hl4:=b4 _ _ hl3 nl
    have e30:(10:Int) ^ Int.toNat 30=10 ^ 30:=rfl
    rw [e30] at r21
    match j,r31 with
    | 0,_=>exact ⟨l,_,_,_,rfl,rfl,SqL.of hl4,atI_nat (j:=0) rfl,k _ _ ⟨by decide,by decide⟩ bx4 b5⟩
    | 1,_=>exact ⟨l,_,_,_,rfl,rfl,SqL.of hl4,atI_nat (j:=1) rfl,k _ _ ⟨by decide,by decide⟩ bx4 b5⟩
    | 2,_=>exact ⟨l,_,_,_,rfl,rfl,SqL.of hl4,atI_nat (j:=2) rfl,k _ _ ⟨r10,Int.lt_trans r11 (by decide)⟩ bx4 b5⟩
    | 3,_=>exact ⟨l,_,_,_,rfl,rfl,SqL.of hl4,atI_nat (j:=3) rfl,k _ _ ⟨by decide,by decide⟩ bx4 b5⟩
    | 4,_=>exact ⟨l,_,_,_,rfl,rfl,SqL.of hl4,atI_nat (j:=4) rfl,k _ _ ⟨r20,r21⟩ bx4 b5⟩
    | j + 5,h=>omega
end
end KX
namespace KX
open PySem L2 PyProof.Rows K01 KW TX
def wordsA:List Str:=["begin","drop","forget","put","take","finer","lesser","keep","keep"]
theorem wordsA_cases:∀ x∈wordsA,x∈words1∨x∈words2∨x=Str.ofString "keep" := by decide +kernel
theorem forms1:∀ x∈words1,(x,[Str.ofString "name"])∈forms:=by decide +kernel
theorem forms2:∀ x∈words2,(x,[Str.ofString "name",Str.ofString "face"])∈forms:=by decide +kernel
theorem forms6:(Str.ofString "keep",[Str.ofString "name",Str.ofString "name",Str.ofString "name",Str.ofString "number",Str.ofString "number",Str.ofString "numbers"])∈forms:=by decide +kernel
theorem name_ring:Name (Str.ofString "ring"):=⟨by decide +kernel,by decide +kernel,by decide +kernel⟩
theorem name_cut:Name (Str.ofString "cut"):=⟨by decide +kernel,by decide +kernel,by decide +kernel⟩
section
variable {P:Program} {w:World} {K:PySem.W.Frag} {mg:Str→Option Value} {base:Heap}
def spPlainDeed (K:PySem.W.Frag):Sp:=fun vs H Q _=>∃ B S:Addr,vs=[.ref B]∧Box H B S∧∀ (v:V) (d:Deed) (H':Hp),GoodD d→DeedAt K H' v d→Box H' B S→But B H H'→Q v H'
theorem scPlainDeed:FnScope ["_law_box_here","_law_names","_law_word","_law_face","_law_many","_law_numbers","_law_sizes","_law_kind"] ["_law_box_here"] (defScope (top 40)):=⟨rfl,rfl,rfl,by decide +kernel,rfl,by decide +kernel,by decide +kernel⟩
set_option maxHeartbeats 8000000 in
theorem ok_plainDeed {f:Addr} {fd:FuncData} (F:FnAt K mg "_law_plain_deed" "_law_plain_deed" (top 40) .none f fd) (T:KW.Txt mg)
    {f__law_take:Addr} {d__law_take:FuncData} (A__law_take:FnAt K mg "_law_take" "_law_take" (top 34) .none f__law_take d__law_take) (b__law_take:L2.Binds K d__law_take ["_law_box_here","_law_many"] []) (G__law_take:FnOk P w K mg base CX0 2 f__law_take d__law_take ["_law_box_here","_law_many"] (spTake)) {f__law_ten_names:Addr} {d__law_ten_names:FuncData} (A__law_ten_names:FnAt K mg "_law_ten_names" "_law_ten_names" (top 36) .none f__law_ten_names d__law_ten_names) (b__law_ten_names:L2.Binds K d__law_ten_names ["_law_box_here"] []) (G__law_ten_names:FnOk P w K mg base CX0 3 f__law_ten_names d__law_ten_names ["_law_box_here"] (spTenNames)) {f__law_great_number:Addr} {d__law_great_number:FuncData} (A__law_great_number:FnAt K mg "_law_great_number" "_law_great_number" (top 39) .none f__law_great_number d__law_great_number) (b__law_great_number:L2.Binds K d__law_great_number ["_law_box_here"] []) (G__law_great_number:FnOk P w K mg base CX0 3 f__law_great_number d__law_great_number ["_law_box_here"] (spGreat)):FnOk P w K mg base CX0 4 f fd ["_law_box_here"] (spPlainDeed K):=by
  have nd:=scPlainDeed.nd
  refine F.ok scPlainDeed (fun vs H Q E h=>?_) (fun cdv A outer s H vs Q E hr h=>?_)
  · obtain ⟨B,S,rfl,_⟩:=h
    rfl
  · obtain ⟨B,S,rfl,bx,k⟩:=h
    refine ⟨_,(pss_cons (ps_set (i:=1) nd rfl (Or.inl rfl) (pe_call (G__law_ten_names.mono (by decide)) hr rfl A__law_ten_names.mg A__law_ten_names.kp b__law_ten_names .nil pass0 (pa_cons (pv 0) pa_nil)))
      (pss_cons (ps_set (i:=2) nd rfl (Or.inl rfl) (pe_ix ix_list (pe_lst (pa_cons pe_str (pa_cons pe_str (pa_cons pe_str (pa_cons pe_str (pa_cons pe_str (pa_cons pe_str (pa_cons pe_str (pa_cons pe_str (pa_cons pe_str pa_nil)))))))))) (pe_call (G__law_take.mono (by decide)) hr rfl A__law_take.mg A__law_take.kp b__law_take .nil pass0 (pa_cons (pv 0) (pa_cons pe_int pa_nil))) (fun _ _=>rfl)))
      (pss_cons (ps_if (pt_cmpR (op_in_seq) (pv 2) (pe_tup (pa_cons pe_str (pa_cons pe_str (pa_cons pe_str pa_nil)))) (by rfl)) (pss_one (ps_ret (pe_tup (pa_cons (pv 2) (pa_cons (pe_ix ix_list (pv 1) pe_int (fun _ _=>rfl)) pa_nil))))) pss_nil)
      (pss_cons (ps_if (pt_cmpR op_ne (pv 2) pe_str (nomark _)) (pss_cons (ps_setComp (i:=3) nd rfl (Or.inl rfl) rfl (by rfl) (compOk (N:=["_law_k","_law_box_here"]) (ix:=[none,some 0])) (pi_range1 (by rfl) T.n_range (pa_cons (pe_op op_add pe_int (pe_call (G__law_take.mono (by decide)) hr rfl A__law_take.mg A__law_take.kp b__law_take .nil pass0 (pa_cons (pv 0) (pa_cons pe_int pa_nil)))) pa_nil)) (by intro _ _ _ _ _; exact PG.to (pg_name (i:=0) (show (["_law_k","_law_box_here"]:List Str).Nodup by decide +kernel) rfl (Or.inl rfl)) (by (try simp only [inX_K]); rfl)) (by intro _ _ _ _ _; exact PE.to (pe_call (G__law_great_number.mono (by decide)) hr rfl A__law_great_number.mg A__law_great_number.kp b__law_great_number .nil pass0 (pa_cons (pv 1) pa_nil)) (by (try simp only [inX_K]); rfl)))
      (pss_one (ps_ret (pe_tup (pa_cons (pv 2) (pa_cons (pe_ix ix_list (pv 1) pe_int (fun _ _=>rfl)) (pa_cons (pe_callTy call_tuple_of (by rfl) T.n_tuple boot_tuple (pa_cons (pv 3) pa_nil)) pa_nil))))))) pss_nil)
      (pss_cons (ps_set (i:=4) nd rfl (Or.inl rfl) (pe_call (G__law_take.mono (by decide)) hr rfl A__law_take.mg A__law_take.kp b__law_take .nil pass0 (pa_cons (pv 0) (pa_cons pe_int pa_nil))))
      (pss_cons (ps_setComp (i:=5) nd rfl (Or.inl rfl) rfl (by rfl) (compOk (N:=["_law_k","_law_box_here"]) (ix:=[none,some 0])) (pi_range1 (by rfl) T.n_range (pa_cons (pv 4) pa_nil)) (by intro _ _ _ _ _; exact PG.to (pg_name (i:=0) (show (["_law_k","_law_box_here"]:List Str).Nodup by decide +kernel) rfl (Or.inl rfl)) (by (try simp only [inX_K]); rfl)) (by intro _ _ _ _ _; exact PE.to (pe_op op_mulX (pe_op op_sub pe_int (pe_op op_mulX pe_int (pe_call (G__law_take.mono (by decide)) hr rfl A__law_take.mg A__law_take.kp b__law_take .nil pass0 (pa_cons (pv 1) (pa_cons pe_int pa_nil))))) (pe_call (G__law_great_number.mono (by decide)) hr rfl A__law_great_number.mg A__law_great_number.kp b__law_great_number .nil pass0 (pa_cons (pv 1) pa_nil))) (by (try simp only [inX_K]); rfl)))
      (pss_cons (ps_set (i:=6) nd rfl (Or.inl rfl) (pe_tup (pa_cons (pe_call (G__law_great_number.mono (by decide)) hr rfl A__law_great_number.mg A__law_great_number.kp b__law_great_number .nil pass0 (pa_cons (pv 0) pa_nil)) (pa_cons (pe_call (G__law_great_number.mono (by decide)) hr rfl A__law_great_number.mg A__law_great_number.kp b__law_great_number .nil pass0 (pa_cons (pv 0) pa_nil)) pa_nil))))
      (pss_cons (ps_set (i:=7) nd rfl (Or.inl rfl) (pe_ix ix_list (pe_lst (pa_cons pe_str (pa_cons pe_str (pa_cons (pe_ix ix_list (pv 1) pe_int (fun _ _=>rfl)) pa_nil)))) (pe_call (G__law_take.mono (by decide)) hr rfl A__law_take.mg A__law_take.kp b__law_take .nil pass0 (pa_cons (pv 0) (pa_cons pe_int pa_nil))) (fun _ _=>rfl)))
      (pss_one (ps_ret (pe_op (op_catT) (pe_op (op_catT) (pe_tup (pa_cons (pv 2) (pa_cons (pe_ix ix_list (pv 1) pe_int (fun _ _=>rfl)) (pa_cons (pe_ix ix_list (pv 1) pe_int (fun _ _=>rfl)) (pa_cons (pv 7) pa_nil))))) (pv 6)) (pe_tup (pa_cons (pe_callTy call_tuple_of (by rfl) T.n_tuple boot_tuple (pa_cons (pv 5) pa_nil)) pa_nil))))))))))))),?_⟩
    refine ⟨_,rfl,B,S,rfl,bx,fun ns N H1 hl hn bx1 b1 fN hN nNB=>?_⟩
    obtain ⟨z0,hz0⟩:∃ z,ns[0]?=some z:=⟨_,List.getElem?_eq_getElem (by omega)⟩
    obtain ⟨z1,hz1⟩:∃ z,ns[1]?=some z:=⟨_,List.getElem?_eq_getElem (by omega)⟩
    obtain ⟨z2,hz2⟩:∃ z,ns[2]?=some z:=⟨_,List.getElem?_eq_getElem (by omega)⟩
    have n0:=hn _ (List.mem_of_getElem? hz0)
    have n1:=hn _ (List.mem_of_getElem? hz1)
    have n2:=hn _ (List.mem_of_getElem? hz2)
    have at0:atI (ns.map V.str) 0=some (.str z0):=atI_nat (j:=0) (by rw [List.getElem?_map,hz0]; rfl)
    have at1:atI (ns.map V.str) 1=some (.str z1):=atI_nat (j:=1) (by rw [List.getElem?_map,hz1]; rfl)
    have at2:atI (ns.map V.str) 2=some (.str z2):=atI_nat (j:=2) (by rw [List.getElem?_map,hz2]; rfl)
    generalize ns.map V.str=nv at *
    refine ⟨(show 9≤sizeLine by decide),fun W hW=>?_⟩
    have s2:=same_upd (o:=.lst (wordsA.map V.str)) hW
    have hW2:=upd_at (o:=.lst (wordsA.map V.str)) hW
    have nWB:W≠B:=bx1.at hW
    refine ⟨_,rfl,B,S,_,rfl,bx1.but s2,by decide,by decide,fun r H3 r0 r1 bx3 b3=>?_⟩
    have b3':=b1.trans (s2.but.trans b3)
    have hN3:=b3 _ _ (s2 _ _ hN) nNB
    obtain ⟨wd,hwd,hat⟩:∃ wd∈wordsA,atI (wordsA.map V.str) r=some (.str wd):=by
      obtain ⟨j,rfl⟩:=Int.eq_ofNat_of_zero_le r0
      have hj:j < wordsA.length:=by show j < 9; omega
      refine ⟨wordsA[j],List.getElem_mem hj,atI_nat ?_⟩
      rw [List.getElem?_map,List.getElem?_eq_getElem hj]
      rfl
    refine ⟨W,_,r,.str wd,rfl,rfl,SqL.of (b3 _ _ hW2 nWB),hat,?_⟩
    have s4:∀ {p:Addr},H3 p=none→Same H3 (upd H3 p (.tup [V.str (Str.ofString "begin"),V.str (Str.ofString "drop"),V.str (Str.ofString "forget")])):=fun h=>same_upd h
    rcases wordsA_cases _ hwd with hw | hw | hw
    · refine ⟨_,rfl,(show 3≤sizeLine by decide),fun p hp=>⟨p,_,rfl,.inr (SqT.of upd_same),rfl,rfl,true,congrArg V.bl (in1 _ hw),iteT ?_⟩⟩
      refine ⟨_,rfl,_,rfl,N,_,_,V.str z0,rfl,rfl,SqL.of (s4 hp _ _ hN3),at0,(show 2≤sizeLine by decide),fun t ht=>?_⟩
      have s5:=(s4 hp).trans (same_upd (o:=.tup [V.str wd,V.str z0]) ht)
      refine k _ (wd,[.name z0]) _ ⟨forms1 _ hw,fun p hp=>?_⟩ ⟨t,[V.str z0],rfl,SqT.of upd_same,rfl,fun i v p hv hp=>?_⟩ (bx3.but s5) (b3'.trans s5.but)
      · cases List.mem_singleton.mp hp
        exact n0
      · match i with
        | 0=>cases hv; cases hp; rfl
        | i + 1=>cases hv
    · refine ⟨_,rfl,(show 3≤sizeLine by decide),fun p hp=>⟨p,_,rfl,.inr (SqT.of upd_same),rfl,rfl,false,congrArg V.bl (in2 _ hw),iteF ?_⟩⟩
      have s4:=s4 hp
      have hN4:=s4 _ _ hN3
      have bx4:=bx3.but s4
      have b4:=b3'.trans s4.but
      generalize upd H3 p (.tup [V.str (Str.ofString "begin"),V.str (Str.ofString "drop"),V.str (Str.ofString "forget")])=H4 at *
      refine ⟨_,rfl,rfl,_,rfl,?_⟩
      show (if (!decide (V.str wd=V.str (Str.ofString "keep")))=true then _ else _)
      rw [decide_eq_false (str_ne (ne2 _ hw))]
      refine iteT ?_
      refine ⟨_,rfl,B,S,_,rfl,bx4,by decide,by decide,fun r H5 r0 r1 bx5 b5=>?_⟩
      obtain ⟨j,rfl⟩:=Int.eq_ofNat_of_zero_le r0
      have hN5:=b5 _ _ hN4 nNB
      refine ⟨_,_,rfl,rfl,(1 + (j:Int)),rfl,by omega,by omega,?_⟩
      rw [show (1 + (j:Int))=((1 + j:Nat):Int) by omega,Int.toNat_natCast]
      refine compR (lo:=0) (n:=1 + j) (fun i ys H6=>∃ fs:List Int,ys=fs.map V.int∧fs.length=i∧(∀ z∈fs,Nat30 z)∧Box H6 B S∧But B H H6∧H6 N=some (.lst nv)) ⟨[],rfl,rfl,fun _ h=>absurd h (by simp),bx5,b4.trans b5,hN5⟩ ?_ (small1000' (by omega)) ?_ ?_
      · rintro i ys H6 hi ⟨fs,rfl,hl,_⟩
        rw [List.length_map,hl]
      · rintro i ys H6 R hi ⟨fs,rfl,hl,hf,bx6,b6,hN6⟩ kR
        refine ⟨StLe.set rfl,_,rfl,B,S,rfl,bx6,fun g H7 hg bx7 b7=>kR _ _ ⟨fs ++ [g],by simp,by simp [hl],fun z hz=>?_,bx7,b6.trans b7,b7 _ _ hN6 nNB⟩⟩
        rcases List.mem_append.mp hz with hz | hz
        · exact hf z hz
        · rw [List.mem_singleton.mp hz]
          exact hg
      · rintro ys H6 ⟨fs,rfl,hl,hf,bx6,b6,hN6⟩ L hL
        have s7:=same_upd (o:=.lst (fs.map V.int)) hL
        refine ⟨_,rfl,_,rfl,N,_,_,V.str z0,rfl,rfl,SqL.of (s7 _ _ hN6),at0,_,rfl,L,_,rfl,.inl ⟨SqL.of upd_same,fun q hq=>⟨(show 3≤sizeLine by decide),fun t ht=>?_⟩⟩⟩
        have s8:=same_upd (o:=.tup (fs.map V.int)) hq
        have s9:=same_upd (o:=.tup [V.str wd,V.str z0,V.ref q]) ht
        have sA:=s7.trans (s8.trans s9)
        refine k _ (wd,[.name z0,.face fs]) _ ⟨forms2 _ hw,fun p hp=>?_⟩ ⟨t,[V.str z0,V.ref q],rfl,SqT.of upd_same,rfl,fun i v p hv hp=>?_⟩ (bx6.but sA) (b6.trans sA.but)
        · rcases List.mem_cons.mp hp with rfl | hp
          · exact n0
          · cases List.mem_singleton.mp hp
            exact ⟨fun e=>by rw [e] at hl; simp at hl; omega,by omega,hf⟩
        · match i with
          | 0=>cases hv; cases hp; rfl
          | 1=>cases hv; cases hp; exact ⟨q,rfl,SqT.of (s9 _ _ upd_same)⟩
          | i + 2=>cases hv
    · subst hw
      refine ⟨_,rfl,(show 3≤sizeLine by decide),fun p hp=>⟨p,_,rfl,.inr (SqT.of upd_same),rfl,rfl,false,congrArg V.bl (show inV (.str (Str.ofString "keep")) [V.str (Str.ofString "begin"),V.str (Str.ofString "drop"),V.str (Str.ofString "forget")]=false by decide +kernel),iteF ?_⟩⟩
      have s4:=s4 hp
      have hN4:=s4 _ _ hN3
      have bx4:=bx3.but s4
      have b4:=b3'.trans s4.but
      generalize upd H3 p (.tup [V.str (Str.ofString "begin"),V.str (Str.ofString "drop"),V.str (Str.ofString "forget")])=H4 at *
      refine ⟨_,rfl,rfl,_,rfl,iteNS rfl ?_⟩
      refine ⟨_,rfl,B,S,_,rfl,bx4,by decide,by decide,fun r H5 r0 r1 bx5 b5=>?_⟩
      obtain ⟨j,rfl⟩:=Int.eq_ofNat_of_zero_le r0
      have hN5:=b5 _ _ hN4 nNB
      refine ⟨_,rfl,j,rfl,by omega,by omega,?_⟩
      rw [Int.toNat_natCast]
      refine compR (lo:=0) (n:=j) (fun i ys H6=>∃ fs:List Int,ys=fs.map V.int∧fs.length=i∧(∀ z∈fs,Int30 z)∧Box H6 B S∧But B H H6∧H6 N=some (.lst nv)) ⟨[],rfl,rfl,fun _ h=>absurd h (by simp),bx5,b4.trans b5,hN5⟩ ?_ (small1000' (by omega)) ?_ ?_
      · rintro i ys H6 hi ⟨fs,rfl,hl,_⟩
        rw [List.length_map,hl]
      · rintro i ys H6 R hi ⟨fs,rfl,hl,hf,bx6,b6,hN6⟩ kR
        refine ⟨StLe.set rfl,_,rfl,B,S,_,rfl,bx6,by decide,by decide,fun r H7 r0 r1 bx7 b7=>?_⟩
        refine ⟨_,_,rfl,rfl,mulR (Nat.lt_of_le_of_lt (show r.natAbs≤2 by omega) (by decide)),_,_,rfl,rfl,?_⟩
        refine ⟨_,rfl,B,S,rfl,bx7,fun g H8 hg bx8 b8=>?_⟩
        refine ⟨_,_,rfl,rfl,mul_ok (Nat.lt_of_le_of_lt (show (1 - 2 * r).natAbs≤2 by omega) (by decide)) (Nat.lt_of_le_of_lt (show g.natAbs≤10 ^ 30 by have:=hg.1; have:=hg.2; omega) (by decide)),?_⟩
        refine kR _ _ ⟨fs ++ [(1 - 2 * r) * g],by simp,by simp [hl],fun z hz=>?_,bx8,b6.trans (b7.trans b8),b8 _ _ (b7 _ _ hN6 nNB) nNB⟩
        rcases List.mem_append.mp hz with hz | hz
        · exact hf z hz
        · rw [List.mem_singleton.mp hz]
          have hg1:=hg.1
          have hg2:=hg.2
          rcases (show r=0∨r=1 by omega) with rfl | rfl
          · exact ⟨by omega,by omega⟩
          · exact ⟨by omega,by omega⟩
      · rintro ys H6 ⟨fs,rfl,hl,hf,bx6,b6,hN6⟩ L hL
        have s7:=same_upd (o:=.lst (fs.map V.int)) hL
        have hL7:=upd_at (o:=.lst (fs.map V.int)) hL
        have nLB:L≠B:=bx6.at hL
        have bx7:=bx6.but s7
        have hN7:=s7 _ _ hN6
        have b7:=b6.trans s7.but
        generalize upd H6 L (.lst (fs.map V.int))=H7 at *
        refine ⟨_,rfl,B,S,rfl,bx7,fun g1 H8 hg1 bx8 b8=>?_⟩
        refine ⟨_,rfl,B,S,rfl,bx8,fun g2 H9 hg2 bx9 b9=>⟨(show 2≤sizeLine by decide),fun t1 ht1=>?_⟩⟩
        have hL9:=b9 _ _ (b8 _ _ hL7 nLB) nLB
        have hN9:=b9 _ _ (b8 _ _ hN7 nNB) nNB
        have b9':=b7.trans (b8.trans b9)
        have sA:=same_upd (o:=.tup [V.int g1,V.int g2]) ht1
        have ht2:=upd_at (o:=.tup [V.int g1,V.int g2]) ht1
        have nt1:t1≠B:=bx9.at ht1
        have bxA:=bx9.but sA
        have hLA:=sA _ _ hL9
        have hNA:=sA _ _ hN9
        have bA:=b9'.trans sA.but
        generalize upd H9 t1 (.tup [V.int g1,V.int g2])=HA at *
        refine ⟨_,rfl,N,_,_,V.str z2,rfl,rfl,SqL.of hNA,at2,(show 3≤sizeLine by decide),fun W hW=>?_⟩
        have sB:=same_upd (o:=.lst [V.str (Str.ofString "ring"),V.str (Str.ofString "cut"),V.str z2]) hW
        have hWB:=upd_at (o:=.lst [V.str (Str.ofString "ring"),V.str (Str.ofString "cut"),V.str z2]) hW
        have nWB:W≠B:=bxA.at hW
        refine ⟨_,rfl,B,S,_,rfl,bxA.but sB,by decide,by decide,fun r HC r0 r1 bxC bC=>?_⟩
        have hLC:=bC _ _ (sB _ _ hLA) nLB
        have hNC:=bC _ _ (sB _ _ hNA) nNB
        have htC:=bC _ _ (sB _ _ ht2) nt1
        have bC':=bA.trans (sB.but.trans bC)
        obtain ⟨kd,hkd,hat⟩:∃ kd,Name kd∧atI [V.str (Str.ofString "ring"),V.str (Str.ofString "cut"),V.str z2] r=some (.str kd):=by
          obtain ⟨j,rfl⟩:=Int.eq_ofNat_of_zero_le r0
          match j,r1 with
          | 0,_=>exact ⟨_,name_ring,atI_nat (j:=0) rfl⟩
          | 1,_=>exact ⟨_,name_cut,atI_nat (j:=1) rfl⟩
          | 2,_=>exact ⟨_,n2,atI_nat (j:=2) rfl⟩
          | j + 3,h=>omega
        refine ⟨W,_,r,.str kd,rfl,rfl,SqL.of (bC _ _ hWB nWB),hat,?_⟩
        refine ⟨_,rfl,_,rfl,N,_,_,V.str z0,rfl,rfl,SqL.of hNC,at0,_,rfl,N,_,_,V.str z1,rfl,rfl,SqL.of hNC,at1,_,rfl,(show 4≤sizeLine by decide),fun p1 hp1=>?_⟩
        have sD:=same_upd (o:=.tup [V.str (Str.ofString "keep"),V.str z0,V.str z1,V.str kd]) hp1
        refine ⟨_,rfl,p1,t1,_,_,rfl,rfl,SqT.of upd_same,SqT.of (sD _ _ htC),(by simp),(show 4 + 2≤sizeLine by decide),(fun h=>by cases h),fun _ p2 hp2=>?_⟩
        have sE:=sD.trans (same_upd (o:=.tup [V.str (Str.ofString "keep"),V.str z0,V.str z1,V.str kd,V.int g1,V.int g2]) hp2)
        refine ⟨_,rfl,L,_,rfl,.inl ⟨SqL.of (sE _ _ hLC),fun q hq=>⟨(show 1≤sizeLine by decide),fun p3 hp3=>?_⟩⟩⟩
        have sF:=same_upd (o:=.tup (fs.map V.int)) hq
        have sG:=same_upd (o:=.tup [V.ref q]) hp3
        refine ⟨p2,p3,[V.str (Str.ofString "keep"),V.str z0,V.str z1,V.str kd,V.int g1,V.int g2],_,rfl,rfl,SqT.of (sG _ _ (sF _ _ upd_same)),SqT.of upd_same,(by simp),(show 6 + 1≤sizeLine by decide),(fun h=>by cases h),fun _ t ht=>?_⟩
        have sH:=same_upd (o:=.tup [V.str (Str.ofString "keep"),V.str z0,V.str z1,V.str kd,V.int g1,V.int g2,V.ref q]) ht
        have sI:=sE.trans (sF.trans (sG.trans sH))
        refine k _ (Str.ofString "keep",[.name z0,.name z1,.name kd,.num g1,.num g2,.nums fs]) _ ⟨forms6,fun p hp=>?_⟩ ⟨t,[V.str z0,V.str z1,V.str kd,V.int g1,V.int g2,V.ref q],rfl,SqT.of upd_same,rfl,fun i v p hv hp=>?_⟩ (bxC.but sI) (bC'.trans sI.but)
        · simp only [List.mem_cons,List.not_mem_nil,or_false] at hp
          rcases hp with rfl | rfl | rfl | rfl | rfl | rfl
          · exact n0
          · exact n1
          · exact hkd
          · exact hg1
          · exact hg2
          · exact ⟨by omega,hf⟩
        · match i with
          | 0=>cases hv; cases hp; rfl
          | 1=>cases hv; cases hp; rfl
          | 2=>cases hv; cases hp; rfl
          | 3=>cases hv; cases hp; rfl
          | 4=>cases hv; cases hp; rfl
          | 5=>cases hv; cases hp; exact ⟨q,rfl,SqT.of (sH _ _ (sG _ _ upd_same))⟩
          | i + 6=>cases hv
end
end KX
namespace KX
open PySem L2 PyProof.Rows K01 KW TX
theorem _root_.L2.FnOk.or {P:Program} {w:World} {K:PySem.W.Frag} {mg:Str→Option Value} {base:Heap} {CX:CXT} {k:Nat} {f:Addr} {fd:FuncData} {ps:List Str} {sp sp':Sp} (F:FnOk P w K mg base CX k f fd ps sp) (G:FnOk P w K mg base CX k f fd ps sp') :
    FnOk P w K mg base CX k f fd ps (fun vs H Q E=>sp vs H Q E∨sp' vs H Q E) :=
  ⟨fun vs H Q E q=>q.elim (F.len vs H Q E) (G.len vs H Q E),fun A outer s H args us vs Q E hr he hb hv hs=>hs.elim (F.run A outer s H args us vs Q E hr he hb hv) (G.run A outer s H args us vs Q E hr he hb hv)⟩
theorem AlkX.up {K:PySem.W.Frag} {H:Hp} {d:Nat} {x y:V} (h:AlkX K H d x y):AlkX K H (d + 1) x y:=by
  induction h with
  | int n=>exact .int n
  | str b=>exact .str b
  | tup ha hb hl hz _ ih=>exact .tup ha hb hl hz ih
section
variable {P:Program} {w:World} {K:PySem.W.Frag} {mg:Str→Option Value} {base:Heap}
def spWritten (K:PySem.W.Frag):Sp:=fun vs H Q _=>∃ B S:Addr,vs=[.ref B]∧Box H B S∧(∀ (v:V) (d:Deed) (H':Hp),GoodD d→DeedAt K H' v d→Box H' B S→But B H H'→Q v H')∧∀ (v:V) (ds:List Deed) (H':Hp),ds.length≤3→(∀ d∈ds,GoodD d)→BundleAt K H' v ds→Box H' B S→But B H H'→Q v H'
theorem scWritten:FnScope ["_law_box_here"] ["_law_box_here"] (defScope (top 41)):=⟨rfl,rfl,rfl,by decide +kernel,rfl,by decide +kernel,by decide +kernel⟩
set_option maxHeartbeats 4000000 in
theorem ok_written {f:Addr} {fd:FuncData} (F:FnAt K mg "_law_written_deed" "_law_written_deed" (top 41) .none f fd) (T:KW.Txt mg)
    {f__law_take:Addr} {d__law_take:FuncData} (A__law_take:FnAt K mg "_law_take" "_law_take" (top 34) .none f__law_take d__law_take) (b__law_take:L2.Binds K d__law_take ["_law_box_here","_law_many"] []) (G__law_take:FnOk P w K mg base CX0 2 f__law_take d__law_take ["_law_box_here","_law_many"] (spTake)) {f__law_plain_deed:Addr} {d__law_plain_deed:FuncData} (A__law_plain_deed:FnAt K mg "_law_plain_deed" "_law_plain_deed" (top 40) .none f__law_plain_deed d__law_plain_deed) (b__law_plain_deed:L2.Binds K d__law_plain_deed ["_law_box_here"] []) (G__law_plain_deed:FnOk P w K mg base CX0 4 f__law_plain_deed d__law_plain_deed ["_law_box_here"] (spPlainDeed K)):FnOk P w K mg base CX0 5 f fd ["_law_box_here"] (spWritten K):=by
  have nd:=scWritten.nd
  refine F.ok scWritten (fun vs H Q E h=>?_) (fun cdv A outer s H vs Q E hr h=>?_)
  · obtain ⟨B,S,rfl,_⟩:=h
    rfl
  · obtain ⟨B,S,rfl,bx,k1,k2⟩:=h
    refine ⟨_,(pss_cons (ps_if (pt_cmpR op_gt (pe_call (G__law_take.mono (by decide)) hr rfl A__law_take.mg A__law_take.kp b__law_take .nil pass0 (pa_cons (pv 0) (pa_cons pe_int pa_nil))) pe_int (nomark _)) (pss_one (ps_ret (pe_call (G__law_plain_deed.mono (by decide)) hr rfl A__law_plain_deed.mg A__law_plain_deed.kp b__law_plain_deed .nil pass0 (pa_cons (pv 0) pa_nil)))) pss_nil)
      (pss_one (ps_ret (pe_tup (pa_cons pe_str (pa_cons (pe_callTy call_tuple_of (by rfl) T.n_tuple boot_tuple (pa_cons (pe_comp (by rfl) (compOk (N:=["_law_k","_law_box_here"]) (ix:=[none,some 0])) (pi_range1 (by rfl) T.n_range (pa_cons (pe_call (G__law_take.mono (by decide)) hr rfl A__law_take.mg A__law_take.kp b__law_take .nil pass0 (pa_cons (pv 0) (pa_cons pe_int pa_nil))) pa_nil)) (by intro _ _ _ _ _; exact PG.to (pg_name (i:=0) (show (["_law_k","_law_box_here"]:List Str).Nodup by decide +kernel) rfl (Or.inl rfl)) (by (try simp only [inX_K]); rfl)) (by intro _ _ _ _ _; exact PE.to (pe_call (G__law_plain_deed.mono (by decide)) hr rfl A__law_plain_deed.mg A__law_plain_deed.kp b__law_plain_deed .nil pass0 (pa_cons (pv 1) pa_nil)) (by (try simp only [inX_K]); rfl))) pa_nil)) pa_nil)))))),?_⟩
    refine ⟨_,rfl,B,S,_,rfl,bx,by decide,by decide,fun r H1 r0 r1 bx1 b1=>⟨_,_,rfl,rfl,_,rfl,?_⟩⟩
    refine ite2 (fun hc=>?_) (fun hc=>?_)
    · exact ⟨_,rfl,B,S,rfl,bx1,fun v d H2 g hd bx2 b2=>k1 v d H2 g hd bx2 (b1.trans b2)⟩
    · refine ⟨_,rfl,B,S,_,rfl,bx1,by decide,by decide,fun r2 H2 r20 r21 bx2 b2=>?_⟩
      obtain ⟨j,rfl⟩:=Int.eq_ofNat_of_zero_le r20
      refine ⟨j,rfl,by omega,by omega,?_⟩
      rw [Int.toNat_natCast]
      refine compR (lo:=0) (n:=j) (fun i ys H3=>∃ ds:List Deed,ds.length=i∧DeedsAt K H3 ys ds∧(∀ d∈ds,GoodD d)∧Box H3 B S∧But B H H3) ⟨[],rfl,⟨rfl,fun i v p h=>by cases h⟩,fun _ h=>absurd h (by simp),bx2,b1.trans b2⟩ ?_ (small1000' (by omega)) ?_ ?_
      · rintro i ys H3 hi ⟨ds,hl,hd,_⟩
        rw [hd.1,hl]
      · rintro i ys H3 R hi ⟨ds,hl,hd,hg,bx3,b3⟩ kR
        obtain ⟨l,hB⟩:=box_lst bx3
        refine ⟨StLe.set rfl,_,rfl,B,S,rfl,bx3,fun v d H4 g hv bx4 b4=>kR _ _ ⟨ds ++ [d],by simp [hl],(hd.but hB b4).snoc hv,fun z hz=>?_,bx4,b3.trans b4⟩⟩
        rcases List.mem_append.mp hz with hz | hz
        · exact hg z hz
        · rw [List.mem_singleton.mp hz]
          exact g
      · rintro ys H3 ⟨ds,hl,hd,hg,bx3,b3⟩ L hL
        have s4:=same_upd (o:=.lst ys) hL
        refine ⟨L,_,rfl,.inl ⟨SqL.of upd_same,fun q hq=>⟨(show 2≤sizeLine by decide),fun t ht=>?_⟩⟩⟩
        have s5:=same_upd (o:=.tup ys) hq
        have s6:=same_upd (o:=.tup [V.str (Str.ofString "bundle"),V.ref q]) ht
        have s7:=s4.trans (s5.trans s6)
        have hd:=hd.same s7
        exact k2 _ ds _ (by omega) hg ⟨t,q,ys,rfl,SqT.of upd_same,SqT.of (s6 _ _ upd_same),hd.1,hd.2⟩ (bx3.but s7) (b3.trans s7.but)
def spDeedText (K:PySem.W.Frag):Sp:=fun vs H Q E=>spPlainText K vs H Q E∨spBundleText K vs H Q E
def spDeedOf (K:PySem.W.Frag):Sp:=fun vs H Q E=>spReadPlain K vs H Q E∨spDeedOf2 K vs H Q E
def spLaw (K:PySem.W.Frag):Sp:=fun vs H Q _=>∃ (a:Addr) (ns:List Int),vs=[.ref a]∧SqL K H a (ns.map V.int)∧ns.length≤63∧∀ H',Q (.bl true) H'
theorem scLaw:FnScope ["_law_script","_law_box_here","_law_k","_law_deed"] ["_law_script"] (defScope (top 42)):=⟨rfl,rfl,rfl,by decide +kernel,rfl,by decide +kernel,by decide +kernel⟩
theorem BundleAt.same {K:PySem.W.Frag} {H H':Hp} {v:V} {ds:List Deed} (h:BundleAt K H v ds) (s:Same H H'):BundleAt K H' v ds:=by
  obtain ⟨a,b,vs,e,h1,h2,h3,h4⟩:=h
  exact ⟨a,b,vs,e,s.sqT h1,s.sqT h2,h3,fun i x d hx hd=>(h4 i x d hx hd).same s⟩
set_option maxHeartbeats 4000000 in
theorem ok_law {f:Addr} {fd:FuncData} (F:FnAt K mg "law" "law" (top 42) .none f fd) (T:KW.Txt mg)
    {f__law_box:Addr} {d__law_box:FuncData} (A__law_box:FnAt K mg "_law_box" "_law_box" (top 32) .none f__law_box d__law_box) (b__law_box:L2.Binds K d__law_box ["_law_script"] []) (G__law_box:FnOk P w K mg base CX0 1 f__law_box d__law_box ["_law_script"] (spBox K)) {f__law_written_deed:Addr} {d__law_written_deed:FuncData} (A__law_written_deed:FnAt K mg "_law_written_deed" "_law_written_deed" (top 41) .none f__law_written_deed d__law_written_deed) (b__law_written_deed:L2.Binds K d__law_written_deed ["_law_box_here"] []) (G__law_written_deed:FnOk P w K mg base CX0 5 f__law_written_deed d__law_written_deed ["_law_box_here"] (spWritten K)) {f__law_alike:Addr} {d__law_alike:FuncData} (A__law_alike:FnAt K mg "_law_alike" "_law_alike" (top 35) .none f__law_alike d__law_alike) (b__law_alike:L2.Binds K d__law_alike ["_law_found","_law_due"] []) (G__law_alike:FnOk P w K mg base CX0 5 f__law_alike d__law_alike ["_law_found","_law_due"] (spAlkX K 5)) {f_deed_text:Addr} {d_deed_text:FuncData} (A_deed_text:FnAt K mg "deed_text" "deed_text" (top 19) .none f_deed_text d_deed_text) (b_deed_text:L2.Binds K d_deed_text ["deed"] []) (G_deed_text:FnOk P w K mg base CX0 5 f_deed_text d_deed_text ["deed"] (spDeedText K)) {f__law_text:Addr} {d__law_text:FuncData} (A__law_text:FnAt K mg "_law_text" "_law_text" (top 38) .none f__law_text d__law_text) (b__law_text:L2.Binds K d__law_text ["_law_deed"] []) (G__law_text:FnOk P w K mg base CX0 3 f__law_text d__law_text ["_law_deed"] (spDeedText K)) {f_deed_of:Addr} {d_deed_of:FuncData} (A_deed_of:FnAt K mg "deed_of" "deed_of" (top 30) .none f_deed_of d_deed_of) (b_deed_of:L2.Binds K d_deed_of ["text"] []) (G_deed_of:FnOk P w K mg base CX0 8 f_deed_of d_deed_of ["text"] (spDeedOf K)):FnOk P w K mg base CX0 9 f fd ["_law_script"] (spLaw K):=by
  have nd:=scLaw.nd
  refine F.ok scLaw (fun vs H Q E h=>?_) (fun cdv A outer s H vs Q E hr h=>?_)
  · obtain ⟨a,ns,rfl,_⟩:=h
    rfl
  · obtain ⟨a,ns,rfl,ha,hlen,q⟩:=h
    refine ⟨_,(pss_cons (ps_set (i:=1) nd rfl (Or.inl rfl) (pe_call (G__law_box.mono (by decide)) hr rfl A__law_box.mg A__law_box.kp b__law_box .nil pass0 (pa_cons (pv 0) pa_nil)))
      (pss_cons (ps_for PassesOwn.never rfl (pi_range1 (by rfl) T.n_range (pa_cons pe_int pa_nil)) (pg_name (i:=2) nd rfl (Or.inl rfl)) (pss_cons (ps_set (i:=3) nd rfl (Or.inl rfl) (pe_call (G__law_written_deed.mono (by decide)) hr rfl A__law_written_deed.mg A__law_written_deed.kp b__law_written_deed .nil pass0 (pa_cons (pv 1) pa_nil)))
      (pss_one (ps_if (PW.pt (pw_or (pt_not (pt_truth (pe_call (G__law_alike.mono (by decide)) hr rfl A__law_alike.mg A__law_alike.kp b__law_alike .nil pass0 (pa_cons (pe_call (G_deed_text.mono (by decide)) hr rfl A_deed_text.mg A_deed_text.kp b_deed_text .nil pass0 (pa_cons (pv 3) pa_nil)) (pa_cons (pe_call (G__law_text.mono (by decide)) hr rfl A__law_text.mg A__law_text.kp b__law_text .nil pass0 (pa_cons (pv 3) pa_nil)) pa_nil))) (fun _=>rfl))) (pw_or1 (pt_not (pt_truth (pe_call (G__law_alike.mono (by decide)) hr rfl A__law_alike.mg A__law_alike.kp b__law_alike .nil pass0 (pa_cons (pe_call (G_deed_of.mono (by decide)) hr rfl A_deed_of.mg A_deed_of.kp b_deed_of .nil pass0 (pa_cons (pe_call (G__law_text.mono (by decide)) hr rfl A__law_text.mg A__law_text.kp b__law_text .nil pass0 (pa_cons (pv 3) pa_nil)) pa_nil)) (pa_cons (pv 3) pa_nil))) (fun _=>rfl)))))) (pss_one (ps_ret pe_bl)) pss_nil))))
      (pss_one (ps_ret pe_bl)))),?_⟩
    refine ⟨_,rfl,a,ns,rfl,ha,hlen,fun B S H1 z1 hB0 hS0 bx1=>?_⟩
    refine ⟨8,rfl,by decide,by decide,for_range (lo:=0) (n:=8) (fun i σ H=>Box H B S∧∃ u1 u2:Option V,σ=[some (.ref a),some (.ref B),u1,u2]) ⟨bx1,none,none,rfl⟩ ?_ ?_⟩
    · rintro i σ H2 hi ⟨bx2,u1,u2,rfl⟩
      refine ⟨_,rfl,B,S,rfl,bx2,fun v d H3 g hd bx3 b3=>?_,fun v ds H3 h3 g hd bx3 b3=>?_⟩
      · refine ⟨_,rfl,.inl ⟨v,d,rfl,hd,g,fun H4 s4=>?_⟩⟩
        refine ⟨_,rfl,.inl ⟨v,d,rfl,hd.same s4,g,fun H5 s5=>⟨_,_,rfl,.str _,fun H6 s6=>⟨true,rfl,iteF ?_⟩⟩⟩⟩
        have sA:=s4.trans (s5.trans s6)
        refine ⟨_,rfl,.inl ⟨v,d,rfl,hd.same sA,g,fun H7 s7=>.inl ⟨d,rfl,g,fun u H8 s8 hu=>?_⟩⟩⟩
        have sB:=sA.trans (s7.trans s8)
        refine ⟨_,rfl,u,v,rfl,(alk_deed hu (hd.same sB) g).up.up,fun H9 s9=>⟨true,rfl,iteF ?_⟩⟩
        exact ⟨bx3.but (sB.trans s9),_,_,rfl⟩
      · refine ⟨_,rfl,.inr ⟨v,ds,rfl,hd,h3,g,fun H4 s4=>?_⟩⟩
        refine ⟨_,rfl,.inr ⟨v,ds,rfl,hd.same s4,h3,g,fun H5 s5=>⟨_,_,rfl,.str _,fun H6 s6=>⟨true,rfl,iteF ?_⟩⟩⟩⟩
        have sA:=s4.trans (s5.trans s6)
        refine ⟨_,rfl,.inr ⟨v,ds,rfl,hd.same sA,h3,g,fun H7 s7=>.inr ⟨ds,rfl,h3,g,fun u H8 s8 hu=>?_⟩⟩⟩
        have sB:=sA.trans (s7.trans s8)
        refine ⟨_,rfl,u,v,rfl,alk_bundle hu (hd.same sB) h3 g,fun H9 s9=>⟨true,rfl,iteF ?_⟩⟩
        exact ⟨bx3.but (sB.trans s9),_,_,rfl⟩
    · rintro σ H2 ⟨bx2,u1,u2,rfl⟩
      exact q _
end
end KX
namespace KX
open PySem L2 PyProof.Rows K01 KW TX
def TupS (K:PySem.W.Frag) (b:Addr) (xs:List Str):Prop:=∃ (o:Obj) (its:Array Value) (n:Nat),K.lookup b=some o∧o.cls=.type "tuple" ∧ o.data=.seq its n∧its.size≤sizeLine∧Vals (xs.map V.str) its.toList
theorem TupS.at {K:PySem.W.Frag} {b:Addr} {xs:List Str} (h:TupS K b xs) (H:Hp):SqT K H b (xs.map V.str):=.inr h
section
variable {w:World} {K:PySem.W.Frag}
theorem tupS1 {b:Addr} {od:Option Addr} {n:Nat} {sl:Array (Option Value)} {x1:Str} {t1:Tok} (l:K.lookup b=some ⟨.type "tuple",od,.seq #[.str x1 t1] n,sl⟩):TupS K b [x1] :=
  ⟨_,_,n,l,rfl,rfl,(show 1≤sizeLine by decide),.cons ⟨t1,rfl⟩ .nil⟩
theorem tupS2 {b:Addr} {od:Option Addr} {n:Nat} {sl:Array (Option Value)} {x1 x2:Str} {t1 t2:Tok} (l:K.lookup b=some ⟨.type "tuple",od,.seq #[.str x1 t1,.str x2 t2] n,sl⟩):TupS K b [x1,x2] :=
  ⟨_,_,n,l,rfl,rfl,(show 2≤sizeLine by decide),.cons ⟨t1,rfl⟩ (.cons ⟨t2,rfl⟩ .nil)⟩
theorem tupS6 {b:Addr} {od:Option Addr} {n:Nat} {sl:Array (Option Value)} {x1 x2 x3 x4 x5 x6:Str} {t1 t2 t3 t4 t5 t6:Tok} (l:K.lookup b=some ⟨.type "tuple",od,.seq #[.str x1 t1,.str x2 t2,.str x3 t3,.str x4 t4,.str x5 t5,.str x6 t6] n,sl⟩):TupS K b [x1,x2,x3,x4,x5,x6] :=
  ⟨_,_,n,l,rfl,rfl,(show 6≤sizeLine by decide),.cons ⟨t1,rfl⟩ (.cons ⟨t2,rfl⟩ (.cons ⟨t3,rfl⟩ (.cons ⟨t4,rfl⟩ (.cons ⟨t5,rfl⟩ (.cons ⟨t6,rfl⟩ .nil)))))⟩
theorem ent {x:Str} {t:Tok} {a:Addr}:Ent w ⟨PyData.keyHash w.params x,.str x t,.ref a⟩ (x,V.ref a):=⟨⟨t,rfl⟩,rfl,rfl⟩
theorem atS_hit {x:Str} {v:V} {r:List (Str × V)}:L2.atS ((x,v) :: r) x=some v:=by unfold L2.atS; exact valV_pos rfl
theorem atS_miss {x y:Str} {v:V} {r:List (Str × V)} (h:y≠x):L2.atS ((y,v) :: r) x=L2.atS r x:=by unfold L2.atS; exact valV_neg (fun e=>h (Sum.inr.inj e))
theorem formsOk {TF b1 b2 b3 b4 b5 b6 b7 b8:Addr} {k1 k2 k3 k4 k5 k6 k7 k8:Tok} {n:Nat} (h0:(TF == sysModules)=false) (l:K.lookup TF=some ⟨.type "dict",none,.dict #[⟨PyData.keyHash w.params (Str.ofString "begin"),.str (Str.ofString "begin") k1,.ref b1⟩,⟨PyData.keyHash w.params (Str.ofString "drop"),.str (Str.ofString "drop") k2,.ref b2⟩,⟨PyData.keyHash w.params (Str.ofString "forget"),.str (Str.ofString "forget") k3,.ref b3⟩,⟨PyData.keyHash w.params (Str.ofString "put"),.str (Str.ofString "put") k4,.ref b4⟩,⟨PyData.keyHash w.params (Str.ofString "take"),.str (Str.ofString "take") k5,.ref b5⟩,⟨PyData.keyHash w.params (Str.ofString "finer"),.str (Str.ofString "finer") k6,.ref b6⟩,⟨PyData.keyHash w.params (Str.ofString "lesser"),.str (Str.ofString "lesser") k7,.ref b7⟩,⟨PyData.keyHash w.params (Str.ofString "keep"),.str (Str.ofString "keep") k8,.ref b8⟩] n,#[]⟩)
    (t1:TupS K b1 [(Str.ofString "name")])
    (t2:TupS K b2 [(Str.ofString "name")])
    (t3:TupS K b3 [(Str.ofString "name")])
    (t4:TupS K b4 [(Str.ofString "name"),(Str.ofString "face")])
    (t5:TupS K b5 [(Str.ofString "name"),(Str.ofString "face")])
    (t6:TupS K b6 [(Str.ofString "name"),(Str.ofString "face")])
    (t7:TupS K b7 [(Str.ofString "name"),(Str.ofString "face")])
    (t8:TupS K b8 [(Str.ofString "name"),(Str.ofString "name"),(Str.ofString "name"),(Str.ofString "number"),(Str.ofString "number"),(Str.ofString "numbers")])
    : FormsOk w K TF:=by
  refine ⟨[((Str.ofString "begin"),V.ref b1),((Str.ofString "drop"),V.ref b2),((Str.ofString "forget"),V.ref b3),((Str.ofString "put"),V.ref b4),((Str.ofString "take"),V.ref b5),((Str.ofString "finer"),V.ref b6),((Str.ofString "lesser"),V.ref b7),((Str.ofString "keep"),V.ref b8)],⟨h0,?_,_,_,n,l,⟨rfl,rfl,rfl⟩,rfl,?_⟩,?_⟩
  · show ([(Str.ofString "begin"),(Str.ofString "drop"),(Str.ofString "forget"),(Str.ofString "put"),(Str.ofString "take"),(Str.ofString "finer"),(Str.ofString "lesser"),(Str.ofString "keep")]:List Str).Nodup
    decide +kernel
  · exact .cons ent (.cons ent (.cons ent (.cons ent (.cons ent (.cons ent (.cons ent (.cons ent (.nil))))))))
  · intro x hx
    simp only [forms,List.mem_cons,List.not_mem_nil,or_false] at hx
    rcases hx with rfl | rfl | rfl | rfl | rfl | rfl | rfl | rfl
    · exact ⟨b1,atS_hit,t1.at⟩
    · exact ⟨b2,(atS_miss (by decide +kernel)).trans (atS_hit),t2.at⟩
    · exact ⟨b3,(atS_miss (by decide +kernel)).trans ((atS_miss (by decide +kernel)).trans (atS_hit)),t3.at⟩
    · exact ⟨b4,(atS_miss (by decide +kernel)).trans ((atS_miss (by decide +kernel)).trans ((atS_miss (by decide +kernel)).trans (atS_hit))),t4.at⟩
    · exact ⟨b5,(atS_miss (by decide +kernel)).trans ((atS_miss (by decide +kernel)).trans ((atS_miss (by decide +kernel)).trans ((atS_miss (by decide +kernel)).trans (atS_hit)))),t5.at⟩
    · exact ⟨b6,(atS_miss (by decide +kernel)).trans ((atS_miss (by decide +kernel)).trans ((atS_miss (by decide +kernel)).trans ((atS_miss (by decide +kernel)).trans ((atS_miss (by decide +kernel)).trans (atS_hit))))),t6.at⟩
    · exact ⟨b7,(atS_miss (by decide +kernel)).trans ((atS_miss (by decide +kernel)).trans ((atS_miss (by decide +kernel)).trans ((atS_miss (by decide +kernel)).trans ((atS_miss (by decide +kernel)).trans ((atS_miss (by decide +kernel)).trans (atS_hit)))))),t7.at⟩
    · exact ⟨b8,(atS_miss (by decide +kernel)).trans ((atS_miss (by decide +kernel)).trans ((atS_miss (by decide +kernel)).trans ((atS_miss (by decide +kernel)).trans ((atS_miss (by decide +kernel)).trans ((atS_miss (by decide +kernel)).trans ((atS_miss (by decide +kernel)).trans (atS_hit))))))),t8.at⟩
theorem readersOk {TR f1 f2 f3 f4:Addr} {k1 k2 k3 k4:Tok} {n:Nat} (h0:(TR == sysModules)=false) (l:K.lookup TR=some ⟨.type "dict",none,.dict #[⟨PyData.keyHash w.params (Str.ofString "name"),.str (Str.ofString "name") k1,.ref f1⟩,⟨PyData.keyHash w.params (Str.ofString "face"),.str (Str.ofString "face") k2,.ref f2⟩,⟨PyData.keyHash w.params (Str.ofString "number"),.str (Str.ofString "number") k3,.ref f3⟩,⟨PyData.keyHash w.params (Str.ofString "numbers"),.str (Str.ofString "numbers") k4,.ref f4⟩] n,#[]⟩):ReadersOk w K TR f1 f2 f3 f4:=by
  refine ⟨[((Str.ofString "name"),V.ref f1),((Str.ofString "face"),V.ref f2),((Str.ofString "number"),V.ref f3),((Str.ofString "numbers"),V.ref f4)],⟨h0,?_,_,_,n,l,⟨rfl,rfl,rfl⟩,rfl,?_⟩,?_,?_,?_,?_⟩
  · show ([(Str.ofString "name"),(Str.ofString "face"),(Str.ofString "number"),(Str.ofString "numbers")]:List Str).Nodup
    decide +kernel
  · exact .cons ent (.cons ent (.cons ent (.cons ent .nil)))
  · exact atS_hit
  · exact (atS_miss (by decide +kernel)).trans (atS_hit)
  · exact (atS_miss (by decide +kernel)).trans ((atS_miss (by decide +kernel)).trans (atS_hit))
  · exact (atS_miss (by decide +kernel)).trans ((atS_miss (by decide +kernel)).trans ((atS_miss (by decide +kernel)).trans (atS_hit)))
end
end KX
namespace L2
open PySem PySem.Spec PyProof.Rows
section
variable {K:PySem.W.Frag}
structure FnE (K:PySem.W.Frag) (n q:Str) (st:Stmt) (dV kV:Value) (f:Addr):Prop where
  ex:∃ (oc:Value) (od:Option Addr) (doc pm:Value) (an:Option Addr) (cdv ct:Value) (osl:Array (Option Value)),K.lookup f=some ⟨oc,od,.func (PySem.W.fnOf n q (defArgs st) (defBody st) (defScope st) dV kV doc pm an cdv ct),osl⟩∧PySem.W.codeIn K cdv q=true
  kp:PySem.W.keepIn K (.ref f)=true
theorem FnE.mk' {n q:Str} {st:Stmt} {dV kV:Value} {f:Addr} {oc:Value} {od an:Option Addr} {doc pm cdv ct:Value} {osl:Array (Option Value)} (l:K.lookup f=some ⟨oc,od,.func (PySem.W.fnOf n q (defArgs st) (defBody st) (defScope st) dV kV doc pm an cdv ct),osl⟩) (c:PySem.W.codeIn K cdv q=true) (k:PySem.W.keepIn K (.ref f)=true):FnE K n q st dV kV f:=⟨⟨oc,od,doc,pm,an,cdv,ct,osl,l,c⟩,k⟩
theorem FnE.at {mg:Str→Option Value} {n:Str} {st:Stmt} {dV:Value} {f:Addr} (h:∃ kV,FnE K n n st dV kV f) (m:mg n=some (.ref f)):∃ fd,FnAt K mg n n st dV f fd:=by
  obtain ⟨kV,⟨oc,od,doc,pm,an,cdv,ct,osl,l,c⟩,k⟩:=h
  exact ⟨_,⟨oc,od,kV,doc,pm,an,cdv,ct,osl,rfl,l,c⟩,k,m⟩
end
end L2
namespace KP
open PySem L2 PyProof.Rows KW KX PySem.W
set_option maxHeartbeats 4000000 in
theorem all_mk {l:OpenLaw} {w:World} {K:Frag} {h:Heap} {mg:Str→Option Value} {fa f_face_text f_is_name f_numbers_text f_part_text f_plain_text f_deed_text f_read_name f_read_number f_read_signed f_read_face f_read_numbers f_read_part f_read_words f_read_plain f_read_behind_blank f_deed_of f__law_box f__law_mixed f__law_take f__law_alike f__law_ten_names f__law_row_text f__law_text f__law_great_number f__law_plain_deed f__law_written_deed f_law:Addr} (X:K.In h) (G:h.Ns mainGlobals mg) (hfa:mg "law" = some (.ref fa))
  (a_face_text:nsIn K mainGlobals "face_text" = some (some (.ref f_face_text)))
  (h_face_text:∃ kV,FnE K "face_text" "face_text" (KW.top 4) .none kV f_face_text)
  (a_is_name:nsIn K mainGlobals "is_name" = some (some (.ref f_is_name)))
  (h_is_name:∃ kV,FnE K "is_name" "is_name" (KW.top 9) .none kV f_is_name)
  (a_numbers_text:nsIn K mainGlobals "numbers_text" = some (some (.ref f_numbers_text)))
  (h_numbers_text:∃ kV,FnE K "numbers_text" "numbers_text" (KW.top 16) .none kV f_numbers_text)
  (a_part_text:nsIn K mainGlobals "part_text" = some (some (.ref f_part_text)))
  (h_part_text:∃ kV,FnE K "part_text" "part_text" (KW.top 17) .none kV f_part_text)
  (a_plain_text:nsIn K mainGlobals "plain_text" = some (some (.ref f_plain_text)))
  (h_plain_text:∃ kV,FnE K "plain_text" "plain_text" (KW.top 18) .none kV f_plain_text)
  (a_deed_text:nsIn K mainGlobals "deed_text" = some (some (.ref f_deed_text)))
  (h_deed_text:∃ kV,FnE K "deed_text" "deed_text" (KW.top 19) .none kV f_deed_text)
  (a_read_name:nsIn K mainGlobals "read_name" = some (some (.ref f_read_name)))
  (h_read_name:∃ kV,FnE K "read_name" "read_name" (KW.top 20) .none kV f_read_name)
  (a_read_number:nsIn K mainGlobals "read_number" = some (some (.ref f_read_number)))
  (h_read_number:∃ kV,FnE K "read_number" "read_number" (KW.top 21) .none kV f_read_number)
  (a_read_signed:nsIn K mainGlobals "read_signed" = some (some (.ref f_read_signed)))
  (h_read_signed:∃ kV,FnE K "read_signed" "read_signed" (KW.top 22) .none kV f_read_signed)
  (a_read_face:nsIn K mainGlobals "read_face" = some (some (.ref f_read_face)))
  (h_read_face:∃ kV,FnE K "read_face" "read_face" (KW.top 23) .none kV f_read_face)
  (a_read_numbers:nsIn K mainGlobals "read_numbers" = some (some (.ref f_read_numbers)))
  (h_read_numbers:∃ kV,FnE K "read_numbers" "read_numbers" (KW.top 24) .none kV f_read_numbers)
  (a_read_part:nsIn K mainGlobals "read_part" = some (some (.ref f_read_part)))
  (h_read_part:∃ kV,FnE K "read_part" "read_part" (KW.top 26) .none kV f_read_part)
  (a_read_words:nsIn K mainGlobals "read_words" = some (some (.ref f_read_words)))
  (h_read_words:∃ kV,FnE K "read_words" "read_words" (KW.top 27) .none kV f_read_words)
  (a_read_plain:nsIn K mainGlobals "read_plain" = some (some (.ref f_read_plain)))
  (h_read_plain:∃ kV,FnE K "read_plain" "read_plain" (KW.top 28) .none kV f_read_plain)
  (a_read_behind_blank:nsIn K mainGlobals "read_behind_blank" = some (some (.ref f_read_behind_blank)))
  (h_read_behind_blank:∃ kV,FnE K "read_behind_blank" "read_behind_blank" (KW.top 29) .none kV f_read_behind_blank)
  (a_deed_of:nsIn K mainGlobals "deed_of" = some (some (.ref f_deed_of)))
  (h_deed_of:∃ kV,FnE K "deed_of" "deed_of" (KW.top 30) .none kV f_deed_of)
  (a__law_box:nsIn K mainGlobals "_law_box" = some (some (.ref f__law_box)))
  (h__law_box:∃ kV,FnE K "_law_box" "_law_box" (KW.top 32) .none kV f__law_box)
  (a__law_mixed:nsIn K mainGlobals "_law_mixed" = some (some (.ref f__law_mixed)))
  (h__law_mixed:∃ kV,FnE K "_law_mixed" "_law_mixed" (KW.top 33) .none kV f__law_mixed)
  (a__law_take:nsIn K mainGlobals "_law_take" = some (some (.ref f__law_take)))
  (h__law_take:∃ kV,FnE K "_law_take" "_law_take" (KW.top 34) .none kV f__law_take)
  (a__law_alike:nsIn K mainGlobals "_law_alike" = some (some (.ref f__law_alike)))
  (h__law_alike:∃ kV,FnE K "_law_alike" "_law_alike" (KW.top 35) .none kV f__law_alike)
  (a__law_ten_names:nsIn K mainGlobals "_law_ten_names" = some (some (.ref f__law_ten_names)))
  (h__law_ten_names:∃ kV,FnE K "_law_ten_names" "_law_ten_names" (KW.top 36) .none kV f__law_ten_names)
  (a__law_row_text:nsIn K mainGlobals "_law_row_text" = some (some (.ref f__law_row_text)))
  (h__law_row_text:∃ kV,FnE K "_law_row_text" "_law_row_text" (KW.top 37) .none kV f__law_row_text)
  (a__law_text:nsIn K mainGlobals "_law_text" = some (some (.ref f__law_text)))
  (h__law_text:∃ kV,FnE K "_law_text" "_law_text" (KW.top 38) .none kV f__law_text)
  (a__law_great_number:nsIn K mainGlobals "_law_great_number" = some (some (.ref f__law_great_number)))
  (h__law_great_number:∃ kV,FnE K "_law_great_number" "_law_great_number" (KW.top 39) .none kV f__law_great_number)
  (a__law_plain_deed:nsIn K mainGlobals "_law_plain_deed" = some (some (.ref f__law_plain_deed)))
  (h__law_plain_deed:∃ kV,FnE K "_law_plain_deed" "_law_plain_deed" (KW.top 40) .none kV f__law_plain_deed)
  (a__law_written_deed:nsIn K mainGlobals "_law_written_deed" = some (some (.ref f__law_written_deed)))
  (h__law_written_deed:∃ kV,FnE K "_law_written_deed" "_law_written_deed" (KW.top 41) .none kV f__law_written_deed)
  (a_law:nsIn K mainGlobals "law" = some (some (.ref f_law)))
  (h_law:∃ kV,FnE K "law" "law" (KW.top 42) .none kV f_law)
  {tBUNDLE:Tok} (gBUNDLE:nsIn K mainGlobals "BUNDLE" = some (some (.str "bundle" tBUNDLE)))
  {tLETTERS:Tok} (gLETTERS:nsIn K mainGlobals "LETTERS" = some (some (.str "abcdefghijklmnopqrstuvwxyz" tLETTERS)))
  {tLONGEST_NAME:Tok} (gLONGEST_NAME:nsIn K mainGlobals "LONGEST_NAME" = some (some (.int 8 tLONGEST_NAME)))
  {tDIGITS:Tok} (gDIGITS:nsIn K mainGlobals "DIGITS" = some (some (.str "0123456789" tDIGITS)))
  {tMOST_FIGURES:Tok} (gMOST_FIGURES:nsIn K mainGlobals "MOST_FIGURES" = some (some (.int 30 tMOST_FIGURES)))
  {tALL:Tok} (gALL:nsIn K mainGlobals "ALL" = some (some (.str "all:" tALL)))
  {tNO_NUMBERS:Tok} (gNO_NUMBERS:nsIn K mainGlobals "NO_NUMBERS" = some (some (.str "-" tNO_NUMBERS)))
  (zlen:nsIn K mainGlobals "len" = some none)
  (zsum:nsIn K mainGlobals "sum" = some none)
  (zall:nsIn K mainGlobals "all" = some none)
  (zisinstance:nsIn K mainGlobals "isinstance" = some none)
  (zlist:nsIn K mainGlobals "list" = some none)
  (ztuple:nsIn K mainGlobals "tuple" = some none)
  (zint:nsIn K mainGlobals "int" = some none)
  (zbool:nsIn K mainGlobals "bool" = some none)
  (zstr:nsIn K mainGlobals "str" = some none)
  (zrange:nsIn K mainGlobals "range" = some none)
  (zzip:nsIn K mainGlobals "zip" = some none)
  (zset:nsIn K mainGlobals "set" = some none)
  (zsorted:nsIn K mainGlobals "sorted" = some none)
  (zmin:nsIn K mainGlobals "min" = some none)
  {TF:Addr} (gF:nsIn K mainGlobals "FORMS" = some (some (.ref TF)))
   (h0F:(TF == sysModules)=false)
  {e0 e1 e2 e3 e4 e5 e6 e7:Addr} {k0 k1 k2 k3 k4 k5 k6 k7:Tok} {nF:Nat} (lF:K.lookup TF=some ⟨.type "dict",none,.dict #[⟨PyData.keyHash w.params (Str.ofString "begin"),.str (Str.ofString "begin") k0,.ref e0⟩,⟨PyData.keyHash w.params (Str.ofString "drop"),.str (Str.ofString "drop") k1,.ref e1⟩,⟨PyData.keyHash w.params (Str.ofString "forget"),.str (Str.ofString "forget") k2,.ref e2⟩,⟨PyData.keyHash w.params (Str.ofString "put"),.str (Str.ofString "put") k3,.ref e3⟩,⟨PyData.keyHash w.params (Str.ofString "take"),.str (Str.ofString "take") k4,.ref e4⟩,⟨PyData.keyHash w.params (Str.ofString "finer"),.str (Str.ofString "finer") k5,.ref e5⟩,⟨PyData.keyHash w.params (Str.ofString "lesser"),.str (Str.ofString "lesser") k6,.ref e6⟩,⟨PyData.keyHash w.params (Str.ofString "keep"),.str (Str.ofString "keep") k7,.ref e7⟩] nF,#[]⟩)
   (tp0:TupS K e0 [Str.ofString "name"])
   (tp1:TupS K e1 [Str.ofString "name"])
   (tp2:TupS K e2 [Str.ofString "name"])
   (tp3:TupS K e3 [Str.ofString "name",Str.ofString "face"])
   (tp4:TupS K e4 [Str.ofString "name",Str.ofString "face"])
   (tp5:TupS K e5 [Str.ofString "name",Str.ofString "face"])
   (tp6:TupS K e6 [Str.ofString "name",Str.ofString "face"])
   (tp7:TupS K e7 [Str.ofString "name",Str.ofString "name",Str.ofString "name",Str.ofString "number",Str.ofString "number",Str.ofString "numbers"])
  {TR:Addr} (gR:nsIn K mainGlobals "READERS" = some (some (.ref TR)))
   (h0R:(TR == sysModules)=false)
  {r0 r1 r2 r3:Tok} {nR:Nat} (lR:K.lookup TR=some ⟨.type "dict",none,.dict #[⟨PyData.keyHash w.params (Str.ofString "name"),.str (Str.ofString "name") r0,.ref f_read_name⟩,⟨PyData.keyHash w.params (Str.ofString "face"),.str (Str.ofString "face") r1,.ref f_read_face⟩,⟨PyData.keyHash w.params (Str.ofString "number"),.str (Str.ofString "number") r2,.ref f_read_number⟩,⟨PyData.keyHash w.params (Str.ofString "numbers"),.str (Str.ofString "numbers") r3,.ref f_read_numbers⟩] nR,#[]⟩) :
    ∃ fd:FuncData,(∀ (s:Shared) (v:Value),BindsTo s fd ⟨[v],[]⟩ [("_law_script",v)])∧∀ base:Heap,K.In base→base.Ns mainGlobals mg→L2.FnOk l.prog w K mg base CX0 9 fa fd ["_law_script"] (spLaw K):=by
  have e:=hfa.symm.trans (mg_of X G a_law)
  cases e
  have T0:KW.Txt mg:=⟨mg_none_of X G zlen,mg_none_of X G zsum,mg_none_of X G zall,mg_none_of X G zisinstance,mg_none_of X G zlist,mg_none_of X G ztuple,mg_none_of X G zint,mg_none_of X G zbool,mg_none_of X G zstr,mg_none_of X G zrange,mg_none_of X G zzip,mg_none_of X G zset,mg_none_of X G zsorted,mg_none_of X G zmin⟩
  obtain ⟨d_face_text,A_face_text⟩:=FnE.at h_face_text (mg_of X G a_face_text)
  have b_face_text:L2.Binds K d_face_text ["face"] []:=A_face_text.binds fun _ _ _ _ _ _ us hl=>match us,hl with | [_],_=>rfl
  obtain ⟨d_is_name,A_is_name⟩:=FnE.at h_is_name (mg_of X G a_is_name)
  have b_is_name:L2.Binds K d_is_name ["text"] []:=A_is_name.binds fun _ _ _ _ _ _ us hl=>match us,hl with | [_],_=>rfl
  obtain ⟨d_numbers_text,A_numbers_text⟩:=FnE.at h_numbers_text (mg_of X G a_numbers_text)
  have b_numbers_text:L2.Binds K d_numbers_text ["numbers"] []:=A_numbers_text.binds fun _ _ _ _ _ _ us hl=>match us,hl with | [_],_=>rfl
  obtain ⟨d_part_text,A_part_text⟩:=FnE.at h_part_text (mg_of X G a_part_text)
  have b_part_text:L2.Binds K d_part_text ["kind","part"] []:=A_part_text.binds fun _ _ _ _ _ _ us hl=>match us,hl with | [_,_],_=>rfl
  obtain ⟨d_plain_text,A_plain_text⟩:=FnE.at h_plain_text (mg_of X G a_plain_text)
  have b_plain_text:L2.Binds K d_plain_text ["deed"] []:=A_plain_text.binds fun _ _ _ _ _ _ us hl=>match us,hl with | [_],_=>rfl
  obtain ⟨d_deed_text,A_deed_text⟩:=FnE.at h_deed_text (mg_of X G a_deed_text)
  have b_deed_text:L2.Binds K d_deed_text ["deed"] []:=A_deed_text.binds fun _ _ _ _ _ _ us hl=>match us,hl with | [_],_=>rfl
  obtain ⟨d_read_name,A_read_name⟩:=FnE.at h_read_name (mg_of X G a_read_name)
  have b_read_name:L2.Binds K d_read_name ["word"] []:=A_read_name.binds fun _ _ _ _ _ _ us hl=>match us,hl with | [_],_=>rfl
  obtain ⟨d_read_number,A_read_number⟩:=FnE.at h_read_number (mg_of X G a_read_number)
  have b_read_number:L2.Binds K d_read_number ["word"] []:=A_read_number.binds fun _ _ _ _ _ _ us hl=>match us,hl with | [_],_=>rfl
  obtain ⟨d_read_signed,A_read_signed⟩:=FnE.at h_read_signed (mg_of X G a_read_signed)
  have b_read_signed:L2.Binds K d_read_signed ["word"] []:=A_read_signed.binds fun _ _ _ _ _ _ us hl=>match us,hl with | [_],_=>rfl
  obtain ⟨d_read_face,A_read_face⟩:=FnE.at h_read_face (mg_of X G a_read_face)
  have b_read_face:L2.Binds K d_read_face ["word"] []:=A_read_face.binds fun _ _ _ _ _ _ us hl=>match us,hl with | [_],_=>rfl
  obtain ⟨d_read_numbers,A_read_numbers⟩:=FnE.at h_read_numbers (mg_of X G a_read_numbers)
  have b_read_numbers:L2.Binds K d_read_numbers ["word"] []:=A_read_numbers.binds fun _ _ _ _ _ _ us hl=>match us,hl with | [_],_=>rfl
  obtain ⟨d_read_part,A_read_part⟩:=FnE.at h_read_part (mg_of X G a_read_part)
  have b_read_part:L2.Binds K d_read_part ["kind","word"] []:=A_read_part.binds fun _ _ _ _ _ _ us hl=>match us,hl with | [_,_],_=>rfl
  obtain ⟨d_read_words,A_read_words⟩:=FnE.at h_read_words (mg_of X G a_read_words)
  have b_read_words:L2.Binds K d_read_words ["words","kinds"] []:=A_read_words.binds fun _ _ _ _ _ _ us hl=>match us,hl with | [_,_],_=>rfl
  obtain ⟨d_read_plain,A_read_plain⟩:=FnE.at h_read_plain (mg_of X G a_read_plain)
  have b_read_plain:L2.Binds K d_read_plain ["text"] []:=A_read_plain.binds fun _ _ _ _ _ _ us hl=>match us,hl with | [_],_=>rfl
  obtain ⟨d_read_behind_blank,A_read_behind_blank⟩:=FnE.at h_read_behind_blank (mg_of X G a_read_behind_blank)
  have b_read_behind_blank:L2.Binds K d_read_behind_blank ["text"] []:=A_read_behind_blank.binds fun _ _ _ _ _ _ us hl=>match us,hl with | [_],_=>rfl
  obtain ⟨d_deed_of,A_deed_of⟩:=FnE.at h_deed_of (mg_of X G a_deed_of)
  have b_deed_of:L2.Binds K d_deed_of ["text"] []:=A_deed_of.binds fun _ _ _ _ _ _ us hl=>match us,hl with | [_],_=>rfl
  obtain ⟨d__law_box,A__law_box⟩:=FnE.at h__law_box (mg_of X G a__law_box)
  have b__law_box:L2.Binds K d__law_box ["_law_script"] []:=A__law_box.binds fun _ _ _ _ _ _ us hl=>match us,hl with | [_],_=>rfl
  obtain ⟨d__law_mixed,A__law_mixed⟩:=FnE.at h__law_mixed (mg_of X G a__law_mixed)
  have b__law_mixed:L2.Binds K d__law_mixed ["_law_number","_law_turn"] []:=A__law_mixed.binds fun _ _ _ _ _ _ us hl=>match us,hl with | [_,_],_=>rfl
  obtain ⟨d__law_take,A__law_take⟩:=FnE.at h__law_take (mg_of X G a__law_take)
  have b__law_take:L2.Binds K d__law_take ["_law_box_here","_law_many"] []:=A__law_take.binds fun _ _ _ _ _ _ us hl=>match us,hl with | [_,_],_=>rfl
  obtain ⟨d__law_alike,A__law_alike⟩:=FnE.at h__law_alike (mg_of X G a__law_alike)
  have b__law_alike:L2.Binds K d__law_alike ["_law_found","_law_due"] []:=A__law_alike.binds fun _ _ _ _ _ _ us hl=>match us,hl with | [_,_],_=>rfl
  obtain ⟨d__law_ten_names,A__law_ten_names⟩:=FnE.at h__law_ten_names (mg_of X G a__law_ten_names)
  have b__law_ten_names:L2.Binds K d__law_ten_names ["_law_box_here"] []:=A__law_ten_names.binds fun _ _ _ _ _ _ us hl=>match us,hl with | [_],_=>rfl
  obtain ⟨d__law_row_text,A__law_row_text⟩:=FnE.at h__law_row_text (mg_of X G a__law_row_text)
  have b__law_row_text:L2.Binds K d__law_row_text ["_law_numbers"] []:=A__law_row_text.binds fun _ _ _ _ _ _ us hl=>match us,hl with | [_],_=>rfl
  obtain ⟨d__law_text,A__law_text⟩:=FnE.at h__law_text (mg_of X G a__law_text)
  have b__law_text:L2.Binds K d__law_text ["_law_deed"] []:=A__law_text.binds fun _ _ _ _ _ _ us hl=>match us,hl with | [_],_=>rfl
  obtain ⟨d__law_great_number,A__law_great_number⟩:=FnE.at h__law_great_number (mg_of X G a__law_great_number)
  have b__law_great_number:L2.Binds K d__law_great_number ["_law_box_here"] []:=A__law_great_number.binds fun _ _ _ _ _ _ us hl=>match us,hl with | [_],_=>rfl
  obtain ⟨d__law_plain_deed,A__law_plain_deed⟩:=FnE.at h__law_plain_deed (mg_of X G a__law_plain_deed)
  have b__law_plain_deed:L2.Binds K d__law_plain_deed ["_law_box_here"] []:=A__law_plain_deed.binds fun _ _ _ _ _ _ us hl=>match us,hl with | [_],_=>rfl
  obtain ⟨d__law_written_deed,A__law_written_deed⟩:=FnE.at h__law_written_deed (mg_of X G a__law_written_deed)
  have b__law_written_deed:L2.Binds K d__law_written_deed ["_law_box_here"] []:=A__law_written_deed.binds fun _ _ _ _ _ _ us hl=>match us,hl with | [_],_=>rfl
  obtain ⟨kV,⟨oc,od,doc,pm,an,cdv,ct,osl,lk,lc⟩,lp⟩:=h_law
  have A_law:=fnAt_mk (st:=KW.top 42) (mg_of X G a_law) lk lc lp
  refine ⟨fnOf "law" "law" (defArgs (KW.top 42)) (defBody (KW.top 42)) (defScope (KW.top 42)) .none kV doc pm an cdv ct,fun s v=>.of_eq rfl,fun base _ _=>?_⟩
  have FO:FormsOk w K TF:=formsOk h0F lF tp0 tp1 tp2 tp3 tp4 tp5 tp6 tp7
  have RO:ReadersOk w K TR f_read_name f_read_face f_read_number f_read_numbers:=readersOk h0R lR
  have T:TxtX mg (fun i=>([tBUNDLE,tLETTERS,tLONGEST_NAME,tDIGITS,tMOST_FIGURES,tALL,tNO_NUMBERS]:List Tok).getD i 0) TF TR:=⟨T0,mg_of X G gBUNDLE,mg_of X G gLETTERS,mg_of X G gLONGEST_NAME,mg_of X G gDIGITS,mg_of X G gMOST_FIGURES,mg_of X G gALL,mg_of X G gNO_NUMBERS,mg_of X G gF,mg_of X G gR⟩
  have G_face_text:=ok_faceText (P:=l.prog) (w:=w) (base:=base) A_face_text T
  have G_is_name:=ok_isName (P:=l.prog) (w:=w) (base:=base) A_is_name T
  have G_numbers_text:=ok_numbersText (P:=l.prog) (w:=w) (base:=base) A_numbers_text T
  have G_part_text:=ok_partText A_part_text T A_face_text b_face_text G_face_text A_numbers_text b_numbers_text G_numbers_text
  have G_plain_text:=ok_plainText A_plain_text T FO A_part_text b_part_text G_part_text
  have G_deed_text1:=ok_deedText1 A_deed_text T A_plain_text b_plain_text G_plain_text
  have G_deed_text:=(G_deed_text1.mono (show 4≤5 by decide)).or (ok_deedText2 A_deed_text b_deed_text G_deed_text1 A_plain_text b_plain_text G_plain_text T)
  have G_read_name:=ok_readName A_read_name T A_is_name b_is_name G_is_name
  have G_read_number:=ok_readNumber (P:=l.prog) (w:=w) (base:=base) A_read_number T
  have G_read_signed:=ok_readSigned A_read_signed T A_read_number b_read_number G_read_number
  have G_read_face:=ok_readFace A_read_face T A_read_number b_read_number G_read_number
  have G_read_numbers:=ok_readNumbers A_read_numbers T A_read_signed b_read_signed G_read_signed
  have G_read_part:=ok_readPart A_read_part T A_read_name b_read_name G_read_name A_read_face b_read_face G_read_face A_read_number b_read_number G_read_number A_read_numbers b_read_numbers G_read_numbers RO
  have G_read_words:=ok_readWords A_read_words T A_read_part b_read_part G_read_part
  have G_read_plain:=ok_readPlain A_read_plain T FO A_read_words b_read_words G_read_words
  have G_read_behind_blank:=ok_readBehind A_read_behind_blank T A_read_plain b_read_plain G_read_plain
  have G_deed_of:=(ok_deedOf1 A_deed_of T A_read_plain b_read_plain G_read_plain A_read_behind_blank b_read_behind_blank G_read_behind_blank).or (ok_deedOf2 A_deed_of T A_read_plain b_read_plain G_read_plain A_read_behind_blank b_read_behind_blank G_read_behind_blank)
  have G__law_box:=KW.ok_box (P:=l.prog) (w:=w) (base:=base) A__law_box T0
  have G__law_take:=KW.ok_take (P:=l.prog) (w:=w) (base:=base) A__law_take A__law_mixed b__law_mixed T0
  have G__law_ten_names:=ok_tenNames A__law_ten_names T0 A__law_take b__law_take G__law_take
  have G__law_row_text:=ok_rowText (P:=l.prog) (w:=w) (base:=base) A__law_row_text T0
  have G__law_text1:=ok_lawText1 A__law_text T0 A__law_row_text b__law_row_text G__law_row_text
  have G__law_text:=(G__law_text1.mono (show 2≤3 by decide)).or (ok_lawText2 A__law_text b__law_text G__law_text1 T0)
  have G__law_great_number:=ok_great A__law_great_number T0 A__law_take b__law_take G__law_take
  have G__law_plain_deed:=ok_plainDeed (K:=K) A__law_plain_deed T0 A__law_take b__law_take G__law_take A__law_ten_names b__law_ten_names G__law_ten_names A__law_great_number b__law_great_number G__law_great_number
  have G__law_written_deed:=ok_written A__law_written_deed T0 A__law_take b__law_take G__law_take A__law_plain_deed b__law_plain_deed G__law_plain_deed
  have G__law_alike:=ok_alkX (P:=l.prog) (w:=w) (base:=base) A__law_alike b__law_alike T0 5
  exact ok_law A_law T0 A__law_box b__law_box G__law_box A__law_written_deed b__law_written_deed G__law_written_deed A__law_alike b__law_alike G__law_alike A_deed_text b_deed_text G_deed_text A__law_text b__law_text G__law_text A_deed_of b_deed_of G_deed_of
theorem walk {l:OpenLaw} {q:Program} {loose:List Str} {XP:(Str→Option Value)→Heap→Prop} {YP:World→Heap→Prop} {d:DefRec} {K:Params→Frag} (hn:l.most=some 63) (hdf:d.params.defaults=[])
    (hY:∀ (w:World) (h:Heap),YP w h→(K w.params).In h)
    (F:∀ (w:World) (mg:Str→Option Value) (fa:Addr) (h:Heap),(K w.params).In h→h.Ns mainGlobals mg→mg d.name=some (.ref fa) →
      ∃ fd:FuncData,(∀ (s:Shared) (u:Value),BindsTo s fd ⟨[u],[]⟩ [("_law_script",u)])∧∀ base:Heap,(K w.params).In base→base.Ns mainGlobals mg→L2.FnOk l.prog w (K w.params) mg base CX0 9 fa fd ["_law_script"] (spLaw (K w.params))) :
    WalkO q loose XP YP l.row.toRowW d [] (fun f vs=>PySem.call f vs) :=
  L2.walk_of (n:=63) (k:=9) (x := "_law_script") (CX:=fun _=>CX0) (sp:=fun w=>spLaw (K w.params)) hn (by decide) hdf ⟨rfl,by decide,by decide⟩ hY F (fun _ _ a ns hl _ hS=>⟨a,ns,rfl,hS,hl,fun _=>rfl⟩) fun _ _ _ _ _ z=>z
end KP
open PySem PySem.W PyProof.Rows
set_option maxRecDepth 100000 in
set_option maxHeartbeats 0 in
theorem PySem.Challenge.cw_cupweb_k63_deeds_written_and_read_holds : PySem.Challenge.rw_cupweb_k63_deeds_written_and_read.Holds := by
  w_on; o_law; k_head; (case hw=>w_witness2)
  k_fill
  refine KP.walk (l:=PySem.Challenge.rw_cupweb_k63_deeds_written_and_read) rfl rfl (fun w h Y=>PySem.W.kIn_of Y) ?F
  case F =>
    intro w mg fa h XI G hmg
    refine' KP.all_mk XI G hmg ?a_face_text ?h_face_text ?a_is_name ?h_is_name ?a_numbers_text ?h_numbers_text ?a_part_text ?h_part_text ?a_plain_text ?h_plain_text ?a_deed_text ?h_deed_text ?a_read_name ?h_read_name ?a_read_number ?h_read_number ?a_read_signed ?h_read_signed ?a_read_face ?h_read_face ?a_read_numbers ?h_read_numbers ?a_read_part ?h_read_part ?a_read_words ?h_read_words ?a_read_plain ?h_read_plain ?a_read_behind_blank ?h_read_behind_blank ?a_deed_of ?h_deed_of ?a__law_box ?h__law_box ?a__law_mixed ?h__law_mixed ?a__law_take ?h__law_take ?a__law_alike ?h__law_alike ?a__law_ten_names ?h__law_ten_names ?a__law_row_text ?h__law_row_text ?a__law_text ?h__law_text ?a__law_great_number ?h__law_great_number ?a__law_plain_deed ?h__law_plain_deed ?a__law_written_deed ?h__law_written_deed ?a_law ?h_law ?gBUNDLE ?gLETTERS ?gLONGEST_NAME ?gDIGITS ?gMOST_FIGURES ?gALL ?gNO_NUMBERS ?zlen ?zsum ?zall ?zisinstance ?zlist ?ztuple ?zint ?zbool ?zstr ?zrange ?zzip ?zset ?zsorted ?zmin ?gF ?h0F ?lF ?tp0 ?tp1 ?tp2 ?tp3 ?tp4 ?tp5 ?tp6 ?tp7 ?gR ?h0R ?lR
    (case a_face_text=>k_is); (case a_is_name=>k_is); (case a_numbers_text=>k_is); (case a_part_text=>k_is); (case a_plain_text=>k_is); (case a_deed_text=>k_is); (case a_read_name=>k_is); (case a_read_number=>k_is); (case a_read_signed=>k_is); (case a_read_face=>k_is); (case a_read_numbers=>k_is); (case a_read_part=>k_is)
    (case a_read_words=>k_is); (case a_read_plain=>k_is); (case a_read_behind_blank=>k_is); (case a_deed_of=>k_is); (case a__law_box=>k_is); (case a__law_mixed=>k_is); (case a__law_take=>k_is); (case a__law_alike=>k_is); (case a__law_ten_names=>k_is); (case a__law_row_text=>k_is); (case a__law_text=>k_is); (case a__law_great_number=>k_is)
    (case a__law_plain_deed=>k_is); (case a__law_written_deed=>k_is); (case a_law=>k_is); (case gBUNDLE=>k_is); (case gLETTERS=>k_is); (case gLONGEST_NAME=>k_is); (case gDIGITS=>k_is); (case gMOST_FIGURES=>k_is); (case gALL=>k_is); (case gNO_NUMBERS=>k_is); (case zlen=>k_is); (case zsum=>k_is)
    (case zall=>k_is); (case zisinstance=>k_is); (case zlist=>k_is); (case ztuple=>k_is); (case zint=>k_is); (case zbool=>k_is); (case zstr=>k_is); (case zrange=>k_is); (case zzip=>k_is); (case zset=>k_is); (case zsorted=>k_is); (case zmin=>k_is)
    (case gF=>k_is); (case h0F=>rfl); (case lF=>k_is); (case tp0=>(refine' KX.tupS1 ?yl; (case yl=>k_is))); (case tp1=>(refine' KX.tupS1 ?yl; (case yl=>k_is))); (case tp2=>(refine' KX.tupS1 ?yl; (case yl=>k_is))); (case tp3=>(refine' KX.tupS2 ?yl; (case yl=>k_is))); (case tp4=>(refine' KX.tupS2 ?yl; (case yl=>k_is))); (case tp5=>(refine' KX.tupS2 ?yl; (case yl=>k_is))); (case tp6=>(refine' KX.tupS2 ?yl; (case yl=>k_is))); (case tp7=>(refine' KX.tupS6 ?yl; (case yl=>k_is))); (case gR=>k_is)
    (case h0R=>rfl); (case lR=>k_is)
    any_goals (refine' ⟨_,L2.FnE.mk' ?yl ?yc ?yk⟩; (case yl=>k_is); (case yc=>k_is); (case yk=>k_is); done)
