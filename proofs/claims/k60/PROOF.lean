import PyProof.Rows.All
import Wide.All
import OpenK.KLine
import KE.KItem
import KE.KSortTup
import KE.KSortAsk
import Wide.FinOn
import Lean
import PyProof.EqAt
import PyProof.EqKinds
import PyProof.TupleCall
import KE.KRevIter
import PyProof.NeKinds
import PyProof.Draws
import PyProof.Rows.Range3
import PyProof.FitsBits
import KE.KTryMore
import PyProof.WalkInts
import PyProof.StrLawsOcc
import KE.RegKTryMore
import KE.RegKIsAll
import PyProof.StationsW
import PyProof.ExcArgsOwn
import PyProof.ExcAttrAll.ValueError
import PyProof.EnumMake
import PyProof.ReprRoads
import PyProof.StrLawsRepr
import PyProof.FitsInt
import PyProof.Rows.RegStrFacts
import PyProof.Rows.TupAdd
import PySem.Challenge.RW_hoopcord_k60_whole_full_shapes_in_order
set_option Elab.async false
set_option linter.all false
set_option maxRecDepth 100000
set_option maxHeartbeats 8000000
set_option compiler.extract_closed false
noncomputable section
set_option genSizeOf false
set_option genInjectivity false
theorem Z0:type_of% @Option.bind_eq_some_iff:=@Option.bind_eq_some_iff
theorem Z1:type_of% @Option.bind_some:=@Option.bind_some
theorem Z2:type_of% @List.length_map:=@List.length_map
theorem Z3:type_of% @List.getElem?_eq_getElem:=@List.getElem?_eq_getElem
theorem Z4:type_of% @List.size_toArray:=@List.size_toArray
theorem Z5:type_of% @List.getD_eq_getElem?_getD:=@List.getD_eq_getElem?_getD
theorem Z6:type_of% @List.map_cons:=@List.map_cons
theorem Z7:type_of% @PySem.Heap.get?_push_of_some:=@PySem.Heap.get?_push_of_some
theorem Z8:type_of% @List.mem_cons_of_mem:=@List.mem_cons_of_mem
theorem Z9:type_of% @List.getElem?_eq_some_iff:=@List.getElem?_eq_some_iff
theorem Z10:type_of% @Nat.le_refl:=@Nat.le_refl
theorem Z11:type_of% @List.mem_append:=@List.mem_append
theorem Z12:type_of% @List.mem_singleton:=@List.mem_singleton
theorem Z13:type_of% @PySem.Heap.lt_size:=@PySem.Heap.lt_size
theorem Z14:type_of% @Nat.le_of_ble_eq_true:=@Nat.le_of_ble_eq_true
theorem Z15:type_of% @Nat.lt_of_lt_of_le:=@Nat.lt_of_lt_of_le
theorem Z16:type_of% @List.mem_cons_self:=@List.mem_cons_self
theorem Z17:type_of% @List.length_append:=@List.length_append
theorem Z18:type_of% @List.mem_map:=@List.mem_map
theorem Z19:type_of% @List.mem_cons:=@List.mem_cons
theorem Z20:type_of% @PySem.Heap.get?_push_size:=@PySem.Heap.get?_push_size
theorem Z21:type_of% @List.getElem?_map:=@List.getElem?_map
theorem Z22:type_of% @List.replicate_succ:=@List.replicate_succ
theorem Z23:type_of% @List.map_append:=@List.map_append
theorem Z24:type_of% @Nat.le_trans:=@Nat.le_trans
theorem Z25:type_of% @Bool.and_eq_true:=@Bool.and_eq_true
theorem Z26:type_of% @Nat.ne_of_lt:=@Nat.ne_of_lt
theorem Z27:type_of% @Option.some.inj:=@Option.some.inj
theorem Z28:type_of% @Bool.false_ne_true:=@Bool.false_ne_true
theorem Z30:type_of% @Nat.zero_le:=@Nat.zero_le
theorem Z31:type_of% @List.map_map:=@List.map_map
theorem Z32:type_of% @List.length_set:=@List.length_set
theorem Z33:type_of% @Nat.lt_irrefl:=@Nat.lt_irrefl
theorem Z35:type_of% @List.append_nil:=@List.append_nil
theorem Z36:type_of% @List.mem_append_right:=@List.mem_append_right
theorem Z37:type_of% @List.mem_append_left:=@List.mem_append_left
theorem Z38:type_of% @Nat.le_of_lt:=@Nat.le_of_lt
theorem Z39:type_of% @List.flatten_cons:=@List.flatten_cons
theorem Z42:type_of% @Int.le_refl:=@Int.le_refl
theorem Z45:type_of% @Nat.le_add_right:=@Nat.le_add_right
theorem Z47:type_of% @Bool.false_eq_true:=@Bool.false_eq_true
theorem Z48:type_of% @List.pairwise_append:=@List.pairwise_append
theorem Z50:type_of% @List.all_eq_true:=@List.all_eq_true
theorem Z51:type_of% @List.cons_append:=@List.cons_append
theorem Z55:type_of% @PySem.wpAny_bind:=@PySem.wpAny_bind
theorem Z56:type_of% @PySem.wpAny_pure:=@PySem.wpAny_pure
theorem Z57:type_of% @PySem.wpAny_mono:=@PySem.wpAny_mono
theorem Z58:type_of% @List.length_cons:=@List.length_cons
namespace L2
open PySem PySem.Spec PyProof.Rows
noncomputable abbrev Key:=Sum Int Str
noncomputable def keyIs:Key->Value->Bool
 | .inl k,v=>Value.isInt k v
 | .inr x,v=>Value.isStrOf x v
noncomputable def keyH (w:World):Key->Int
 | .inl k=>hashInt k
 | .inr x=>hashStr w x
theorem keyIs_shape:∀ {k:Key} {v:Value},keyIs k v=true->(∃ i t,k=Sum.inl i/\v=Value.int i t)∨(∃ x t,k=Sum.inr x/\v=Value.str x t)
 | .inl i,v,h=>by
   obtain ⟨t,e⟩:=Value.isInt_shape (k:=i) (v:=v) h
   exact .inl ⟨i,t,rfl,e⟩
 | .inr x,v,h=>by
   obtain ⟨t,e⟩:=Value.isStrOf_shape (x:=x) (v:=v) h
   exact .inr ⟨x,t,rfl,e⟩
theorem keyIs_int (i:Int) (t:Tok):keyIs (.inl i) (.int i t)=true:=by simp [keyIs,Value.isInt]
theorem keyIs_str (x:Str) (t:Tok):keyIs (.inr x) (.str x t)=true:=by simp [keyIs,Value.isStrOf]
theorem key_ll (a b:Int):decide ((Sum.inl a:Key)=Sum.inl b)=(a == b):=by
 by_cases e:a=b
 · subst e; simp
 · have h:¬ (Sum.inl a:Key)=Sum.inl b:=fun q=>e (Sum.inl.inj q)
   rw [decide_eq_false h]
   exact (beq_eq_false_iff_ne.mpr e).symm
theorem key_rr (a b:Str):decide ((Sum.inr a:Key)=Sum.inr b)=decide (a=b):=by
 by_cases e:a=b
 · subst e; simp
 · have h:¬ (Sum.inr a:Key)=Sum.inr b:=fun q=>e (Sum.inr.inj q)
   rw [decide_eq_false h,decide_eq_false e]
theorem key_lr (a:Int) (b:Str):decide ((Sum.inl a:Key)=Sum.inr b)=false:=decide_eq_false (fun q=>nomatch q)
theorem key_rl (a:Str) (b:Int):decide ((Sum.inr a:Key)=Sum.inl b)=false:=decide_eq_false (fun q=>nomatch q)
noncomputable def mixKind (prog:Program) (w:World):PySem.KeyKind prog w Key where
 is:=keyIs
 hash:=keyH w
 inj:=fun v a b ha hb=>by
   rcases keyIs_shape ha with ⟨i,t,rfl,rfl⟩ | ⟨x,t,rfl,rfl⟩
   · rcases keyIs_shape hb with ⟨j,u,rfl,e⟩ | ⟨y,u,rfl,e⟩
     · injection e with e1 _; rw [e1]
     · exact nomatch e
   · rcases keyIs_shape hb with ⟨j,u,rfl,e⟩ | ⟨y,u,rfl,e⟩
     · exact nomatch e
     · injection e with e1 _; rw [e1]
 byValue:=fun k v h=>by
   rcases keyIs_shape h with ⟨i,t,rfl,rfl⟩ | ⟨x,t,rfl,rfl⟩ <;> rfl
 pyHash:=fun hv h=>by
   rcases keyIs_shape hv with ⟨i,t,rfl,rfl⟩ | ⟨x,t,rfl,rfl⟩
   · exact wpAny_pyHash_int h
   · exact wpAny_pyHash_str h
 eqBool:=fun hu hv h=>by
   rcases keyIs_shape hu with ⟨i,t,rfl,rfl⟩ | ⟨x,t,rfl,rfl⟩
   · rcases keyIs_shape hv with ⟨j,u,rfl,rfl⟩ | ⟨y,u,rfl,rfl⟩
     · rw [key_ll] at h; exact wpAny_eqBool_int h
     · rw [key_lr] at h; exact SeqAt.EqAt.int_str i t y u _ _ _ _ h
   · rcases keyIs_shape hv with ⟨j,u,rfl,rfl⟩ | ⟨y,u,rfl,rfl⟩
     · rw [key_rl] at h; exact SeqAt.EqAt.str_int x t j u _ _ _ _ h
     · rw [key_rr] at h; exact wpAny_eqBool_str h
 «strs»:=fun k x t v h=>by
   rcases keyIs_shape h with ⟨i,u,rfl,e⟩ | ⟨y,u,rfl,e⟩
   · exact nomatch e
   · injection e with e1 _
     subst e1
     cases v <;> rfl
theorem mixKind_int (prog:Program) (w:World) (i:Int) (t:Tok):(mixKind prog w).is (.inl i) (.int i t)=true:=keyIs_int i t
theorem mixKind_str (prog:Program) (w:World) (x:Str) (t:Tok):(mixKind prog w).is (.inr x) (.str x t)=true:=keyIs_str x t
set_option genInjectivity true in
inductive V where
 | non | bl (b:Bool) | int (i:Int) | str (x:Str) | byt (b:Array UInt8) | flt (b:UInt64) | ref (a:Addr) | ty (n:String)
 deriving DecidableEq
noncomputable def RelV:V->Value->Prop
 | .non,u=>u=Value.none
 | .bl b,u=>u=Value.bool b
 | .int i,u=>∃ t,u=Value.int i t
 | .str x,u=>∃ t,u=Value.str x t
 | .byt b,u=>∃ t,u=Value.bytes b t
 | .flt b,u=>∃ t,u=Value.float b t
 | .ref a,u=>u=Value.ref a
 | .ty n,u=>u=Value.type n
noncomputable abbrev Vals:List V->List Value->Prop:=Paired RelV
theorem Vals.length {xs:List V} {us:List Value} (r:Vals xs us):xs.length=us.length:=Paired.length r
theorem Vals.get:∀ {xs:List V} {us:List Value} {i:Nat} {x:V},Vals xs us->xs[i]?=some x->∃ u,us[i]?=some u/\RelV x u
 | _,_,_,_,.nil,e=>by simp at e
 | _,_,0,_,.cons r _,e=>by simp at e; subst e; exact ⟨_,rfl,r⟩
 | _,_,i+1,x,.cons _ t,e=>by
   obtain ⟨u,h1,h2⟩:=Vals.get (i:=i) (x:=x) t (by simpa using e)
   exact ⟨u,by simpa using h1,h2⟩
theorem Vals.set {x:V} {u:Value} (r:RelV x u):∀ {xs:List V} {us:List Value} (i:Nat),Vals xs us->Vals (xs.set i x) (us.set i u)
 | _,_,_,.nil=>.nil
 | _,_,0,.cons _ t=>.cons r t
 | _,_,i+1,.cons q t=>.cons q (Vals.set r i t)
theorem Vals.append:∀ {xs ys:List V} {us ws:List Value},Vals xs us->Vals ys ws->Vals (xs++ys) (us++ws)
 | _,_,_,_,.nil,s=>s
 | _,_,_,_,.cons r t,s=>.cons r (Vals.append t s)
theorem Vals.take:∀ {xs:List V} {us:List Value} (n:Nat),Vals xs us->Vals (xs.take n) (us.take n)
 | _,_,0,_=>.nil
 | _,_,_+1,.nil=>.nil
 | _,_,n+1,.cons r t=>.cons r (Vals.take n t)
theorem Vals.drop:∀ {xs:List V} {us:List Value} (n:Nat),Vals xs us->Vals (xs.drop n) (us.drop n)
 | _,_,0,r=>r
 | _,_,_+1,.nil=>.nil
 | _,_,n+1,.cons _ t=>Vals.drop n t
noncomputable def RelO:Option V->Option Value->Prop
 | some v,some u=>RelV v u
 | none,none=>True
 | _,_=>False
noncomputable def KV {κ:Type}:List (κ × V)->List (κ × Value)->Prop:=Paired fun (p:κ × V) (q:κ × Value)=>p.1=q.1/\RelV p.2 q.2
noncomputable def kV:Key->V
 | .inl i=>.int i
 | .inr x=>.str x
set_option genInjectivity true in
inductive HO where
 | lst (xs:List V)
 | tup (xs:List V)
 | dK (kvs:List (Key × V)) | dT (kvs:List (List Key × V))
 | set (S:Int->Bool) (n:Nat)
 | ins (C dx:Addr) (fs:List (Str × V))
 | own (x:Addr)
 | xd (fs:List (Str × V))
 | met (f x:Addr)
 | rng (lo hi:Int)
 | frz (o:Obj) (u:HO)
 | tbl (ps:Array Value)
 | ext (φ:Heap->Prop)
noncomputable abbrev Hp:=Addr->Option HO
noncomputable def upd (H:Hp) (a:Addr) (o:HO):Hp:=fun b=>if b=a then some o else H b
theorem upd_same {H:Hp} {a:Addr} {o:HO}:upd H a o a=some o:=by unfold upd; rw [if_pos rfl]
theorem upd_ne {H:Hp} {a b:Addr} {o:HO} (h:b ≠ a):upd H a o b=H b:=by unfold upd; rw [if_neg h]
theorem ne_of {H:Hp} {a b:Addr} {o u:HO} (h:H a=some o) (h':H b=some u) (d:o ≠ u):a ≠ b:=by
 intro e; subst e; rw [h] at h'; exact d (Z27 h')
theorem ne_of_none {H:Hp} {a b:Addr} {o:HO} (h:H a=some o) (h':H b=none):a ≠ b:=by
 intro e; subst e; rw [h] at h'; cases h'
section
variable (P:Program) (w:World)
noncomputable def ObjOk (H:Hp) (h:Heap) (a:Addr):HO->Prop
 | .lst xs=>xs.length<=sizeLine/\∃ (its:List Value) (n:Nat),Vals xs its/\h.get? a=some { cls:=.type "list",data:=.seq its.toArray n }
 | .tup xs=>xs.length<=sizeLine/\∃ its:List Value,Vals xs its/\IsTup h a its.toArray
 | .dK kvs=>kvs.length<=sizeLine/\(a == sysModules)=false/\∃ vs,KV kvs vs/\h.DictOf (mixKind P w) a vs
 | .dT kvs=>kvs.length<=sizeLine/\(a == sysModules)=false/\∃ xs:List (List Key × Addr × Value),
     Paired (fun (p:List Key × V) (q:List Key × Addr × Value)=>p.1=q.1/\H q.2.1=some (.tup (p.1.map kV))/\RelV p.2 q.2.2) kvs xs /\
     ∃ o es ep,h.get? a=some o/\o.ExactDict/\o.data=.dict es ep/\es.toList=xs.map (entryOfKey (tupleKind (mixKind P w)))/\(xs.map (·.1)).Nodup
 | .set S n=>h.SetOf (intKind P w) a S n
 | .ins C dx fs=>H dx=some (.own a)/\fs.length<=1000/\dx ≠ a/\h.get? a=some (PySem.W.instObj C dx) /\
     ∃ mA,h.Ns1 dx mA/\(∀ f,RelO (fs.lookup f) (mA f))/\PySem.Within mA (fs.map (·.1))
 | .own _=>∃ o,h.get? a=some o
 | .xd fs=>∃ mA,h.Ns1 a mA/\∀ f,RelO (fs.lookup f) (mA f)
 | .rng lo hi=>∃ t u v,h.get? a=some { cls:=.type "range",data:=.fields #[.int lo t,.int hi u,.int 1 v] }
 | .frz o u=>h.get? a=some o/\ObjOk H h a u
 | .tbl ps=>h.get? a=some { cls:=.none,data:=.fields ps }
 | .met f x=>h.get? a=some (PySem.W.methodObj (.ref f) (.ref x))
 | .ext φ=>φ h/\(∃ o,h.get? a=some o)/\∀ h1 h2:Heap,φ h1->(∀ o,h1.get? a=some o->h2.get? a=some o)->φ h2
noncomputable def HOk (H:Hp) (h:Heap):Prop:=∀ a o,H a=some o->ObjOk P w H h a o
end
section
variable {P:Program} {w:World} {H H':Hp} {h h':Heap} {a:Addr} {o:HO}
theorem ObjOk.lt (x:ObjOk P w H h a o):a < h.objs.size:=by
 cases o with
 | lst xs=>obtain ⟨_,_,_,_,e⟩:=x; exact Z13 e
 | tup xs=>obtain ⟨_,_,_,p⟩:=x; exact p.lt
 | dK kvs=>obtain ⟨_,_,_,_,o,_,_,e,_⟩:=x; exact Z13 e
 | dT kvs=>obtain ⟨_,_,_,_,o,_,_,e,_⟩:=x; exact Z13 e
 | set S n=>obtain ⟨o,_,_,_,e,_⟩:=x; exact Z13 e
 | ins C dx fs=>obtain ⟨_,_,_,e,_⟩:=x; exact Z13 e
 | own y=>obtain ⟨_,e⟩:=x; exact Z13 e
 | xd fs=>obtain ⟨_,⟨_,_,_,e,_⟩,_⟩:=x; exact Z13 e
 | rng lo hi=>obtain ⟨_,_,_,e⟩:=x; exact Z13 e
 | frz ob u=>obtain ⟨e,_⟩:=x; exact Z13 e
 | tbl ps=>exact Z13 (show h.get? a=some _ from x)
 | met f y=>exact Z13 (show h.get? a=some _ from x)
 | ext φ=>obtain ⟨_,⟨_,e⟩,_⟩:=x; exact Z13 e
theorem Paired.mapP {α β:Type} {F G:α->β->Prop}:∀ {l₁:List α} {l₂:List β},Paired F l₁ l₂->(∀ a b,F a b->G a b)->Paired G l₁ l₂
 | _,_,.nil,_=>.nil
 | _,_,.cons r t,f=>.cons (f _ _ r) (Paired.mapP t f)
theorem ObjOk.stay (x:ObjOk P w H h a o) (k:∀ b u,(b=a∨H b=some (.own a))->h.get? b=some u->h'.get? b=some u)
   (ho:∀ b,H b=some (.own a)->H' b=some (.own a)) (ht:∀ b xs,H b=some (.tup xs)->H' b=some (.tup xs)):ObjOk P w H' h' a o:=by
 induction o with
 | lst xs=>obtain ⟨z,its,n,r,e⟩:=x; exact ⟨z,its,n,r,k _ _ (.inl rfl) e⟩
 | tup xs=>obtain ⟨z,its,r,ob,e,c⟩:=x; exact ⟨z,its,r,ob,k _ _ (.inl rfl) e,c⟩
 | dK kvs=>obtain ⟨z,y,vs,r,ob,es,ep,e,c⟩:=x; exact ⟨z,y,vs,r,ob,es,ep,k _ _ (.inl rfl) e,c⟩
 | dT kvs=>
   obtain ⟨z,y,xs,r,ob,es,ep,e,c⟩:=x
   exact ⟨z,y,xs,Paired.mapP r fun p q z=>⟨z.1,ht _ _ z.2.1,z.2.2⟩,ob,es,ep,k _ _ (.inl rfl) e,c⟩
 | set S n=>obtain ⟨ob,es,ep,t,e,c⟩:=x; exact ⟨ob,es,ep,t,k _ _ (.inl rfl) e,c⟩
 | ins C dx fs=>
   obtain ⟨d,z,ne,e,mA,⟨od,es,ep,e2,c⟩,r⟩:=x
   exact ⟨ho _ d,z,ne,k _ _ (.inl rfl) e,mA,⟨od,es,ep,k _ _ (.inr d) e2,c⟩,r⟩
 | own y=>obtain ⟨ob,e⟩:=x; exact ⟨ob,k _ _ (.inl rfl) e⟩
 | xd fs=>obtain ⟨mA,⟨od,es,ep,e,c⟩,r⟩:=x; exact ⟨mA,⟨od,es,ep,k _ _ (.inl rfl) e,c⟩,r⟩
 | rng lo hi=>obtain ⟨t,u,v,e⟩:=x; exact ⟨t,u,v,k _ _ (.inl rfl) e⟩
 | frz ob u ih=>obtain ⟨e,q⟩:=x; exact ⟨k _ _ (.inl rfl) e,ih q⟩
 | tbl ps=>
   have e:h.get? a=some { cls:=.none,data:=.fields ps }:=x
   show h'.get? a=some { cls:=.none,data:=.fields ps }
   exact k a _ (.inl rfl) e
 | met f y=>
   have e:h.get? a=some (PySem.W.methodObj (.ref f) (.ref y)):=x
   show h'.get? a=some (PySem.W.methodObj (.ref f) (.ref y))
   exact k a _ (.inl rfl) e
 | ext φ=>obtain ⟨p,⟨o,e⟩,st⟩:=x; exact ⟨st _ _ p fun o q=>k _ _ (.inl rfl) q,⟨o,k _ _ (.inl rfl) e⟩,st⟩
theorem HOk.lt (x:HOk P w H h) (e:H a=some o):a < h.objs.size:=(x a o e).lt
theorem HOk.fresh (x:HOk P w H h) (e:h.objs.size<=a):H a=none:=by
 cases q:H a with
 | none=>rfl
 | some u=>exact absurd (Z15 (x.lt q) e) (Z33 _)
theorem HOk.kept (x:HOk P w H h) (k:∀ b u,h.get? b=some u->h'.get? b=some u):HOk P w H h':=fun a o e=>
 (x a o e).stay (fun b u _ q=>k b u q) (fun _ q=>q) fun _ _ q=>q
theorem HOk.laid (x:HOk P w H h) (k:∀ b u,h.get? b=some u->h'.get? b=some u) (hp:h.objs.size<=a) (new:ObjOk P w (upd H a o) h' a o):HOk P w (upd H a o) h':=fun b u e=>by
 have hn:=x.fresh hp
 by_cases hb:b=a
 · subst hb; rw [upd_same] at e; cases e; exact new
 · rw [upd_ne hb] at e
   exact (x b u e).stay (fun c v _ q=>k c v q) (fun c q=>by rw [upd_ne (ne_of_none q hn)]; exact q) fun c xs q=>by rw [upd_ne (ne_of_none q hn)]; exact q
end
noncomputable def Rd (H:Hp) (a:Addr) (u:HO):Prop:=H a=some u∨∃ o,H a=some (.frz o u)
theorem Rd.ok {P:Program} {w:World} {H:Hp} {h:Heap} {a:Addr} {u:HO} (r:Rd H a u) (x:HOk P w H h):ObjOk P w H h a u:=by
 rcases r with r | ⟨o,r⟩
 · exact x a u r
 · obtain ⟨_,q⟩:=x a _ r
   exact q
noncomputable def Mut:Option HO->Prop
 | some (.lst _)=>True
 | some (.dK _)=>True
 | some (.dT _)=>True
 | some (.set _ _)=>True
 | some (.ins _ _ _)=>True
 | some (.ext _)=>True
 | _=>False
section
variable {P:Program} {w:World} {H:Hp} {h h':Heap} {x e:Addr} {o':HO}
theorem HOk.write (ok:HOk P w H h) (mu:Mut (H x)) (he:e=x∨H e=some (.own x)) (k:∀ b u,b ≠ e->h.get? b=some u->h'.get? b=some u) (heo:∃ u,h'.get? e=some u)
   (new:ObjOk P w (upd H x o') h' x o'):HOk P w (upd H x o') h':=fun b u q=>by
 have nown:∀ c y,H c=some (.own y)->c ≠ x:=fun c y r z=>by subst z; rw [r] at mu; exact mu
 have ntup:∀ c xs,H c=some (.tup xs)->c ≠ x:=fun c xs r z=>by subst z; rw [r] at mu; exact mu
 by_cases hb:b=x
 · subst hb; rw [upd_same] at q; cases q; exact new
 · rw [upd_ne hb] at q
   by_cases hbe:b=e
   · have q':H b=some (.own x):=by
       rcases he with z | z
       · exact absurd (hbe.trans z) hb
       · rw [hbe]; exact z
     rw [q] at q'; cases q'
     obtain ⟨v,hv⟩:=heo
     exact ⟨v,by rw [hbe]; exact hv⟩
   · refine (ok b u q).stay (fun c v hc r=>k c v ?_ r) (fun c r=>by rw [upd_ne (nown c b r)]; exact r) fun c xs r=>by rw [upd_ne (ntup c xs r)]; exact r
     rcases hc with rfl | hc
     · exact hbe
     · rintro rfl
       rcases he with z | z
       · exact nown c b hc z
       · rw [hc] at z; cases z; exact hb rfl
end
structure Un (fs ex:List Addr) (H H':Hp) (h h':Heap):Prop where
 keep:∀ b o,h.get? b=some o->H b=none->b ∉ fs->b ∉ ex->h'.get? b=some o
 slot:∀ b o,h.get? b=some o->H b=none->b ∈ fs->b ∉ ex->∃ sl,h'.get? b=some { o with slots:=sl }
 free:∀ b o,h.get? b=some o->H b=none->b ∉ ex->H' b=none
 there:∀ b o,h.get? b=some o->b ∉ ex->∃ o',h'.get? b=some o'
 tups:∀ b xs,H b=some (.tup xs)->H' b=some (.tup xs)
 frzs:∀ b o u,H b=some (.frz o u)->H' b=some (.frz o u)
 tbls:∀ b ps,H b=some (.tbl ps)->∃ more,H' b=some (.tbl (ps++more))
section
variable {fs fs' ex ex':List Addr} {H H1 H2:Hp} {h h1 h2 h':Heap} {a x e:Addr} {o:HO}
theorem Un.any (u:Un fs ex H H1 h h1) {b:Addr} {ob:Obj} (q:h.get? b=some ob) (n:H b=none) (hx:b ∉ ex):∃ sl,h1.get? b=some { ob with slots:=sl }:=by
 by_cases hb:b ∈ fs
 · exact u.slot b ob q n hb hx
 · exact ⟨ob.slots,u.keep b ob q n hb hx⟩
theorem Un.kept (k:∀ b u,h.get? b=some u->h'.get? b=some u):Un fs ex H H h h':=
 ⟨fun b ob q _ _ _=>k b ob q,fun b ob q _ _ _=>⟨ob.slots,k b ob q⟩,fun _ _ _ n _=>n,fun b ob q _=>⟨ob,k b ob q⟩,fun _ _ q=>q,fun _ _ _ q=>q,fun _ ps q=>⟨#[],by rw [q]; simp⟩⟩
theorem Un.refl:Un fs ex H H h h:=Un.kept fun _ _ q=>q
theorem Un.laid (k:∀ b u,h.get? b=some u->h'.get? b=some u) (hp:h.objs.size<=a) (hn:H a=none):Un fs ex H (upd H a o) h h' where
 keep:=fun b u q _ _ _=>k b u q
 slot:=fun b u q _ _ _=>⟨u.slots,k b u q⟩
 free:=fun b u q n _=>by rw [upd_ne (Z26 (Z15 (Z13 q) hp))]; exact n
 there:=fun b u q _=>⟨u,k b u q⟩
 tups:=fun b xs q=>by rw [upd_ne (ne_of_none q hn)]; exact q
 frzs:=fun b u xs q=>by rw [upd_ne (ne_of_none q hn)]; exact q
 tbls:=fun b ps q=>⟨#[],by rw [upd_ne (ne_of_none q hn),q]; simp⟩
theorem Un.write (mu:Mut (H x)) (he:e=x∨H e=some (.own x)) (k:∀ b u,b ≠ e->h.get? b=some u->h'.get? b=some u) (heo:∃ u,h'.get? e=some u):Un fs ex H (upd H x o) h h':=by
 have hx:∀ b,H b=none->b ≠ x:=fun b n z=>by subst z; rw [n] at mu; exact mu
 have hb:∀ b,H b=none->b ≠ e:=fun b n z=>by
   subst z
   rcases he with r | r
   · exact hx b n r
   · rw [n] at r; cases r
 have hm:∀ b u,H b=some u->¬ Mut (some u)->b ≠ x:=fun b u q nm z=>by subst z; rw [q] at mu; exact nm mu
 refine ⟨fun b u q n _ _=>k b u (hb b n) q,fun b u q n _ _=>⟨u.slots,k b u (hb b n) q⟩,fun b u q n _=>by rw [upd_ne (hx b n)]; exact n,fun b u q _=>?_,
   fun b xs q=>by rw [upd_ne (hm b _ q fun z=>z)]; exact q,fun b u xs q=>by rw [upd_ne (hm b _ q fun z=>z)]; exact q,fun b ps q=>⟨#[],by rw [upd_ne (hm b _ q fun z=>z),q]; simp⟩⟩
 by_cases hbe:b=e
 · subst hbe; exact heo
 · exact ⟨u,k b u hbe q⟩
end
noncomputable def trk (h:Heap) (H:Hp):List Addr:=(List.range h.objs.size).filter fun a=>(H a).isSome
noncomputable def hidT (h:Heap) (H:Hp):Heap:=PySem.W.hideAll h (trk h H)
theorem hidT_size (h:Heap) (H:Hp):(hidT h H).objs.size=h.objs.size:=PySem.W.hideAll_size _ _
theorem hidT_get {h:Heap} {H:Hp} {b:Addr} {o:Obj} (e:h.get? b=some o) (n:H b=none):(hidT h H).get? b=some o:=
 PySem.W.hideAll_get _ e fun hm=>by
   have q:(H b).isSome=true:=(List.mem_filter.mp hm).2
   rw [n] at q; simp at q
theorem of_hidT {h:Heap} {H:Hp} {b:Addr} {o:Obj} (e:(hidT h H).get? b=some o):h.get? b=some o/\H b=none:=by
 have e':h.get? b=some o:=PySem.W.of_hideAll (trk h H) e
 refine ⟨e',?_⟩
 cases q:H b with
 | none=>rfl
 | some x=>
   have hm:b ∈ trk h H:=List.mem_filter.mpr ⟨List.mem_range.mpr (Z13 e'),by simp [q]⟩
   have z:(hidT h H).get? b=none:=PySem.W.hideAll_none (trk h H) hm
   rw [z] at e; cases e
noncomputable def allNews (g h:Heap) (L:Addr):List (Addr × Obj):=(List.range h.objs.size).filterMap fun a=>if a=L∨(g.get? a).isSome=true then none else (h.get? a).map fun o=>(a,o)
noncomputable def rest (g h:Heap) (L d:Addr):List (Addr × Obj):=(allNews g h L).filter fun p=>decide (p.1 ≠ d)
structure Mod (K:PySem.W.Frag) (mg:Str->Option Value) (base:Heap):Prop where
 kin:K.In base
 glob:base.Ns mainGlobals mg
 blt:∃ mb,base.Ns builtinsNs mb/\∀ x:Str,x ≠ "__name__"->mb x=bootBuiltins x
 nolimit:base.NoLimit
structure Cx where
 prog:Program
 w:World
 K:PySem.W.Frag
 mg:Str->Option Value
 base:Heap
 A:Around
 N:List Str
 s₀:Shared
 H₀:Hp
 env:Env
 outer:List Env
 stack:List Env
 ex:List Addr
 fn:Str->Bool
 calm:Bool
 pn:List (Addr × Obj)
 xe:Value->Shared->Prop
noncomputable def frs (l:List Env):List Addr:=l.filterMap (·.frame)
noncomputable abbrev Cx.fs (X:Cx):List Addr:=frs X.outer
noncomputable def Vis (sc:Scope) (x:Str):Prop:=sc.names.lookup x=some .local∨sc.names.lookup x=some .cell∨sc.names.lookup x=some .free
noncomputable def Loc (sc:Scope) (x:Str):Prop:=sc.names.lookup x=some .local∨sc.names.lookup x=some .cell
noncomputable def Look (env:Env) (h:Heap) (m:Str->Option Value) (x:Str) (u:Value):Prop:=
 (env.kindOf x=some .local/\m x=some u)∨((env.kindOf x=some .cell∨env.kindOf x=some .free)/\∃ c,env.cells.lookup x=some c/\h.IsCell c (some u))
structure Cx.Ok (X:Cx):Prop where
 mod:Mod X.K X.mg X.base
 kind:X.env.scope.kind=.function
 glob:X.env.globals=mainGlobals
 blt:X.env.builtins=builtinsNs
 above:X.s₀.heap.objs.size<=X.env.locals
 inj:∀ x y c,X.env.cells.lookup x=some c->X.env.cells.lookup y=some c->x=y
 has:∀ x,(X.env.kindOf x=some .cell∨X.env.kindOf x=some .free)->∃ c,X.env.cells.lookup x=some c
 cab:∀ x c,X.fn x=true->X.env.cells.lookup x=some c->X.s₀.heap.objs.size<=c
 hd:X.calm=true->X.A.handled=none
 frames:X.A.frames=some X.stack
 stk:X.stack=X.outer∨(X.stack=X.env::X.outer/\X.env.frame=some X.env.locals)
 exf:∀ b ∈ X.ex,b ≠ X.env.locals/\∀ x c,X.env.cells.lookup x=some c->c ≠ b
 bs:∀ b o,X.base.get? b=some o->X.s₀.heap.get? b=some o/\X.H₀ b=none
 bsz:X.base.objs.size<=X.s₀.heap.objs.size
 noex:∀ b o,X.base.get? b=some o->b ∉ X.ex
 exfs:∀ b ∈ X.ex,b ∉ X.fs
 funs:X.s₀.heap.FunFrames X.base X.outer
 frf:∀ b ∈ X.fs,X.H₀ b=none
structure Inv (X:Cx) (pins:List (Addr × Obj)) (σ:List (Option V)) (H:Hp) (s:Shared):Prop where
 ok:X.Ok
 os:s.os=X.s₀.os
 bare:AllBare s.gens
 base:Un X.fs X.ex X.H₀ H X.s₀.heap s.heap
 loc:∃ m,s.heap.Ns X.env.locals m/\∀ (i:Nat) (x:Str) (v:V),X.N[i]?=some x->σ[i]?=some (some v)->Vis X.env.scope x->∃ u,RelV v u/\Look X.env s.heap m x u
 cell:∀ x c,X.env.cells.lookup x=some c->∃ v,s.heap.IsCell c v
 free:H X.env.locals=none
 freeC:∀ x c,X.env.cells.lookup x=some c->H c=none
 pin:∀ p ∈ X.pn++pins,s.heap.get? p.1=some p.2/\H p.1=none/\p.1 ≠ X.env.locals/\p.1 ∉ X.fs/\∀ v,p.2.data ≠ .cell v
 hok:HOk X.prog X.w H s.heap
 len:σ.length=X.N.length
section
variable {X:Cx} {pins:List (Addr × Obj)} {σ:List (Option V)} {H H':Hp} {s:Shared} {h':Heap}
theorem Cx.Ok.nofr (ok:X.Ok) {b:Addr} {o:Obj} (e:X.base.get? b=some o):b ∉ X.fs:=fun hb=>by
 have:=(ok.funs.mem hb).1
 rw [e] at this; cases this
theorem Inv.bs (I:Inv X pins σ H s):∀ b o,X.base.get? b=some o->s.heap.get? b=some o/\H b=none:=fun b o e=>
 ⟨I.base.keep b o (I.ok.bs b o e).1 (I.ok.bs b o e).2 (I.ok.nofr e) (I.ok.noex b o e),I.base.free b o (I.ok.bs b o e).1 (I.ok.bs b o e).2 (I.ok.noex b o e)⟩
theorem Inv.bk (I:Inv X pins σ H s):∀ b o,X.base.get? b=some o->s.heap.get? b=some o:=fun b o e=>(I.bs b o e).1
theorem Inv.mod (I:Inv X pins σ H s):Mod X.K X.mg X.base:=I.ok.mod
theorem Inv.kIn (I:Inv X pins σ H s):X.K.In s.heap:=I.ok.mod.kin.keeps I.bk
theorem Inv.lt (I:Inv X pins σ H s):X.env.locals < s.heap.objs.size:=let ⟨_,hn,_⟩:=I.loc; hn.lt
theorem Inv.sz (I:Inv X pins σ H s):X.s₀.heap.objs.size<=s.heap.objs.size:=Z24 I.ok.above (Z38 I.lt)
theorem Inv.nofs (I:Inv X pins σ H s) {a:Addr} (h:s.heap.objs.size<=a):a ∉ X.fs:=fun hb=>by
 obtain ⟨_,o,ho,_⟩:=I.ok.funs.mem hb
 exact absurd (Z15 (Z13 ho) (Z24 I.sz h)) (Z33 _)
theorem Inv.cne (I:Inv X pins σ H s):∀ x c,X.env.cells.lookup x=some c->c ≠ X.env.locals:=fun x c e z=>by
 obtain ⟨v,o,ho,hd⟩:=I.cell x c e
 obtain ⟨m,⟨o',es,ep,ho',hd',_⟩,_⟩:=I.loc
 rw [z,ho'] at ho; cases ho; rw [hd'] at hd; cases hd
theorem Inv.funs (I:Inv X pins σ H s):s.heap.FunFrames X.base X.outer:=by
 have all:∀ (l:List Env),(∀ b ∈ frs l,b ∈ X.fs)->X.s₀.heap.FunFrames X.base l->s.heap.FunFrames X.base l:=by
   intro l
   induction l with
   | nil=>intro _ _; trivial
   | cons env r ih=>
     intro hs hl
     obtain ⟨hk,⟨L,o,hf,hn,ho,hd⟩,hr⟩:=hl
     have hL:L ∈ X.fs:=hs L (by unfold frs; rw [List.filterMap_cons,hf]; exact Z16)
     obtain ⟨sl,e⟩:=I.base.slot L o ho (I.ok.frf L hL) hL fun z=>I.ok.exfs L z hL
     exact ⟨hk,⟨L,_,hf,hn,e,hd⟩,ih (fun b hb=>hs b (by unfold frs; rw [List.filterMap_cons,hf]; exact Z8 _ hb)) hr⟩
 exact all X.outer (fun _ hb=>hb) I.ok.funs
theorem Inv.stack (I:Inv X pins σ H s):s.heap.FunFrames X.base X.stack:=by
 rcases I.ok.stk with e | ⟨e,hf⟩
 · rw [e]; exact I.funs
 · rw [e]
   obtain ⟨m,hn,_⟩:=I.loc
   refine .cons (by rw [I.ok.kind]; decide) hf hn ?_ I.funs
   exact Heap.get?_none_of_le (Z24 I.ok.bsz I.ok.above)
theorem Inv.stkSub (I:Inv X pins σ H s):∀ b ∈ frs X.stack,b ∈ X.env.locals::X.fs:=fun b hb=>by
 rcases I.ok.stk with e | ⟨e,hf⟩
 · rw [e] at hb; exact Z8 _ hb
 · rw [e] at hb
   unfold frs at hb
   rw [List.filterMap_cons,hf] at hb
   exact hb
theorem Inv.stkFree (I:Inv X pins σ H s):∀ b ∈ frs X.stack,H b=none:=fun b hb=>by
 rcases Z19.mp (I.stkSub b hb) with e | hb
 · rw [e]; exact I.free
 · obtain ⟨_,o,ho,_⟩:=I.ok.funs.mem hb
   exact I.base.free b o ho (I.ok.frf b hb) fun z=>I.ok.exfs b z hb
theorem Inv.step {g':Array GenState} {t':Nat} {d':Drawn} {ch:List Addr} (I:Inv X pins σ H s)
   (hch:∀ b ∈ ch,(b ∈ X.ex∨X.s₀.heap.objs.size<=b)/\b ≠ X.env.locals/\(∀ x c,X.env.cells.lookup x=some c->c ≠ b)/\∀ p ∈ X.pn++pins,p.1 ≠ b)
   (keep:∀ b o,b ≠ X.env.locals->b ∉ X.fs->b ∉ ch->s.heap.get? b=some o->H b=none->h'.get? b=some o)
   (slot:∀ b o,b ≠ X.env.locals->b ∈ X.fs->b ∉ ch->s.heap.get? b=some o->H b=none->∃ sl,h'.get? b=some { o with slots:=sl }) (free:∀ b o,b ∉ ch->s.heap.get? b=some o->H b=none->H' b=none)
   (there:∀ b o,b ∉ ch->s.heap.get? b=some o->∃ o',h'.get? b=some o')
   (tups:∀ b xs,H b=some (.tup xs)->H' b=some (.tup xs)) (frzs:∀ b o u,H b=some (.frz o u)->H' b=some (.frz o u)) (tbls:∀ b ps,H b=some (.tbl ps)->∃ more,H' b=some (.tbl (ps++more)))
   (ns:∀ m,s.heap.Ns X.env.locals m->h'.Ns X.env.locals m) (hok:HOk X.prog X.w H' h') (hg:AllBare g') :
   Inv X pins σ H' { s with heap:=h',gens:=g',drawn:=d',toks:=t' }:=by
 have neL:∀ b o,X.s₀.heap.get? b=some o->b ≠ X.env.locals:=fun b o e=>Z26 (Z15 (Z13 e) I.ok.above)
 have neC:∀ b o,X.s₀.heap.get? b=some o->b ∉ X.ex->b ∉ ch:=fun b o e hx hb=>by
   rcases (hch b hb).1 with z | z
   · exact hx z
   · exact absurd (Z15 (Z13 e) z) (Z33 _)
 have cellK:∀ x c,X.env.cells.lookup x=some c->∀ v,s.heap.IsCell c v->h'.IsCell c v:=fun x c e v ⟨o,ho,hd⟩=>by
   have nch:c ∉ ch:=fun z=>(hch c z).2.2.1 x c e rfl
   by_cases hc:c ∈ X.fs
   · obtain ⟨sl,q⟩:=slot c o (I.cne x c e) hc nch ho (I.freeC x c e)
     exact ⟨_,q,hd⟩
   · exact ⟨o,keep c o (I.cne x c e) hc nch ho (I.freeC x c e),hd⟩
 refine ⟨I.ok,I.os,hg,⟨fun b o e n hb hx=>?_,fun b o e n hb hx=>?_,fun b o e n hx=>?_,fun b o e hx=>?_,fun b xs e=>tups b xs (I.base.tups b xs e),fun b o xs e=>frzs b o xs (I.base.frzs b o xs e),fun b ps e=>?_⟩,?_,fun x c e=>?_,?_,fun x c e=>?_,fun p hp=>?_,hok,I.len⟩
 · exact keep b o (neL b o e) hb (neC b o e hx) (I.base.keep b o e n hb hx) (I.base.free b o e n hx)
 · obtain ⟨sl,e1⟩:=I.base.slot b o e n hb hx
   obtain ⟨sl',e2⟩:=slot b _ (neL b o e) hb (neC b o e hx) e1 (I.base.free b o e n hx)
   exact ⟨sl',e2⟩
 · obtain ⟨o',e1⟩:=I.base.there b o e hx
   exact free b o' (neC b o e hx) e1 (I.base.free b o e n hx)
 · obtain ⟨o',e1⟩:=I.base.there b o e hx
   exact there b o' (neC b o e hx) e1
 · obtain ⟨m1,e1⟩:=I.base.tbls b ps e
   obtain ⟨m2,e2⟩:=tbls b _ e1
   exact ⟨m1++m2,by rw [e2,Array.append_assoc]⟩
 · obtain ⟨m,hn,hl⟩:=I.loc
   refine ⟨m,ns m hn,fun i x v e1 e2 e3=>?_⟩
   obtain ⟨u,r,l⟩:=hl i x v e1 e2 e3
   refine ⟨u,r,?_⟩
   rcases l with l | ⟨k,c,e,z⟩
   · exact .inl l
   · exact .inr ⟨k,c,e,cellK x c e _ z⟩
 · obtain ⟨v,z⟩:=I.cell x c e
   exact ⟨v,cellK x c e v z⟩
 · obtain ⟨m,⟨o,_,_,ho,_⟩,_⟩:=I.loc
   exact free _ o (fun z=>(hch _ z).2.1 rfl) ho I.free
 · obtain ⟨v,o,ho,hd⟩:=I.cell x c e
   exact free c o (fun z=>(hch c z).2.2.1 x c e rfl) ho (I.freeC x c e)
 · obtain ⟨e,n,ne,nf,d⟩:=I.pin p hp
   have nch:p.1 ∉ ch:=fun z=>(hch p.1 z).2.2.2 p hp rfl
   exact ⟨keep p.1 p.2 ne nf nch e n,free p.1 p.2 nch e n,ne,nf,d⟩
theorem Inv.un {t':Nat} (I:Inv X pins σ H s) (u:Un X.fs [] H H' s.heap h') (hok:HOk X.prog X.w H' h'):Inv X pins σ H' { s with heap:=h',toks:=t' }:=by
 obtain ⟨m,⟨o,es,ep,ho,r⟩,_⟩:=id I.loc
 obtain ⟨sl,hL⟩:=u.any ho I.free (by simp)
 exact I.step (g':=s.gens) (d':=s.drawn) (ch:=[]) (fun _ z=>nomatch z) (fun b o _ hb _ e n=>u.keep b o e n hb (by simp)) (fun b o _ hb _ e n=>u.slot b o e n hb (by simp)) (fun b o _ e n=>u.free b o e n (by simp)) (fun b o _ e=>u.there b o e (by simp)) u.tups u.frzs u.tbls (fun m' hm=>by
   obtain ⟨o',es',ep',ho',r'⟩:=hm
   rw [ho] at ho'; cases ho'
   exact ⟨_,es',ep',hL,r'⟩) hok I.bare
theorem Inv.call {g':Array GenState} {t':Nat} {d':Drawn} {ch:List Addr} (I:Inv X pins σ H s) (u:Un (frs X.stack) ch H H' s.heap h') (hok:HOk X.prog X.w H' h') (hg:AllBare g')
   (hch:∀ b ∈ ch,(b ∈ X.ex∨X.s₀.heap.objs.size<=b)/\b ≠ X.env.locals/\(∀ x c,X.env.cells.lookup x=some c->c ≠ b)/\∀ p ∈ X.pn++pins,p.1 ≠ b) :
   Inv X pins σ H' { s with heap:=h',gens:=g',drawn:=d',toks:=t' }:=by
 obtain ⟨m,⟨o,es,ep,ho,r⟩,_⟩:=id I.loc
 obtain ⟨sl,hL⟩:=u.any ho I.free fun z=>(hch _ z).2.1 rfl
 exact I.step (ch:=ch) hch (fun b o hL hb hc e n=>u.keep b o e n (fun z=>(Z19.mp (I.stkSub b z)).elim hL hb) hc) (fun b o _ _ hc e n=>u.any e n hc) (fun b o hc e n=>u.free b o e n hc) (fun b o hc e=>u.there b o e hc) u.tups u.frzs u.tbls (fun m' hm=>by
   obtain ⟨o',es',ep',ho',r'⟩:=hm
   rw [ho] at ho'; cases ho'
   exact ⟨_,es',ep',hL,r'⟩) hok hg
theorem Inv.turned {t':Nat} {it:Addr} (I:Inv X pins σ H s) (k:∀ b o,b ≠ it->s.heap.get? b=some o->h'.get? b=some o) (hn:H it=none) (hL:it ≠ X.env.locals)
   (h1:it ∈ X.ex∨X.s₀.heap.objs.size<=it) (h2:∀ x c,X.env.cells.lookup x=some c->c ≠ it) (h3:∀ p ∈ X.pn++pins,p.1 ≠ it):Inv X pins σ H { s with heap:=h',toks:=t' }:=by
 have nit:∀ b u,H b=some u->b ≠ it:=fun b u e z=>by rw [z,hn] at e; cases e
 refine I.step (g':=s.gens) (d':=s.drawn) (ch:=[it]) (fun b hb=>?_) (fun b o _ _ hc e _=>k b o (fun z=>hc (by simp [z])) e) (fun b o _ _ hc e _=>⟨o.slots,k b o (fun z=>hc (by simp [z])) e⟩) (fun _ _ _ _ n=>n)
   (fun b o hc e=>⟨o,k b o (fun z=>hc (by simp [z])) e⟩) (fun _ _ e=>e) (fun _ _ _ e=>e) (fun b ps e=>⟨#[],by rw [e]; simp⟩) (fun m hm=>?_) (fun b u e=>?_) I.bare
 · have e:b=it:=by simpa using hb
   subst e
   exact ⟨h1,hL,h2,h3⟩
 · obtain ⟨o,es,ep,ho,r⟩:=hm
   exact ⟨o,es,ep,k _ o (Ne.symm hL) ho,r⟩
 · refine (I.hok b u e).stay (fun c v hc q=>k c v ?_ q) (fun _ q=>q) fun _ _ q=>q
   rcases hc with z | z
   · rw [z]; exact nit b u e
   · exact nit c _ z
theorem Inv.tok (I:Inv X pins σ H s) (t:Nat):Inv X pins σ H { s with toks:=t }:=I.un (h':=s.heap) (t':=t) Un.refl I.hok
theorem Inv.kept {t':Nat} (I:Inv X pins σ H s) (k:∀ b u,s.heap.get? b=some u->h'.get? b=some u):Inv X pins σ H { s with heap:=h',toks:=t' }:=I.un (Un.kept k) (I.hok.kept k)
theorem Inv.laid {a:Addr} {o:HO} {t':Nat} (I:Inv X pins σ H s) (k:∀ b u,s.heap.get? b=some u->h'.get? b=some u) (hp:s.heap.objs.size<=a) (new:ObjOk X.prog X.w (upd H a o) h' a o) :
   Inv X pins σ (upd H a o) { s with heap:=h',toks:=t' }:=I.un (Un.laid k hp (I.hok.fresh hp)) (I.hok.laid k hp new)
theorem Inv.write {x e:Addr} {o:HO} {t':Nat} (I:Inv X pins σ H s) (mu:Mut (H x)) (he:e=x∨H e=some (.own x)) (k:∀ b u,b ≠ e->s.heap.get? b=some u->h'.get? b=some u) (heo:∃ u,h'.get? e=some u)
   (new:ObjOk X.prog X.w (upd H x o) h' x o):Inv X pins σ (upd H x o) { s with heap:=h',toks:=t' }:=I.un (Un.write mu he k heo) (I.hok.write mu he k heo new)
theorem Inv.pins_of {pins':List (Addr × Obj)} (I:Inv X pins σ H s) (h:∀ p ∈ pins',s.heap.get? p.1=some p.2/\H p.1=none/\p.1 ≠ X.env.locals/\p.1 ∉ X.fs/\∀ v,p.2.data ≠ .cell v):Inv X pins' σ H s:=
 ⟨I.ok,I.os,I.bare,I.base,I.loc,I.cell,I.free,I.freeC,fun p hp=>(Z11.mp hp).elim (fun z=>I.pin p (Z37 _ z)) (h p),I.hok,I.len⟩
theorem nodup_ix {N:List Str} (hN:N.Nodup) {i j:Nat} {x:Str} (a:N[i]?=some x) (b:N[j]?=some x):i=j:=by
 obtain ⟨h1,e1⟩:=Z9.mp a
 obtain ⟨h2,e2⟩:=Z9.mp b
 exact (List.getElem_inj hN).mp (e1.trans e2.symm)
theorem store_ok2 {M:Model} {A:Around} {E:Value->Shared->Prop} {i:Nat} {x:Str} {v:V} {u:Value} {Q:Unit->Shared->Prop} (I:Inv X pins σ H s) (hN:X.N.Nodup) (hi:X.N[i]?=some x) (hx:Loc X.env.scope x) (r:RelV v u)
   (h:∀ s',Inv X pins (σ.set i (some v)) H s'->(∃ a,Heap.SameBut a s.heap s'.heap/\(a=X.env.locals∨X.env.cells.lookup x=some a))->Q () s') (hf:X.fn x=true∨X.env.scope.names.lookup x=some .local:=by first | exact .inl rfl | exact .inr rfl | assumption):wpAny M A (storeName X.env x u) Q E s:=by
 obtain ⟨m,hn,hl⟩:=id I.loc
 have hcls:(X.env.scope.kind == .class || (X.env.scope.kind == .module && X.env.locals != X.env.globals))=false:=by rw [I.ok.kind]; rfl
 have hiσ:i < σ.length:=by rw [I.len]; exact (Z9.mp hi).1
 have cne:=I.cne
 have tracked:∀ {a:Addr} {h':Heap},(∃ o,s.heap.get? a=some o/\H a=none)->Heap.SameBut a s.heap h'->HOk X.prog X.w H h':=fun {a h'} ha hs b ob e=>by
   obtain ⟨_,_,hfree⟩:=ha
   refine (I.hok b ob e).stay (fun c w' hc q=>(hs.2 c ?_).trans q) (fun _ q=>q) fun _ _ q=>q
   rintro rfl
   rcases hc with rfl | hc
   · rw [hfree] at e; cases e
   · rw [hfree] at hc; cases hc
 rcases hx with hk | hk
 · refine wpAny_storeName_local hk hn (fun h' hn' hs=>?_) hcls
   obtain ⟨oL,_,_,hoL,_⟩:=id hn
   refine h _ ⟨I.ok,I.os,I.bare,⟨fun b o e n hb hx=>?_,fun b o e n hb hx=>?_,I.base.free,fun b o e hx=>?_,I.base.tups,I.base.frzs,I.base.tbls⟩,⟨_,hn',fun j y v' e1 e2 e3=>?_⟩,fun y c e=>?_,I.free,I.freeC,fun p hp=>?_,tracked ⟨oL,hoL,I.free⟩ hs,by simpa using I.len⟩ ⟨_,hs,.inl rfl⟩
   · exact (hs.2 b (Z26 (Z15 (Z13 e) I.ok.above))).trans (I.base.keep b o e n hb hx)
   · obtain ⟨sl,e1⟩:=I.base.slot b o e n hb hx
     exact ⟨sl,(hs.2 b (Z26 (Z15 (Z13 e) I.ok.above))).trans e1⟩
   · obtain ⟨o',e1⟩:=I.base.there b o e hx
     exact ⟨o',(hs.2 b (Z26 (Z15 (Z13 e) I.ok.above))).trans e1⟩
   · by_cases hj:j=i
     · subst hj
       rw [hi] at e1; cases e1
       rw [List.getElem?_set_self hiσ] at e2
       cases e2
       exact ⟨u,r,.inl ⟨hk,by simp⟩⟩
     · rw [List.getElem?_set_ne (Ne.symm hj)] at e2
       obtain ⟨u',r',q⟩:=hl j y v' e1 e2 e3
       refine ⟨u',r',?_⟩
       rcases q with ⟨k,e⟩ | ⟨k,c,e,z⟩
       · refine .inl ⟨k,?_⟩
         have:y ≠ x:=fun e=>hj (nodup_ix hN e1 (e ▸ hi))
         simp [this,e]
       · exact .inr ⟨k,c,e,z.sameBut hs (cne y c e)⟩
   · obtain ⟨w',z⟩:=I.cell y c e
     exact ⟨w',z.sameBut hs (cne y c e)⟩
   · obtain ⟨e,n,ne,nf,d⟩:=I.pin p hp
     exact ⟨(hs.2 p.1 ne).trans e,n,ne,nf,d⟩
 · have hfn:X.fn x=true:=by
     rcases hf with z | z
     · exact z
     · rw [z] at hk; cases hk
   obtain ⟨c,hc⟩:=I.ok.has x (.inl hk)
   obtain ⟨w',z⟩:=I.cell x c hc
   refine wpAny_storeName_cell I.ok.kind hk hc z (fun h' hc' hs=>?_)
   obtain ⟨oc,hoc,hocd⟩:=id z
   refine h { s with heap:=h' } ⟨I.ok,I.os,I.bare,⟨fun b o e n hb hx=>?_,fun b o e n hb hx=>?_,I.base.free,fun b o e hx=>?_,I.base.tups,I.base.frzs,I.base.tbls⟩,⟨m,hn.sameBut hs (Ne.symm (cne x c hc)),fun j y v' e1 e2 e3=>?_⟩,fun y c' e=>?_,I.free,I.freeC,fun p hp=>?_,tracked ⟨oc,hoc,I.freeC x c hc⟩ hs,by simpa using I.len⟩ ⟨c,hs,.inr hc⟩
   · exact (hs.2 b (Z26 (Z15 (Z13 e) (I.ok.cab x c hfn hc)))).trans (I.base.keep b o e n hb hx)
   · obtain ⟨sl,e1⟩:=I.base.slot b o e n hb hx
     exact ⟨sl,(hs.2 b (Z26 (Z15 (Z13 e) (I.ok.cab x c hfn hc)))).trans e1⟩
   · obtain ⟨o',e1⟩:=I.base.there b o e hx
     exact ⟨o',(hs.2 b (Z26 (Z15 (Z13 e) (I.ok.cab x c hfn hc)))).trans e1⟩
   · by_cases hj:j=i
     · subst hj
       rw [hi] at e1; cases e1
       rw [List.getElem?_set_self hiσ] at e2
       cases e2
       exact ⟨u,r,.inr ⟨.inl hk,c,hc,hc'⟩⟩
     · rw [List.getElem?_set_ne (Ne.symm hj)] at e2
       obtain ⟨u',r',q⟩:=hl j y v' e1 e2 e3
       refine ⟨u',r',?_⟩
       rcases q with q | ⟨k,c',e,z'⟩
       · exact .inl q
       · refine .inr ⟨k,c',e,z'.sameBut hs ?_⟩
         rintro rfl
         exact hj (nodup_ix hN e1 (I.ok.inj _ _ _ e hc ▸ hi))
   · by_cases hcc:c'=c
     · subst hcc; exact ⟨_,hc'⟩
     · obtain ⟨w2,z2⟩:=I.cell y c' e
       exact ⟨w2,z2.sameBut hs hcc⟩
   · obtain ⟨e,n,ne,nf,d⟩:=I.pin p hp
     refine ⟨(hs.2 p.1 ?_).trans e,n,ne,nf,d⟩
     intro q
     rw [q,hoc] at e
     have q':oc=p.2:=Z27 e
     exact d w' (by rw [<- q']; exact hocd)
theorem store_ok {M:Model} {A:Around} {E:Value->Shared->Prop} {i:Nat} {x:Str} {v:V} {u:Value} {Q:Unit->Shared->Prop} (I:Inv X pins σ H s) (hN:X.N.Nodup) (hi:X.N[i]?=some x) (hx:Loc X.env.scope x) (r:RelV v u)
   (h:∀ s',Inv X pins (σ.set i (some v)) H s'->Q () s') (hf:X.fn x=true∨X.env.scope.names.lookup x=some .local:=by first | exact .inl rfl | exact .inr rfl | assumption):wpAny M A (storeName X.env x u) Q E s:=
 store_ok2 I hN hi hx r (fun s' I' _=>h s' I') hf
theorem Inv.call' {s':Shared} {ch:List Addr} (I:Inv X pins σ H s) (ho:s'.os=s.os) (u:Un (frs X.stack) ch H H' s.heap s'.heap) (hok:HOk X.prog X.w H' s'.heap) (hg:AllBare s'.gens)
   (hch:∀ b ∈ ch,(b ∈ X.ex∨X.s₀.heap.objs.size<=b)/\b ≠ X.env.locals/\(∀ x c,X.env.cells.lookup x=some c->c ≠ b)/\∀ p ∈ X.pn++pins,p.1 ≠ b):Inv X pins σ H' s':=by
 obtain ⟨h',g',d',t',o'⟩:=s'
 have e:o'=s.os:=ho
 subst e
 exact I.call (g':=g') (t':=t') (d':=d') u hok hg hch
end
noncomputable abbrev XK:=Value->Option Addr->Hp->Prop
noncomputable abbrev St:=List (Option V)
noncomputable abbrev VK:=V->Hp->Prop
noncomputable abbrev TE:=St->Hp->VK->Prop
noncomputable abbrev TT:=St->Hp->(Bool->Hp->Prop)->Prop
noncomputable abbrev TA:=St->Hp->(List V->Hp->Prop)->Prop
structure Ends where
 nx:St->Hp->Prop
 rt:VK
 bk:St->Hp->Prop:=fun _ _=>False
 ct:St->Hp->Prop:=fun _ _=>False
noncomputable abbrev TS:=Ends->St->Hp->Prop
inductive EP (X:Cx) (pins:List (Addr × Obj)) (σ:St) (Q:VK) (u:Value) (s':Shared):Prop
 | mk (v:V) (H':Hp) (I:Inv X pins σ H' s') (r:RelV v u) (q:Q v H'):EP X pins σ Q u s'
inductive TP (X:Cx) (pins:List (Addr × Obj)) (σ:St) (Q:Bool->Hp->Prop) (b:Bool) (s':Shared):Prop
 | mk (H':Hp) (I:Inv X pins σ H' s') (q:Q b H'):TP X pins σ Q b s'
inductive AP (X:Cx) (pins:List (Addr × Obj)) (σ:St) (Q:List V->Hp->Prop) (us:List Value) (s':Shared):Prop
 | mk (vs:List V) (H':Hp) (I:Inv X pins σ H' s') (r:Vals vs us) (q:Q vs H'):AP X pins σ Q us s'
inductive GP (X:Cx) (pins:List (Addr × Obj)) (Q:St->Hp->Prop) (s':Shared):Prop
 | mk (σ':St) (H':Hp) (I:Inv X pins σ' H' s') (q:Q σ' H'):GP X pins Q s'
inductive RP (X:Cx) (pins:List (Addr × Obj)) (Q:V->Hp->Prop) (u:Value) (s':Shared):Prop
 | mk (v:V) (σ':St) (H':Hp) (I:Inv X pins σ' H' s') (r:RelV v u) (q:Q v H'):RP X pins Q u s'
inductive HP (X:Cx) (pins:List (Addr × Obj)) (σ:St) (Q:Hp->Prop) (s':Shared):Prop
 | mk (H':Hp) (I:Inv X pins σ H' s') (q:Q H'):HP X pins σ Q s'
noncomputable def SP (X:Cx) (pins:List (Addr × Obj)) (D:Ends) (f:Flow) (s':Shared):Prop:=
 match f with
 | .next=>GP X pins D.nx s'
 | .brk=>GP X pins D.bk s'
 | .cont=>GP X pins D.ct s'
 | .ret u=>RP X pins D.rt u s'
noncomputable def PE (X:Cx) (e:Expr) (t:TE):Prop:=
 ∀ (pins:List (Addr × Obj)) (s:Shared) (σ:St) (H:Hp) (Q:VK),Inv X pins σ H s->t σ H Q->wpAny (model X.prog X.w) X.A (eval e X.env) (EP X pins σ Q) X.xe s
noncomputable def PT (X:Cx) (e:Expr) (t:TT):Prop:=
 ∀ (pins:List (Addr × Obj)) (s:Shared) (σ:St) (H:Hp) (Q:Bool->Hp->Prop),Inv X pins σ H s->t σ H Q->wpAny (model X.prog X.w) X.A (isTrue e X.env (eval e X.env)) (TP X pins σ Q) X.xe s
noncomputable def PW (X:Cx) (e:Expr) (t:TT):Prop:=
 ∀ (whole:Sem Value) (pins:List (Addr × Obj)) (s:Shared) (σ:St) (H:Hp) (Q:Bool->Hp->Prop),Inv X pins σ H s->t σ H Q->wpAny (model X.prog X.w) X.A (isTrue e X.env whole) (TP X pins σ Q) X.xe s
theorem PW.pt {X:Cx} {e:Expr} {t:TT} (h:PW X e t):PT X e t:=h _
noncomputable def PA (X:Cx) (es:List Expr) (t:TA):Prop:=
 ∀ (pos:Pos) (pins:List (Addr × Obj)) (s:Shared) (σ:St) (H:Hp) (Q:List V->Hp->Prop),Inv X pins σ H s->t σ H Q->wpAny (model X.prog X.w) X.A (spliced (backTo pos (starEach es X.env))) (AP X pins σ Q) X.xe s
noncomputable def PS (X:Cx) (st:Stmt) (t:TS):Prop:=
 ∀ (pins:List (Addr × Obj)) (s:Shared) (σ:St) (H:Hp) (D:Ends),Inv X pins σ H s->t D σ H->wpAny (model X.prog X.w) X.A (exec st X.env) (SP X pins D) X.xe s
noncomputable def PSs (X:Cx) (st:List Stmt) (t:TS):Prop:=
 ∀ (pins:List (Addr × Obj)) (s:Shared) (σ:St) (H:Hp) (D:Ends),Inv X pins σ H s->t D σ H->wpAny (model X.prog X.w) X.A (execs st X.env) (SP X pins D) X.xe s
theorem thn {α:Type} {t:Sem α} {Q Q':α->Shared->Prop} {M:Model} {A:Around} {E:Value->Shared->Prop} {s:Shared} (h:wpAny M A t Q E s) (hQ:∀ a s,Q a s->Q' a s):wpAny M A t Q' E s:=Z57 h hQ fun _ _ x=>x
section
variable {X:Cx}
noncomputable def tVar (i:Nat):TE:=fun σ H Q=>∃ v,σ[i]?=some (some v)/\Q v H
noncomputable def tC (v:V):TE:=fun _ H Q=>Q v H
theorem pe_var {i:Nat} {x:Str} {pos:Pos} (hN:X.N[i]?=some x) (hv:Vis X.env.scope x) (hd:(x == ("__debug__":Str))=false:=by decide) (hcd:(x == ("__classdict__":Str))=false:=by decide):PE X (.Name x pos) (tVar i):=by
 intro pins s σ H Q I h
 obtain ⟨v,e,h⟩:=h
 obtain ⟨m,hn,hl⟩:=I.loc
 obtain ⟨u,r,l⟩:=hl i x v hN e hv
 have fin:EP X pins σ Q u s:=⟨v,H,I,r,h⟩
 rcases l with ⟨hk,hm⟩ | ⟨hk,c,hc,hcell⟩
 · exact wpAny_Name (wpAny_loadName_local I.ok.kind hk hn hm fin) hd
 · rcases hk with hk | hk
   · exact wpAny_Name (wpAny_loadName_cell I.ok.kind hk hc hcell fin) hd
   · exact wpAny_Name (wpAny_loadName_free I.ok.kind hk hc hcell fin hcd) hd
theorem pe_int {i j pos}:PE X (.Constant (.int i) j pos) (tC (.int i)):=fun _ _ _ H _ I h=>wpAny_Constant_int ⟨.int i,H,I.tok _,⟨_,rfl⟩,h⟩
theorem pe_bl {b j pos}:PE X (.Constant (.bool b) j pos) (tC (.bl b)):=fun _ _ _ H _ I h=>Constant_bool ⟨.bl b,H,I,rfl,h⟩
theorem pe_str {x j pos}:PE X (.Constant (.str x) j pos) (tC (.str x)):=fun _ _ _ H _ I h=>Calls.Constant_str ⟨.str x,H,I.tok _,⟨_,rfl⟩,h⟩
noncomputable def Gl (X:Cx) (x:Str):Prop:=X.env.kindOf x=some .globalImplicit
theorem ld_glob {E:Value->Shared->Prop} {pins:List (Addr × Obj)} {s:Shared} {σ:St} {H:Hp} {x:Str} {u:Value} {pos:Pos} {Q:Value->Shared->Prop} (I:Inv X pins σ H s) (hg:Gl X x) (hm:X.mg x=some u) (h:Q u s)
   (hd:(x == ("__debug__":Str))=false:=by decide):wpAny (model X.prog X.w) X.A (eval (.Name x pos) X.env) Q E s:=
 Calls.Name_function_global I.ok.kind hg (Calls.loadGlobal_global (by rw [I.ok.glob]; exact I.mod.glob.keeps I.bk) hm h) hd
theorem ld_blt {E:Value->Shared->Prop} {pins:List (Addr × Obj)} {s:Shared} {σ:St} {H:Hp} {x:Str} {u:Value} {pos:Pos} {Q:Value->Shared->Prop} (I:Inv X pins σ H s) (hg:Gl X x) (hm:X.mg x=none) (hv:bootBuiltins x=some u) (h:Q u s)
   (hn:x ≠ "__name__":=by decide) (hd:(x == ("__debug__":Str))=false:=by decide):wpAny (model X.prog X.w) X.A (eval (.Name x pos) X.env) Q E s:=by
 obtain ⟨mb,h1,h2⟩:=I.mod.blt
 exact Calls.Name_function_global I.ok.kind hg (Calls.loadGlobal_builtin (by rw [I.ok.glob]; exact I.mod.glob.keeps I.bk) hm (by rw [I.ok.blt]; exact h1.keeps I.bk) ((h2 x hn).trans hv) h) hd
theorem pe_glob {x:Str} {v:V} {u:Value} {pos:Pos} (hg:Gl X x) (hm:X.mg x=some u) (r:RelV v u) (hd:(x == ("__debug__":Str))=false:=by decide):PE X (.Name x pos) (tC v):=
 fun _ _ _ H _ I h=>ld_glob I hg hm ⟨v,H,I,r,h⟩ hd
theorem pe_bltn {x:Str} {v:V} {u:Value} {pos:Pos} (hg:Gl X x) (hm:X.mg x=none) (hv:bootBuiltins x=some u) (r:RelV v u) (hn:x ≠ "__name__":=by decide) (hd:(x == ("__debug__":Str))=false:=by decide):PE X (.Name x pos) (tC v):=
 fun _ _ _ H _ I h=>ld_blt I hg hm hv ⟨v,H,I,r,h⟩ hn hd
variable {a b:Expr} {ta tb:TE} {pos:Pos}
noncomputable def tB (t:TE):TT:=fun σ H Q=>t σ H fun x H1=>∃ c,x=.bl c/\Q c H1
variable {tA tB':TT} {rest:List Expr}
noncomputable def tAnd (t u:TT):TT:=fun σ H Q=>t σ H fun c H1=>if c=true then u σ H1 Q else Q false H1
noncomputable def tOr (t u:TT):TT:=fun σ H Q=>t σ H fun c H1=>if c=true then Q true H1 else u σ H1 Q
noncomputable def tNot (t:TT):TT:=fun σ H Q=>t σ H fun c H1=>Q (!c) H1
theorem pw_and1 (ha:PT X a tA):PW X (.BoolOp .And [a] pos) tA:=by
 intro wh pins s σ H Q I h
 refine isTrue_and (thn (ha pins s σ H Q I h) fun c s1 e=>?_)
 cases c with
 | true=>exact isTrue_and_nil e
 | false=>exact e
theorem pw_or1 (ha:PT X a tA):PW X (.BoolOp .Or [a] pos) tA:=by
 intro wh pins s σ H Q I h
 refine isTrue_or (thn (ha pins s σ H Q I h) fun c s1 e=>?_)
 cases c with
 | false=>exact isTrue_or_nil e
 | true=>exact e
theorem pw_and (ha:PT X a tA) (hb:PW X (.BoolOp .And (b::rest) pos) tB'):PW X (.BoolOp .And (a::b::rest) pos) (tAnd tA tB'):=by
 intro wh pins s σ H Q I h
 refine isTrue_and (thn (ha pins s σ H _ I h) fun c s1 ⟨H1,I1,q1⟩=>?_)
 cases c with
 | true=>exact hb wh pins s1 σ H1 Q I1 q1
 | false=>exact ⟨H1,I1,q1⟩
theorem pw_or (ha:PT X a tA) (hb:PW X (.BoolOp .Or (b::rest) pos) tB'):PW X (.BoolOp .Or (a::b::rest) pos) (tOr tA tB'):=by
 intro wh pins s σ H Q I h
 refine isTrue_or (thn (ha pins s σ H _ I h) fun c s1 ⟨H1,I1,q1⟩=>?_)
 cases c with
 | true=>exact ⟨H1,I1,q1⟩
 | false=>exact hb wh pins s1 σ H1 Q I1 q1
theorem pt_not (ha:PT X a tA):PT X (.UnaryOp .Not a pos) (tNot tA):=by
 intro pins s σ H Q I h
 exact isTrue_not (thn (ha pins s σ H (fun c H1=>Q (!c) H1) I h) fun _ _ ⟨H1,I1,q1⟩=>⟨H1,I1,q1⟩)
noncomputable def tAndV (ta tb:TE):TE:=fun σ H Q=>ta σ H fun x H1=>∃ c,x=.bl c/\if c=true then tb σ H1 Q else Q (.bl false) H1
noncomputable def tNotV (ta:TE):TE:=fun σ H Q=>ta σ H fun x H1=>∃ c,x=.bl c/\Q (.bl (!c)) H1
theorem pe_one {op} {t:TE} (h:PE X a t):PE X (.BoolOp op [a] pos) t:=fun pins s σ H Q I hw=>BoolOp_one (h pins s σ H Q I hw)
theorem pe_and (ha:PE X a ta) (hb:PE X (.BoolOp .And (b::rest) pos) tb):PE X (.BoolOp .And (a::b::rest) pos) (tAndV ta tb):=by
 intro pins s σ H Q I h
 refine BoolOp_and (thn (ha pins s σ H _ I h) fun v s1 ⟨x,H1,I1,r1,q1⟩=>?_)
 obtain ⟨c,rfl,q1⟩:=q1
 cases r1
 refine wpAny_truthy_bool ?_
 cases c with
 | true=>exact hb pins s1 σ H1 Q I1 q1
 | false=>exact ⟨.bl false,H1,I1,rfl,q1⟩
theorem pe_not (ha:PE X a ta):PE X (.UnaryOp .Not a pos) (tNotV ta):=by
 intro pins s σ H Q I h
 refine UnaryOp_ (thn (ha pins s σ H _ I h) fun v s1 ⟨x,H1,I1,r1,q1⟩=>?_)
 obtain ⟨c,rfl,q1⟩:=q1
 cases r1
 exact not_of (wpAny_truthy_bool ⟨.bl (!c),H1,I1,rfl,q1⟩)
noncomputable def tIf (t:TT) (ta tb:TE):TE:=fun σ H Q=>t σ H fun c H1=>if c=true then ta σ H1 Q else tb σ H1 Q
theorem pe_ifExp {c:Expr} (hc:PT X c tA) (ha:PE X a ta) (hb:PE X b tb):PE X (.IfExp c a b pos) (tIf tA ta tb):=by
 intro pins s σ H Q I h
 refine wpAny_IfExp (thn (hc pins s σ H _ I h) fun d s1 ⟨H1,I1,q1⟩=>?_)
 cases d with
 | true=>exact ha pins s1 σ H1 Q I1 q1
 | false=>exact hb pins s1 σ H1 Q I1 q1
end
noncomputable def SqL (K:PySem.W.Frag) (H:Hp) (a:Addr) (xs:List V):Prop:=
 Rd H a (.lst xs) ∨
   ∃ (o:Obj) (its:Array Value) (n:Nat),K.lookup a=some o/\o.cls=.type "list"/\o.dict=none/\o.data=.seq its n/\its.size<=sizeLine/\Vals xs its.toList
noncomputable def SqT (K:PySem.W.Frag) (H:Hp) (a:Addr) (xs:List V):Prop:=H a=some (.tup xs)
noncomputable def absV:Value->Option V
 | .none=>some .non
 | .bool b=>some (.bl b)
 | .int i _=>some (.int i)
 | .str x _=>some (.str x)
 | .bytes b _=>some (.byt b)
 | .float b _=>some (.flt b)
 | .ref a=>some (.ref a)
 | .type n=>some (.ty n)
 | _=>none
theorem RelV.abs {x:V} {u:Value} (r:RelV x u):absV u=some x:=by
 cases x with
 | non=>cases r; rfl
 | bl _=>cases r; rfl
 | int _=>obtain ⟨t,rfl⟩:=r; rfl
 | str _=>obtain ⟨t,rfl⟩:=r; rfl
 | byt _=>obtain ⟨t,rfl⟩:=r; rfl
 | flt _=>obtain ⟨t,rfl⟩:=r; rfl
 | ref _=>cases r; rfl
 | ty _=>cases r; rfl
theorem RelV.inj {x y:V} {u:Value} (r:RelV x u) (q:RelV y u):x=y:=Z27 (r.abs.symm.trans q.abs)
theorem Vals.inj:∀ {xs ys:List V} {us:List Value},Vals xs us->Vals ys us->xs=ys:=by
 intro xs ys us h
 induction h generalizing ys with
 | nil=>intro g; cases g; rfl
 | cons r _ ih=>intro g; cases g with | cons r' t'=>rw [r.inj r',ih t']
section
variable {X:Cx} {pins:List (Addr × Obj)} {σ:St} {H:Hp} {s:Shared} {a:Addr} {xs ys:List V}
theorem Inv.list (I:Inv X pins σ H s) (h:SqL X.K H a xs):∃ its:List Value,Vals xs its/\PlainL s.heap a its.toArray/\xs.length<=sizeLine:=by
 rcases h with h | ⟨o,its,n,hk,hc,hd,hs,hz,r⟩
 · obtain ⟨z,its,n,r,e⟩:=h.ok I.hok
   exact ⟨its,r,⟨_,n,e,rfl,rfl,rfl⟩,z⟩
 · refine ⟨its.toList,r,⟨o,n,I.kIn a o hk,hc,hd,by simpa using hs⟩,?_⟩
   have e:=r.length
   simp only [Array.length_toList] at e
   omega
theorem Inv.tuple (I:Inv X pins σ H s) (h:SqT X.K H a xs):∃ its:List Value,Vals xs its/\IsTup s.heap a its.toArray/\xs.length<=sizeLine:=by
 obtain ⟨z,its,r,p⟩:=I.hok a _ h
 exact ⟨its,r,p,z⟩
theorem Inv.list_inj (I:Inv X pins σ H s) (h:SqL X.K H a xs) (h':SqL X.K H a ys):xs=ys:=by
 obtain ⟨its,r,⟨o,n,e,_,_,d⟩,_⟩:=I.list h
 obtain ⟨its',r',⟨o',n',e',_,_,d'⟩,_⟩:=I.list h'
 rw [e] at e'; cases e'
 rw [d] at d'
 injection d' with d1 _
 have:its=its':=by simpa using congrArg Array.toList d1
 subst this
 exact r.inj r'
theorem Inv.tuple_inj (I:Inv X pins σ H s) (h:SqT X.K H a xs) (h':SqT X.K H a ys):xs=ys:=by
 obtain ⟨its,r,⟨o,e,_,n,d⟩,_⟩:=I.tuple h
 obtain ⟨its',r',⟨o',e',_,n',d'⟩,_⟩:=I.tuple h'
 rw [e] at e'; cases e'
 rw [d] at d'
 injection d' with d1 _
 have:its=its':=by simpa using congrArg Array.toList d1
 subst this
 exact r.inj r'
end
noncomputable abbrev Cx.wish (X:Cx) (E:Value->Shared->Prop):Cx:={ X with xe:=E }
noncomputable abbrev Cx.nox (X:Cx):Cx:=X.wish fun _ _=>False
theorem Cx.Ok.wish {X:Cx} (ok:X.Ok) (E:Value->Shared->Prop):(X.wish E).Ok:=
 ⟨ok.mod,ok.kind,ok.glob,ok.blt,ok.above,ok.inj,ok.has,ok.cab,ok.hd,ok.frames,ok.stk,ok.exf,ok.bs,ok.bsz,ok.noex,ok.exfs,ok.funs,ok.frf⟩
theorem Cx.Ok.unwish {X:Cx} {E:Value->Shared->Prop} (ok:(X.wish E).Ok):X.Ok:=
 ⟨ok.mod,ok.kind,ok.glob,ok.blt,ok.above,ok.inj,ok.has,ok.cab,ok.hd,ok.frames,ok.stk,ok.exf,ok.bs,ok.bsz,ok.noex,ok.exfs,ok.funs,ok.frf⟩
section
variable {X:Cx} {pins:List (Addr × Obj)} {σ:St} {H:Hp} {s:Shared} {E:Value->Shared->Prop}
theorem Inv.wish (I:Inv X pins σ H s) (E:Value->Shared->Prop):Inv (X.wish E) pins σ H s:=⟨I.ok.wish E,I.os,I.bare,I.base,I.loc,I.cell,I.free,I.freeC,I.pin,I.hok,I.len⟩
theorem Inv.unwish (I:Inv (X.wish E) pins σ H s):Inv X pins σ H s:=⟨I.ok.unwish,I.os,I.bare,I.base,I.loc,I.cell,I.free,I.freeC,I.pin,I.hok,I.len⟩
theorem SP.unwish {D:Ends} {f:Flow} {s':Shared} (h:SP (X.wish E) pins D f s'):SP X pins D f s':=by
 cases f with
 | next=>obtain ⟨σ',H',I,q⟩:=h; exact ⟨σ',H',I.unwish,q⟩
 | brk=>obtain ⟨σ',H',I,q⟩:=h; exact ⟨σ',H',I.unwish,q⟩
 | cont=>obtain ⟨σ',H',I,q⟩:=h; exact ⟨σ',H',I.unwish,q⟩
 | ret u=>obtain ⟨v,σ',H',I,r,q⟩:=h; exact ⟨v,σ',H',I.unwish,r,q⟩
theorem PT.nox {e:Expr} {t:TT} (h:PT X.nox e t):PT X e t:=fun pins s σ H Q I hw=>
 Z57 (h pins s σ H Q (I.wish _) hw) (fun _ _ ⟨H',I',q⟩=>⟨H',I'.unwish,q⟩) fun _ _ z=>False.elim z
theorem PSs.nox {st:List Stmt} {t:TS} (h:PSs X.nox st t):PSs X st t:=fun pins s σ H D I hw=>
 Z57 (h pins s σ H D (I.wish _) hw) (fun _ _ q=>q.unwish) fun _ _ z=>False.elim z
end
section
variable {X:Cx} {st:Stmt} {rest:List Stmt} {t u:TS} {e:Expr} {te:TE} {pos:Pos}
noncomputable def tNext:TS:=fun D σ H=>D.nx σ H
noncomputable def tSeq (t u:TS):TS:=fun D σ H=>t { D with nx:=u D } σ H
theorem pss_nil:PSs X [] tNext:=fun _ _ σ H _ I h=>wpAny_execs_nil ⟨σ,H,I,h⟩
theorem pss_cons (h1:PS X st t) (h2:PSs X rest u):PSs X (st::rest) (tSeq t u):=by
 intro pins s σ H D I h
 refine wpAny_execs_cons (thn (h1 pins s σ H { D with nx:=u D } I h) fun f s1 q=>?_)
 cases f with
 | next=>
   obtain ⟨σ',H',I',q⟩:=q
   exact h2 pins s1 σ' H' D I' q
 | ret v=>exact q
 | brk=>exact q
 | cont=>exact q
theorem pss_one (h1:PS X st t):PSs X [st] t:=by
 intro pins s σ H D I h
 refine wpAny_execs_cons (thn (h1 pins s σ H D I h) fun f s1 q=>?_)
 cases f with
 | next=>exact wpAny_execs_nil q
 | ret v=>exact q
 | brk=>exact q
 | cont=>exact q
theorem Inv.quiet {pins:List (Addr × Obj)} {σ:St} {H:Hp} {s:Shared} (I:Inv X pins σ H s):interactive X.env=false:=by simp [interactive,I.ok.kind]
noncomputable def tDrop (te:TE):TS:=fun D σ H=>te σ H fun _ H1=>D.nx σ H1
theorem ps_expr (he:PE X e te) (hs:swapsWith e none pos.line X.env=pure false:=by rfl):PS X (.Expr e pos) (tDrop te):=by
 intro pins s σ H D I h
 exact wpAny_Expr_any (thn (he pins s σ H _ I h) fun v s1 ⟨x,H1,I1,r1,q1⟩=>⟨σ,H1,I1,q1⟩) I.quiet hs
noncomputable def tRet (te:TE):TS:=fun D σ H=>te σ H D.rt
theorem ps_ret (he:PE X e te):PS X (.Return (some e) pos) (tRet te):=by
 intro pins s σ H D I h
 exact wpAny_Return_some (thn (he pins s σ H _ I h) fun v s1 ⟨x,H1,I1,r1,q1⟩=>⟨x,σ,H1,I1,r1,q1⟩)
noncomputable def tIfS (c:TT) (t u:TS):TS:=fun D σ H=>c σ H fun b H1=>if b=true then t D σ H1 else u D σ H1
theorem ps_if {c:Expr} {a b:List Stmt} {tc:TT} (hc:PT X c tc) (ha:PSs X a t) (hb:PSs X b u):PS X (.If c a b pos) (tIfS tc t u):=by
 intro pins s σ H D I h
 refine wpAny_If (thn (hc pins s σ H _ I h) fun d s1 ⟨H1,I1,q1⟩=>?_)
 cases d with
 | true=>exact ha pins s1 σ H1 D I1 q1
 | false=>exact hb pins s1 σ H1 D I1 q1
noncomputable def tNever:TS:=fun _ _ _=>False
theorem ps_never:PS X st tNever:=fun _ _ _ _ _ _ h=>h.elim
end
noncomputable abbrev TG:=V->St->Hp->(St->Hp->Prop)->Prop
noncomputable abbrev TGs:=List V->St->Hp->(St->Hp->Prop)->Prop
noncomputable def PG (X:Cx) (target:Expr) (t:TG):Prop:=
 ∀ (pins:List (Addr × Obj)) (s:Shared) (σ:St) (H:Hp) (v:V) (u:Value) (Q:St->Hp->Prop),Inv X pins σ H s->RelV v u->t v σ H Q ->
   wpAny (model X.prog X.w) X.A (assign target X.env u) (fun _ s'=>GP X pins Q s') X.xe s
noncomputable def PGs (X:Cx) (ts:List Expr) (t:TGs):Prop:=
 ∀ (pins:List (Addr × Obj)) (s:Shared) (σ:St) (H:Hp) (vs:List V) (us:List Value) (Q:St->Hp->Prop),Inv X pins σ H s->Vals vs us->t vs σ H Q ->
   wpAny (model X.prog X.w) X.A (assignInOrder ((assignEach ts X.env).map (·.2)) us) (fun _ s'=>GP X pins Q s') X.xe s
noncomputable abbrev TSet:=V->V->V->Hp->(Hp->Prop)->Prop
noncomputable def PSet (X:Cx) (t:TSet):Prop:=
 ∀ (pins:List (Addr × Obj)) (s:Shared) (σ:St) (H:Hp) (o i v:V) (ov iv u:Value) (Q:Hp->Prop),Inv X pins σ H s->RelV o ov->RelV i iv->RelV v u->t o i v H Q ->
   wpAny (model X.prog X.w) X.A (setItem ov iv u) (fun _ s'=>HP X pins σ Q s') X.xe s
noncomputable abbrev TIp:=V->V->Hp->VK->Prop
noncomputable def PIp (X:Cx) (op:Operator) (t:TIp):Prop:=
 ∀ (pins:List (Addr × Obj)) (s:Shared) (σ:St) (H:Hp) (x y:V) (v u:Value) (Q:VK),Inv X pins σ H s->RelV x v->RelV y u->t x y H Q ->
   wpAny (model X.prog X.w) X.A (inplaceOp op v u) (EP X pins σ Q) X.xe s
section
variable {X:Cx} {pos:Pos}
noncomputable def gName (i:Nat):TG:=fun v σ H Q=>Q (σ.set i (some v)) H
theorem pg_name {i:Nat} {x:Str} (hN:X.N.Nodup) (hi:X.N[i]?=some x) (hx:Loc X.env.scope x) (hf:X.fn x=true∨X.env.scope.names.lookup x=some .local:=by first | exact .inl rfl | exact .inr rfl | assumption):PG X (.Name x pos) (gName i):=by
 intro pins s σ H v u Q I r h
 exact wpAny_assign_Name (store_ok I hN hi hx r (fun s' I'=>⟨_,H,I',h⟩) hf)
noncomputable def gNil:TGs:=fun vs σ H Q=>vs=[]/\Q σ H
noncomputable def gCons (t:TG) (u:TGs):TGs:=fun vs σ H Q=>∃ v r,vs=v::r/\t v σ H fun σ' H'=>u r σ' H' Q
theorem pgs_nil:PGs X [] gNil:=by
 intro pins s σ H vs us Q I r h
 obtain ⟨e,h⟩:=h
 subst e
 cases r
 exact assignInOrder_nil ⟨σ,H,I,h⟩
theorem pgs_cons {e:Expr} {es:List Expr} {t:TG} {u:TGs} (h1:PG X e t) (h2:PGs X es u)
   (hs:(assignEach (e::es) X.env).map (·.2)=assign e X.env::(assignEach es X.env).map (·.2):=by rfl):PGs X (e::es) (gCons t u):=by
 intro pins s σ H vs us Q I r h
 obtain ⟨v,vr,e1,h⟩:=h
 subst e1
 cases r with
 | cons r rr=>
   rw [hs]
   refine assignInOrder_cons (thn (h1 pins s σ H _ _ _ I r h) fun _ s1 ⟨σ1,H1,I1,q1⟩=>?_)
   exact h2 pins s1 σ1 H1 _ _ Q I1 rr q1
noncomputable def gTup (K:PySem.W.Frag) (n:Nat) (t:TGs):TG:=fun v σ H Q=>∃ a xs,v=.ref a/\SqT K H a xs/\xs.length=n/\t xs σ H Q
theorem pg_tup {es:List Expr} {k:Nat} {t:TGs} {n:Nat} (hc:X.calm=true) (h:PGs X es t)
   (hn:(assignEach es X.env).length=n:=by rfl) (hst:(assignEach es X.env).findIdx? (·.1)=none:=by rfl):PG X (.Tuple es k pos) (gTup X.K n t):=by
 intro pins s σ H v u Q I r hw
 obtain ⟨a,xs,e1,hq,hl,hw⟩:=hw
 subst e1
 cases r
 obtain ⟨its,rv,ht,hz⟩:=I.tuple hq
 refine assign_Tuple_tuple (I.ok.hd hc) ht (by simp [hn,<- hl,rv.length]) hst fun h' hx=>?_
 have I1:Inv X pins σ H { s with heap:=h' }:=I.kept (t':=s.toks) fun b o e=>hx b o (Z26 (Z13 e)) e
 exact h pins _ σ H xs _ Q I1 (by simpa using rv) hw
noncomputable def gSub (to ti:TE) (t:TSet):TG:=fun v σ H Q=>to σ H fun o H1=>ti σ H1 fun i H2=>t o i v H2 fun H3=>Q σ H3
theorem pg_sub {o i:Expr} {to ti:TE} {t:TSet} (ho:PE X o to) (hi:PE X i ti) (hs:PSet X t)
   (ha:∀ v,assign (.Subscript o i pos) X.env v=(do
     let ov <- holding [v] (eval o X.env)
     let iv <- holding [v,ov] (eval i X.env)
     standAt pos
     holding [v,ov,iv] (setItem ov iv v)
     release [v,ov,iv] []):=by intro _; rfl):PG X (.Subscript o i pos) (gSub to ti t):=by
 intro pins s σ H v u Q I r h
 rw [ha]
 refine Z55 (wpAny_holding (thn (ho pins s σ H _ I h) fun ov s1 ⟨x,H1,I1,r1,q1⟩=>?_))
 refine Z55 (wpAny_holding (thn (hi pins s1 σ H1 _ I1 q1) fun iv s2 ⟨y,H2,I2,r2,q2⟩=>?_))
 refine Z55 (wpAny_standAt (Z55 (wpAny_holding (thn (hs pins s2 σ H2 x y v ov iv u _ I2 r1 r2 r q2) fun _ s3 ⟨H3,I3,q3⟩=>?_))))
 exact wpAny_release ⟨σ,H3,I3,q3⟩
noncomputable def tAsg (te:TE) (g:TG):TS:=fun D σ H=>te σ H fun x H1=>g x σ H1 D.nx
theorem ps_asg {tg e:Expr} {te:TE} {g:TG} (he:PE X e te) (hg:PG X tg g) (hs:swapsWithSole [tg] e pos.line X.env=pure false:=by rfl) (hw:swappedStores [tg] e X.env=pure none:=by rfl)
   (h1:(assignEach [tg] X.env).map (·.2)=[assign tg X.env]:=by rfl):PS X (.Assign [tg] e pos) (tAsg te g):=by
 intro pins s σ H D I h
 refine wpAny_Assign_stores (thn (he pins s σ H _ I h) fun v s1 ⟨x,H1,I1,r1,q1⟩=>?_) hs hw
 rw [h1]
 exact thn (hg pins s1 σ H1 x v _ I1 r1 q1) fun _ s2 q=>q
theorem ps_set {i:Nat} {x:Str} {e:Expr} {te:TE} {pos':Pos} (hN:X.N.Nodup) (hi:X.N[i]?=some x) (hx:Loc X.env.scope x) (he:PE X e te) (hs:swapsWith e (some (.Name x pos')) pos.line X.env=pure false:=by rfl) (hf:X.fn x=true∨X.env.scope.names.lookup x=some .local:=by first | exact .inl rfl | exact .inr rfl | assumption) :
   PS X (.Assign [.Name x pos'] e pos) (tAsg te (gName i)):=by
 intro pins s σ H D I h
 refine wpAny_Assign_Name (thn (he pins s σ H _ I h) fun v s1 ⟨y,H1,I1,r1,q1⟩=>?_) hs
 exact store_ok I1 hN hi hx r1 (fun s2 I2=>⟨_,H1,I2,q1⟩) hf
noncomputable def tAug (i:Nat) (te:TE) (ti:TIp):TS:=fun D σ H=>∃ x,σ[i]?=some (some x)/\te σ H fun y H1=>ti x y H1 fun z H2=>D.nx (σ.set i (some z)) H2
theorem ps_aug {i:Nat} {x:Str} {e:Expr} {te:TE} {op:Operator} {ti:TIp} {pos':Pos} (hN:X.N.Nodup) (hi:X.N[i]?=some x) (hx:Loc X.env.scope x) (he:PE X e te) (ho:PIp X op ti) (hf:X.fn x=true∨X.env.scope.names.lookup x=some .local:=by first | exact .inl rfl | exact .inr rfl | assumption) :
   PS X (.AugAssign (.Name x pos') op e pos) (tAug i te ti):=by
 intro pins s σ H D I h
 obtain ⟨v,e1,h⟩:=h
 obtain ⟨m,hn,hl⟩:=I.loc
 have vis:Vis X.env.scope x:=by rcases hx with k | k; exact .inl k; exact .inr (.inl k)
 obtain ⟨u,r,l⟩:=hl i x v hi e1 vis
 refine wpAny_AugAssign_Name ?_
 have go:wpAny (model X.prog X.w) X.A (eval e X.env) (fun w s₂=>wpAny (model X.prog X.w) X.A (inplaceOp op u w) (fun r s₃=>wpAny (model X.prog X.w) X.A (storeName X.env x r) (fun _=>SP X pins D .next) X.xe s₃) X.xe s₂) X.xe s:=by
   refine thn (he pins s σ H _ I h) fun w s1 ⟨y,H1,I1,r1,q1⟩=>?_
   refine thn (ho pins s1 σ H1 v y u w _ I1 r r1 q1) fun z s2 ⟨zv,H2,I2,r2,q2⟩=>?_
   exact store_ok I2 hN hi hx r2 (fun s3 I3=>⟨_,H2,I3,q2⟩) hf
 rcases l with ⟨hk,hm⟩ | ⟨hk,c,hc,hcell⟩
 · exact wpAny_loadName_local I.ok.kind hk hn hm go
 · rcases hk with hk | hk
   · exact wpAny_loadName_cell I.ok.kind hk hc hcell go
   · rcases hx with k | k
     · have:X.env.scope.names.lookup x=some .free:=hk
       rw [k] at this; cases this
     · have:X.env.scope.names.lookup x=some .free:=hk
       rw [k] at this; cases this
noncomputable def ipI (f:Int->Int->Int):TIp:=fun x y H Q=>∃ i j,x=.int i/\y=.int j/\Q (.int (f i j)) H
theorem ip_add:PIp X .Add (ipI fun i j=>i+j):=by
 intro pins s σ H x y v u Q I r1 r2 h
 obtain ⟨i,j,e1,e2,q⟩:=h
 subst e1; subst e2
 obtain ⟨t,rfl⟩:=r1
 obtain ⟨t',rfl⟩:=r2
 exact iadd_int ⟨.int _,H,I.tok _,⟨_,rfl⟩,q⟩
theorem ip_sub:PIp X .Sub (ipI fun i j=>i - j):=by
 intro pins s σ H x y v u Q I r1 r2 h
 obtain ⟨i,j,e1,e2,q⟩:=h
 subst e1; subst e2
 obtain ⟨t,rfl⟩:=r1
 obtain ⟨t',rfl⟩:=r2
 exact isub_int ⟨.int _,H,I.tok _,⟨_,rfl⟩,q⟩
end
section
variable {X:Cx} {pos:Pos}
noncomputable def tWhile (c:TT) (tb:TS):TS:=fun D σ H=>∃ W:Nat->St->Hp->Prop,(∃ m,W m σ H)/\∀ m σ H,W m σ H ->
 c σ H fun b H1=>if b=true then ∃ N:St->Hp->Prop,(∀ σ' H',N σ' H'->∃ m',m' < m/\W m' σ' H')/\tb { D with nx:=N,ct:=N,bk:=D.nx } σ H1 else D.nx σ H1
theorem ps_while {c:Expr} {body:List Stmt} {tc:TT} {tb:TS} (hp:PassesOwn (model X.prog X.w) X.A X.env X.xe) (hc:PT X c tc) (hb:PSs X body tb):PS X (.While c body [] pos) (tWhile tc tb):=by
 intro pins s σ H D I h
 obtain ⟨W,⟨m0,w0⟩,turn⟩:=h
 refine wpAny_While (codeAny_whileLoop (fun n s'=>∃ σ' H',Inv X pins σ' H' s'/\W n σ' H') ?_ m0 ⟨σ,H,I,w0⟩)
 rintro n s1 ⟨σ1,H1,I1,w1⟩
 refine wpAny_passesOwn hp (thn (hc pins s1 σ1 H1 _ I1 (turn n σ1 H1 w1)) fun b s2 ⟨H2,I2,q2⟩=>?_)
 cases b with
 | true=>
   obtain ⟨N,hN,q2⟩:=q2
   rw [if_pos rfl]
   refine wpAny_passesOwn hp (thn (hb pins s2 σ1 H2 _ I2 q2) fun f s3 q3=>?_)
   cases f with
   | next=>
     obtain ⟨σ3,H3,I3,n3⟩:=q3
     obtain ⟨m',hm,w3⟩:=hN σ3 H3 n3
     exact ⟨m',hm,σ3,H3,I3,w3⟩
   | cont=>
     obtain ⟨σ3,H3,I3,n3⟩:=q3
     obtain ⟨m',hm,w3⟩:=hN σ3 H3 n3
     exact ⟨m',hm,σ3,H3,I3,w3⟩
   | brk=>exact q3
   | ret v=>exact q3
 | false=>
   rw [if_neg Z28]
   exact wpAny_execs_nil ⟨σ1,H2,I2,q2⟩
end
structure It where
 go:Nat->Hp->Prop
 yld:Nat->Hp->V->Hp->Prop
 stop:Nat->Hp->Prop
noncomputable def FpOk (X:Cx) (pins:List (Addr × Obj)) (H:Hp) (b:Addr):Prop:=
 H b=none/\b ≠ X.env.locals/\b ∉ X.fs/\(b ∈ X.ex∨X.s₀.heap.objs.size<=b)/\(∀ x c,X.env.cells.lookup x=some c->c ≠ b)/\∀ p ∈ X.pn++pins,p.1 ≠ b
theorem Inv.fpOk {X:Cx} {pins:List (Addr × Obj)} {σ:St} {H H':Hp} {s:Shared} {b:Addr} (I:Inv X pins σ H s) (hb:s.heap.objs.size<=b) (hn:H' b=none):FpOk X pins H' b:=by
 refine ⟨hn,Nat.ne_of_gt (Z15 I.lt hb),I.nofs hb,.inr (Z24 I.sz hb),fun x c e z=>?_,fun p hp z=>?_⟩
 · obtain ⟨v,q⟩:=I.cell x c e
   exact absurd (Z15 q.lt (by rw [z]; exact hb)) (Z33 _)
 · exact absurd (Z15 (Z13 (I.pin p hp).1) (by rw [z]; exact hb)) (Z33 _)
inductive YP (X:Cx) (pins:List (Addr × Obj)) (σ:St) (H:Hp) (i:Nat) (J:It) (tn:Nat->Heap->Prop) (fp:List Addr) (u:Value) (s2:Shared):Prop
 | mk:∀ x H',Inv X pins σ H' s2->RelV x u->J.yld i H x H'->tn (i+1) s2.heap->(∀ b ∈ fp,H' b=none)->YP X pins σ H i J tn fp u s2
inductive FrI (X:Cx) (pins:List (Addr × Obj)) (fp:List Addr) (tn:Nat->Heap->Prop) (W:Nat->Nat->St->Hp->Prop) (n:Nat) (s':Shared):Prop
 | mk:∀ i σ' H',Inv X pins σ' H' s'->tn i s'.heap->(∀ b ∈ fp,H' b=none)->W i n σ' H'->FrI X pins fp tn W n s'
structure Turn (P:Program) (w:World) (K:PySem.W.Frag) (tg:Expr) (J:It) (fp:List Addr) (it:Addr) (tn:Nat->Heap->Prop):Prop where
 mem:it ∈ fp
 obj:∀ i h,tn i h->∀ b ∈ fp,∃ o,h.get? b=some o/\∀ v,o.data ≠ .cell v
 keep:∀ i h h',tn i h->(∀ b ∈ fp,∀ o,h.get? b=some o->h'.get? b=some o)->tn i h'
 item:∀ (X:Cx),X.prog=P->X.w=w->X.K=K->X.calm=true->∀ (i:Nat) (pins:List (Addr × Obj)) (s:Shared) (σ:St) (H:Hp) (E:Value->Shared->Prop),Inv X pins σ H s->(∀ b ∈ fp,FpOk X pins H b)->tn i s.heap->J.go i H ->
   wpAny (model P w) X.A (pyNext (.ref it)) (fun r s1=>∃ u,r=some u /\
     wpAny (model P w) X.A (letOwnedTupleGo tg (.ref it) u) (fun _ s2=>YP X pins σ H i J tn fp u s2) E s1) E s
 done:∀ (X:Cx),X.prog=P->X.w=w->X.K=K->X.calm=true->∀ (i:Nat) (pins:List (Addr × Obj)) (s:Shared) (σ:St) (H:Hp) (E:Value->Shared->Prop),Inv X pins σ H s->(∀ b ∈ fp,FpOk X pins H b)->tn i s.heap->J.stop i H ->
   wpAny (model P w) X.A (pyNext (.ref it)) (fun r s1=>r=none/\Inv X pins σ H s1) E s
 self:∀ (A:Around) (i:Nat) (s:Shared) (Q:Value->Shared->Prop) (E:Value->Shared->Prop),tn i s.heap->Q (.ref it) s->wpAny (model P w) A (pyIter (.ref it)) Q E s
noncomputable abbrev TI:=St->Hp->(It->Hp->Prop)->Prop
inductive PIE (X:Cx) (pins:List (Addr × Obj)) (σ:St) (tg:Expr) (R:It->Hp->Prop) (itv:Value) (s2:Shared):Prop
 | mk (it:Addr) (fp:List Addr) (tn:Nat->Heap->Prop) (J:It) (H':Hp) (e:itv=.ref it) (I:Inv X pins σ H' s2) (T:Turn X.prog X.w X.K tg J fp it tn) (t0:tn 0 s2.heap) (f:∀ b ∈ fp,FpOk X pins H' b) (r:R J H'):PIE X pins σ tg R itv s2
noncomputable def PI (X:Cx) (tg iter:Expr) (wi:TI):Prop:=
 ∀ (pins:List (Addr × Obj)) (s:Shared) (σ:St) (H:Hp) (R:It->Hp->Prop),Inv X pins σ H s->wi σ H R ->
   wpAny (model X.prog X.w) X.A (eval iter X.env) (fun v s1=>wpAny (model X.prog X.w) X.A (pyIter v) (PIE X pins σ tg R) X.xe s1) X.xe s
theorem go_of {M:Model} {A:Around} {E:Value->Shared->Prop} {s:Shared} {tg:Expr} {it:Addr} {u:Value} {o:Obj} {n:String} {vs:Array Value} {Q:Unit->Shared->Prop} (ho:s.heap.get? it=some o) (hc:o.cls=.type n) (hd:o.data=.fields vs)
   (hn:["enumerate","zip","dict_itemiterator","dict_reverseitemiterator","odict_iterator","itertools.zip_longest","itertools.pairwise"].contains n=false) (hQ:Q () s):wpAny M A (letOwnedTupleGo tg (.ref it) u) Q E s:=by
 unfold letOwnedTupleGo
 cases tg <;> first
   | exact Z56 hQ
   | (cases u <;> first
       | exact Z56 hQ
       | (refine Z55 (wpAny_load ho ?_)
          rw [hc,hd]
          show wpAny M A (if (["enumerate","zip","dict_itemiterator","dict_reverseitemiterator","odict_iterator","itertools.zip_longest","itertools.pairwise"].contains n && vs[0]? == some (rawInt _))=true then _ else _) Q E s
          rw [if_neg (by intro h; rw [hn,Bool.false_and] at h; cases h)]
          exact Z56 hQ))
noncomputable def Itl (K:PySem.W.Frag) (a:Addr):It:=
 ⟨fun i H=>∃ xs x,SqL K H a xs/\xs[i]?=some x,fun i H x H'=>H'=H/\∀ xs,SqL K H a xs->xs[i]?=some x,fun i H=>∃ xs,SqL K H a xs/\xs.length<=i⟩
noncomputable def Itt (K:PySem.W.Frag) (a:Addr):It:=
 ⟨fun i H=>∃ xs x,SqT K H a xs/\xs[i]?=some x,fun i H x H'=>H'=H/\∀ xs,SqT K H a xs->xs[i]?=some x,fun i H=>∃ xs,SqT K H a xs/\xs.length<=i⟩
noncomputable def Itr (lo:Int) (n:Nat):It:=⟨fun i _=>i < n,fun i H x H'=>H'=H/\x=.int (lo+i),fun i _=>n<=i⟩
theorem turn_list {P:Program} {w:World} {K:PySem.W.Frag} {tg:Expr} (a it:Addr):Turn P w K tg (Itl K a) [it] it (fun i h=>h.IsListIter it a i) where
 mem:=by simp
 obj:=fun i h st b hb=>by
   have e:b=it:=by simpa using hb
   subst e
   obtain ⟨o,e,c,d⟩:=st
   exact ⟨o,e,fun v z=>by rw [d] at z; cases z⟩
 keep:=fun i h h' st k=>st.at fun o e=>k it (by simp) o e
 item:=by
   intro X hP hw hK hc i pins s σ H E I hf st hg
   subst hP hw hK
   obtain ⟨xs,x,hq,hx⟩:=hg
   obtain ⟨its,rv,p,hz⟩:=I.list hq
   obtain ⟨u,hu,ru⟩:=rv.get hx
   obtain ⟨f0,f1,f2,f3,f4,f5⟩:=hf it (by simp)
   refine wpAny_pyNext_list_item st p.isList (x:=u) (by simpa using hu) fun h' st' sb=>?_
   have I1:Inv X pins σ H { s with heap:=h' }:=I.turned (t':=s.toks) (fun b o hb e=>(sb.2 b hb).trans e) f0 f1 f3 f4 f5
   obtain ⟨o,e,c,d⟩:=id st'
   exact ⟨u,rfl,go_of (s:={ s with heap:=h' }) e c d (by decide) ⟨x,H,I1,ru,⟨rfl,fun ys hy=>by rw [I.list_inj hy hq]; exact hx⟩,st',fun b hb=>(hf b hb).1⟩⟩
 done:=by
   intro X hP hw hK hc i pins s σ H E I hf st hg
   subst hP hw hK
   obtain ⟨xs,hq,hx⟩:=hg
   obtain ⟨its,rv,p,hz⟩:=I.list hq
   obtain ⟨f0,f1,f2,f3,f4,f5⟩:=hf it (by simp)
   have hl:=rv.length
   exact wpAny_pyNext_list_end (I.ok.hd hc) st p.isList (by simp; omega) fun h' eb=>⟨rfl,I.turned (t':=s.toks) (fun b o hb e=>eb b o hb e) f0 f1 f3 f4 f5⟩
 self:=fun _ _ _ _ _ st h=>wpAny_pyIter_listiter st h
theorem turn_tuple {P:Program} {w:World} {K:PySem.W.Frag} {tg:Expr} (a it:Addr):Turn P w K tg (Itt K a) [it] it (fun i h=>h.IsTupleIter it a i) where
 mem:=by simp
 obj:=fun i h st b hb=>by
   have e:b=it:=by simpa using hb
   subst e
   obtain ⟨o,e,c,d⟩:=st
   exact ⟨o,e,fun v z=>by rw [d] at z; cases z⟩
 keep:=fun i h h' st k=>st.at fun o e=>k it (by simp) o e
 item:=by
   intro X hP hw hK hc i pins s σ H E I hf st hg
   subst hP hw hK
   obtain ⟨xs,x,hq,hx⟩:=hg
   obtain ⟨its,rv,p,hz⟩:=I.tuple hq
   obtain ⟨u,hu,ru⟩:=rv.get hx
   obtain ⟨f0,f1,f2,f3,f4,f5⟩:=hf it (by simp)
   refine wpAny_pyNext_tuple_item st (show s.heap.IsTuple a its.toArray from p) (x:=u) (by simpa using hu) fun h' st' sb=>?_
   have I1:Inv X pins σ H { s with heap:=h' }:=I.turned (t':=s.toks) (fun b o hb e=>(sb.2 b hb).trans e) f0 f1 f3 f4 f5
   obtain ⟨o,e,c,d⟩:=id st'
   exact ⟨u,rfl,go_of (s:={ s with heap:=h' }) e c d (by decide) ⟨x,H,I1,ru,⟨rfl,fun ys hy=>by rw [I.tuple_inj hy hq]; exact hx⟩,st',fun b hb=>(hf b hb).1⟩⟩
 done:=by
   intro X hP hw hK hc i pins s σ H E I hf st hg
   subst hP hw hK
   obtain ⟨xs,hq,hx⟩:=hg
   obtain ⟨its,rv,p,hz⟩:=I.tuple hq
   obtain ⟨f0,f1,f2,f3,f4,f5⟩:=hf it (by simp)
   have hl:=rv.length
   exact wpAny_pyNext_tuple_end (I.ok.hd hc) st (show s.heap.IsTuple a its.toArray from p) (by simp; omega) fun h' eb=>⟨rfl,I.turned (t':=s.toks) (fun b o hb e=>eb b o hb e) f0 f1 f3 f4 f5⟩
 self:=fun _ _ _ _ _ st h=>wpAny_pyIter_tupleiter st h
theorem turn_range {P:Program} {w:World} {K:PySem.W.Frag} {tg:Expr} (it:Addr) (lo:Int) (n:Nat):Turn P w K tg (Itr lo n) [it] it (fun i h=>IsRangeIter h it (lo+(i:Nat) * 1) ((n:Int) - (i:Nat)) 1) where
 mem:=by simp
 obj:=fun i h st b hb=>by
   have e:b=it:=by simpa using hb
   subst e
   exact ⟨_,st,fun v z=>by
     have z':Data.fields _=Data.cell v:=z
     cases z'⟩
 keep:=fun i h h' st k=>k it (by simp) _ st
 item:=by
   intro X hP hw hK hc i pins s σ H E I hf st hg
   subst hP hw hK
   obtain ⟨f0,f1,f2,f3,f4,f5⟩:=hf it (by simp)
   have W:=Walks.range (prog:=X.prog) (w:=X.w) (I.ok.hd hc) it lo 1 n
   refine W.item i s _ _ hg st fun v h' tk hv st' kk=>?_
   obtain ⟨t,rfl⟩:=hv
   have I1:Inv X pins σ H { s with heap:=h',toks:=tk }:=I.turned (fun b o hb e=>kk b o (by simpa using hb) e) f0 f1 f3 f4 f5
   refine ⟨_,rfl,go_of (s:={ s with heap:=h',toks:=tk }) (n:="range_iterator") st' rfl rfl (by decide) ⟨.int (lo+i),H,I1,⟨t,?_⟩,⟨rfl,rfl⟩,st',fun b hb=>(hf b hb).1⟩⟩
   rw [Int.mul_one]
 done:=by
   intro X hP hw hK hc i pins s σ H E I hf st hg
   subst hP hw hK
   obtain ⟨f0,f1,f2,f3,f4,f5⟩:=hf it (by simp)
   exact wpAny_pyNext_range_end (I.ok.hd hc) st (by have:n<=i:=hg; omega) fun h' eb=>⟨rfl,I.turned (t':=s.toks) (fun b o hb e=>eb b o hb e) f0 f1 f3 f4 f5⟩
 self:=fun _ _ _ _ _ st h=>wpAny_pyIter_rangeiter st h
section
variable {X:Cx} {tg:Expr}
theorem range_it {pins:List (Addr × Obj)} {σ:St} {H:Hp} {s:Shared} {R:It->Hp->Prop} {E:Value->Shared->Prop} {lo hi:Int} {t u v:Tok} {tk:Nat} (I:Inv X pins σ H s) (h1:-(2 ^ 62)<=lo) (h2:lo < 2 ^ 62) (h3:-(2 ^ 62)<=hi) (h4:hi < 2 ^ 62)
   (q:R (Itr lo (hi - lo).toNat) H):wpAny (model X.prog X.w) X.A (pyIter (.ref s.heap.objs.size)) (PIE X pins σ tg R) E { s with heap:=s.heap.push { cls:=.type "range",data:=.fields #[.int lo t,.int hi u,.int 1 v] },toks:=tk }:=by
 refine wpAny_pyIter_range (IsRange.new ..) (small_one h1 h2 h3 h4) ?_
 have I1:Inv X pins σ H { s with heap:=s.heap.push { cls:=.type "range",data:=.fields #[.int lo t,.int hi u,.int 1 v] },toks:=tk }:=I.kept fun b o e=>Z7 _ e
 refine ⟨(s.heap.push { cls:=.type "range",data:=.fields #[.int lo t,.int hi u,.int 1 v] }).objs.size,[(s.heap.push { cls:=.type "range",data:=.fields #[.int lo t,.int hi u,.int 1 v] }).objs.size],_,_,H,rfl,
   I1.kept (t':=tk) fun b o e=>Z7 _ e,turn_range _ lo (hi - lo).toNat,?_,fun b hb=>?_,q⟩
 · have e1:lo+((0:Nat):Int) * 1=lo:=by simp
   have e2:(((hi - lo).toNat:Nat):Int) - ((0:Nat):Int)=Builtin.Range.rangeSize lo hi 1:=by rw [rangeSize_one]; split <;> omega
   show IsRangeIter _ _ (lo+((0:Nat):Int) * 1) ((((hi - lo).toNat:Nat):Int) - ((0:Nat):Int)) 1
   rw [e1,e2]
   exact Z20 _ rfl
 · have e:b=(s.heap.push { cls:=.type "range",data:=.fields #[.int lo t,.int hi u,.int 1 v] }).objs.size:=by simpa using hb
   subst e
   exact I1.fpOk (Z10 _) (I1.hok.fresh (Z10 _))
noncomputable def iRng1 (ta:TA):TI:=fun σ H R=>ta σ H fun vs H1=>∃ j:Int,vs=[.int j]/\-(2 ^ 62)<=j/\j < 2 ^ 62/\R (Itr 0 j.toNat) H1
noncomputable def iRng2 (ta:TA):TI:=fun σ H R=>ta σ H fun vs H1=>∃ i j:Int,vs=[.int i,.int j]/\(-(2 ^ 62)<=i/\i < 2 ^ 62/\-(2 ^ 62)<=j/\j < 2 ^ 62)/\R (Itr i (j - i).toNat) H1
theorem pi_range1 {a:Expr} {ta:TA} {p pos:Pos} (hg:Gl X "range") (hm:X.mg "range"=none) (ha:PA X [a] ta) (hs:starEach [a] X.env=[(false,eval a X.env)]:=by rfl):PI X tg (.Call (.Name "range" p) [a] [] pos) (iRng1 ta):=by
 intro pins s σ H R I h
 refine Call_ (ld_blt I hg hm boot_range (PyProof.Rows.callWith_type1 (thn (ha pos pins s σ H _ I h) fun us s1 ⟨vs,H1,I1,r1,q1⟩=>?_) hs rfl))
 obtain ⟨j,e,q1,q2,q⟩:=q1
 subst e
 cases r1 with
 | cons r rr=>
   cases rr
   obtain ⟨t,rfl⟩:=r
   exact call_range_1 (range_it I1 (by omega) (by omega) q1 q2 (by simpa using q))
theorem pi_range2 {a b:Expr} {ta:TA} {p pos:Pos} (hg:Gl X "range") (hm:X.mg "range"=none) (ha:PA X [a,b] ta) (hs:starEach [a,b] X.env=[(false,eval a X.env),(false,eval b X.env)]:=by rfl) (hs2:starEach [b] X.env=[(false,eval b X.env)]:=by rfl) :
   PI X tg (.Call (.Name "range" p) [a,b] [] pos) (iRng2 ta):=by
 intro pins s σ H R I h
 refine Call_ (ld_blt I hg hm boot_range (PyProof.Rows.callWith_type1 (thn (ha pos pins s σ H _ I h) fun us s1 ⟨vs,H1,I1,r1,q1⟩=>?_) (by rw [hs,hs2]) (by rw [hs2]; rfl)))
 obtain ⟨i,j,e,⟨q1,q2,q3,q4⟩,q⟩:=q1
 subst e
 cases r1 with
 | cons r rr=>
   cases rr with
   | cons r' rr=>
     cases rr
     obtain ⟨t,rfl⟩:=r
     obtain ⟨t',rfl⟩:=r'
     exact call_range_2 (range_it I1 q1 q2 q3 q4 q)
noncomputable def tFor (wi:TI) (g:TG) (tb:TS):TS:=fun D σ H=>wi σ H fun J H1=>∃ W:Nat->Nat->St->Hp->Prop,(∃ m,W 0 m σ H1)/\∀ i m σ H,W i m σ H ->
 (J.stop i H/\D.nx σ H)∨(J.go i H/\∃ N:St->Hp->Prop,(∀ σ' H',N σ' H'->∃ m',m' < m/\W (i+1) m' σ' H')/\∀ x H',J.yld i H x H'->g x σ H' fun σ2 H2=>tb { D with nx:=N,ct:=N,bk:=D.nx } σ2 H2)
noncomputable def pinsAt (fp:List Addr) (h:Heap):List (Addr × Obj):=fp.filterMap fun b=>(h.get? b).map fun o=>(b,o)
theorem mem_pinsAt {fp:List Addr} {h:Heap} {b:Addr} {o:Obj} (hb:b ∈ fp) (e:h.get? b=some o):(b,o) ∈ pinsAt fp h:=List.mem_filterMap.mpr ⟨b,hb,by rw [e]; rfl⟩
theorem of_pinsAt {fp:List Addr} {h:Heap} {p:Addr × Obj} (hp:p ∈ pinsAt fp h):p.1 ∈ fp/\h.get? p.1=some p.2:=by
 obtain ⟨b,hb,e⟩:=List.mem_filterMap.mp hp
 cases q:h.get? b with
 | none=>rw [q] at e; cases e
 | some o=>
   rw [q] at e
   have e':(b,o)=p:=Z27 e
   subst e'
   exact ⟨hb,q⟩
theorem Inv.pinned {pins:List (Addr × Obj)} {σ:St} {H:Hp} {s:Shared} {fp:List Addr} (I:Inv X pins σ H s) (hf:∀ b ∈ fp,FpOk X pins H b) (ho:∀ b ∈ fp,∃ o,s.heap.get? b=some o/\∀ v,o.data ≠ .cell v):Inv X (pins++pinsAt fp s.heap) σ H s:=
 I.pins_of fun p hp=>(Z11.mp hp).elim (fun z=>I.pin p (Z36 _ z)) fun z=>by
   obtain ⟨hb,e⟩:=of_pinsAt z
   obtain ⟨f0,f1,f2,_⟩:=hf p.1 hb
   obtain ⟨o,e',d⟩:=ho p.1 hb
   rw [e] at e'; cases e'
   exact ⟨e,f0,f1,f2,d⟩
theorem Inv.unpinned {pins pl:List (Addr × Obj)} {σ:St} {H:Hp} {s:Shared} (I:Inv X (pins++pl) σ H s):Inv X pins σ H s:=I.pins_of fun p hp=>I.pin p (Z36 _ (Z37 _ hp))
theorem ps_for {iter:Expr} {body:List Stmt} {wi:TI} {g:TG} {tb:TS} {pos:Pos} (hp:PassesOwn (model X.prog X.w) X.A X.env X.xe) (hc:X.calm=true) (hi:PI X tg iter wi) (hg:PG X tg g) (hb:PSs X body tb)
   (hs:∀ x,foldedSetIterable iter X.env x=pure x:=by intro _; rfl):PS X (.For tg iter body [] pos) (tFor wi g tb):=by
 intro pins s σ H D I h
 refine wpAny_For (thn (hi pins s σ H _ I h) fun v s1 h1=>thn h1 fun itv s2 h2=>?_) hs
 obtain ⟨it,fp,tn,J,H2,e,I2,T,st2,f2,W,⟨m0,w0⟩,turn⟩:=h2
 subst e
 have stat:∀ {H':Hp},(∀ b ∈ fp,H' b=none)->∀ b ∈ fp,FpOk X pins H' b:=fun hn b hb=>⟨hn b hb,(f2 b hb).2⟩
 refine codeAny_forLoop_any (fun n s'=>FrI X pins fp tn W n s') ?_ m0 ⟨0,σ,H2,I2,st2,fun b hb=>(f2 b hb).1,w0⟩
 rintro n s3 ⟨i,σ3,H3,I3,st3,fr3,w3⟩
 rcases turn i n σ3 H3 w3 with ⟨stop,qn⟩ | ⟨go,N,hN,step⟩
 · refine wpAny_passesOwn hp (thn (T.done X rfl rfl rfl hc i pins s3 σ3 H3 X.xe I3 (stat fr3) st3 stop) fun r s4 ⟨hr,I4⟩=>?_)
   subst hr
   exact wpAny_execs_nil ⟨σ3,H3,I4,qn⟩
 · refine wpAny_passesOwn hp (thn (T.item X rfl rfl rfl hc i pins s3 σ3 H3 X.xe I3 (stat fr3) st3 go) fun r s4 ⟨u,hr,h4⟩=>?_)
   subst hr
   refine wpAny_passesOwn hp (thn h4 fun _ s5 ⟨x,H5,I5,r5,y5,st5,fr5⟩=>?_)
   have I5':=I5.pinned (stat fr5) (T.obj _ _ st5)
   refine wpAny_passesOwn hp (thn (hg _ s5 σ3 H5 x u _ I5' r5 (step x H5 y5)) fun _ s6 ⟨σ6,H6,I6,q6⟩=>?_)
   refine wpAny_passesOwn hp (thn (hb _ s6 σ6 H6 _ I6 q6) fun f s7 q7=>?_)
   have again:∀ {σ7:St} {H7:Hp},Inv X (pins++pinsAt fp s5.heap) σ7 H7 s7->N σ7 H7->∃ m,m < n/\FrI X pins fp tn W m s7:=fun {σ7 H7} I7 n7=>by
     obtain ⟨m',hm,w7⟩:=hN σ7 H7 n7
     refine ⟨m',hm,i+1,σ7,H7,I7.unpinned,T.keep _ _ _ st5 fun b hb o e=>(I7.pin (b,o) (Z36 _ (Z36 _ (mem_pinsAt hb e)))).1,fun b hb=>?_,w7⟩
     obtain ⟨o,e,d⟩:=T.obj _ _ st5 b hb
     exact (I7.pin (b,o) (Z36 _ (Z36 _ (mem_pinsAt hb e)))).2.1
   cases f with
   | next=>obtain ⟨σ7,H7,I7,n7⟩:=q7; exact again I7 n7
   | cont=>obtain ⟨σ7,H7,I7,n7⟩:=q7; exact again I7 n7
   | brk=>obtain ⟨σ7,H7,I7,q7⟩:=q7; exact ⟨σ7,H7,I7.unpinned,q7⟩
   | ret v=>obtain ⟨x7,σ7,H7,I7,r7,q7⟩:=q7; exact ⟨x7,σ7,H7,I7.unpinned,r7,q7⟩
end
noncomputable abbrev R2:=V->V->Hp->VK->Prop
noncomputable def OpR (X:Cx) (f:Value->Value->Sem Value) (r:R2):Prop:=
 ∀ (pins:List (Addr × Obj)) (s:Shared) (σ:St) (H:Hp) (x y:V) (v u:Value) (Q:VK),Inv X pins σ H s->RelV x v->RelV y u->r x y H Q ->
   wpAny (model X.prog X.w) X.A (f v u) (EP X pins σ Q) X.xe s
noncomputable def UnR (X:Cx) (f:Value->Sem Value) (r:V->Hp->VK->Prop):Prop:=
 ∀ (pins:List (Addr × Obj)) (s:Shared) (σ:St) (H:Hp) (x:V) (v:Value) (Q:VK),Inv X pins σ H s->RelV x v->r x H Q ->
   wpAny (model X.prog X.w) X.A (f v) (EP X pins σ Q) X.xe s
noncomputable def CallR (X:Cx) (f:Value) (r:List V->Hp->VK->Prop):Prop:=
 ∀ (pins:List (Addr × Obj)) (s:Shared) (σ:St) (H:Hp) (xs:List V) (us:List Value) (Q:VK),Inv X pins σ H s->Vals xs us->r xs H Q ->
   wpAny (model X.prog X.w) X.A (call f us) (EP X pins σ Q) X.xe s
noncomputable def TruR (X:Cx) (r:V->Hp->(Bool->Hp->Prop)->Prop):Prop:=
 ∀ (pins:List (Addr × Obj)) (s:Shared) (σ:St) (H:Hp) (x:V) (v:Value) (Q:Bool->Hp->Prop),Inv X pins σ H s->RelV x v->r x H Q ->
   wpAny (model X.prog X.w) X.A (truthy v) (TP X pins σ Q) X.xe s
noncomputable def tOp (r:R2) (ta tb:TE):TE:=fun σ H Q=>ta σ H fun x H1=>tb σ H1 fun y H2=>r x y H2 Q
noncomputable def tUn (r:V->Hp->VK->Prop) (ta:TE):TE:=fun σ H Q=>ta σ H fun x H1=>r x H1 Q
noncomputable def rI (C:Int->Int->Prop) (g:Int->Int->V):R2:=fun x y H Q=>∃ i j,x=.int i/\y=.int j/\C i j/\Q (g i j) H
noncomputable def rI0 (g:Int->Int->V):R2:=fun x y H Q=>∃ i j,x=.int i/\y=.int j/\Q (g i j) H
noncomputable def rU (g:Int->V):V->Hp->VK->Prop:=fun x H Q=>∃ i,x=.int i/\Q (g i) H
section
variable {X:Cx} {a b c:Expr} {ta tb tc:TE} {pos:Pos}
theorem binT (ha:PE X a ta) (hb:PE X b tb) {pins:List (Addr × Obj)} {s:Shared} {σ:St} {H:Hp} {R:V->V->Hp->Prop} (I:Inv X pins σ H s)
   (h:ta σ H fun x H1=>tb σ H1 fun y H2=>R x y H2) {Q:Value->Shared->Prop} {f:Value->Value->Sem Value}
   (hf:∀ v u s2 x y H2,Inv X pins σ H2 s2->RelV x v->RelV y u->R x y H2->wpAny (model X.prog X.w) X.A (f v u) Q X.xe s2) :
   wpAny (model X.prog X.w) X.A (eval a X.env) (fun v s₁=>wpAny (model X.prog X.w) X.A (eval b X.env) (fun u s₂=>wpAny (model X.prog X.w) X.A (f v u) Q X.xe s₂) X.xe s₁) X.xe s:=by
 refine thn (ha pins s σ H _ I h) fun v s1 ⟨x,H1,I1,r1,q1⟩=>?_
 refine thn (hb pins s1 σ H1 _ I1 q1) fun u s2 ⟨y,H2,I2,r2,q2⟩=>?_
 exact hf v u s2 x y H2 I2 r1 r2 q2
theorem pe_op {op:Operator} {r:R2} (ho:OpR X (binaryOp op) r) (ha:PE X a ta) (hb:PE X b tb):PE X (.BinOp a op b pos) (tOp r ta tb):=by
 intro pins s σ H Q I h
 exact wpAny_BinOp (binT ha hb I h fun v u s2 x y H2 I2 rx ry q=>ho pins s2 σ H2 x y v u Q I2 rx ry q)
theorem pe_un {op:UnaryOp} {r:V->Hp->VK->Prop} (ho:UnR X (unaryOp op) r) (ha:PE X a ta):PE X (.UnaryOp op a pos) (tUn r ta):=by
 intro pins s σ H Q I h
 exact UnaryOp_ (thn (ha pins s σ H _ I h) fun v s1 ⟨x,H1,I1,r1,q1⟩=>ho pins s1 σ H1 x v Q I1 r1 q1)
theorem opI {f:Value->Value->Sem Value} {C:Int->Int->Prop} {g:Int->Int->Int}
   (rule:∀ (i j:Int) (t u:Tok) (s:Shared) (Q:Value->Shared->Prop) (E:Value->Shared->Prop),C i j->Q (.int (g i j) s.toks) { s with toks:=s.toks+1 }->wpAny (model X.prog X.w) X.A (f (.int i t) (.int j u)) Q E s) :
   OpR X f (rI C fun i j=>.int (g i j)):=by
 intro pins s σ H x y v u Q I rx ry h
 obtain ⟨i,j,rfl,rfl,hc,q⟩:=h
 obtain ⟨t,rfl⟩:=rx
 obtain ⟨t',rfl⟩:=ry
 exact rule i j t t' s _ _ hc ⟨.int (g i j),H,I.tok _,⟨_,rfl⟩,q⟩
theorem opI0 {f:Value->Value->Sem Value} {g:Int->Int->Int}
   (rule:∀ (i j:Int) (t u:Tok) (s:Shared) (Q:Value->Shared->Prop) (E:Value->Shared->Prop),Q (.int (g i j) s.toks) { s with toks:=s.toks+1 }->wpAny (model X.prog X.w) X.A (f (.int i t) (.int j u)) Q E s) :
   OpR X f (rI0 fun i j=>.int (g i j)):=by
 intro pins s σ H x y v u Q I rx ry h
 obtain ⟨i,j,rfl,rfl,q⟩:=h
 obtain ⟨t,rfl⟩:=rx
 obtain ⟨t',rfl⟩:=ry
 exact rule i j t t' s _ _ ⟨.int (g i j),H,I.tok _,⟨_,rfl⟩,q⟩
theorem opB0 {f:Value->Value->Sem Value} {g:Int->Int->Bool}
   (rule:∀ (i j:Int) (t u:Tok) (s:Shared) (Q:Value->Shared->Prop) (E:Value->Shared->Prop),Q (.bool (g i j)) s->wpAny (model X.prog X.w) X.A (f (.int i t) (.int j u)) Q E s) :
   OpR X f (rI0 fun i j=>.bl (g i j)):=by
 intro pins s σ H x y v u Q I rx ry h
 obtain ⟨i,j,rfl,rfl,q⟩:=h
 obtain ⟨t,rfl⟩:=rx
 obtain ⟨t',rfl⟩:=ry
 exact rule i j t t' s _ _ ⟨.bl (g i j),H,I,rfl,q⟩
noncomputable def CPow (i j:Int):Prop:=0<=j/\j<=1000000/\i.natAbs < 2 ^ 64
noncomputable def CMul (i j:Int):Prop:=(-(2 ^ 64) < i/\i < 2 ^ 64)∨(-(2 ^ 64) < j/\j < 2 ^ 64)
theorem CMul.ok {i j:Int} (h:CMul i j):IntMulOk i j:=by
 rcases h with ⟨h1,h2⟩ | ⟨h1,h2⟩
 · exact .of_left (intBits_le_64 h1 h2)
 · exact .of_right (intBits_le_64 h1 h2)
theorem op_add:OpR X (binaryOp .Add) (rI0 fun i j=>.int (i+j)):=opI0 fun _ _ _ _ _ _ _ q=>add_int q
theorem op_sub:OpR X (binaryOp .Sub) (rI0 fun i j=>.int (i - j)):=opI0 fun _ _ _ _ _ _ _ q=>sub_int q
theorem op_mul:OpR X (binaryOp .Mult) (rI CMul fun i j=>.int (i * j)):=opI fun _ _ _ _ _ _ _ hc q=>mul_int q hc.ok
theorem op_mod:OpR X (binaryOp .Mod) (rI (fun _ j=>0 < j) fun i j=>.int (i % j)):=opI fun i j _ _ _ _ _ hc q=>by
 have h1:(0:Int) < j:=hc
 exact mod_int' (by omega) (by rw [Int.fmod_eq_emod_of_nonneg i (by omega)]; exact q)
theorem op_pow:OpR X (binaryOp .Pow) (rI CPow fun i j=>.int (i ^ j.toNat)):=opI fun _ _ _ _ _ _ _ hc q=>pow_int_small hc.1 hc.2.1 hc.2.2 q
theorem unI {f:Value->Sem Value} {g:Int->Int}
   (rule:∀ (i:Int) (t:Tok) (s:Shared) (Q:Value->Shared->Prop) (E:Value->Shared->Prop),Q (.int (g i) s.toks) { s with toks:=s.toks+1 }->wpAny (model X.prog X.w) X.A (f (.int i t)) Q E s) :
   UnR X f (rU fun i=>.int (g i)):=by
 intro pins s σ H x v Q I rx h
 obtain ⟨i,rfl,q⟩:=h
 obtain ⟨t,rfl⟩:=rx
 exact rule i t s _ _ ⟨.int (g i),H,I.tok _,⟨_,rfl⟩,q⟩
theorem un_neg:UnR X (unaryOp .USub) (rU fun i=>.int (-i)):=unI fun _ _ _ _ _ q=>neg_int q
theorem op_add_ib:OpR X (binaryOp .Add) (fun x y H Q=>∃ i k,x=.int i/\y=.bl k/\Q (.int (i+b2i k)) H):=by
 intro pins s σ H x y v u Q I rx ry h
 obtain ⟨i,k,rfl,rfl,q⟩:=h
 obtain ⟨t,rfl⟩:=rx
 cases ry
 exact add_int_bool ⟨.int (i+b2i k),H,I.tok _,⟨_,rfl⟩,q⟩
end
section
variable {X:Cx} {a b c:Expr} {ta tb tc:TE} {pos:Pos}
theorem op_lt:OpR X (compareOp .Lt) (rI0 fun i j=>.bl (decide (i < j))):=opB0 fun _ _ _ _ _ _ _ q=>lt_int q
theorem op_le:OpR X (compareOp .LtE) (rI0 fun i j=>.bl (decide (i<=j))):=opB0 fun _ _ _ _ _ _ _ q=>le_int q
theorem op_gt:OpR X (compareOp .Gt) (rI0 fun i j=>.bl (decide (j < i))):=opB0 fun _ _ _ _ _ _ _ q=>gt_int q
theorem op_ge:OpR X (compareOp .GtE) (rI0 fun i j=>.bl (decide (j<=i))):=opB0 fun _ _ _ _ _ _ _ q=>ge_int q
theorem nomark (b:Expr) {op:CmpOp} (h:op ≠ .In:=by decide) (h2:op ≠ .NotIn:=by decide):behindInMarks op b=false:=by
 have e1:(op == CmpOp.In)=false:=by cases op <;> first | rfl | exact absurd rfl h
 have e2:(op == CmpOp.NotIn)=false:=by cases op <;> first | rfl | exact absurd rfl h2
 cases b <;> simp [behindInMarks,e1,e2]
theorem pe_cmpR {op:CmpOp} {r:R2} (ho:OpR X (compareOp op) r) (ha:PE X a ta) (hb:PE X b tb) (hm:behindInMarks op b=false):PE X (.Compare a [op] [b] pos) (tOp r ta tb):=by
 intro pins s σ H Q I h
 exact wpAny_Compare1 (binT ha hb I h fun v u s2 x y H2 I2 rx ry q=>ho pins s2 σ H2 x y v u Q I2 rx ry q) hm
noncomputable def tTest (t:TE):TT:=fun σ H Q=>t σ H fun x H'=>∃ k,x=.bl k/\Q k H'
theorem pt_cmpR {op:CmpOp} {r:R2} (ho:OpR X (compareOp op) r) (ha:PE X a ta) (hb:PE X b tb) (hm:behindInMarks op b=false):PT X (.Compare a [op] [b] pos) (tTest (tOp r ta tb)):=by
 intro pins s σ H Q I h
 refine wpAny_isTrue_Compare1 (thn (ha pins s σ H _ I h) fun v s1 ⟨x,H1,I1,r1,q1⟩=>thn (hb pins s1 σ H1 _ I1 q1) fun u s2 ⟨y,H2,I2,r2,q2⟩=>
   thn (ho pins s2 σ H2 x y v u _ I2 r1 r2 q2) fun c s3 ⟨z,H3,I3,r3,k,e,q3⟩=>?_) hm
 subst e
 cases r3
 exact wpAny_truthy_bool ⟨H3,I3,q3⟩
noncomputable def tChain (r r':R2) (ta tb tc:TE):TE:=fun σ H Q=>ta σ H fun x H1=>tb σ H1 fun y H2=>r x y H2 fun z H3=>∃ k,z=.bl k /\
 (if k=true then tc σ H3 fun w' H4=>r' y w' H4 Q else Q (.bl false) H3)
theorem pt_chain {op op':CmpOp} {r r':R2} (ho:OpR X (compareOp op) r) (ho':OpR X (compareOp op') r') (ha:PE X a ta) (hb:PE X b tb) (hc:PE X c tc)
   (hm:lastMarks [op,op'] [b,c]=false:=by with_unfolding_all rfl):PT X (.Compare a [op,op'] [b,c] pos) (tTest (tChain r r' ta tb tc)):=by
 intro pins s σ H Q I h
 refine isTrue_chain (thn (ha pins s σ H _ I h) fun v s1 ⟨x,H1,I1,r1,q1⟩=>test_link (thn (hb pins s1 σ H1 _ I1 q1) fun u s2 ⟨y,H2,I2,r2,q2⟩=>
   thn (ho pins s2 σ H2 x y v u _ I2 r1 r2 q2) fun d s3 ⟨z,H3,I3,r3,k,e,q3⟩=>?_)) hm
 subst e
 cases r3
 refine wpAny_truthy_bool ?_
 cases k with
 | false=>
   obtain ⟨k',e',q'⟩:=q3
   cases e'
   exact ite_ff ⟨H3,I3,q'⟩
 | true=>
   refine ite_tt (test_last (thn (hc pins s3 σ H3 _ I3 q3) fun w' s4 ⟨z',H4,I4,r4,q4⟩=>thn (ho' pins s4 σ H4 y z' u w' _ I4 r2 r4 q4) fun d' s5 ⟨z2,H5,I5,r5,k2,e2,q5⟩=>?_))
   subst e2
   cases r5
   exact wpAny_truthy_bool ⟨H5,I5,q5⟩
noncomputable def TruV (K:PySem.W.Frag) (x:V) (H:Hp) (k:Bool):Prop:=
 match x with
 | .non=>k=false
 | .bl b=>k=b
 | .int i=>k=(i != 0)
 | .str y=>y.length<=sizeLine/\k=((y.length:Int) != 0)
 | .byt y=>y.size<=sizeLine/\k=((y.size:Int) != 0)
 | .ref p=>(∃ xs,SqL K H p xs/\k=!xs.isEmpty)∨(∃ xs,SqT K H p xs/\k=!xs.isEmpty)∨∃ kvs,H p=some (.dK kvs)/\k=!kvs.isEmpty
 | _=>False
theorem isEmpty_kv {κ:Type} {kvs:List (κ × V)} {vs:List (κ × Value)} (r:KV kvs vs):(!vs.isEmpty)=!kvs.isEmpty:=by
 cases r <;> rfl
theorem isEmpty_of {xs:List V} {its:List Value} (r:Vals xs its):(!its.toArray.isEmpty)=!xs.isEmpty:=by
 cases r <;> simp
theorem line63:(sizeLine:Nat) < 2 ^ 63:=by rw [sizeLine_eq]; decide
theorem tru_ok:TruR X (fun x H Q=>∃ k,TruV X.K x H k/\Q k H):=by
 intro pins s σ H x v Q I rx h
 obtain ⟨k,e,q⟩:=h
 have hl:=line63
 have hs:sizeLine=16777216:=sizeLine_eq
 cases x with
 | non=>
   cases rx
   have e':k=false:=e
   subst e'
   exact truthy_none ⟨H,I,q⟩
 | bl b=>
   cases rx
   have e':k=b:=e
   subst e'
   exact wpAny_truthy_bool ⟨H,I,q⟩
 | int i=>
   obtain ⟨t,rfl⟩:=rx
   have e':k=(i != 0):=e
   subst e'
   exact PySem.P.truthy_int ⟨H,I,q⟩
 | str y=>
   obtain ⟨t,rfl⟩:=rx
   obtain ⟨hy,e'⟩:y.length<=sizeLine/\k=((y.length:Int) != 0):=e
   subst e'
   exact PySem.P.truthy_str (by omega) ⟨H,I.tok _,q⟩
 | byt y=>
   obtain ⟨t,rfl⟩:=rx
   obtain ⟨hy,e'⟩:y.size<=sizeLine/\k=((y.size:Int) != 0):=e
   subst e'
   exact PySem.W.truthy_bytes (by omega) ⟨H,I.tok _,q⟩
 | ref p=>
   cases rx
   have e':(∃ xs,SqL X.K H p xs/\k=!xs.isEmpty)∨(∃ xs,SqT X.K H p xs/\k=!xs.isEmpty)∨∃ kvs,H p=some (.dK kvs)/\k=!kvs.isEmpty:=e
   rcases e' with ⟨xs,hx,e'⟩ | ⟨xs,hx,e'⟩ | ⟨kvs,hx,e'⟩
   · subst e'
     obtain ⟨its,r,pl,hz⟩:=I.list hx
     have hlen:=r.length
     exact wpAny_truthy_list pl.isList (by simp only [Z4]; omega) ⟨H,I.tok _,by rw [isEmpty_of r]; exact q⟩
   · subst e'
     obtain ⟨its,r,pl,hz⟩:=I.tuple hx
     have hlen:=r.length
     exact truthy_tuple pl (by simp only [Z4]; omega) ⟨H,I.tok _,by rw [isEmpty_of r]; exact q⟩
   · subst e'
     obtain ⟨hz,hS,vs,r,m⟩:kvs.length<=sizeLine/\(p == sysModules)=false/\∃ vs,KV kvs vs/\s.heap.DictOf (mixKind X.prog X.w) p vs:=I.hok p _ hx
     have hlen:kvs.length=vs.length:=Paired.length r
     exact wpAny_truthy_dict hS m (by omega) ⟨H,I.tok _,by rw [isEmpty_kv r]; exact q⟩
 | _=>exact (show False from e).elim
theorem pt_truth (ha:PE X a ta) (he:∀ whole,isTrue a X.env whole=(do let v <- whole; standAt a.pos; holding [v] (truthy v))) :
   PT X a (fun σ H Q=>ta σ H fun x H'=>∃ k,TruV X.K x H' k/\Q k H'):=by
 intro pins s σ H Q I h
 exact isTrue_plain (thn (ha pins s σ H _ I h) fun v s1 ⟨x,H1,I1,r1,q1⟩=>tru_ok pins s1 σ H1 x v Q I1 r1 q1) (he _)
theorem op_add_str:OpR X (binaryOp .Add) (fun x y H Q=>∃ i j,x=.str i/\y=.str j/\i.length+j.length<=sizeLine/\Q (.str (i++j)) H):=by
 intro pins s σ H x y v u Q I rx ry h
 obtain ⟨i,j,rfl,rfl,hz,q⟩:=h
 obtain ⟨t,rfl⟩:=rx
 obtain ⟨t',rfl⟩:=ry
 exact add_str (fun t' tk=>⟨.str (i++j),H,I.tok _,⟨_,rfl⟩,q⟩) hz
theorem vals1 {x:V} {us:List Value} (r:Vals [x] us):∃ u,us=[u]/\RelV x u:=by
 cases r with
 | cons r1 r2=>cases r2; exact ⟨_,rfl,r1⟩
theorem vals2 {x y:V} {us:List Value} (r:Vals [x,y] us):∃ u w',us=[u,w']/\RelV x u/\RelV y w':=by
 cases r with
 | cons r1 r2=>
   cases r2 with
   | cons r3 r4=>cases r4; exact ⟨_,_,rfl,r1,r3⟩
theorem call_int1:CallR X (.type "int") (fun xs H Q=>(∃ i,xs=[.int i]/\Q (.int i) H)∨∃ k,xs=[.bl k]/\Q (.int (if k then 1 else 0)) H):=by
 intro pins s σ H xs us Q I r h
 rcases h with ⟨i,rfl,q⟩ | ⟨k,rfl,q⟩
 · obtain ⟨u,rfl,t,rfl⟩:=vals1 r
   exact call_int_int ⟨.int i,H,I,⟨_,rfl⟩,q⟩
 · obtain ⟨u,rfl,r1⟩:=vals1 r
   cases r1
   exact call_int_bool ⟨.int (if k then 1 else 0),H,I.tok _,⟨_,rfl⟩,q⟩
noncomputable def LenV (K:PySem.W.Frag) (x:V) (H:Hp) (n:Nat):Prop:=
 match x with
 | .str y=>y.length<=sizeLine/\n=y.length
 | .byt y=>y.size<=sizeLine/\n=y.size
 | .ref p=>(∃ xs,SqL K H p xs/\n=xs.length)∨∃ xs,SqT K H p xs/\n=xs.length
 | _=>False
theorem call_len:CallR X (.builtin "len") (fun xs H Q=>∃ x n,xs=[x]/\LenV X.K x H n/\Q (.int n) H):=by
 intro pins s σ H xs us Q I r h
 obtain ⟨x,n,rfl,e,q⟩:=h
 obtain ⟨u,rfl,rx⟩:=vals1 r
 have hl:=line63
 have hs:sizeLine=16777216:=sizeLine_eq
 cases x with
 | str y=>
   obtain ⟨t,rfl⟩:=rx
   obtain ⟨hy,e'⟩:y.length<=sizeLine/\n=y.length:=e
   subst e'
   exact len_str (by omega) ⟨.int _,H,I.tok _,⟨_,rfl⟩,q⟩
 | byt y=>
   obtain ⟨t,rfl⟩:=rx
   obtain ⟨hy,e'⟩:y.size<=sizeLine/\n=y.size:=e
   subst e'
   exact PySem.W.len_bytes (by omega) ⟨.int _,H,I.tok _,⟨_,rfl⟩,q⟩
 | ref p=>
   cases rx
   have e':(∃ xs,SqL X.K H p xs/\n=xs.length)∨∃ xs,SqT X.K H p xs/\n=xs.length:=e
   rcases e' with ⟨xs,hx,e'⟩ | ⟨xs,hx,e'⟩
   · subst e'
     obtain ⟨its,r',pl,hz⟩:=I.list hx
     have hlen:=r'.length
     exact Calls.call_len_list pl.isList (by simp only [Z4]; omega) ⟨.int xs.length,H,I.tok _,⟨_,by simp only [Z4]; rw [hlen]⟩,q⟩
   · subst e'
     obtain ⟨its,r',pl,hz⟩:=I.tuple hx
     have hlen:=r'.length
     exact len_tuple pl (by simp only [Z4]; omega) ⟨.int xs.length,H,I.tok _,⟨_,by simp only [Z4]; rw [hlen]⟩,q⟩
 | _=>exact (show False from e).elim
end
structure ObjM (h:Heap) (x dx C:Addr) (mA:Str->Option Value):Prop where
 obj:h.get? x=some (PySem.W.instObj C dx)
 ns:h.Ns1 dx mA
 ne:dx ≠ x
theorem lookIn_ns {h:Heap} {dx:Addr} {mA:Str->Option Value} (n:h.Ns1 dx mA):∃ od,h.get? dx=some od/\∀ name,PySem.W.lookIn name od=some (mA name):=by
 obtain ⟨o,es,ep,ho,hd,hk,_,hm⟩:=n
 refine ⟨o,ho,fun name=>?_⟩
 have e:=hm name
 unfold nsFind findBy at e
 rw [<- Array.find?_toList] at e
 unfold PySem.W.lookIn
 rw [hd]
 dsimp only
 split
 · rename_i y q
   rw [q] at e
   exact congrArg some e
 · rename_i q
   rw [q] at e
   have a:es.toList.any (·.refKey)=false:=by
     rw [List.any_eq_false]
     intro y hy
     obtain ⟨z,t,hkey⟩:=hk y (Array.mem_toList_iff.mp hy)
     simp [DictEntry.refKey,hkey]
   have a':¬ es.toList.any (·.refKey)=true:=by rw [a]; exact Z28
   rw [if_neg a']
   exact congrArg some e
theorem ObjM.look {h:Heap} {x dx C:Addr} {mA:Str->Option Value} (I:ObjM h x dx C mA):∃ od,PySem.W.InstAt h x (PySem.W.instObj C dx) C (some od)/\∀ name,PySem.W.lookIn name od=some (mA name):=
 let ⟨od,ho,hl⟩:=lookIn_ns I.ns
 ⟨od,⟨I.obj,rfl,rfl,ho⟩,hl⟩
theorem RelO.some_of {v:V} {o:Option Value} (r:RelO (some v) o):∃ u,o=some u/\RelV v u:=by
 cases o with
 | none=>exact (show False from r).elim
 | some u=>exact ⟨u,rfl,r⟩
section
variable {P:Program} {w:World} {H H':Hp} {h h':Heap} {a C dx:Addr} {fs fs':List (Str × V)}
theorem ins_get (hok:HOk P w H h) (e:H a=some (.ins C dx fs)):∃ mA,ObjM h a dx C mA/\(∀ f,RelO (fs.lookup f) (mA f))/\PySem.Within mA (fs.map (·.1))/\fs.length<=1000/\H dx=some (.own a):=by
 obtain ⟨d,z,ne,ob,mA,n,r,q⟩:=(show ObjOk P w H h a (.ins C dx fs) from hok a _ e)
 exact ⟨mA,⟨ob,n,ne⟩,r,q,z,d⟩
end
structure Cls (K:PySem.W.Frag) (C:Addr):Prop where
 pg:PySem.W.plainGet K C Str.empty=true
 hd:PySem.W.hasDictIn K C=true
 po:PySem.W.plainOver K C=true
 sa:PySem.W.findIn K (.ref C) "__setattr__"=some (some (.builtin "object.__setattr__"))
theorem Cls.get {K:PySem.W.Frag} {C:Addr} (c:Cls K C) (f:Str):PySem.W.plainGet K C f=true:=c.pg
section
variable {X:Cx} {pins:List (Addr × Obj)} {σ:St} {H:Hp} {s:Shared} {A:Around} {E:Value->Shared->Prop} {Q:Value->Shared->Prop} {c:Value} {b:Bool}
set_option genInjectivity true in
inductive TyOf (K:PySem.W.Frag) (H:Hp):V->Value->Prop where
 | non:TyOf K H .non (.type "NoneType")
 | bl (x:Bool):TyOf K H (.bl x) (.type "bool")
 | int (i:Int):TyOf K H (.int i) (.type "int")
 | str (x:Str):TyOf K H (.str x) (.type "str")
 | flt (x:UInt64):TyOf K H (.flt x) (.type "float")
 | lst {a:Addr} {xs:List V} (e:H a=some (.lst xs)):TyOf K H (.ref a) (.type "list")
 | frz {a:Addr} {o:Obj} {xs:List V} (e:H a=some (.frz o (.lst xs))):TyOf K H (.ref a) (.type "list")
 | tup {a:Addr} {xs:List V} (e:H a=some (.tup xs)):TyOf K H (.ref a) (.type "tuple")
 | dK {a:Addr} {kvs:List (Key × V)} (e:H a=some (.dK kvs)):TyOf K H (.ref a) (.type "dict")
 | dT {a:Addr} {kvs:List (List Key × V)} (e:H a=some (.dT kvs)):TyOf K H (.ref a) (.type "dict")
 | ins {a C dx:Addr} {fs:List (Str × V)} (e:H a=some (.ins C dx fs)) (cl:Cls K C) (ha:PySem.W.findIn K (.ref C) "__class__"=some (some (.builtin "object.__class__")))
     (hn:PySem.W.specialIn K (.builtin "object.__class__") "__get__"=some (some (.builtin "getset_descriptor.__get__"))) (htk:PySem.W.takesIn K (.builtin "object.__class__")=some true)
     (hm:PySem.W.mroIn K C (.type "object")=some true):TyOf K H (.ref a) (.ref C)
theorem isinst_ok {x:V} {u t:Value} (I:Inv X pins σ H s) (rx:RelV x u) (ty:TyOf X.K H x t) (e:PySem.W.kitOne X.K t c=some b) (h:∀ tk,Q (.bool b) { s with toks:=tk }) :
   wpAny (model X.prog X.w) A (call (.builtin "isinstance") [u,c]) Q E s:=by
 cases ty with
 | non=>cases (show u=Value.none from rx); exact PySem.W.kia_one PySem.W.kitx_none I.kIn True.intro e (fun z=>nomatch z) h
 | bl y=>cases (show u=Value.bool y from rx); exact PySem.W.kia_one PySem.W.kitx_bool I.kIn True.intro e (fun z=>nomatch z) h
 | int i=>obtain ⟨t,q⟩:=(show ∃ t,u=Value.int i t from rx); cases q; exact PySem.W.kia_one PySem.W.kitx_int I.kIn True.intro e (fun z=>nomatch z) h
 | str y=>obtain ⟨t,q⟩:=(show ∃ t,u=Value.str y t from rx); cases q; exact PySem.W.kia_one PySem.W.kitx_str I.kIn True.intro e (fun z=>nomatch z) h
 | flt y=>obtain ⟨t,q⟩:=(show ∃ t,u=Value.float y t from rx); cases q; exact PySem.W.kia_one PySem.W.kitx_float I.kIn True.intro e (fun z=>nomatch z) h
 | @lst a xs ea=>
   cases (show u=Value.ref a from rx)
   obtain ⟨_,_,n,_,h1⟩:=(show ObjOk X.prog X.w H s.heap a (.lst xs) from I.hok a _ ea)
   exact PySem.W.kia_one PySem.W.kitx_list I.kIn ⟨_,h1,rfl⟩ e (fun z=>nomatch z) h
 | @frz a ob xs ea=>
   cases (show u=Value.ref a from rx)
   obtain ⟨_,_,_,n,_,h1⟩:=(show ObjOk X.prog X.w H s.heap a (.frz ob (.lst xs)) from I.hok a _ ea)
   exact PySem.W.kia_one PySem.W.kitx_list I.kIn ⟨_,h1,rfl⟩ e (fun z=>nomatch z) h
 | @tup a xs ea=>
   cases (show u=Value.ref a from rx)
   obtain ⟨_,_,_,p⟩:=(show ObjOk X.prog X.w H s.heap a (.tup xs) from I.hok a _ ea)
   obtain ⟨o,h1,h2,_⟩:=p
   exact PySem.W.kia_one PySem.W.kitx_tuple I.kIn ⟨o,h1,h2⟩ e (fun z=>nomatch z) h
 | @dK a kvs ea=>
   cases (show u=Value.ref a from rx)
   obtain ⟨_,_,vs,_,p⟩:=(show ObjOk X.prog X.w H s.heap a (.dK kvs) from I.hok a _ ea)
   obtain ⟨o,es,ep,h1,h2,_⟩:=p
   exact PySem.W.kia_one PySem.W.kitx_dict I.kIn ⟨o,h1,h2.1⟩ e (fun z=>nomatch z) h
 | @dT a kvs ea=>
   cases (show u=Value.ref a from rx)
   obtain ⟨_,_,xs,_,o,es,ep,h1,h2,_⟩:=(show ObjOk X.prog X.w H s.heap a (.dT kvs) from I.hok a _ ea)
   exact PySem.W.kia_one PySem.W.kitx_dict I.kIn ⟨o,h1,h2.1⟩ e (fun z=>nomatch z) h
 | @ins a C dx fs ea cl ha hn htk hm=>
   cases (show u=Value.ref a from rx)
   obtain ⟨mA,O,_⟩:=ins_get I.hok ea
   obtain ⟨od,J,_⟩:=O.look
   exact PySem.W.kia_one (PySem.W.kitx_own (cl.get _) cl.hd ha hn htk hm) I.kIn J e (fun z=>nomatch z) h
end
structure Room (k:Nat) (A:Around):Prop where
 hd:A.handled=none
 dp:A.depth+3 * k+5 < recursionLimit
 un:A.units+16 * k+200 < cLine
 gd:A.guards=some []:=by rfl
theorem Room.mono {j k:Nat} {A:Around} (r:Room k A) (h:j<=k):Room j A:=⟨r.hd,by have:=r.dp; omega,by have:=r.un; omega,r.gd⟩
theorem Room.deeper {k:Nat} {A:Around} (r:Room (k+1) A) (env:Env):Room k (A.deeper env):=
 ⟨r.hd,by have:=r.dp; show A.depth+1+3 * k+5 < _; omega,by have:=r.un; show A.units+3+16 * k+200 < _; omega,r.gd⟩
theorem Room.depth {k:Nat} {A:Around} (r:Room k A):A.depth < recursionLimit:=by have:=r.dp; omega
noncomputable def tNil:TA:=fun _ H Q=>Q [] H
noncomputable def tCons (ta:TE) (tr:TA):TA:=fun σ H Q=>ta σ H fun x H1=>tr σ H1 fun xs H2=>Q (x::xs) H2
section
variable {X:Cx} {e:Expr} {es:List Expr} {te:TE} {t:TA} {pos:Pos}
theorem pa_nil:PA X [] tNil:=fun _ _ _ _ H Q I h=>Calls.spliced_nil ⟨[],H,I,.nil,h⟩
theorem pa_cons (ha:PE X e te) (hr:PA X es t) (hs:starEach (e::es) X.env=(false,eval e X.env)::starEach es X.env:=by rfl):PA X (e::es) (tCons te t):=by
 intro pos pins s σ H Q I h
 rw [hs]
 show wpAny _ _ (spliced ((false,eval e X.env)::backTo pos (starEach es X.env))) _ _ s
 refine Calls.spliced_cons (thn (ha pins s σ H _ I h) fun u s1 ⟨x,H1,I1,r1,q1⟩=>?_)
 exact thn (hr pos pins s1 σ H1 _ I1 q1) fun us s2 ⟨xs,H2,I2,r2,q2⟩=>⟨x::xs,H2,I2,.cons r1 r2,q2⟩
noncomputable def tTup (t:TA):TE:=fun σ H Q=>t σ H fun xs H1=>xs.length<=sizeLine/\∀ p,H1 p=none->Q (.ref p) (upd H1 p (.tup xs))
noncomputable def tLst (t:TA):TE:=fun σ H Q=>t σ H fun xs H1=>xs.length<=sizeLine/\∀ p,H1 p=none->Q (.ref p) (upd H1 p (.lst xs))
theorem pe_tup {x1} (h:PA X es t):PE X (.Tuple es x1 pos) (tTup t):=by
 intro pins s σ H Q I hq
 refine wpAny_Tuple_spliced (thn (h pos pins s σ H _ I hq) fun us s1 ⟨xs,H1,I1,r,z,q⟩=>⟨by rw [<- r.length]; exact z,?_⟩)
 have hf:H1 s1.heap.objs.size=none:=I1.hok.fresh (Z10 _)
 refine ⟨.ref s1.heap.objs.size,upd H1 s1.heap.objs.size (.tup xs),I1.laid (t':=s1.toks) (fun b u e=>Z7 _ e) (Z10 _) ?_,rfl,q _ hf⟩
 exact ⟨z,us,r,⟨_,Z20 _ rfl,rfl,_,rfl⟩⟩
theorem pe_lst (h:PA X es t):PE X (.List es pos) (tLst t):=by
 intro pins s σ H Q I hq
 refine wpAny_List_spliced (thn (h pos pins s σ H _ I hq) fun us s1 ⟨xs,H1,I1,r,z,q⟩=>⟨by rw [<- r.length]; exact z,?_⟩)
 have hf:H1 s1.heap.objs.size=none:=I1.hok.fresh (Z10 _)
 refine ⟨.ref s1.heap.objs.size,upd H1 s1.heap.objs.size (.lst xs),I1.laid (t':=s1.toks) (fun b u e=>Z7 _ e) (Z10 _) ?_,rfl,q _ hf⟩
 exact ⟨z,us,0,r,Z20 _ rfl⟩
end
noncomputable abbrev Sp:=List V->Hp->VK->XK->Prop
noncomputable abbrev CXT:=List Env->Hp->Shared->XK->Value->Shared->Prop
structure Env0 (P:Program) (w:World) (K:PySem.W.Frag) (mg:Str->Option Value) (base:Heap) (A:Around) (outer:List Env) (s:Shared) (H:Hp):Prop where
 frames:A.frames=some outer
 mod:Mod K mg base
 bs:∀ b o,base.get? b=some o->s.heap.get? b=some o/\H b=none
 bsz:base.objs.size<=s.heap.objs.size
 funs:s.heap.FunFrames base outer
 frf:∀ b ∈ frs outer,H b=none
 hok:HOk P w H s.heap
 bare:AllBare s.gens
inductive CE (outer:List Env) (P:Program) (w:World) (H:Hp) (s:Shared) (Q:VK) (u:Value) (s':Shared):Prop
 | mk (v:V) (H':Hp) (o:s'.os=s.os) (b:AllBare s'.gens) (n:Un (frs outer) [] H H' s.heap s'.heap) (k:HOk P w H' s'.heap) (r:RelV v u) (q:Q v H'):CE outer P w H s Q u s'
noncomputable def CR (CX:CXT) (outer:List Env) (P:Program) (w:World) (H:Hp) (s:Shared) (Q:VK) (E:XK) (r:Result) (s':Shared):Prop:=
 match r with
 | .ok (.ret u)=>CE outer P w H s Q u s'
 | .ok _=>False
 | .error e=>CX outer H s E e s'
structure FnOk (P:Program) (w:World) (K:PySem.W.Frag) (mg:Str->Option Value) (base:Heap) (CX:CXT) (k:Nat) (f:Addr) (fd:FuncData) (ps:List Str) (sp:Sp):Prop where
 len:∀ vs H Q E,sp vs H Q E->vs.length=ps.length
 run:∀ (A:Around) (outer:List Env) (s:Shared) (H:Hp) (args:Args) (us:List Value) (vs:List V) (Q:VK) (E:XK),Room k A->Env0 P w K mg base A outer s H->BindsTo s fd args (ps.zip us)->Vals vs us->sp vs H Q E ->
   codeAny (model P w) A (.call (.ref f) args) (CR CX outer P w H s Q E) s
theorem FnOk.imp {P:Program} {w:World} {K:PySem.W.Frag} {mg:Str->Option Value} {base:Heap} {CX:CXT} {k:Nat} {f:Addr} {fd:FuncData} {ps:List Str} {sp sp':Sp} (F:FnOk P w K mg base CX k f fd ps sp)
   (h:∀ vs H Q E,sp' vs H Q E->sp vs H Q E):FnOk P w K mg base CX k f fd ps sp':=
 ⟨fun vs H Q E q=>F.len vs H Q E (h _ _ _ _ q),fun A outer s H args us vs Q E hr he hb hv hs=>F.run A outer s H args us vs Q E hr he hb hv (h _ _ _ _ hs)⟩
section
variable {X:Cx} {pins:List (Addr × Obj)} {σ:St} {H:Hp} {s s':Shared}
theorem Inv.env0 (I:Inv X pins σ H s):Env0 X.prog X.w X.K X.mg X.base X.A X.stack s H:=
 ⟨I.ok.frames,I.ok.mod,I.bs,Z24 I.ok.bsz I.sz,I.stack,I.stkFree,I.hok,I.bare⟩
theorem Inv.after {Q:VK} {u:Value} (I:Inv X pins σ H s) (h:CE X.stack X.prog X.w H s Q u s'):EP X pins σ Q u s':=by
 obtain ⟨v,H',os,bare,un,hok,r,q⟩:=h
 obtain ⟨hh,g,d,t,os'⟩:=s'
 obtain rfl:os'=s.os:=os
 exact ⟨v,H',I.call (h':=hh) (g':=g) (d':=d) (t':=t) (ch:=[]) un hok bare (fun b z=>absurd z (by simp)),r,q⟩
end
noncomputable def tCall (sp:Sp) (dvs:List V) (E:XK) (t:TA):TE:=fun σ H Q=>t σ H fun vs H1=>sp (vs++dvs) H1 Q E
noncomputable def Binds (K:PySem.W.Frag) (fd:FuncData) (ps:List Str) (ds:List Value):Prop:=
 ∀ (s:Shared) (us:List Value),K.In s.heap->(us++ds).length=ps.length->BindsTo s fd ⟨us,[]⟩ (ps.zip (us++ds))
theorem Binds.all {K:PySem.W.Frag} {fd:FuncData} {ps:List Str} (h:∀ us:List Value,us.length=ps.length->bindArgs fd ⟨us,[]⟩=pure (ps.zip us)):Binds K fd ps []:=fun s us _ hl=>by
 rw [Z35] at hl ⊢
 exact .of_eq (h us hl)
noncomputable def Passes (CX:CXT) (X:Cx) (E:XK):Prop:=∀ (pins:List (Addr × Obj)) (σ:St) (H:Hp) (s:Shared) (e:Value) (s':Shared),Inv X pins σ H s->CX X.stack H s E e s'->X.xe e s'
section
variable {X:Cx} {CX:CXT} {k:Nat} {f C:Addr} {fd:FuncData} {ps:List Str} {sp:Sp} {dvs:List V} {ds:List Value} {E:XK} {x m:Str} {p pos apos:Pos} {e o:Expr} {es:List Expr} {ta:TE} {t:TA}
theorem run_fn {pins:List (Addr × Obj)} {σ:St} {H:Hp} {s:Shared} {Q:VK} {us:List Value} {vs:List V} (F:FnOk X.prog X.w X.K X.mg X.base CX k f fd ps sp) (hr:Room k X.A) (hb:Binds X.K fd ps ds) (hd:Vals dvs ds) (hx:Passes CX X E)
   (I:Inv X pins σ H s) (r:Vals vs us) (h:sp (vs++dvs) H Q E):wpAny (model X.prog X.w) X.A (call (.ref f) us) (EP X pins σ Q) X.xe s:=by
 have r2:Vals (vs++dvs) (us++ds):=r.append hd
 have hl:(us++ds).length=ps.length:=by rw [<- r2.length]; exact F.len _ _ _ _ h
 refine wpAny_call (codeAny_mono (F.run X.A X.stack s H ⟨us,[]⟩ (us++ds) (vs++dvs) Q E hr I.env0 (hb s us I.kIn hl) r2 h) fun r s' hq=>?_)
 cases r with
 | error e=>exact hx pins σ H s e s' I hq
 | ok fl=>
   cases fl with
   | ret u=>exact I.after hq
   | next=>exact False.elim hq
   | brk=>exact False.elim hq
   | cont=>exact False.elim hq
theorem pe_call (F:FnOk X.prog X.w X.K X.mg X.base CX k f fd ps sp) (hr:Room k X.A) (hg:Gl X x) (hm:X.mg x=some (.ref f)) (hk:PySem.W.keepIn X.K (.ref f)=true) (hb:Binds X.K fd ps ds) (hd:Vals dvs ds) (hx:Passes CX X E)
   (ha:PA X (e::es) t) (hdb:(x == ("__debug__":Str))=false:=by decide) (he:starEach (e::es) X.env=(false,eval e X.env)::starEach es X.env:=by rfl) (hpl:(backTo pos (starEach es X.env)).any (·.1)=false:=by rfl) :
   PE X (.Call (.Name x p) (e::es) [] pos) (tCall sp dvs E t):=by
 intro pins s σ H Q I h
 refine wpAny_Call_Name_kw (ld_glob I hg hm ?_ hdb)
 refine PySem.W.callWith_K (h₀:=X.base) I.ok.mod.kin hk (thn (ha pos pins s σ H _ I h) fun us s1 ⟨vs,H1,I1,r,q⟩=>⟨I1.kIn,?_⟩) he hpl
 exact run_fn F hr hb hd hx I1 r q
end
structure FnScope (N P:List Str) (sc:Scope):Prop where
 kind:sc.kind=.function
 co:sc.isCoroutine=false
 gen:sc.isGenerator=false
 nd:N.Nodup
 pre:N.take P.length=P
 par:∀ x ∈ P,sc.names.lookup x=some .local∨sc.names.lookup x=some .cell
 nofree:∀ y ∈ sc.names,y.2 ≠ .free
theorem bindL_out {kindOf:Str->Option NameKind} {x:Str}:∀ {binds:List (Str × Value)} {m:Str->Option Value},(∀ v,(x,v) ∉ binds)->bindL kindOf binds m x=m x
 | [],_,_=>rfl
 | (n,v)::r,m,h=>by
   unfold bindL
   rw [bindL_out fun w hw=>h w (Z8 _ hw)]
   split
   · have:x ≠ n:=by rintro rfl; exact h v Z16
     simp [this]
   · rfl
theorem bindC_out {kindOf:Str->Option NameKind} {x:Str}:∀ {binds:List (Str × Value)} {m:Str->Option Value},(∀ v,(x,v) ∉ binds)->bindC kindOf binds m x=m x
 | [],_,_=>rfl
 | (n,v)::r,m,h=>by
   unfold bindC
   rw [bindC_out fun w hw=>h w (Z8 _ hw)]
   split
   · rfl
   · have:x ≠ n:=by rintro rfl; exact h v Z16
     simp [this]
theorem bindL_get {kindOf:Str->Option NameKind} {x:Str} {v:Value}:∀ {P:List Str} {vs:List Value} {i:Nat} {m:Str->Option Value},P.Nodup->P[i]?=some x->vs[i]?=some v->kindOf x=some .local ->
   bindL kindOf (P.zip vs) m x=some v
 | [],_,_,_,_,h,_,_=>by simp at h
 | _::_,[],_,_,_,_,h,_=>by simp at h
 | p::P,w::vs,0,m,nd,h1,h2,hk=>by
   simp at h1 h2; subst h1; subst h2
   show bindL kindOf ((p,w)::P.zip vs) m p=_
   unfold bindL
   rw [bindL_out fun v hv=>(List.nodup_cons.mp nd).1 (List.of_mem_zip hv).1,if_pos hk]
   simp
 | p::P,w::vs,i+1,m,nd,h1,h2,hk=>by
   show bindL kindOf ((p,w)::P.zip vs) m x=_
   unfold bindL
   exact bindL_get (i:=i) (List.nodup_cons.mp nd).2 (by simpa using h1) (by simpa using h2) hk
theorem bindC_get {kindOf:Str->Option NameKind} {x:Str} {v:Value}:∀ {P:List Str} {vs:List Value} {i:Nat} {m:Str->Option Value},P.Nodup->P[i]?=some x->vs[i]?=some v->kindOf x ≠ some .local ->
   bindC kindOf (P.zip vs) m x=some v
 | [],_,_,_,_,h,_,_=>by simp at h
 | _::_,[],_,_,_,_,h,_=>by simp at h
 | p::P,w::vs,0,m,nd,h1,h2,hk=>by
   simp at h1 h2; subst h1; subst h2
   show bindC kindOf ((p,w)::P.zip vs) m p=_
   unfold bindC
   rw [bindC_out fun v hv=>(List.nodup_cons.mp nd).1 (List.of_mem_zip hv).1,if_neg hk]
   simp
 | p::P,w::vs,i+1,m,nd,h1,h2,hk=>by
   show bindC kindOf ((p,w)::P.zip vs) m x=_
   unfold bindC
   exact bindC_get (i:=i) (List.nodup_cons.mp nd).2 (by simpa using h1) (by simpa using h2) hk
noncomputable def start (N:List Str) (vs:List V):St:=vs.map some++List.replicate (N.length - vs.length) none
noncomputable def cxOf (CX:CXT) (P:Program) (w:World) (K:PySem.W.Frag) (mg:Str->Option Value) (base:Heap) (N:List Str) (qual:Str) (scope:Scope) (f:Addr) (cd:Value) (A:Around) (outer:List Env) (s:Shared) (H:Hp) (E:XK):Cx where
 prog:=P
 w:=w
 K:=K
 mg:=mg
 base:=base
 A:=A.deeper (envOfC qual scope s.heap.objs.size f cd)
 N:=N
 s₀:=s
 H₀:=H
 env:=envOfC qual scope s.heap.objs.size f cd
 outer:=outer
 stack:=envOfC qual scope s.heap.objs.size f cd::outer
 ex:=[]
 calm:=true
 fn:=fun _=>true
 pn:=[]
 xe:=fun e s'=>wpAny (model P w) (A.deeper (envOfC qual scope s.heap.objs.size f cd)) (leaving (envOfC qual scope s.heap.objs.size f cd) e) (fun _ s''=>CX outer H s E e s'') (fun e' s''=>CX outer H s E e' s'') s'
theorem cell_has {sc:Scope} {n:Nat} {x:Str} (h:sc.names.lookup x=some .cell):∃ c,(cellsFrom n sc.names []).lookup x=some c:=by
 have q:=PySem.W.cellsFrom_some sc.names n [] (.inl h)
 exact Option.isSome_iff_exists.mp q
theorem inv_start {CX:CXT} {P:Program} {w:World} {K:PySem.W.Frag} {mg:Str->Option Value} {base:Heap} {N ps:List Str} {qual:Str} {scope:Scope} {f:Addr} {cd:Value} {A:Around} {outer:List Env} {s s1:Shared} {H:Hp} {E:XK} {us:List Value} {vs:List V}
   (S:FnScope N ps scope) (hd:A.handled=none) (e0:Env0 P w K mg base A outer s H) (hl:vs.length=ps.length) (r:Vals vs us)
   (x:InCallC s s.heap.objs.size (bindL (envOfC qual scope s.heap.objs.size f cd).kindOf (ps.zip us) fun _=>none) (cellsFrom (s.heap.objs.size+1) scope.names []) (bindC (envOfC qual scope s.heap.objs.size f cd).kindOf (ps.zip us) fun _=>none) s1) :
   Inv (cxOf CX P w K mg base N qual scope f cd A outer s H E) [] (start N vs) H s1:=by
 have hpl:ps.length<=N.length:=by have:=congrArg List.length S.pre; rw [List.length_take] at this; omega
 obtain ⟨h1,tk,rfl,hk⟩:=x.done
 have noA:∀ b:Addr,b ∉ (cxOf CX P w K mg base N qual scope f cd A outer s H E).ex:=fun b z=>absurd (show b ∈ ([]:List Addr) from z) (by simp)
 refine ⟨⟨e0.mod,S.kind,rfl,rfl,Z10 _,fun y z c h1 h2=>?_,fun y hy=>?_,fun y c _ h=>?_,fun _=>hd,Around.frames_deeper e0.frames,.inr ⟨rfl,rfl⟩,fun b z=>absurd z (noA b),e0.bs,e0.bsz,fun b _ _=>noA b,fun b z=>absurd z (noA b),e0.funs,e0.frf⟩,
   rfl,e0.bare,Un.kept hk,⟨_,x.toInCall.ns,fun i y v h1 h2 h3=>?_⟩,fun y c h=>⟨_,x.cell y c h⟩,e0.hok.fresh (Z10 _),fun y c h=>?_,fun p hp=>absurd (show p ∈ ([]:List (Addr × Obj)) from hp) (by simp),e0.hok.kept hk,?_⟩
 · exact name_of_addr x.apart (PySem.mem_of_lookup h1) (PySem.mem_of_lookup h2)
 · have hy:scope.names.lookup y=some .cell∨scope.names.lookup y=some .free:=hy
   rcases hy with hy | hy
   · exact cell_has hy
   · exact absurd rfl (S.nofree _ (PySem.mem_of_lookup hy))
 · exact Z38 (x.above y c (PySem.mem_of_lookup h))
 · have hi:i < vs.length:=by
     unfold start at h2
     by_cases hi:i < vs.length
     · exact hi
     · rw [List.getElem?_append_right (by simpa using hi)] at h2
       rw [List.getElem?_replicate] at h2
       split at h2 <;> cases h2
   have ha:vs[i]?=some v:=by
     unfold start at h2
     rw [List.getElem?_append_left (by simpa using hi),Z21] at h2
     cases e:vs[i]? with
     | none=>rw [e] at h2; cases h2
     | some a=>rw [e] at h2; cases h2; rfl
   obtain ⟨u,hu,rv⟩:=r.get ha
   have hp:ps[i]?=some y:=by
     rw [<- S.pre,List.getElem?_take_of_lt (by omega)]; exact h1
   have ndP:ps.Nodup:=by rw [<- S.pre]; exact S.nd.sublist (List.take_sublist _ _)
   refine ⟨u,rv,?_⟩
   rcases S.par y (List.mem_of_getElem? hp) with k | k
   · exact .inl ⟨k,bindL_get ndP hp hu k⟩
   · obtain ⟨c,e⟩:=cell_has (n:=s.heap.objs.size+1) k
     refine .inr ⟨.inl k,c,e,?_⟩
     have q:=x.cell y c e
     rw [bindC_get ndP hp hu (by show scope.names.lookup y ≠ _; rw [k]; decide)] at q
     exact q
 · exact e0.hok.fresh (Z38 (x.above y c (PySem.mem_of_lookup h)))
 · unfold start
   show _=N.length
   rw [Z17,Z2,List.length_replicate]
   omega
theorem fn_of {CX:CXT} {P:Program} {w:World} {K:PySem.W.Frag} {mg:Str->Option Value} {base:Heap} {k:Nat} {f:Addr} {name qual:Str} {params:Arguments} {body:List Stmt} {scope:Scope} {dV kV doc pm cdv ct oc:Value} {an od:Option Addr}
   {osl:Array (Option Value)} {N ps:List Str} {sp:Sp} (lk:K.lookup f=some ⟨oc,od,.func (PySem.W.fnOf name qual params body scope dV kV doc pm an cdv ct),osl⟩) (hcd:PySem.W.codeIn K cdv qual=true) (S:FnScope N ps scope)
   (len:∀ vs H Q E,sp vs H Q E->vs.length=ps.length)
   (hbody:∀ (A:Around) (outer:List Env) (s:Shared) (H:Hp) (vs:List V) (Q:VK) (E:XK),Room k (A.deeper (envOfC qual scope s.heap.objs.size f cdv))->sp vs H Q E ->
     ∃ t,PSs (cxOf CX P w K mg base N qual scope f cdv A outer s H E) body t/\t { nx:=fun _ H'=>Q .non H',rt:=Q } (start N vs) H) :
   FnOk P w K mg base CX (k+1) f (PySem.W.fnOf name qual params body scope dV kV doc pm an cdv ct) ps sp:=by
 refine ⟨len,fun A outer s H args us vs Q E hr e0 hb r hsp=>?_⟩
 have hl:=len _ _ _ _ hsp
 have KX:K.In s.heap:=e0.mod.kin.keeps fun b o e=>(e0.bs b o e).1
 have lim:s.heap.NoLimit:=e0.mod.nolimit.keeps fun b o e=>(e0.bs b o e).1
 have hkind:∀ y ∈ ps.zip us,scope.names.lookup y.1=some .local∨(scope.names.lookup y.1=some .cell/\((cellsFrom (s.heap.objs.size+1) scope.names []).lookup y.1).isSome=true):=fun ⟨n,v⟩ hy=>by
   rcases S.par n (List.of_mem_zip hy).1 with q | q
   · exact .inl q
   · exact .inr ⟨q,PySem.W.cellsFrom_some _ _ _ (.inl q)⟩
 refine codeAny_call_function hr.depth (KX _ _ lk) rfl S.co S.gen rfl (PySem.W.codeRec_of KX hcd) (hb _ _ _ _ ?_)
 refine wpAny_newFunctionEnv_cells S.kind hkind fun env he s1 x=>?_
 subst he
 refine ⟨lim.keeps x.toInCall.keep,codeAny_func ?_⟩
 obtain ⟨t,ht,hq⟩:=hbody A outer s H vs Q E (hr.deeper _) hsp
 have I:Inv (cxOf CX P w K mg base N qual scope f cdv A outer s H E) [] (start N vs) H s1:=inv_start S hr.hd e0 hl r x
 refine Z57 (ht [] s1 (start N vs) H _ I hq) (fun fl s' hs=>?_) fun e s' hs=>hs
 have fin:∀ {σ':St} {H':Hp} {v:V} {u:Value},Inv (cxOf CX P w K mg base N qual scope f cdv A outer s H E) [] σ' H' s'->RelV v u->Q v H'->CE outer P w H s Q u s':=
   fun {σ' H' v u} J rv q=>⟨v,H',J.os,J.bare,J.base,J.hok,rv,q⟩
 cases fl with
 | ret u=>
   obtain ⟨v,σ',H',J,rv,q⟩:=hs
   exact fin J rv q
 | next=>
   obtain ⟨σ',H',J,q⟩:=hs
   exact fin (v:=V.non) (u:=Value.none) J rfl q
 | brk=>
   obtain ⟨_,_,_,q⟩:=hs
   exact False.elim q
 | cont=>
   obtain ⟨_,_,_,q⟩:=hs
   exact False.elim q
section
variable {X:Cx} {x:Str} {p pos:Pos} {e:Expr} {es:List Expr} {t:TA} {id T:String} {r:List V->Hp->VK->Prop}
noncomputable def tCB (r:List V->Hp->VK->Prop) (t:TA):TE:=fun σ H Q=>t σ H fun vs H1=>r vs H1 Q
theorem pe_callB (hc:CallR X (.builtin id) r) (hg:Gl X x) (hm:X.mg x=none) (hv:bootBuiltins x=some (.builtin id)) (ha:PA X (e::es) t) (hn:x ≠ "__name__":=by decide) (hdb:(x == ("__debug__":Str))=false:=by decide)
   (he:starEach (e::es) X.env=(false,eval e X.env)::starEach es X.env:=by rfl) (hpl:(backTo pos (starEach es X.env)).any (·.1)=false:=by rfl):PE X (.Call (.Name x p) (e::es) [] pos) (tCB r t):=by
 intro pins s σ H Q I h
 refine wpAny_Call_Name_kw (ld_blt I hg hm hv ?_ hn hdb)
 exact PyProof.Rows.callWith_builtin1 (thn (ha pos pins s σ H _ I h) fun us s1 ⟨vs,H1,I1,r1,q1⟩=>hc pins s1 σ H1 vs us Q I1 r1 q1) he hpl
theorem pe_callTy (hc:CallR X (.type T) r) (hg:Gl X x) (hm:X.mg x=none) (hv:bootBuiltins x=some (.type T)) (ha:PA X (e::es) t) (hn:x ≠ "__name__":=by decide) (hdb:(x == ("__debug__":Str))=false:=by decide)
   (he:starEach (e::es) X.env=(false,eval e X.env)::starEach es X.env:=by rfl) (hpl:(backTo pos (starEach es X.env)).any (·.1)=false:=by rfl):PE X (.Call (.Name x p) (e::es) [] pos) (tCB r t):=by
 intro pins s σ H Q I h
 refine wpAny_Call_Name_kw (ld_blt I hg hm hv ?_ hn hdb)
 exact PyProof.Rows.callWith_type1 (thn (ha pos pins s σ H _ I h) fun us s1 ⟨vs,H1,I1,r1,q1⟩=>hc pins s1 σ H1 vs us Q I1 r1 q1) he hpl
end
end L2
namespace HT
open PySem PyProof.Rows
noncomputable def lexLt:List Int->List Int->Bool
 | [],[]=>false
 | [],_::_=>true
 | _::_,[]=>false
 | x::xs,y::ys=>if x=y then lexLt xs ys else decide (x < y)
theorem lexLt_cons (x y:Int) (xs ys:List Int):lexLt (x::xs) (y::ys)=if x=y then lexLt xs ys else decide (x < y):=rfl
theorem lexLt_nil_nil:lexLt [] []=false:=rfl
theorem lexLt_nil_cons (y:Int) (ys:List Int):lexLt [] (y::ys)=true:=rfl
theorem lexLt_cons_nil (x:Int) (xs:List Int):lexLt (x::xs) []=false:=rfl
theorem eqAt_int (A:Around) (s:Shared) (a:Int) (t:Tok) (c:Int) (u:Tok):∃ e,SeqAt.EqAt A s (.int a t) (.int c u) e/\(e=true ↔ a=c):=
 ⟨(a == c),SeqAt.EqAt.int_int a t c u,by simp⟩
theorem rcLt_int (A:Around) (s:Shared) (a:Int) (t:Tok) (c:Int) (u:Tok) (prog:Program) (w:World) (E:Value->Shared->Prop) (Q:Value->Shared->Prop) (h:Q (.bool (decide (a < c))) s) :
   wpAny (model prog w) A (richCompare .Lt (.int a t) (.int c u)) Q E s:=
 (PyProof.Rows.lt_int h:wpAny (model prog w) A (compareOp .Lt (.int a t) (.int c u)) Q E s)
section
variable {prog:Program} {w:World} {A:Around} {E:Value->Shared->Prop} {s:Shared}
theorem cat_tup {t b:Addr} {vs ws:List Value} {Q:Value->Shared->Prop} (ht:IsTup s.heap t vs.toArray) (hb:IsTup s.heap b ws.toArray) (hv:vs ≠ [])
   (h1:ws=[]->Q (.ref t) s) (h2:ws ≠ []->Q (.ref s.heap.objs.size) { s with heap:=s.heap.push { cls:=.type "tuple",data:=.seq (vs++ws).toArray } })
   (hsz:vs.length+ws.length<=sizeLine):wpAny (model prog w) A (binaryOp .Add (.ref t) (.ref b)) Q E s:=by
 obtain ⟨⟨cls,dd,data,sl⟩,ho,hc,n,hd⟩:=id ht
 obtain ⟨⟨cls2,dd2,data2,sl2⟩,ho2,hc2,n2,hd2⟩:=id hb
 simp only at hc hd hc2 hd2
 subst hc hd hc2 hd2
 have e:vs.toArray++ws.toArray=(vs++ws).toArray:=by simp
 by_cases hw:ws=[]
 · exact concat_meets ⟨_,ho,rfl⟩ ⟨_,ho2,rfl⟩ noFill_tuple_add seq_tuple_add PySem.F.slot_tuple_add PySem.F.entry_tuple_add (PySem.F.args_tuple_add_2 _ _)
     (tuple_addW1 t b vs.toArray ws.toArray n n2 dd dd2 sl sl2 (by simpa using hv) (by simp [hw])) ⟨ho,ho2,h1 hw⟩
 · refine concat_meets ⟨_,ho,rfl⟩ ⟨_,ho2,rfl⟩ noFill_tuple_add seq_tuple_add PySem.F.slot_tuple_add PySem.F.entry_tuple_add (PySem.F.args_tuple_add_2 _ _)
     (tuple_addW2 t b vs.toArray ws.toArray n n2 dd dd2 sl sl2 (by simpa using hv) (by simpa using hw) (by rw [Z4,Z4]; exact hsz)) ⟨ho,ho2,?_⟩
   rw [e]
   exact h2 hw
noncomputable def sIx (n d:Nat):Option Int->Nat
 | none=>d
 | some v=>if v < 0 then (v+(n:Int)).toNat else min v.toNat n
theorem sIx_le (n d:Nat) (hd:d<=n) (o:Option Int):sIx n d o<=n:=by
 cases o with
 | none=>exact hd
 | some v=>
   show (if v < 0 then (v+(n:Int)).toNat else min v.toNat n)<=n
   by_cases hv:v < 0
   · rw [if_pos hv]; omega
   · rw [if_neg hv]; exact Nat.min_le_right _ _
theorem clip_eq (v:Int) (n d:Nat):(if v < 0 then max (v+(n:Int)) 0 else min v (n:Int))=((sIx n d (some v):Nat):Int):=by
 show (if v < 0 then max (v+(n:Int)) 0 else min v (n:Int))=(((if v < 0 then (v+(n:Int)).toNat else min v.toNat n):Nat):Int)
 by_cases hv:v < 0
 · simp only [if_pos hv]; omega
 · simp only [if_neg hv]; omega
theorem adjust_gen (lo hi:Option Int) (n:Nat):Builtin.Slice.sliceAdjust lo hi 1 (n:Int)=(((sIx n 0 lo:Nat):Int),((sIx n n hi:Nat):Int)):=by
 have h1:¬ ((1:Int) < 0):=by omega
 unfold Builtin.Slice.sliceAdjust
 simp only [h1,if_false]
 refine Prod.ext ?_ ?_
 · cases lo with
   | none=>rfl
   | some v=>exact clip_eq v n 0
 · cases hi with
   | none=>rfl
   | some v=>exact clip_eq v n n
theorem places_gen (i j:Nat):Builtin.Slice.slicePlaces (i:Int) (j:Int) 1=j - i:=by
 unfold Builtin.Slice.slicePlaces
 have h1:(1:Int) > 0:=by omega
 simp only [h1,if_true,Int.ediv_one]
 split <;> omega
theorem slicePart_ {v:Value} {o:Option Int} {Q:Option Int->Shared->Prop} (p:IsPart v o) (h:Q o s):wpAny (model prog w) A (Builtin.Slice.slicePartIndex v) Q E s:=by
 cases p with
 | none=>exact slicePart_none h
 | int i t=>exact slicePart_int h
theorem sliceApplied_gen {sl:Addr} {vl vu:Value} {lo hi:Option Int} {n:Nat} {Q:Int × Int × Nat->Shared->Prop} (hs:s.heap.IsSliceOf sl vl vu .none) (pl:IsPart vl lo) (pu:IsPart vu hi)
   (h:Q (((sIx n 0 lo:Nat):Int),1,sIx n n hi - sIx n 0 lo) s):wpAny (model prog w) A (Builtin.Slice.sliceApplied (.ref sl) (pure (n:Int))) Q E s:=by
 obtain ⟨os,hos,hcs,hds⟩:=id hs
 unfold Builtin.Slice.sliceApplied Builtin.Slice.sliceFields
 refine Z55 (Z55 (wpAny_field hos hds (x:=vl) rfl (Z55 (wpAny_field hos hds (x:=vu) rfl (Z55 (wpAny_field hos hds (x:=.none) rfl (Z56 ?_)))))))
 refine Z55 (slicePart_none ?_)
 show wpAny _ _ (if ((1:Int) == 0)=true then _ else _) _ _ s
 rw [if_neg (by decide)]
 refine Z55 (slicePart_ pl (Z55 (slicePart_ pu (Z55 (Z56 ?_)))))
 show wpAny _ _ (match Builtin.Slice.sliceAdjust lo hi 1 (n:Int) with | (lo,hi)=>pure (lo,(1:Int),Builtin.Slice.slicePlaces lo hi 1)) _ _ s
 rw [adjust_gen lo hi n]
 show wpAny _ _ (pure (((sIx n 0 lo:Nat):Int),(1:Int),Builtin.Slice.slicePlaces ((sIx n 0 lo:Nat):Int) ((sIx n n hi:Nat):Int) 1)) _ _ s
 rw [places_gen]
 exact Z56 h
theorem pick_gen (xs:Array Value) (i k:Nat):((List.range k).filterMap fun (m:Nat)=>xs[((i:Int)+(m:Int) * 1).toNat]?).toArray=((xs.toList.drop i).take k).toArray:=by
 have e:(fun (m:Nat)=>xs[((i:Int)+(m:Int) * 1).toNat]?)=fun m=>xs[i+m]?:=by
   funext m
   have:((i:Int)+(m:Int) * 1).toNat=i+m:=by omega
   rw [this]
 rw [e]
 have:=pick_run xs i k
 rw [List.filterMap_map] at this
 have e2:((fun x=>xs[x]?) ∘ fun x=>i+x)=fun m=>xs[i+m]?:=rfl
 rw [e2] at this
 rw [this]
theorem getItem_tuple_cut {t sl:Addr} {items:Array Value} {vl vu:Value} {lo hi:Option Int} {Q:Value->Shared->Prop} (ht:IsTup s.heap t items) (hs:s.heap.IsSliceOf sl vl vu .none) (pl:IsPart vl lo) (pu:IsPart vu hi)
   (hw:¬ (sIx items.size 0 lo=0/\sIx items.size items.size hi=items.size))
   (h:Q (.ref s.heap.objs.size) { s with heap:=s.heap.push { cls:=.type "tuple",data:=.seq ((items.toList.drop (sIx items.size 0 lo)).take (sIx items.size items.size hi - sIx items.size 0 lo)).toArray } })
   (hsz:items.size<=sizeLine):wpAny (model prog w) A (getItem (.ref t) (.ref sl)) Q E s:=by
 have htake:sizeOk (.seq ((items.toList.drop (sIx items.size 0 lo)).take (sIx items.size items.size hi - sIx items.size 0 lo)).toArray):=by
   show ((items.toList.drop (sIx items.size 0 lo)).take (sIx items.size items.size hi - sIx items.size 0 lo)).toArray.size<=sizeLine
   rw [Z4,List.length_take,List.length_drop,Array.length_toList]
   omega
 have hj:sIx items.size items.size hi<=items.size:=sIx_le _ _ (Z10 _) hi
 obtain ⟨os,hos,hcs,hds⟩:=id hs
 have hTs:s.TypeIs (.ref sl) "slice":=⟨os,hos,hcs⟩
 unfold getItem
 try with_reducible refine wpAny_holding ?_
 first | refine Z55 (Z56 ?_) | skip
 refine Z55 (wpAny_sequenceKey ht.typeIs (by decide) ?_)
 refine Z55 (wpAny_callSpecial?_slot (name:=Str.ofString "__getitem__") ht.typeIs PyProof.Rows.slot_tuple_getitem
   (wpAny_call_entry PyProof.Rows.slot_tuple_getitem ht.typeIs entry_tuple_getitem ?_ (args_tuple_getitem _ _)))
 show wpAny _ _ (Builtin.Tuple.tupleItemsOf (.ref t) >>= _) _ _ s
 refine Z55 (tupleItemsOf_ ht ?_)
 refine Z55 (wpAny_typeOf hTs ?_)
 rw [if_pos (by decide)]
 refine Z55 (sliceApplied_gen hs pl pu ?_)
 have hno:¬ ((((sIx items.size 0 lo:Nat):Int) == 0 && (1:Int) == 1 && (sIx items.size items.size hi - sIx items.size 0 lo) == items.size)=true):=by
   intro q
   rw [Z25,Z25] at q
   have q1:((sIx items.size 0 lo:Nat):Int)=0:=eq_of_beq q.1.1
   have q2:sIx items.size items.size hi - sIx items.size 0 lo=items.size:=eq_of_beq q.2
   exact hw ⟨by omega,by omega⟩
 show wpAny _ _ (if (((sIx items.size 0 lo:Nat):Int) == 0 && (1:Int) == 1 && (sIx items.size items.size hi - sIx items.size 0 lo) == items.size)=true then _ else _) _ _ s
 rw [if_neg hno,pick_gen]
 first
   | exact Z55 (m:=Builtin.Tuple.tupleExact _) (wpAny_newObj_type (Z56 ⟨_,rfl,Z56 h⟩) htake)
   | exact Z55 (m:=Builtin.Tuple.tupleExact _) (wpAny_newObj_type (Z55 (Z56 (Z56 ⟨_,rfl,Z56 h⟩))) htake)
   | exact Z55 (Z55 (m:=Builtin.Tuple.tupleExact _) (wpAny_newObj_type (Z56 (Z56 ⟨_,rfl,Z56 h⟩)) htake))
   | exact Z55 (Z55 (m:=Builtin.Tuple.tupleExact _) (wpAny_newObj_type (Z56 ⟨_,rfl,Z56 h⟩) htake))
end
end HT
namespace L2
open PySem PySem.Spec PyProof.Rows
noncomputable abbrev TO:=St->Hp->(Option Int->Hp->Prop)->Prop
noncomputable def PO (X:Cx) (e:Option Expr) (t:TO):Prop:=
 ∀ (pins:List (Addr × Obj)) (s:Shared) (σ:St) (H:Hp) (Q:Option Int->Hp->Prop),Inv X pins σ H s->t σ H Q ->
   wpAny (model X.prog X.w) X.A (evalPart e X.env) (fun u s'=>∃ o H',Inv X pins σ H' s'/\IsPart u o/\Q o H') X.xe s
noncomputable def tNoPart:TO:=fun _ H Q=>Q none H
noncomputable def tPart (t:TE):TO:=fun σ H Q=>t σ H fun x H1=>∃ i,x=.int i/\Q (some i) H1
theorem intsAre_of {ns:List Int}:∀ {us:List Value},Vals (ns.map V.int) us->IntsAre us ns:=by
 induction ns with
 | nil=>intro us r; rw [List.map_nil] at r; cases r; exact .nil
 | cons n ns ih=>
   intro us r
   rw [Z6] at r
   cases r with
   | cons r1 r2=>
     obtain ⟨t,e⟩:=r1
     subst e
     exact .cons n t (ih r2)
section
variable {X:Cx} {e:Expr} {te:TE} {lo hi:Option Expr} {tl th:TO} {pos p2:Pos}
theorem po_none:PO X none tNoPart:=by
 intro pins s σ H Q I h
 rw [evalPart_none]
 exact Z56 ⟨none,H,I,.none,h⟩
theorem po_some (h:PE X e te):PO X (some e) (tPart te):=by
 intro pins s σ H Q I hw
 rw [evalPart_some]
 refine thn (h pins s σ H _ I hw) fun u s1 ⟨x,H1,I1,r1,q1⟩=>?_
 obtain ⟨i,rfl,q⟩:=q1
 obtain ⟨t,rfl⟩:=r1
 exact ⟨some i,H1,I1,.int i t,q⟩
noncomputable def SlR (X:Cx) (r:V->Option Int->Option Int->Hp->VK->Prop):Prop:=
 ∀ (pins:List (Addr × Obj)) (s:Shared) (σ:St) (H:Hp) (x:V) (v vl vu:Value) (lo hi:Option Int) (sl:Addr) (Q:VK),Inv X pins σ H s->RelV x v->s.heap.IsSliceOf sl vl vu .none->IsPart vl lo->IsPart vu hi->r x lo hi H Q ->
   ∃ T id,typeLookup (.type T) "__getitem__"=pure (some (.builtin id))/\s.TypeIs v T/\wpAny (model X.prog X.w) X.A (getItem v (.ref sl)) (EP X pins σ Q) X.xe s
theorem SlR.or {r r':V->Option Int->Option Int->Hp->VK->Prop} (h:SlR X r) (h':SlR X r'):SlR X (fun x lo hi H Q=>r x lo hi H Q∨r' x lo hi H Q):=by
 intro pins s σ H x v vl vu lo hi sl Q I rx hs pl pu q
 rcases q with q | q
 · exact h pins s σ H x v vl vu lo hi sl Q I rx hs pl pu q
 · exact h' pins s σ H x v vl vu lo hi sl Q I rx hs pl pu q
noncomputable def tSl (r:V->Option Int->Option Int->Hp->VK->Prop) (te:TE) (tl th:TO):TE:=fun σ H Q=>te σ H fun x H1=>tl σ H1 fun l H2=>th σ H2 fun u H3=>r x l u H3 Q
theorem pe_slice {r:V->Option Int->Option Int->Hp->VK->Prop} (hr:SlR X r) (he:PE X e te) (hl:PO X lo tl) (hu:PO X hi th):PE X (.Subscript e (.Slice lo hi none p2) pos) (tSl r te tl th):=by
 intro pins s σ H Q I h
 refine Subscript_ (thn (he pins s σ H _ I h) fun v s1 ⟨x,H1,I1,r1,q1⟩=>?_)
 refine wpAny_Slice (thn (hl pins s1 σ H1 _ I1 q1) fun vl s2 ⟨l,H2,I2,pl,q2⟩=>thn (hu pins s2 σ H2 _ I2 q2) fun vu s3 ⟨u,H3,I3,pu,q3⟩=>?_)
 rw [evalPart_none]
 refine Z56 ?_
 have I4:Inv X pins σ H3 { s3 with heap:=s3.heap.push { cls:=.type "slice",data:=.fields #[vl,vu,.none] } }:=I3.kept (t':=s3.toks) fun b ob q=>Z7 _ q
 obtain ⟨T,id,hT,ht,hg⟩:=hr pins { s3 with heap:=s3.heap.push { cls:=.type "slice",data:=.fields #[vl,vu,.none] } } σ H3 x v vl vu l u s3.heap.objs.size Q I4 r1 (Heap.IsSliceOf.new ..) pl pu q3
 show wpAny (model X.prog X.w) X.A (subscriptTail e (.Slice lo hi none p2) v (.ref s3.heap.objs.size)) (EP X pins σ Q) X.xe { s3 with heap:=s3.heap.push { cls:=.type "slice",data:=.fields #[vl,vu,.none] } }
 exact tail_any (ops:=[.ref s3.heap.objs.size,v]) ht hT hg (by with_unfolding_all rfl)
noncomputable def cutV (xs:List V) (lo hi:Option Int):List V:=(xs.drop (HT.sIx xs.length 0 lo)).take (HT.sIx xs.length xs.length hi - HT.sIx xs.length 0 lo)
theorem cutV_length (xs:List V) (lo hi:Option Int):(cutV xs lo hi).length<=xs.length:=by
 unfold cutV
 rw [List.length_take,List.length_drop]
 omega
noncomputable def rSlT (K:PySem.W.Frag):V->Option Int->Option Int->Hp->VK->Prop:=fun x lo hi H Q=>∃ a xs,x=.ref a/\SqT K H a xs /\
 ¬ (HT.sIx xs.length 0 lo=0/\HT.sIx xs.length xs.length hi=xs.length)/\∀ p,H p=none->Q (.ref p) (upd H p (.tup (cutV xs lo hi)))
theorem sl_tup:SlR X (rSlT X.K):=by
 intro pins s σ H x v vl vu lo hi sl Q I rx hs pl pu h
 obtain ⟨a,xs,rfl,hx,hw,q⟩:=h
 cases rx
 obtain ⟨its,r,ht,hz⟩:=I.tuple hx
 have hlen:its.toArray.size=xs.length:=by rw [Z4]; exact r.length.symm
 refine ⟨"tuple",_,PyProof.Rows.slot_tuple_getitem.lookup,ht.typeIs,?_⟩
 refine HT.getItem_tuple_cut ht hs pl pu (by rw [hlen]; exact hw) ?_ (by rw [hlen]; exact hz)
 rw [hlen]
 refine ⟨.ref s.heap.objs.size,_,I.laid (t':=s.toks) (o:=.tup (cutV xs lo hi)) (fun b ob q=>Z7 _ q) (Z10 _) ?_,rfl,q _ (I.hok.fresh (Z10 _))⟩
 exact ⟨Z24 (cutV_length xs lo hi) hz,_,(r.drop (HT.sIx xs.length 0 lo)).take (HT.sIx xs.length xs.length hi - HT.sIx xs.length 0 lo),IsTup.new _ _⟩
noncomputable def rCatT (K:PySem.W.Frag):R2:=fun x y H Q=>∃ a b xs ys,x=.ref a/\y=.ref b/\SqT K H a xs/\SqT K H b ys/\xs ≠ []/\xs.length+ys.length<=sizeLine /\
 (ys=[]->Q (.ref a) H)/\(ys ≠ []->∀ p,H p=none->Q (.ref p) (upd H p (.tup (xs++ys))))
theorem Vals.nil_iff {xs:List V} {us:List Value} (r:Vals xs us):us=[] ↔ xs=[]:=by
 cases r with
 | nil=>simp
 | cons _ _=>simp
theorem op_catT:OpR X (binaryOp .Add) (rCatT X.K):=by
 intro pins s σ H x y v u Q I rx ry h
 obtain ⟨a,b,xs,ys,rfl,rfl,ha,hb,hx,hz,q1,q2⟩:=h
 cases rx
 cases ry
 obtain ⟨its,r1,p1,_⟩:=I.tuple ha
 obtain ⟨its2,r2,p2,_⟩:=I.tuple hb
 refine HT.cat_tup p1 p2 (fun z=>hx (r1.nil_iff.mp z)) (fun z=>⟨.ref a,H,I,rfl,q1 (r2.nil_iff.mp z)⟩) (fun z=>?_) (by rw [<- r1.length,<- r2.length]; exact hz)
 refine ⟨.ref s.heap.objs.size,_,I.laid (t':=s.toks) (o:=.tup (xs++ys)) (fun b ob q=>Z7 _ q) (Z10 _) ?_,rfl,q2 (fun w=>z (r2.nil_iff.mpr w)) _ (I.hok.fresh (Z10 _))⟩
 exact ⟨by rw [Z17]; exact hz,_,r1.append r2,IsTup.new _ _⟩
end
noncomputable def ixN (n:Nat) (i:Int):Option Nat:=if 0<=i then (if i < n then some i.toNat else none) else if -(n:Int)<=i then some (i+n).toNat else none
noncomputable def atI {α:Type} (xs:List α) (i:Int):Option α:=(ixN xs.length i).bind fun j=>xs[j]?
theorem ixN_seq {n:Nat} {i:Int} {j:Nat} (h:ixN n i=some j):seqIndex? i n=some j/\j < n/\-(n:Int)<=i/\i < n:=by
 unfold ixN at h
 by_cases h0:0<=i
 · rw [if_pos h0] at h
   by_cases h1:i < n
   · rw [if_pos h1] at h
     have e:i.toNat=j:=Z27 h
     exact ⟨by rw [seqIndex_of h0 h1,e],by omega,by omega,h1⟩
   · rw [if_neg h1] at h; cases h
 · rw [if_neg h0] at h
   by_cases h1:-(n:Int)<=i
   · rw [if_pos h1] at h
     have e:(i+n).toNat=j:=Z27 h
     exact ⟨by rw [seqIndex_neg (by omega) h1,e],by omega,h1,by omega⟩
   · rw [if_neg h1] at h; cases h
theorem atI_get {α:Type} {xs:List α} {i:Int} {v:α} (h:atI xs i=some v):∃ j,seqIndex? i xs.length=some j/\xs[j]?=some v/\j < xs.length/\-(xs.length:Int)<=i/\i < xs.length:=by
 unfold atI at h
 cases e:ixN xs.length i with
 | none=>rw [e] at h; cases h
 | some j=>
   rw [e] at h
   obtain ⟨h1,h2,h3,h4⟩:=ixN_seq e
   exact ⟨j,h1,h,h2,h3,h4⟩
noncomputable def PlainIx (b:Expr):Prop:=∀ o i,subscripted b false o i=operate [o,i] (getItem o i)
noncomputable def IxR (X:Cx) (r:R2):Prop:=
 ∀ (value slice:Expr) (pins:List (Addr × Obj)) (s:Shared) (σ:St) (H:Hp) (x y:V) (v u:Value) (Q:VK),Inv X pins σ H s->RelV x v->RelV y u->r x y H Q ->
   subscripted slice false v u=operate [v,u] (getItem v u)->wpAny (model X.prog X.w) X.A (subscriptTail value slice v u) (EP X pins σ Q) X.xe s
noncomputable def MtR (X:Cx) (id:String) (r:V->List V->Hp->VK->Prop):Prop:=
 ∀ (pins:List (Addr × Obj)) (s:Shared) (σ:St) (H:Hp) (x:V) (xs:List V) (v:Value) (us:List Value) (Q:VK),Inv X pins σ H s->RelV x v->Vals xs us->r x xs H Q ->
   wpAny (model X.prog X.w) X.A (call (.builtin id) (v::us)) (EP X pins σ Q) X.xe s
section
variable {X:Cx} {a b:Expr} {ta tb:TE} {pos:Pos}
theorem IxR.or {r r':R2} (h:IxR X r) (h':IxR X r'):IxR X (fun x y H Q=>r x y H Q∨r' x y H Q):=by
 intro value slice pins s σ H x y v u Q I rx ry q hs
 rcases q with q | q
 · exact h value slice pins s σ H x y v u Q I rx ry q hs
 · exact h' value slice pins s σ H x y v u Q I rx ry q hs
theorem pe_ix {r:R2} (hr:IxR X r) (ha:PE X a ta) (hb:PE X b tb) (hs:PlainIx b):PE X (.Subscript a b pos) (tOp r ta tb):=by
 intro pins s σ H Q I h
 exact Subscript_ (binT ha hb I h fun v u s2 x y H2 I2 rx ry q=>hr a b pins s2 σ H2 x y v u Q I2 rx ry q (hs _ _))
noncomputable def rIxL (K:PySem.W.Frag):R2:=fun x y H Q=>∃ p xs i v,x=.ref p/\y=.int i/\SqL K H p xs/\atI xs i=some v/\Q v H
noncomputable def rIxT (K:PySem.W.Frag):R2:=fun x y H Q=>∃ p xs i v,x=.ref p/\y=.int i/\SqT K H p xs/\atI xs i=some v/\Q v H
noncomputable def rIxS:R2:=fun x y H Q=>∃ z i c,x=.str z/\y=.int i/\z.length<=sizeLine/\atI z.cps.toList i=some c/\Q (.str ⟨#[c]⟩) H
theorem ix_list:IxR X (rIxL X.K):=by
 intro value slice pins s σ H x y v u Q I rx ry h hs
 obtain ⟨p,xs,i,z,rfl,rfl,hq,he,q⟩:=h
 cases rx
 obtain ⟨t,rfl⟩:=ry
 obtain ⟨its,r,pl,hz⟩:=I.list hq
 obtain ⟨j,h1,h2,h3,h4,h5⟩:=atI_get he
 obtain ⟨w,ew,rw'⟩:=r.get h2
 have hl:=r.length
 have hn:=line63
 have fin:EP X pins σ Q w s:=⟨z,H,I,rw',q⟩
 by_cases h0:0<=i
 · have hj:i.toNat=j:=by
     rw [seqIndex_of h0 h5] at h1
     exact Z27 h1
   exact item_listR pl.isList h0 (by omega) (by rw [hj]; simpa using ew) fin hs
 · have hj:(i+(its.toArray.size:Int)).toNat=j:=by
     rw [seqIndex_neg (by omega) h4] at h1
     rw [Z4,<- hl]
     exact Z27 h1
   exact subscriptTail_builtinR (x:=w) pl.isList.typeIs slot_list_getitem.lookup
     (wpAny_getItem_list_neg (Q:=fun r s'=>r=w/\EP X pins σ Q r s') pl.isList (by omega) (by rw [Z4] <;> omega) (by omega) (by rw [hj]; simpa using ew) ⟨rfl,fin⟩) hs
theorem ix_tup:IxR X (rIxT X.K):=by
 intro value slice pins s σ H x y v u Q I rx ry h hs
 obtain ⟨p,xs,i,z,rfl,rfl,hq,he,q⟩:=h
 cases rx
 obtain ⟨t,rfl⟩:=ry
 obtain ⟨its,r,pl,hz⟩:=I.tuple hq
 obtain ⟨j,h1,h2,h3,h4,h5⟩:=atI_get he
 obtain ⟨w,ew,rw'⟩:=r.get h2
 have hl:=r.length
 have hn:=line63
 have fin:EP X pins σ Q w s:=⟨z,H,I,rw',q⟩
 exact subscriptTail_builtinR (x:=w) pl.typeIs slot_tuple_getitem.lookup
   (getItem_tuple (j:=j) (Q:=fun r s'=>r=w/\EP X pins σ Q r s') pl (by omega) (by omega) (by rw [Z4,<- hl]; exact h1) (by simpa using ew) ⟨rfl,fin⟩) hs
theorem ix_str:IxR X rIxS:=by
 intro value slice pins s σ H x y v u Q I rx ry h hs
 obtain ⟨z,i,c,rfl,rfl,hz,he,q⟩:=h
 obtain ⟨t,rfl⟩:=rx
 obtain ⟨t',rfl⟩:=ry
 obtain ⟨j,h1,h2,h3,h4,h5⟩:=atI_get he
 have hl:z.cps.toList.length=z.length:=by simp [Str.length]
 rw [hl] at h1 h4 h5
 have hn:=line63
 exact tail_any (typeIs_str s z t) slot_str_getitem.lookup (getItem_str (c:=c) (by
   have e1:decide (i < -(2 ^ 63:Int))=false:=decide_eq_false (by omega)
   have e2:decide (i ≥ 2 ^ 63)=false:=decide_eq_false (by omega)
   rw [e1,e2,Bool.or_false]) (by rw [h1]; simpa using h2) ⟨.str ⟨#[c]⟩,H,I.tok _,⟨_,rfl⟩,q⟩) hs
noncomputable def rIx (K:PySem.W.Frag):R2:=fun x y H Q=>rIxL K x y H Q∨rIxT K x y H Q∨rIxS x y H Q
theorem ix_seq:IxR X (rIx X.K):=ix_list.or (ix_tup.or ix_str)
theorem mapSeq_set (its:List Value) (n j:Nat) (u:Value):Obj.mapSeq (·.setIfInBounds j u) { cls:=.type "list",data:=.seq its.toArray n }={ cls:=.type "list",data:=.seq (its.set j u).toArray n }:=by
 simp [Obj.mapSeq]
theorem Inv.lst {pins:List (Addr × Obj)} {σ:St} {H:Hp} {s:Shared} {p:Addr} {xs:List V} (I:Inv X pins σ H s) (h:H p=some (.lst xs)) :
   ∃ (its:List Value) (n:Nat),Vals xs its/\s.heap.get? p=some { cls:=.type "list",data:=.seq its.toArray n }/\xs.length<=sizeLine:=by
 obtain ⟨z,its,n,r,e⟩:=I.hok p _ h
 exact ⟨its,n,r,e,z⟩
theorem Inv.lstUpd {pins:List (Addr × Obj)} {σ:St} {H:Hp} {s:Shared} {p:Addr} {xs ys:List V} {its its':List Value} {n n':Nat} {f:Obj->Obj} (I:Inv X pins σ H s) (h:H p=some (.lst xs))
   (ho:s.heap.get? p=some { cls:=.type "list",data:=.seq its.toArray n }) (hf:f { cls:=.type "list",data:=.seq its.toArray n }={ cls:=.type "list",data:=.seq its'.toArray n' }) (r:Vals ys its') (hz:ys.length<=sizeLine) (t:Nat) :
   Inv X pins σ (upd H p (.lst ys)) { s with heap:=s.heap.update p f,toks:=t }:=by
 have e:(s.heap.update p f).get? p=some { cls:=.type "list",data:=.seq its'.toArray n' }:=by
   rw [Heap.get?_update_self f ho (by rw [hf] <;> rfl),hf]
 refine I.write (x:=p) (e:=p) (by rw [h]; trivial) (.inl rfl) (fun b u hb q=>(Heap.get?_update_other _ _ (Ne.symm hb)).trans q) ⟨_,e⟩ ?_
 exact ⟨hz,its',n',r,e⟩
noncomputable def rSetL:V->V->V->Hp->(Hp->Prop)->Prop:=fun o i v H Q=>∃ p xs k j,o=.ref p/\i=.int k/\H p=some (.lst xs)/\ixN xs.length k=some j/\Q (upd H p (.lst (xs.set j v)))
theorem set_list:PSet X rSetL:=by
 intro pins s σ H o i v ov iv u Q I ro ri rv h
 obtain ⟨p,xs,k,j,rfl,rfl,hp,hj,q⟩:=h
 cases ro
 obtain ⟨t,rfl⟩:=ri
 obtain ⟨its,n,r,ho,hz⟩:=I.lst hp
 obtain ⟨h1,h2,h3,h4⟩:=ixN_seq hj
 have hl:=r.length
 have hn:=line63
 have I':Inv X pins σ (upd H p (.lst (xs.set j v))) { s with heap:=s.heap.update p (Obj.mapSeq (·.setIfInBounds j u)) }:=
   I.lstUpd hp ho (mapSeq_set its n j u) (r.set rv j) (by rw [Z32]; exact hz) s.toks
 by_cases h0:0<=k
 · have hk:k.toNat=j:=by
     rw [seqIndex_of h0 h4] at h1
     exact Z27 h1
   exact PySem.W.ki_setAt ho h0 (by omega) (by rw [Z4,<- hl]; exact h4) (by rw [hk]; exact ⟨_,I',q⟩)
 · have hk:(k+(its.toArray.size:Int)).toNat=j:=by
     rw [seqIndex_neg (by omega) h3] at h1
     rw [Z4,<- hl]
     exact Z27 h1
   exact PySem.W.ki_setBack ho (by omega) (by rw [Z4,<- hl]; exact h3) (by omega) (by rw [hk]; exact ⟨_,I',q⟩)
theorem slice_end (i:Int) (n:Nat):max 0 (min (if i < 0 then i+(n:Int) else i) (n:Int))=((if i < 0 then (i+(n:Int)).toNat else min i.toNat n:Nat):Int):=by
 by_cases h:i < 0
 · rw [if_pos h,if_pos h,Int.min_eq_left (Int.le_trans (Int.add_le_add_right (Int.le_of_lt h) _) (Int.le_of_eq (Int.zero_add _))),Int.ofNat_toNat,Int.max_comm]
 · rw [if_neg h,if_neg h]
   obtain ⟨k,rfl⟩:=Int.eq_ofNat_of_zero_le (Int.not_lt.mp h)
   rw [Int.toNat_natCast,Int.max_eq_right (Int.le_min.mpr ⟨Int.natCast_nonneg k,Int.natCast_nonneg n⟩)]
   rcases Nat.le_total k n with z | z
   · rw [Nat.min_eq_left z,Int.min_eq_left (Int.ofNat_le.mpr z)]
   · rw [Nat.min_eq_right z,Int.min_eq_right (Int.ofNat_le.mpr z)]
theorem slice_bounds (lo hi:Option Int) (n:Nat):(sliceBounds lo hi none n).1=((HT.sIx n 0 lo:Nat):Int)/\(sliceBounds lo hi none n).2.1=((HT.sIx n n hi:Nat):Int)/\(sliceBounds lo hi none n).2.2=1:=by
 refine ⟨?_,?_,rfl⟩
 · cases lo with
   | none=>simp [sliceBounds,HT.sIx]
   | some i=>exact slice_end i n
 · cases hi with
   | none=>simp [sliceBounds,HT.sIx]
   | some i=>exact slice_end i n
theorem slicePick_cut (its:List Value) (lo hi:Option Int):slicePick its.toArray lo hi none=((its.drop (HT.sIx its.length 0 lo)).take (HT.sIx its.length its.length hi - HT.sIx its.length 0 lo)).toArray:=by
 obtain ⟨h1,h2,h3⟩:=slice_bounds lo hi its.toArray.size
 unfold slicePick
 rw [h1,h2,h3]
 simp only [sliceRange_one,pick_run,Z4] <;> rfl
noncomputable def rSlL (K:PySem.W.Frag):V->Option Int->Option Int->Hp->VK->Prop:=fun x lo hi H Q=>∃ a xs,x=.ref a/\SqL K H a xs/\∀ p,H p=none->Q (.ref p) (upd H p (.lst (cutV xs lo hi)))
theorem sl_list:SlR X (rSlL X.K):=by
 intro pins s σ H x v vl vu lo hi sl Q I rx hs pl pu h
 obtain ⟨a,xs,rfl,hx,q⟩:=h
 cases rx
 obtain ⟨its,r,ht,hz⟩:=I.list hx
 have hlen:=r.length
 refine ⟨"list",_,slot_list_getitem.lookup,ht.isList.typeIs,?_⟩
 refine wpAny_getItem_list_slice ht.isList hs pl pu .none (by simp) ?_ (by rw [Z4] <;> omega)
 rw [slicePick_cut,<- hlen]
 refine ⟨.ref s.heap.objs.size,_,I.laid (t':=s.toks) (o:=.lst (cutV xs lo hi)) (fun b ob q=>Z7 _ q) (Z10 _) ?_,rfl,q _ (I.hok.fresh (Z10 _))⟩
 exact ⟨Z24 (cutV_length xs lo hi) hz,_,0,(r.drop (HT.sIx xs.length 0 lo)).take (HT.sIx xs.length xs.length hi - HT.sIx xs.length 0 lo),Z20 _ rfl⟩
noncomputable def flatV:V->Bool
 | .non=>true
 | .bl _=>true
 | .int _=>true
 | .str _=>true
 | _=>false
noncomputable def eqV:V->V->Bool
 | .non,.non=>true
 | .bl a,.bl b=>a == b
 | .bl a,.int b=>(if a then 1 else 0) == b
 | .int a,.bl b=>a == (if b then 1 else 0)
 | .int a,.int b=>a == b
 | .str a,.str b=>a == b
 | _,_=>false
theorem CallR.or {f:Value} {r r':List V->Hp->VK->Prop} (h:CallR X f r) (h':CallR X f r'):CallR X f (fun xs H Q=>r xs H Q∨r' xs H Q):=by
 intro pins s σ H xs us Q I rs q
 rcases q with q | q
 · exact h pins s σ H xs us Q I rs q
 · exact h' pins s σ H xs us Q I rs q
theorem call_tuple_of:CallR X (.type "tuple") (fun xs H Q=>∃ p ys,xs=[.ref p]/\((SqL X.K H p ys/\∀ l,H l=none->Q (.ref l) (upd H l (.tup ys)))∨(SqT X.K H p ys/\Q (.ref p) H))):=by
 intro pins s σ H xs us Q I r h
 obtain ⟨p,ys,rfl,h⟩:=h
 obtain ⟨u,rfl,rx⟩:=vals1 r
 cases rx
 rcases h with ⟨hq,q⟩ | ⟨hq,q⟩
 · obtain ⟨its,r',pl,hz⟩:=I.list hq
   have hlen:=r'.length
   refine call_tuple_list pl.isList (fun h' kp=>?_) (by simp only [Z4] <;> omega)
   have I1:Inv X pins σ H { s with heap:=h' }:=I.kept (t':=s.toks) kp
   have I2:Inv X pins σ (upd H h'.objs.size (.tup ys)) { s with heap:=h'.push { cls:=.type "tuple",data:=.seq its.toArray } }:=
     I1.laid (t':=s.toks) (fun b o e=>Z7 _ e) (Z10 _) (show ObjOk X.prog X.w _ _ _ (.tup ys) from ⟨hz,its,r',IsTup.new _ _⟩)
   exact ⟨.ref h'.objs.size,_,I2,rfl,q _ (I1.hok.fresh (Z10 _))⟩
 · obtain ⟨its,r',pl,hz⟩:=I.tuple hq
   exact call_tuple_same pl ⟨.ref p,H,I,rfl,q⟩
noncomputable def tyV (K:PySem.W.Frag) (T:String) (x:V) (H:Hp):Prop:=match x with
 | .str _=>T="str"
 | .int _=>T="int"
 | .ref p=>(T="list"/\∃ xs,SqL K H p xs)∨(T="tuple"/\∃ o,K.lookup p=some o/\o.cls=.type "tuple"/\o.dict=none) ∨
     (T="dict"/\((∃ kvs,H p=some (.dK kvs))∨∃ kvs,H p=some (.dT kvs)))∨(T="set"/\∃ S n,H p=some (.set S n))
 | _=>False
theorem tyV_is {pins:List (Addr × Obj)} {σ:St} {H:Hp} {s:Shared} {T:String} {x:V} {v:Value} (I:Inv X pins σ H s) (r:RelV x v) (ty:tyV X.K T x H) :
   s.TypeIs v T/\∀ a,v=.ref a->∃ ob,s.heap.get? a=some ob/\ob.dict=none:=by
 cases x with
 | str z=>
   obtain ⟨t,rfl⟩:=r
   cases (show T="str" from ty)
   exact ⟨typeIs_str s z t,fun _ e=>nomatch e⟩
 | int i=>
   obtain ⟨t,rfl⟩:=r
   cases (show T="int" from ty)
   exact ⟨typeIs_int s i t,fun _ e=>nomatch e⟩
 | ref p=>
   cases r
   rcases ty with ⟨rfl,xs,hq⟩ | ⟨rfl,o,hk,hc,hd⟩ | ⟨rfl,hk⟩ | ⟨rfl,S,n,hk⟩
   · obtain ⟨its,_,pl,_⟩:=I.list hq
     refine ⟨pl.isList.typeIs,fun a e=>?_⟩
     cases e
     obtain ⟨o,n,e,c,hd,_⟩:=pl
     exact ⟨o,e,hd⟩
   · refine ⟨⟨o,I.kIn p o hk,hc⟩,fun a e=>?_⟩
     cases e
     exact ⟨o,I.kIn _ o hk,hd⟩
   · have z:∃ o,s.heap.get? p=some o/\o.ExactDict:=by
       rcases hk with ⟨kvs,hk⟩ | ⟨kvs,hk⟩
       · obtain ⟨_,_,_,_,o,_,_,e,ex,_⟩:=I.hok p _ hk
         exact ⟨o,e,ex⟩
       · obtain ⟨_,_,_,_,o,_,_,e,ex,_⟩:=I.hok p _ hk
         exact ⟨o,e,ex⟩
     obtain ⟨o,e,ex⟩:=z
     refine ⟨⟨o,e,ex.1⟩,fun a e2=>?_⟩
     cases e2
     exact ⟨o,e,ex.2.1⟩
   · obtain ⟨o,_,_,_,e,ex,_⟩:=I.hok p _ hk
     refine ⟨⟨o,e,ex.1⟩,fun a e2=>?_⟩
     cases e2
     exact ⟨o,e,ex.2.1⟩
 | _=>exact False.elim ty
noncomputable def tBM0 (K:PySem.W.Frag) (T:String) (r:V->List V->Hp->VK->Prop) (to:TE):TE:=fun σ H Q=>to σ H fun x H1=>tyV K T x H1/\r x [] H1 Q
noncomputable def tBM (K:PySem.W.Frag) (T:String) (r:V->List V->Hp->VK->Prop) (to:TE) (t:TA):TE:=fun σ H Q=>to σ H fun x H1=>tyV K T x H1/\t σ H1 fun xs H2=>r x xs H2 Q
variable {o e:Expr} {es:List Expr} {to:TE} {t:TA} {name:Str} {apos cpos:Pos} {T id:String} {r:V->List V->Hp->VK->Prop}
theorem pe_bm0 (pa:PlainAttrs T) (slot:Slot T name id) (hty:typeOf (.builtin id)=pure (.type "method_descriptor")) (hm:MtR X id r) (ho:PE X o to)
   (hbase:attributeBase o name X.env (eval o X.env)=eval o X.env:=by rfl) (hline:(apos.endLine == cpos.line)=true:=by rfl):PE X (.Call (.Attribute o name apos) [] [] cpos) (tBM0 X.K T r to):=by
 intro pins s σ H Q I h
 refine wpAny_Call_method0_late hbase hline (thn (ho pins s σ H _ I h) fun v s1 ⟨x,H1,I1,r1,ty,q1⟩=>?_)
 obtain ⟨h1,h2⟩:=tyV_is I1 r1 ty
 exact ⟨T,id,pa,slot,hty,h1,h2,Calls.callWith_builtin rfl (PySem.evalArgs_none (hm pins s1 σ H1 x [] v [] Q I1 r1 .nil q1))⟩
theorem pe_bm (pa:PlainAttrs T) (slot:Slot T name id) (hty:typeOf (.builtin id)=pure (.type "method_descriptor")) (hm:MtR X id r) (ho:PE X o to) (ha:PA X (e::es) t)
   (hbase:attributeBase o name X.env (eval o X.env)=eval o X.env:=by rfl)
   (hfew:((backTo cpos (starEach (e::es) X.env)).all (fun x=>!x.1) && (backToKw cpos (keywordEach [] X.env)).all (fun x=>x.1.isSome)
     && decide ((e::es).length+([]:List Keyword).length+(if ([]:List Keyword).isEmpty then 0 else 1) < 30))=true:=by rfl)
   (hline:(apos.endLine == cpos.line)=true:=by rfl) (hs:starEach (e::es) X.env=(false,eval e X.env)::starEach es X.env:=by rfl) (hplain:(backTo cpos (starEach es X.env)).any (·.1)=false:=by rfl) :
   PE X (.Call (.Attribute o name apos) (e::es) [] cpos) (tBM X.K T r to t):=by
 intro pins s σ H Q I h
 refine wpAny_Call_method_late hbase hfew hline rfl (thn (ho pins s σ H _ I h) fun v s1 ⟨x,H1,I1,r1,ty,q1⟩=>?_)
 obtain ⟨h1,h2⟩:=tyV_is I1 r1 ty
 refine ⟨T,id,pa,slot,hty,h1,h2,?_⟩
 have hA:=ha cpos pins s1 σ H1 _ I1 q1
 rw [hs] at hA ⊢
 refine Calls.callWith_builtin (by show (false || (backTo cpos (starEach es X.env)).any (·.1))=false; rw [hplain] <;> rfl) (Calls.evalArgs_plain ?_)
 exact thn hA fun us s2 ⟨vs,H2,I2,r2,q2⟩=>hm pins s2 σ H2 x vs v us Q I2 r1 r2 q2
end
noncomputable def MtM (X:Cx) (id:String) (r:V->List V->Hp->VK->Prop):Prop:=
 ∀ (pins:List (Addr × Obj)) (s:Shared) (σ:St) (H:Hp) (x:V) (xs:List V) (v:Value) (us:List Value) (Q:VK),Inv X pins σ H s->RelV x v->Vals xs us->r x xs H Q ->
   wpAny (model X.prog X.w) X.A (call (.builtin id) (v::us)) (EP X pins σ Q) X.xe s
theorem Vals.one:∀ {x:V} {us:List Value},Vals [x] us->∃ u,us=[u]/\RelV x u:=by intro x us h; cases h with | cons r h=>cases h; exact ⟨_,rfl,r⟩
theorem Vals.zero:∀ {us:List Value},Vals [] us->us=[]:=by intro us h; cases h; rfl
theorem Vals.dropLast {xs:List V} {us:List Value} (h:Vals xs us):Vals xs.dropLast us.dropLast:=by
 induction h with
 | nil=>exact .nil
 | cons r t ih=>
   cases t with
   | nil=>exact .nil
   | cons q t'=>exact .cons r ih
theorem Vals.rep {xs:List V} {us:List Value} (h:Vals xs us):∀ k:Nat,Vals (List.replicate k xs).flatten (List.replicate k us).flatten
 | 0=>.nil
 | k+1=>by
   rw [Z22,Z22,Z39,Z39]
   exact Vals.append h (Vals.rep h k)
theorem erase_last {α:Type} (l:List α):l.eraseIdx (l.length - 1)=l.dropLast:=by
 induction l with
 | nil=>rfl
 | cons a r ih=>
   cases r with
   | nil=>rfl
   | cons b r=>
     have e:(a::b::r).length - 1=((b::r).length - 1)+1:=by
       have h1:(a::b::r).length=r.length+2:=rfl
       have h2:(b::r).length=r.length+1:=rfl
       omega
     rw [e,List.eraseIdx_cons_succ,ih]
     all_goals rfl
theorem foldl_rep (its:List Value):∀ (k:Nat) (acc:List Value),
   List.foldl (fun x1 x2=>x1++x2) acc.toArray (List.replicate k its.toArray)=(acc++(List.replicate k its).flatten).toArray
 | 0,acc=>by simp
 | k+1,acc=>by
   have e:acc.toArray++its.toArray=(acc++its).toArray:=by simp
   have e2:(acc++its)++(List.replicate k its).flatten=acc++(List.replicate (k+1) its).flatten:=by
     rw [Z22,Z39,List.append_assoc]
   rw [<- e2,<- foldl_rep its k (acc++its),<- e,Z22,List.foldl_cons]
section
variable {X:Cx} {pins:List (Addr × Obj)} {σ:St} {H:Hp} {s:Shared} {l b:Addr} {xs ys zs:List V}
theorem Inv.lset {its its':List Value} {n:Nat} {f:Array Value->Array Value} {t':Nat} (I:Inv X pins σ H s) (hH:H l=some (.lst xs))
   (e:s.heap.get? l=some { cls:=.type "list",data:=.seq its.toArray n }) (hf:f its.toArray=its'.toArray) (hv:Vals ys its') (hz:ys.length<=sizeLine) :
   Inv X pins σ (upd H l (.lst ys)) { s with heap:=s.heap.update l (Obj.mapSeq f),toks:=t' }:=by
 have q:=PySem.IsL.update e f
 rw [hf] at q
 refine I.write (x:=l) (e:=l) (by rw [hH]; exact trivial) (.inl rfl) (fun b' u hb hu=>(Heap.get?_update_other s.heap (Obj.mapSeq f) (Ne.symm hb)).trans hu) ⟨_,q⟩ ?_
 exact ⟨hz,its',_,hv,q⟩
theorem Inv.lnew {its:List Value} {t':Nat} (I:Inv X pins σ H s) (hv:Vals ys its) (hz:ys.length<=sizeLine) :
   Inv X pins σ (upd H s.heap.objs.size (.lst ys)) { s with heap:=s.heap.push { cls:=.type "list",data:=.seq its.toArray },toks:=t' }:=
 I.laid (fun _ _ q=>Z7 _ q) (Z10 _) ⟨hz,its,0,hv,Z20 _ rfl⟩
theorem Inv.fresh (I:Inv X pins σ H s):H s.heap.objs.size=none:=I.hok.fresh (Z10 _)
theorem Inv.lstM (I:Inv X pins σ H s) (hH:H l=some (.lst xs)):xs.length<=sizeLine/\∃ (its:List Value) (n:Nat),Vals xs its/\xs.length=its.length/\s.heap.get? l=some { cls:=.type "list",data:=.seq its.toArray n }:=by
 obtain ⟨z,its,n,r,e⟩:=I.hok l _ hH
 exact ⟨z,its,n,r,r.length,e⟩
theorem notLongL {n:Nat} (h:n<=sizeLine):Builtin.List.listTooLong n=false:=by
 unfold Builtin.List.listTooLong
 exact decide_eq_false (by omega)
end
section
variable {X:Cx}
noncomputable def rAppend:V->List V->Hp->VK->Prop:=fun x vs H Q=>∃ l xs y,x=.ref l/\vs=[y]/\H l=some (.lst xs)/\xs.length < sizeLine/\Q .non (upd H l (.lst (xs++[y])))
theorem mt_append:MtM X "list.append" rAppend:=by
 intro pins s σ H x vs v us Q I rx rv h
 obtain ⟨l,xs,y,rfl,rfl,hH,hz,q⟩:=h
 cases rx
 obtain ⟨u,rfl,ru⟩:=rv.one
 obtain ⟨z,its,n,r,hl,e⟩:=I.lstM hH
 refine call_meets F.slot_list_append ⟨_,e,rfl⟩ F.entry_list_append (F.args_list_append_2 _ _) (PySem.list_append l its.toArray n u (by rw [Z4]; omega)) ⟨e,?_⟩
 refine ⟨.non,_,I.lset (its':=its++[u]) hH e (by simp) (r.append (.cons ru .nil)) ?_,rfl,q⟩
 rw [Z17,List.length_singleton]
 omega
noncomputable def rPop:V->List V->Hp->VK->Prop:=fun x vs H Q=>∃ l xs y,x=.ref l/\vs=[]/\H l=some (.lst xs)/\xs[xs.length - 1]?=some y/\Q y (upd H l (.lst xs.dropLast))
theorem mt_pop:MtM X "list.pop" rPop:=by
 intro pins s σ H x vs v us Q I rx rv h
 obtain ⟨l,xs,y,rfl,rfl,hH,hy,q⟩:=h
 cases rx
 have hus:=rv.zero
 subst hus
 obtain ⟨z,its,n,r,hl,e⟩:=I.lstM hH
 obtain ⟨u,hu,ru⟩:=r.get hy
 have hy':its.toArray[its.toArray.size - 1]?=some u:=by
   show its.toArray[its.length - 1]?=some u
   rw [<- Array.getElem?_toList,<- hl]
   exact hu
 refine call_meets F.slot_list_pop ⟨_,e,rfl⟩ F.entry_list_pop (F.args_list_pop_1 _) (MeetsSeq.list_pop_last l its.toArray n u hy' (by rw [Z4]; omega)) ⟨e,?_⟩
 refine ⟨y,_,I.lset (its':=its.dropLast) hH e ?_ r.dropLast ?_,ru,q⟩
 · show its.toArray.eraseIdxIfInBounds (its.toArray.size - 1)=its.dropLast.toArray
   rw [Z4,List.eraseIdxIfInBounds_toArray,erase_last]
 · rw [List.length_dropLast]
   omega
noncomputable def rCat:R2:=fun x y H Q=>∃ l b xs zs,x=.ref l/\y=.ref b/\H l=some (.lst xs)/\H b=some (.lst zs)/\xs.length+zs.length<=sizeLine/\∀ p,H p=none->Q (.ref p) (upd H p (.lst (xs++zs)))
theorem op_cat:OpR X (binaryOp .Add) rCat:=by
 intro pins s σ H x y v u Q I rx ry h
 obtain ⟨l,b,xs,zs,rfl,rfl,hH,hB,hz,q⟩:=h
 cases rx
 cases ry
 obtain ⟨z,its,n,r,hl,e⟩:=I.lstM hH
 obtain ⟨z2,its2,n2,r2,hl2,e2⟩:=I.lstM hB
 refine PySem.P.add_list e e2 ?_ (by rw [Z4,Z4]; omega)
 have ea:its.toArray++its2.toArray=(its++its2).toArray:=by simp
 rw [ea]
 exact ⟨.ref _,_,I.lnew (t':=s.toks) (r.append r2) (by rw [Z17]; omega),rfl,q _ I.fresh⟩
theorem len_rep {α:Type} (xs:List α) (k:Nat):(List.replicate k xs).flatten.length=k * xs.length:=by
 induction k with
 | zero=>simp
 | succ k ih=>rw [Z22,Z39,Z17,ih,Nat.succ_mul,Nat.add_comm]
end
end L2
namespace Att
open PySem PySem.W PySem.Calls PyProof.Rows
theorem ints_of_wellAll {P:Params} {h:Heap}:∀ (ns:List Int) (vs:List Value),WellAll P h vs (ns.map WData.int)->IntsAre vs ns:=by
 intro ns
 induction ns with
 | nil=>
   intro vs w
   rw [List.map_nil] at w
   cases w
   exact .nil
 | cons n ns ih=>
   intro vs w
   rw [Z6] at w
   cases w with
   | cons a b=>
     cases a
     exact .cons _ _ (ih _ b)
theorem script_of {l:OpenLaw} {n:Nat} (hn:l.most=some n) {P:Params} {h:Heap} {args:List WData} {vals:List Value}
   (hpre:l.row.toRowW.claim.pre args=true) (hwl:WellAll P h vals args) :
   ∃ a vs ns,vals=[Value.ref a]/\args=[WData.list (ns.map WData.int)]/\h.get? a=some { cls:=.type "list",data:=.seq vs.toArray }/\IntsAre vs ns/\ns.length<=n:=by
 have hsh:WShape.hasAll [] args [.list .int]=true:=(pre_splitW hpre).1
 have hc:l.pre.holds [] { args:=args }=true:=(pre_splitW hpre).2
 obtain ⟨d,r,rfl,h1,h2⟩:=hasAllW_cons hsh
 obtain rfl:=hasAllW_nil h2
 obtain ⟨xs,rfl,h3⟩:=hasW_list h1
 obtain ⟨ns,rfl⟩:=items_int h3
 have hlen:ns.length<=n:=by
   unfold OpenLaw.pre at hc
   have h4:(WTm.not (.lt (.lit (.int (n:Int))) (.len (.arg 0)))).holds [] { args:=[.list (ns.map .int)] }=true:=by
     have h4:=(holds_andW hc).1
     rw [hn] at h4
     exact h4
   have h5:=condW_of h4 (w_not (w_lt w_lit (w_len_list (w_arg rfl))))
   rw [Z2] at h5
   refine Nat.le_of_not_lt fun q=>?_
   have q':(n:Int) < ((ns.length:Nat):Int):=by omega
   first
     | (rw [decide_eq_true q'] at h5; exact absurd h5 (by decide))
     | (simp at h5; omega)
 cases hwl with
 | cons w1 w2=>
   cases w2
   cases w1 with
   | list ho hall=>exact ⟨_,_,ns,rfl,rfl,ho,ints_of_wellAll ns _ hall,hlen⟩
theorem post_true (l:OpenLaw) (args:List WData):l.row.toRowW.claim.post args (.bool true) args=true:=
 postW_of (r:=l.row.toRowW) (X:=(true == true))
   (show WShape.has [] (.bool true) .bool=true by first | rfl | decide | simp [WShape.has,WShape.arms,WShape.armsAll])
   (show (WTm.eq .res (.lit (.bool true))).value [] { args:=args,res:=some (.bool true),after:=args }=some (.bool (true == true)) from w_eq_bool (w_res rfl) w_lit) rfl
theorem attach_call {l:OpenLaw} {n:Nat} {q:Program} {loose:List Str} {XP:(Str->Option Value)->Heap->Prop} {YP:World->Heap->Prop} {d:DefRec}
   (hn:l.most=some n) (hdf:d.params.defaults=[])
   (call:∀ (w:World) (s₀ s₁:Shared) (mg mb:Str->Option Value) (fa:Addr) (o:Obj) (pm cd doc:Value) (a:Addr) (vs:List Value) (ns:List Int),
     Ground q loose [] XP w s₀ mg mb s₁.heap->YP w s₁.heap ->
     s₁.heap.get? fa=some o->o.data=.func (docDef d.name d.params d.body d.scope pm cd doc)->s₁.heap.CodeRec cd d.name->mg d.name=some (.ref fa) ->
     s₁.heap.get? a=some { cls:=.type "list",data:=.seq vs.toArray }->IntsAre vs ns->ns.length<=n->s₁.gens=#[] ->
     codeAny (model l.prog w) callerA (.call (.ref fa) ⟨[.ref a],[]⟩) (fun r s'=>r=.ok (.ret (.bool true))/\OldK s₁.heap s'.heap/\s'.os=s₁.os/\AllBare s'.gens) s₁) :
   WalkO q loose XP YP l.row.toRowW d [] (fun f vs=>PySem.call f vs):=by
 intro w s₀ s₁ mg mb G Y fa o pm cd doc dV kV ho hd hcd hD hmg hg args vals as hpre hlay hrd hwl hlo
 obtain rfl:dV=.none:=Dflts.none hD hdf
 obtain rfl:kV=.none:=Dflts.noKw hD
 obtain ⟨a,vs,ns,rfl,rfl,hobj,hints,hlen⟩:=script_of hn hpre hwl
 refine enter_call (codeAny_mono (call w s₀ s₁ mg mb fa o pm cd doc a vs ns G Y ho (fd_plain hd) hcd hmg hobj hints hlen hg) fun r s' hq=>?_)
 obtain ⟨rfl,h2,h3,h4⟩:=hq
 exact ⟨.inl ⟨.bool true,.bool true,[],rfl,fun _=>rfl,.bool true,post_true l _,fun _=>⟨List.Pairwise.nil,fun _ hm=>(nomatch hm)⟩⟩,h2,h3,h4⟩
end Att
namespace L2
open PySem PySem.Spec PyProof.Rows
theorem vals_ints:∀ {vs:List Value} {ns:List Int},IntsAre vs ns->Vals (ns.map V.int) vs
 | _,_,.nil=>.nil
 | _,_,.cons n t h=>.cons ⟨t,rfl⟩ (vals_ints h)
noncomputable def Only (H:Hp):Prop:=∀ b,H b=none∨∃ o xs,H b=some (.frz o (.lst xs))
theorem law_call {P:Program} {w:World} {K:PySem.W.Frag} {mg mb:Str->Option Value} {CX:CXT} {k:Nat} {fa a:Addr} {fd:FuncData} {x:Str} {sp:Sp} {s₁:Shared} {vs:List Value} {ns:List Int}
   (KX:K.In s₁.heap) (hns:s₁.heap.Ns mainGlobals mg) (hb:s₁.heap.Ns builtinsNs mb) (hbb:∀ x:Str,x ≠ "__name__"->mb x=bootBuiltins x) (hlim:s₁.heap.NoLimit) (hg:s₁.gens=#[])
   (ha:s₁.heap.get? a=some { cls:=.type "list",data:=.seq vs.toArray }) (hi:IntsAre vs ns) (hl:ns.length<=sizeLine) (hr:Room k callerA)
   (F:∀ base:Heap,K.In base->base.Ns mainGlobals mg->FnOk P w K mg base CX k fa fd [x] sp) (hbind:∀ (s:Shared) (u:Value),BindsTo s fd ⟨[u],[]⟩ [(x,u)])
   (hsp:∀ H:Hp,Only H->SqL K H a (ns.map V.int)->sp [.ref a] H (fun v _=>v=.bl true) fun _ _ _=>False)
   (hCX:∀ H e s',CX [] H s₁ (fun _ _ _=>False) e s'->False) :
   codeAny (model P w) callerA (.call (.ref fa) ⟨[.ref a],[]⟩) (fun r s'=>r=.ok (.ret (.bool true))/\OldK s₁.heap s'.heap/\s'.os=s₁.os/\AllBare s'.gens) s₁:=by
 have rv:=vals_ints hi
 have lenV:=hi.length
 have core:∀ H:Hp,Only H->SqL K H a (ns.map V.int)->HOk P w H s₁.heap->(∀ b,H b ≠ none->b=a)->(H a ≠ none->K.lookup a=none) ->
     codeAny (model P w) callerA (.call (.ref fa) ⟨[.ref a],[]⟩) (fun r s'=>r=.ok (.ret (.bool true))/\OldK s₁.heap s'.heap/\s'.os=s₁.os/\AllBare s'.gens) s₁:=by
   intro H hO hS hok hA hK
   have base_of:∀ {b:Addr} {o:Obj},s₁.heap.get? b=some o->H b=none->(hidT s₁.heap H).get? b=some o:=fun e n=>hidT_get e n
   have noA:∀ {b:Addr} {o:Obj} {es:Array DictEntry} {ep:Nat},s₁.heap.get? b=some o->o.data=.dict es ep->H b=none:=fun {b o es ep} e d=>by
     cases q:H b with
     | none=>rfl
     | some u=>
       have e':b=a:=hA b (by rw [q]; simp)
       subst e'
       rw [ha] at e; cases e
       have d':Data.seq vs.toArray _=Data.dict es ep:=d
       cases d'
   have nsK:∀ {b:Addr} {m:Str->Option Value},s₁.heap.Ns b m->(hidT s₁.heap H).Ns b m:=fun {b m} ⟨o,es,ep,e,d,r⟩=>⟨o,es,ep,base_of e (noA e d),d,r⟩
   have hKb:K.In (hidT s₁.heap H):=fun b o e=>base_of (KX b o e) (by
     cases q:H b with
     | none=>rfl
     | some u=>
       have e':b=a:=hA b (by rw [q]; simp)
       subst e'
       rw [hK (by rw [q]; simp)] at e; cases e)
   have hM:Mod K mg (hidT s₁.heap H):=⟨hKb,nsK hns,⟨mb,nsK hb,hbb⟩,let ⟨mc,h1,h2⟩:=hlim; ⟨mc,nsK h1,h2⟩⟩
   have e0:Env0 P w K mg (hidT s₁.heap H) callerA [] s₁ H:=⟨rfl,hM,fun b o e=>of_hidT e,Nat.le_of_eq (hidT_size _ _),trivial,fun b hb=>absurd (show b ∈ ([]:List Addr) from hb) (by simp),hok,.of_eq hg⟩
   refine codeAny_mono ((F _ hKb (nsK hns)).run callerA [] s₁ H ⟨[.ref a],[]⟩ [.ref a] [.ref a] _ _ hr e0 (hbind s₁ (.ref a)) (.cons rfl .nil) (hsp H hO hS)) fun r s' h=>?_
   cases r with
   | error e=>exact (hCX H e s' h).elim
   | ok fl=>
     cases fl with
     | next=>exact False.elim h
     | brk=>exact False.elim h
     | cont=>exact False.elim h
     | ret u=>
       obtain ⟨v,H',os,bare,un,hok',r',q⟩:=h
       have q':v=.bl true:=q
       subst q'
       obtain rfl:u=Value.bool true:=r'
       refine ⟨rfl,OldK.of_keep fun b o e=>?_,os,bare⟩
       cases q:H b with
       | none=>exact un.keep b o e q (by intro z; exact absurd (show b ∈ ([]:List Addr) from z) (by simp)) (by simp)
       | some u=>
         rcases hO b with z | ⟨ob,xs,z⟩
         · rw [q] at z; cases z
         · have z2:=un.frzs b ob _ z
           obtain ⟨e1,_⟩:=hok b _ z
           obtain ⟨e2,_⟩:=hok' b _ z2
           rw [e] at e1; cases e1
           exact e2
 cases hk:K.lookup a with
 | some o=>
   have e:=KX a o hk
   rw [ha] at e
   cases e
   refine core (fun _=>none) (fun _=>.inl rfl) (.inr ⟨_,vs.toArray,_,hk,rfl,rfl,rfl,by rw [Z4,lenV]; exact hl,by simpa using rv⟩) (fun b u z=>by have z':(none:Option HO)=some u:=z; cases z') (fun b z=>absurd rfl z) fun z=>absurd rfl z
 | none=>
   refine core (fun b=>if b=a then some (.frz { cls:=.type "list",data:=.seq vs.toArray } (.lst (ns.map V.int))) else none) (fun b=>?_) (.inl (.inr ⟨{ cls:=.type "list",data:=.seq vs.toArray },if_pos rfl⟩)) (fun b u z=>?_) (fun b z=>?_) fun _=>hk
   · by_cases hb:b=a
     · exact .inr ⟨_,_,if_pos hb⟩
     · exact .inl (if_neg hb)
   · by_cases hb:b=a
     · have z':=(if_pos hb).symm.trans z
       cases z'
       subst hb
       exact ⟨ha,by rw [Z2]; exact hl,vs,_,rv,ha⟩
     · have z':=(if_neg hb).symm.trans z
       cases z'
   · by_cases hb:b=a
     · exact hb
     · exact absurd (if_neg hb) z
theorem walk_of {l:PySem.W.OpenLaw} {n k:Nat} {q:Program} {loose:List Str} {XP:(Str->Option Value)->Heap->Prop} {YP:World->Heap->Prop} {d:DefRec} {K:Params->PySem.W.Frag} {CX:World->CXT} {sp:World->Sp} {x:Str}
   (hn:l.most=some n) (hn2:n<=sizeLine) (hdf:d.params.defaults=[]) (hr:Room k callerA)
   (hY:∀ (w:World) (h:Heap),YP w h->(K w.params).In h)
   (F:∀ (w:World) (mg:Str->Option Value) (fa:Addr) (h:Heap),(K w.params).In h->h.Ns mainGlobals mg->mg d.name=some (.ref fa) ->
     ∃ fd:FuncData,(∀ (s:Shared) (u:Value),BindsTo s fd ⟨[u],[]⟩ [(x,u)]) /\
       ∀ base:Heap,(K w.params).In base->base.Ns mainGlobals mg->FnOk l.prog w (K w.params) mg base (CX w) k fa fd [x] (sp w))
   (hsp:∀ (w:World) (H:Hp) (a:Addr) (ns:List Int),ns.length<=n->Only H->SqL (K w.params) H a (ns.map V.int)->sp w [.ref a] H (fun v _=>v=.bl true) fun _ _ _=>False)
   (hCX:∀ (w:World) (H:Hp) (s:Shared) (e:Value) (s':Shared),CX w [] H s (fun _ _ _=>False) e s'->False) :
   PySem.W.WalkO q loose XP YP l.row.toRowW d [] (fun f vs=>PySem.call f vs):=by
 refine Att.attach_call hn hdf fun w s₀ s₁ mg mb fa o pm cd doc a vs ns G Y ho hd hcd hmg hobj hints hlen hg=>?_
 have KX:=hY w _ Y
 obtain ⟨fd,hb,hF⟩:=F w mg fa _ KX G.T.g hmg
 exact law_call KX G.T.g G.T.b G.T.builtins G.T.nolimit hg hobj hints (Z24 hlen hn2) hr hF hb (fun H hO hS=>hsp w H a ns hlen hO hS) fun H e s'=>hCX w H s₁ e s'
noncomputable def defArgs (s:Stmt):Arguments:=match s with
 | .FunctionDef _ a _ _ _ _ _ _ _ _=>a
 | _=>{ posonlyargs:=[],args:=[],vararg:=none,kwonlyargs:=[],kw_defaults:=[],kwarg:=none,defaults:=[] }
noncomputable def defBody (s:Stmt):List Stmt:=match s with
 | .FunctionDef _ _ b _ _ _ _ _ _ _=>b
 | _=>[]
noncomputable def defScope (s:Stmt):Scope:=match s with
 | .FunctionDef _ _ _ _ _ _ sc _ _ _=>sc
 | _=>{ kind:=.function,names:=[],isGenerator:=false,isCoroutine:=false }
noncomputable abbrev CX0:CXT:=fun _ _ _ _ _ _=>False
noncomputable abbrev E0:XK:=fun _ _ _=>False
theorem pass0 {X:Cx}:Passes CX0 X E0:=fun _ _ _ _ _ _ _ h=>h.elim
structure Fun (K:PySem.W.Frag) (x qual:Str) (st:Stmt) (f:Addr) (fd:FuncData):Prop where
 ex:∃ (oc:Value) (od:Option Addr) (kV doc pm:Value) (an:Option Addr) (cdv ct:Value) (osl:Array (Option Value)),
   fd=PySem.W.fnOf x qual (defArgs st) (defBody st) (defScope st) .none kV doc pm an cdv ct/\K.lookup f=some ⟨oc,od,.func fd,osl⟩/\PySem.W.codeIn K cdv qual=true
 kp:PySem.W.keepIn K (.ref f)=true
section
variable {P:Program} {w:World} {K:PySem.W.Frag} {mg:Str->Option Value} {base:Heap}
theorem Fun.ok {x qual:Str} {st:Stmt} {f:Addr} {fd:FuncData} {N ps:List Str} {k:Nat} {sp:Sp} (F:Fun K x qual st f fd) (S:FnScope N ps (defScope st)) (len:∀ vs H Q E,sp vs H Q E->vs.length=ps.length)
   (hbody:∀ (cdv:Value) (A:Around) (outer:List Env) (s:Shared) (H:Hp) (vs:List V) (Q:VK) (E:XK),Room k (A.deeper (envOfC qual (defScope st) s.heap.objs.size f cdv))->sp vs H Q E ->
     ∃ t,PSs (cxOf CX0 P w K mg base N qual (defScope st) f cdv A outer s H E).nox (defBody st) t/\t { nx:=fun _ H'=>Q .non H',rt:=Q } (start N vs) H):FnOk P w K mg base CX0 (k+1) f fd ps sp:=by
 obtain ⟨oc,od,kV,doc,pm,an,cdv,ct,osl,rfl,lk,hcd⟩:=F.ex
 refine fn_of lk hcd S len fun A outer s H vs Q E hr hsp=>?_
 obtain ⟨t,h,q⟩:=hbody cdv A outer s H vs Q E hr hsp
 exact ⟨t,h.nox,q⟩
theorem Fun.binds {x qual:Str} {st:Stmt} {f:Addr} {fd:FuncData} {ps:List Str} (F:Fun K x qual st f fd)
   (h:∀ (kV doc pm:Value) (an:Option Addr) (cdv ct:Value) (us:List Value),us.length=ps.length->bindArgs (PySem.W.fnOf x qual (defArgs st) (defBody st) (defScope st) .none kV doc pm an cdv ct) ⟨us,[]⟩=pure (ps.zip us)):Binds K fd ps []:=by
 obtain ⟨oc,od,kV,doc,pm,an,cdv,ct,osl,rfl,lk,hcd⟩:=F.ex
 exact .all (h kV doc pm an cdv ct)
theorem fun_mk {x qual:Str} {st:Stmt} {f:Addr} {oc:Value} {od an:Option Addr} {osl:Array (Option Value)} {kV doc pm cdv ct:Value} (l:K.lookup f=some ⟨oc,od,.func (PySem.W.fnOf x qual (defArgs st) (defBody st) (defScope st) .none kV doc pm an cdv ct),osl⟩)
   (c:PySem.W.codeIn K cdv qual=true) (k:PySem.W.keepIn K (.ref f)=true):Fun K x qual st f (PySem.W.fnOf x qual (defArgs st) (defBody st) (defScope st) .none kV doc pm an cdv ct):=⟨⟨oc,od,kV,doc,pm,an,cdv,ct,osl,rfl,l,c⟩,k⟩
end
section
variable {X:Cx}
theorem pv (i:Nat) {x:Str} {pos:Pos} (hN:X.N[i]?=some x:=by rfl) (hv:Vis X.env.scope x:=by first | exact Or.inl rfl | exact Or.inr (Or.inl rfl) | exact Or.inr (Or.inr rfl)) (hd:(x == ("__debug__":Str))=false:=by decide)
   (hcd:(x == ("__classdict__":Str))=false:=by decide):PE X (.Name x pos) (tVar i):=pe_var hN hv hd hcd
end
theorem iteF {A B:Prop} (h:B):if false=true then A else B:=by
 rw [if_neg Z28]
 exact h
theorem iteT {A B:Prop} (h:A):if true=true then A else B:=by
 rw [if_pos rfl]
 exact h
noncomputable def Same (H H':Hp):Prop:=∀ b o,H b=some o->H' b=some o
theorem Same.refl (H:Hp):Same H H:=fun _ _ h=>h
theorem Same.seq {K:PySem.W.Frag} {H H':Hp} {a:Addr} {xs:List V} (e:Same H H') (h:SqL K H a xs):SqL K H' a xs:=by
 rcases h with (h | ⟨o,h⟩) | h
 · exact .inl (.inl (e _ _ h))
 · exact .inl (.inr ⟨o,e _ _ h⟩)
 · exact .inr h
section
variable {κ:Type} [DecidableEq κ]
noncomputable def valV (kvs:List (κ × V)) (k:κ):Option V:=(kvs.find? fun kv=>decide (kv.1=k)).map (·.2)
noncomputable def putK (kvs:List (κ × V)) (k:κ) (v:V):List (κ × V):=
 if (kvs.any fun kv=>decide (kv.1=k))=true then kvs.map (fun kv=>if kv.1=k then (kv.1,v) else kv) else kvs++[(k,v)]
theorem valV_pos {p:κ × V} {r:List (κ × V)} {k:κ} (e:p.1=k):valV (p::r) k=some p.2:=by simp [valV,List.find?_cons,e]
theorem valV_neg {p:κ × V} {r:List (κ × V)} {k:κ} (e:¬ p.1=k):valV (p::r) k=valV r k:=by simp [valV,List.find?_cons,e]
theorem valV_any (k:κ):∀ kvs:List (κ × V),(kvs.any fun kv=>decide (kv.1=k))=(valV kvs k).isSome
 | []=>rfl
 | p::r=>by
   rw [List.any_cons]
   by_cases e:p.1=k
   · simp only [valV_pos e,decide_eq_true e,Bool.true_or,Option.isSome_some]
   · rw [valV_neg e,decide_eq_false e,Bool.false_or]; exact valV_any k r
theorem length_putK (kvs:List (κ × V)) (k:κ) (v:V):(putK kvs k v).length<=kvs.length+1:=by
 unfold putK
 split
 · rw [Z2]; omega
 · rw [Z17,Z58,List.length_nil]; omega
theorem RelO.isSome_eq {o:Option V} {u:Option Value} (r:RelO o u):o.isSome=u.isSome:=by
 cases o with
 | none=>cases u with
   | none=>rfl
   | some _=>exact (show False from r).elim
 | some _=>cases u with
   | none=>exact (show False from r).elim
   | some _=>rfl
theorem KV.val {kvs:List (κ × V)} {vs:List (κ × Value)} (r:KV kvs vs) (k:κ):RelO (valV kvs k) (valueAt vs k):=by
 unfold KV at r
 induction r with
 | nil=>exact True.intro
 | @cons p q ps qs h t ih=>
   obtain ⟨h1,h2⟩:=h
   by_cases e:p.1=k
   · have e':q.1=k:=h1.symm.trans e
     have b:valueAt (q::qs) k=some q.2:=by simp [valueAt,List.find?_cons,e']
     rw [valV_pos e,b]; exact h2
   · have e':¬ q.1=k:=fun z=>e (h1.trans z)
     have b:valueAt (q::qs) k=valueAt qs k:=by simp [valueAt,List.find?_cons,e']
     rw [valV_neg e,b]; exact ih
theorem KV.any {kvs:List (κ × V)} {vs:List (κ × Value)} (r:KV kvs vs) (k:κ):(kvs.any fun kv=>decide (kv.1=k))=vs.any fun kv=>decide (kv.1=k):=by
 unfold KV at r
 induction r with
 | nil=>rfl
 | cons h t ih=>rw [List.any_cons,List.any_cons,ih,h.1]
theorem KV.repl {kvs:List (κ × V)} {vs:List (κ × Value)} (r:KV kvs vs) (k:κ) {y:V} {u:Value} (ry:RelV y u) :
   KV (kvs.map fun kv=>if kv.1=k then (kv.1,y) else kv) (vs.map fun kv=>if kv.1=k then (kv.1,u) else kv):=by
 unfold KV at r ⊢
 induction r with
 | nil=>exact .nil
 | @cons p q ps qs h t ih=>
   rw [Z6,Z6]
   refine .cons ?_ ih
   obtain ⟨h1,h2⟩:=h
   by_cases e:p.1=k
   · rw [if_pos e,if_pos (h1.symm.trans e)]; exact ⟨h1,ry⟩
   · rw [if_neg e,if_neg (fun z=>e (h1.trans z))]; exact ⟨h1,h2⟩
theorem KV.put {kvs:List (κ × V)} {vs:List (κ × Value)} (r:KV kvs vs) (k:κ) {y:V} {u:Value} (ry:RelV y u):KV (putK kvs k y) (stored vs k u):=by
 unfold putK stored
 rw [r.any k]
 by_cases e:(vs.any fun kv=>decide (kv.1=k))=true
 · rw [if_pos e,if_pos e]; exact r.repl k ry
 · rw [if_neg e,if_neg e]; exact Paired.snoc r ⟨rfl,ry⟩
theorem KV.length {kvs:List (κ × V)} {vs:List (κ × Value)} (r:KV kvs vs):kvs.length=vs.length:=Paired.length r
end
theorem kV_is {P:Program} {w:World} {k:Key} {u:Value} (r:RelV (kV k) u):(mixKind P w).is k u=true:=by
 cases k with
 | inl i=>obtain ⟨t,e⟩:=(show ∃ t,u=Value.int i t from r); subst e; exact mixKind_int P w i t
 | inr x=>obtain ⟨t,e⟩:=(show ∃ t,u=Value.str x t from r); subst e; exact mixKind_str P w x t
theorem items_are {P:Program} {w:World}:∀ {ks:List Key} {us:List Value},Vals (ks.map kV) us->ItemsAre (mixKind P w) ks us
 | [],_,r=>by rw [List.map_nil] at r; cases r; exact .nil
 | k::ks,_,r=>by
   rw [Z6] at r
   cases r with
   | cons h t=>exact .cons (kV_is h) (items_are t)
noncomputable abbrev KTd (H:Hp):List (List Key × V)->List (List Key × Addr × Value)->Prop:=Paired fun p q=>p.1=q.1/\H q.2.1=some (.tup (p.1.map kV))/\RelV p.2 q.2.2
theorem KTd.val {H:Hp} {kvs:List (List Key × V)} {xs:List (List Key × Addr × Value)} (r:KTd H kvs xs) (k:List Key):RelO (valV kvs k) ((atKey xs k).map (·.2)):=by
 induction r with
 | nil=>exact True.intro
 | @cons p q ps qs h t ih=>
   obtain ⟨h1,_,h2⟩:=h
   by_cases e:p.1=k
   · have e':q.1=k:=h1.symm.trans e
     have b:atKey (q::qs) k=some q.2:=by simp [atKey,List.find?_cons,e']
     rw [valV_pos e,b]; exact h2
   · have e':¬ q.1=k:=fun z=>e (h1.trans z)
     have b:atKey (q::qs) k=atKey qs k:=by simp [atKey,List.find?_cons,e']
     rw [valV_neg e,b]; exact ih
theorem KTd.repl {H:Hp} {kvs:List (List Key × V)} {xs:List (List Key × Addr × Value)} (r:KTd H kvs xs) (k:List Key) {y:V} {u:Value} (ry:RelV y u) :
   KTd H (kvs.map fun kv=>if kv.1=k then (kv.1,y) else kv) (xs.map (putAt k u)):=by
 induction r with
 | nil=>exact .nil
 | @cons p q ps qs h t ih=>
   rw [Z6,Z6]
   refine .cons ?_ ih
   obtain ⟨h1,h2,h3⟩:=h
   unfold putAt
   by_cases e:p.1=k
   · rw [if_pos e,if_pos (h1.symm.trans e)]; exact ⟨h1,h2,ry⟩
   · rw [if_neg e,if_neg (fun z=>e (h1.trans z))]; exact ⟨h1,h2,h3⟩
theorem KTd.put {H:Hp} {kvs:List (List Key × V)} {xs:List (List Key × Addr × Value)} (r:KTd H kvs xs) (k:List Key) {b:Addr} {y:V} {u:Value} (hb:H b=some (.tup (k.map kV))) (ry:RelV y u) :
   KTd H (putK kvs k y) (storedH xs k b u):=by
 have e:(kvs.any fun kv=>decide (kv.1=k))=(atKey xs k).isSome:=by
   rw [valV_any,(r.val k).isSome_eq,Option.isSome_map]
 unfold putK storedH
 rw [e]
 by_cases q:(atKey xs k).isSome=true
 · rw [if_pos q,if_pos q]; exact r.repl k ry
 · rw [if_neg q,if_neg q]; exact Paired.snoc r ⟨rfl,hb,ry⟩
theorem KTd.keeps {H H':Hp} {kvs:List (List Key × V)} {xs:List (List Key × Addr × Value)} (r:KTd H kvs xs) (ht:∀ b ys,H b=some (.tup ys)->H' b=some (.tup ys)):KTd H' kvs xs:=
 Paired.mapP r fun _ _ z=>⟨z.1,ht _ _ z.2.1,z.2.2⟩
section
variable {P:Program} {w:World} {H:Hp} {h:Heap} {a:Addr}
theorem rd_of {u:HO} (ok:HOk P w H h) (e:Rd H a u):ObjOk P w H h a u:=e.ok ok
theorem dk_rd {kvs:List (Key × V)} (ok:HOk P w H h) (e:Rd H a (.dK kvs)):kvs.length<=sizeLine/\(a == sysModules)=false/\∃ vs,KV kvs vs/\h.DictOf (mixKind P w) a vs:=
 show ObjOk P w H h a (.dK kvs) from rd_of ok e
theorem dk_of {kvs:List (Key × V)} (ok:HOk P w H h) (e:H a=some (.dK kvs)):kvs.length<=sizeLine/\(a == sysModules)=false/\∃ vs,KV kvs vs/\h.DictOf (mixKind P w) a vs:=dk_rd ok (.inl e)
theorem key_of {ks:List Key} (ok:HOk P w H h) (e:H a=some (.tup (ks.map kV))):(tupleKind (mixKind P w)).is h ks a:=by
 obtain ⟨_,its,r,o,h1,h2,n,h3⟩:=(show ObjOk P w H h a (.tup (ks.map kV)) from ok a _ e)
 exact ⟨o,its.toArray,n,h1,h2,h3,by simpa using items_are r⟩
theorem dt_rd {kvs:List (List Key × V)} (ok:HOk P w H h) (e:Rd H a (.dT kvs)):kvs.length<=sizeLine/\(a == sysModules)=false /\
   ∃ xs,KTd H kvs xs/\h.DictOfH (tupleKind (mixKind P w)) a xs:=by
 obtain ⟨z,y,xs,r,o,es,ep,h1,h2,h3,h4,h5⟩:=(show ObjOk P w H h a (.dT kvs) from rd_of ok e)
 refine ⟨z,y,xs,r,o,es,ep,h1,h2,h3,h4,fun x hx=>?_,h5⟩
 have all:∀ {l:List (List Key × V)} {m:List (List Key × Addr × Value)},KTd H l m->∀ x ∈ m,(tupleKind (mixKind P w)).is h x.1 x.2.1:=by
   intro l m q
   induction q with
   | nil=>intro x hx; exact nomatch hx
   | @cons p q ps qs hq t ih=>
     intro x hx
     rcases Z19.mp hx with e | hx
     · subst e
       exact key_of ok (by rw [<- hq.1]; exact hq.2.1)
     · exact ih x hx
 exact all r x hx
theorem dt_of {kvs:List (List Key × V)} (ok:HOk P w H h) (e:H a=some (.dT kvs)):kvs.length<=sizeLine/\(a == sysModules)=false /\
   ∃ xs,KTd H kvs xs/\h.DictOfH (tupleKind (mixKind P w)) a xs:=dt_rd ok (.inl e)
end
noncomputable def DGet (H:Hp) (a:Addr) (y:V) (r:Option V):Prop:=
 (∃ kvs k,Rd H a (.dK kvs)/\y=kV k/\r=valV kvs k)∨∃ kvs k b,Rd H a (.dT kvs)/\y=.ref b/\H b=some (.tup (k.map kV))/\r=valV kvs k
noncomputable def DPut (H:Hp) (a:Addr) (y v:V) (H':Hp):Prop:=
 (∃ kvs k,H a=some (.dK kvs)/\y=kV k/\kvs.length < sizeLine/\H'=upd H a (.dK (putK kvs k v))) ∨
 ∃ kvs k b,H a=some (.dT kvs)/\y=.ref b/\H b=some (.tup (k.map kV))/\kvs.length < sizeLine/\H'=upd H a (.dT (putK kvs k v))
theorem DPut.t {H:Hp} {a b:Addr} {kvs:List (List Key × V)} {k:List Key} {v:V} (e:H a=some (.dT kvs)) (eb:H b=some (.tup (k.map kV))) (hl:kvs.length < sizeLine) :
   DPut H a (.ref b) v (upd H a (.dT (putK kvs k v))):=.inr ⟨kvs,k,b,e,rfl,eb,hl,rfl⟩
section
variable {X:Cx} {pins:List (Addr × Obj)} {σ:St} {H:Hp} {s:Shared} {a:Addr} {y v:V} {u r:Value} {o:Option V} {A:Around} {E:Value->Shared->Prop}
theorem Inv.big (I:Inv X pins σ H s):sysModules < s.heap.objs.size:=by
 have h:mainGlobals < s.heap.objs.size:=(I.mod.glob.keeps I.bk).lt
 exact Nat.lt_trans (by decide) h
theorem d_getItem {Q:Value->Shared->Prop} (hu:A.units+1 < cLine) (I:Inv X pins σ H s) (g:DGet H a y (some v)) (ry:RelV y u) (h:∀ w' s',Inv X pins σ H s'->RelV v w'->Q w' s') :
   wpAny (model X.prog X.w) A (getItem (.ref a) u) Q E s:=by
 rcases g with ⟨kvs,k,e,ey,l⟩ | ⟨kvs,k,b,e,ey,eb,l⟩
 · subst ey
   obtain ⟨z,hd,vs,rel,dd⟩:=dk_rd I.hok e
   obtain ⟨w',hw,rw'⟩:=RelO.some_of (v:=v) (o:=valueAt vs k) (by rw [l]; exact rel.val k)
   exact wpAny_getItem_of (kV_is ry) dd.mapOf hw (h w' _ (I.tok _) rw')
 · subst ey
   cases (show u=Value.ref b from ry)
   obtain ⟨z,hd,xs,rel,dd⟩:=dt_rd I.hok e
   obtain ⟨w',hw,rw'⟩:=RelO.some_of (v:=v) (o:=(atKey xs k).map (·.2)) (by rw [l]; exact rel.val k)
   obtain ⟨p,hp,hp2⟩:=Option.map_eq_some_iff.mp hw
   refine wpAny_getItem_heap (tupleKind_room_in1 hu) (key_of I.hok eb) dd hp ?_
   rw [hp2]
   exact h w' _ (I.tok _) rw'
theorem d_write {h':Heap} {t':Nat} {ob:HO} (I:Inv X pins σ H s) (mu:Mut (H a)) (hs:Heap.SameBut a s.heap h') (he:∃ q,h'.get? a=some q) (new:ObjOk X.prog X.w (upd H a ob) h' a ob) :
   Inv X pins σ (upd H a ob) { s with heap:=h',toks:=t' }:=
 I.write (x:=a) (e:=a) mu (.inl rfl) (fun b q hb z=>(hs.2 b hb).trans z) he new
theorem dk_new {P:Program} {w:World} {H':Hp} {h':Heap} {kvs:List (Key × V)} {vs:List (Key × Value)} (z:kvs.length<=sizeLine) (hd:(a == sysModules)=false) (rel:KV kvs vs) (dd:h'.DictOf (mixKind P w) a vs) :
   ObjOk P w H' h' a (.dK kvs):=⟨z,hd,vs,rel,dd⟩
theorem d_setItem {H':Hp} {Q:Unit->Shared->Prop} (hu:A.units+1 < cLine) (I:Inv X pins σ H s) (g:DPut H a y v H') (ry:RelV y u) (rv:RelV v r) (h:∀ s',Inv X pins σ H' s'->Q () s') :
   wpAny (model X.prog X.w) A (setItem (.ref a) u r) Q E s:=by
 rcases g with ⟨kvs,k,e,ey,l,eH⟩ | ⟨kvs,k,b,e,ey,eb,l,eH⟩
 · subst ey eH
   obtain ⟨z,hd,vs,rel,dd⟩:=dk_of I.hok e
   have hz:vs.length<=sizeLine:=by rw [<- rel.length]; exact z
   have hl:(putK kvs k v).length<=sizeLine:=by have:=length_putK kvs k v; omega
   refine wpAny_setItem_pairs (hsz:=hz) (kV_is ry) dd fun h' dd' hs=>h _ ?_
   have he:∃ q,h'.get? a=some q:=let ⟨q,_,_,hq,_⟩:=dd'; ⟨q,hq⟩
   exact d_write I (by rw [e]; exact True.intro) hs he (dk_new hl hd (rel.put k rv) dd')
 · subst ey eH
   cases (show u=Value.ref b from ry)
   obtain ⟨z,hd,xs,rel,dd⟩:=dt_of I.hok e
   have hz:xs.length<=sizeLine:=by rw [<- Paired.length rel]; exact z
   have hl:(putK kvs k v).length<=sizeLine:=by have:=length_putK kvs k v; omega
   refine wpAny_setItem_heap (hsz:=hz) (tupleKind_room_in1 hu) (key_of I.hok eb) dd fun h' dd' hs=>h _ ?_
   obtain ⟨q,es,ep,hq,h2,h3,h4,_,h5⟩:=dd'
   refine d_write I (by rw [e]; exact True.intro) hs ⟨q,hq⟩ ⟨hl,hd,_,(rel.put k eb rv).keeps fun c ys ec=>?_,q,es,ep,hq,h2,h3,h4,h5⟩
   rw [upd_ne (ne_of ec e (fun z=>nomatch z))]
   exact ec
end
theorem dict_typeIs {X:Cx} {pins:List (Addr × Obj)} {σ:St} {H:Hp} {s:Shared} {a:Addr} {y:V} {o:Option V} (I:Inv X pins σ H s) (g:DGet H a y o):s.TypeIs (.ref a) "dict":=by
 rcases g with ⟨kvs,k,e,_,_⟩ | ⟨kvs,k,b,e,_,_,_⟩
 · obtain ⟨_,_,vs,_,dd⟩:=dk_rd I.hok e
   exact dd.typeIs
 · obtain ⟨_,_,xs,_,dd⟩:=dt_rd I.hok e
   exact dd.typeIs
theorem dk_empty {P:Program} {w:World} {H:Hp} (h:Heap) (hb:sysModules < h.objs.size):ObjOk P w H (h.push { cls:=.type "dict",data:=.dict #[] }) h.objs.size (.dK []):=
 ⟨Z30 _,beq_eq_false_iff_ne.mpr (Ne.symm (Z26 hb)),[],.nil,Heap.DictOf.new h⟩
theorem dt_empty {P:Program} {w:World} {H:Hp} (h:Heap) (hb:sysModules < h.objs.size):ObjOk P w H (h.push { cls:=.type "dict",data:=.dict #[] }) h.objs.size (.dT []):=
 ⟨Z30 _,beq_eq_false_iff_ne.mpr (Ne.symm (Z26 hb)),[],.nil,_,#[],0,Z20 _ rfl,⟨rfl,rfl,rfl⟩,rfl,rfl,List.nodup_nil⟩
noncomputable def tDNewK:TE:=fun _ H Q=>∀ p,H p=none->Q (.ref p) (upd H p (.dK []))
noncomputable def tDNewT:TE:=fun _ H Q=>∀ p,H p=none->Q (.ref p) (upd H p (.dT []))
section
variable {X:Cx} {pos:Pos}
theorem pe_dnewK:PE X (.Dict [] [] pos) tDNewK:=fun pins s σ H Q I h=>
 wpAny_Dict_empty ⟨.ref s.heap.objs.size,_,I.laid (a:=s.heap.objs.size) (o:=.dK []) (t':=s.toks) (fun _ _ q=>Z7 _ q) (Z10 _) (dk_empty s.heap I.big),rfl,h _ (I.hok.fresh (Z10 _))⟩
theorem pe_dnewT:PE X (.Dict [] [] pos) tDNewT:=fun pins s σ H Q I h=>
 wpAny_Dict_empty ⟨.ref s.heap.objs.size,_,I.laid (a:=s.heap.objs.size) (o:=.dT []) (t':=s.toks) (fun _ _ q=>Z7 _ q) (Z10 _) (dt_empty s.heap I.big),rfl,h _ (I.hok.fresh (Z10 _))⟩
end
noncomputable def tPairs:List (TE × TE)->St->Hp->(List (V × V)->Hp->Prop)->Prop
 | [],_,H,Q=>Q [] H
 | (tk,tv)::r,σ,H,Q=>tk σ H fun x H1=>tv σ H1 fun y H2=>tPairs r σ H2 fun ps H3=>Q ((x,y)::ps) H3
noncomputable abbrev VV:List (V × V)->List (Value × Value)->Prop:=Paired fun p q=>RelV p.1 q.1/\RelV p.2 q.2
noncomputable def PPs (X:Cx) (pos:Pos) (keys:List (Option Expr)) (values:List Expr) (trs:List (TE × TE)):Prop:=
 ∀ (pins:List (Addr × Obj)) (s:Shared) (σ:St) (H:Hp) (Q:List (V × V)->Hp->Prop),Inv X pins σ H s->tPairs trs σ H Q ->
   wpAny (model X.prog X.w) X.A (evalPairs (pairTrees keys values X.env pos)) (fun vs s'=>∃ ps H',Inv X pins σ H' s'/\VV ps vs/\Q ps H') X.xe s
theorem pps_nil {X:Cx} {pos:Pos}:PPs X pos [] [] []:=fun pins s σ H Q I h=>pairTrees_nil_walk ⟨[],H,I,.nil,h⟩
theorem pps_cons {X:Cx} {pos:Pos} {k v:Expr} {ks:List (Option Expr)} {vs:List Expr} {tk tv:TE} {trs:List (TE × TE)} (hk:PE X k tk) (hv:PE X v tv) (hr:PPs X pos ks vs trs) :
   PPs X pos (some k::ks) (v::vs) ((tk,tv)::trs):=fun pins s σ H Q I h=>
 pairTrees_cons_walk (thn (hk pins s σ H _ I h) fun u s1 ⟨x,H1,I1,rx,q1⟩=>thn (hv pins s1 σ H1 _ I1 q1) fun w2 s2 ⟨y,H2,I2,ry,q2⟩=>
   thn (hr pins s2 σ H2 _ I2 q2) fun ws s3 ⟨ps,H3,I3,rel,q3⟩=>⟨(x,y)::ps,H3,I3,.cons ⟨rx,ry⟩ rel,q3⟩)
noncomputable def FpS (X:Cx) (pins:List (Addr × Obj)) (b:Addr):Prop:=
 b ≠ X.env.locals/\b ∉ X.fs/\(b ∈ X.ex∨X.s₀.heap.objs.size<=b)/\(∀ x c,X.env.cells.lookup x=some c->c ≠ b)/\∀ p ∈ X.pn++pins,p.1 ≠ b
noncomputable def lobj (its:List Value) (n:Nat):Obj:={ cls:=.type "list",data:=.seq its.toArray n }
inductive AccP (X:Cx) (pins:List (Addr × Obj)) (l:Addr) (Q:St->Hp->List V->Prop) (s':Shared):Prop
 | mk:∀ σ' H' acc its n,Inv X (pins++[(l,lobj its n)]) σ' H' s'->Vals acc its->acc.length<=sizeLine->Q σ' H' acc->AccP X pins l Q s'
noncomputable abbrev TB:=St->Hp->List V->(St->Hp->List V->Prop)->Prop
noncomputable def PB (X:Cx) (m:Value->Sem Unit) (tb:TB):Prop:=
 ∀ (pins:List (Addr × Obj)) (s:Shared) (σ:St) (H:Hp) (l:Addr) (acc:List V) (its:List Value) (n:Nat) (Q:St->Hp->List V->Prop),Inv X (pins++[(l,lobj its n)]) σ H s->FpS X pins l->Vals acc its->acc.length<=sizeLine->tb σ H acc Q ->
   wpAny (model X.prog X.w) X.A (m (.ref l)) (fun _ s'=>AccP X pins l Q s') X.xe s
noncomputable def tEmit (te:TE):TB:=fun σ H acc Q=>te σ H fun y H1=>acc.length < sizeLine/\Q σ H1 (acc++[y])
section
variable {X:Cx}
theorem Inv.accUpd {pins:List (Addr × Obj)} {s:Shared} {σ:St} {H:Hp} {l:Addr} {its its':List Value} {n n':Nat} {h':Heap} {t':Nat} (I:Inv X (pins++[(l,lobj its n)]) σ H s) (hl:FpS X pins l)
   (sb:Heap.SameBut l s.heap h') (e:h'.get? l=some (lobj its' n')):Inv X (pins++[(l,lobj its' n')]) σ H { s with heap:=h',toks:=t' }:=by
 obtain ⟨p1,p2,p3,p4,p5⟩:=I.pin (l,lobj its n) (by simp)
 have I0:Inv X pins σ H s:=I.unpinned
 have I1:Inv X pins σ H { s with heap:=h',toks:=t' }:=I0.turned (it:=l) (fun b o hb q=>(sb.2 b hb).trans q) p2 hl.1 hl.2.2.1 hl.2.2.2.1 hl.2.2.2.2
 refine I1.pins_of fun p hp=>?_
 rcases Z11.mp hp with hp | hp
 · exact I1.pin p (Z36 _ hp)
 · obtain rfl:p=(l,lobj its' n'):=by simpa using hp
   exact ⟨e,p2,hl.1,hl.2.1,fun v z=>by cases z⟩
theorem pb_emit {elt:Expr} {te:TE} (he:PE X elt te):PB X (fun a=>eval elt X.env >>= fun x=>call (.builtin "list.append") [a,x] >>= fun _=>pure ()) (tEmit te):=by
 intro pins s σ H l acc its n Q I hl rv hz h
 refine Z55 (thn (he _ s σ H _ I h) fun u s1 ⟨y,H1,I1,r1,hz1,q1⟩=>?_)
 obtain ⟨p1,_⟩:=I1.pin (l,lobj its n) (by simp)
 refine Z55 (wpAny_list_append_plain (items:=its.toArray) ⟨n,p1⟩ (fun h' ⟨n',e'⟩ sb=>Z56 ?_) ?_)
 · have e2:h'.get? l=some (lobj (its++[u]) n'):=by rw [e']; simp [lobj]
   exact ⟨σ,H1,acc++[y],its++[u],n',I1.accUpd (t':=s1.toks) hl sb e2,rv.append (.cons r1 .nil),by rw [Z17]; exact hz1,q1⟩
 · have:=rv.length
   simp; lia
noncomputable def PIf (X:Cx) (ifs:List Expr) (tt:TT):Prop:=
 ∀ (pins:List (Addr × Obj)) (s:Shared) (σ:St) (H:Hp) (Q:Bool->Hp->Prop),Inv X pins σ H s->tt σ H Q ->
   wpAny (model X.prog X.w) X.A (forIn ifs true fun c r=>if r=true then do let ok <- isTrue c X.env (eval c X.env); pure (ForInStep.yield ok) else pure (ForInStep.yield r)) (TP X pins σ Q) X.xe s
noncomputable def tYes:TT:=fun _ H Q=>Q true H
theorem pif_nil:PIf X [] tYes:=fun pins s σ H Q I h=>wpAny_tests_nil ⟨H,I,h⟩
theorem mem_sw {α:Type} {a b c d:List α} {p:α} (h:p ∈ (a++b)++c):p ∈ d++((a++c)++b):=by
 simp only [Z11] at h ⊢
 rcases h with (h | h) | h
 · exact .inr (.inl (.inl h))
 · exact .inr (.inr h)
 · exact .inr (.inl (.inr h))
theorem mem_dr {α:Type} {a b c d:List α} {p:α} (h:p ∈ a++c):p ∈ d++((a++b)++c):=by
 simp only [Z11] at h ⊢
 rcases h with h | h
 · exact .inr (.inl (.inl h))
 · exact .inr (.inr h)
noncomputable def lpW (g:TG) (tt:TT) (tb:TB) (J:It):TB:=fun σ H acc Q=>∃ W:Nat->Nat->St->Hp->List V->Prop,(∃ m,W 0 m σ H acc)/\∀ i m σ H acc,W i m σ H acc ->
 (J.stop i H/\Q σ H acc)∨(J.go i H/\∃ N:St->Hp->List V->Prop,(∀ σ' H' acc',N σ' H' acc'->∃ m',m' < m/\W (i+1) m' σ' H' acc') /\
   ∀ x H',J.yld i H x H'->g x σ H' fun σ2 H2=>tt σ2 H2 fun b H3=>if b=true then tb σ2 H3 acc N else N σ2 H3 acc)
noncomputable def compT (tg iter:Expr) (ifs:List Expr) (env:Env) (m:Sem Unit) (c:Code) (it:Value):Sem PySem.Fin:=do
 standAt iter.pos
 match <- pyNext it with
 | none=>pure (.done .next)
 | some v=>
   letOwnedTupleGo tg it v
   assign tg env v
   let mut ok:=true
   for c in ifs do
     if ok then ok <- isTrue c env (eval c env)
   if ok then m
   again c
inductive LpI (X:Cx) (pins:List (Addr × Obj)) (l:Addr) (fp:List Addr) (tn:Nat->Heap->Prop) (W:Nat->Nat->St->Hp->List V->Prop) (k:Nat) (s':Shared):Prop
 | mk:∀ i σ' H' acc' its' n',Inv X (pins++[(l,lobj its' n')]) σ' H' s'->Vals acc' its'->acc'.length<=sizeLine->tn i s'.heap->(∀ b ∈ fp,H' b=none)->W i k σ' H' acc'->LpI X pins l fp tn W k s'
theorem loop_run {tg iter:Expr} {ifs:List Expr} {g:TG} {tt:TT} {tb:TB} {m:Value->Sem Unit} {c:Value->Value->Code} (hx:X.xe=fun _ _=>False) (hcalm:X.calm=true) (hg:PG X tg g) (ht:PIf X ifs tt) (hb:PB X m tb)
   (hq:∀ it acc,(c it acc).quiet=true) (hA:∀ it acc,X.A.under (c it acc)=X.A) (hd:∀ it acc,∃ f,(model X.prog X.w).den (c it acc)=(compT tg iter ifs X.env (m acc) (c it acc) it).onRaise f)
   {pins:List (Addr × Obj)} {s:Shared} {σ:St} {H:Hp} {l:Addr} {acc:List V} {its:List Value} {n:Nat} {Q:St->Hp->List V->Prop} {it:Addr} {fp:List Addr} {tn:Nat->Heap->Prop} {J:It}
   (I:Inv X (pins++[(l,lobj its n)]) σ H s) (hl:FpS X pins l) (rv:Vals acc its) (hz:acc.length<=sizeLine) (T:Turn X.prog X.w X.K tg J fp it tn) (st:tn 0 s.heap) (hf:∀ b ∈ fp,FpOk X (pins++[(l,lobj its n)]) H b)
   (h:lpW g tt tb J σ H acc Q):codeAny (model X.prog X.w) X.A (c (.ref it) (.ref l)) (fun r s'=>r=.ok .next/\AccP X pins l Q s') s:=by
 obtain ⟨W,⟨m0,w0⟩,turn⟩:=h
 have hlf:l ∉ fp:=fun z=>(hf l z).2.2.2.2.2 (l,lobj its n) (by simp) rfl
 have fpS:∀ b ∈ fp,FpS X pins b:=fun b hb=>by
   obtain ⟨f0,f1,f2,f3,f4,f5⟩:=hf b hb
   exact ⟨f1,f2,f3,f4,fun p hp=>f5 p (by rcases Z11.mp hp with z | z <;> simp [z])⟩
 have stat:∀ {H':Hp} {its':List Value} {n':Nat},(∀ b ∈ fp,H' b=none)->∀ b ∈ fp,FpOk X (pins++[(l,lobj its' n')]) H' b:=fun {H' its' n'} hn b hb=>by
   obtain ⟨f1,f2,f3,f4,f5⟩:=fpS b hb
   refine ⟨hn b hb,f1,f2,f3,f4,fun p hp=>?_⟩
   rcases Z11.mp hp with z | z
   · exact f5 p (by simp [z])
   · rcases Z11.mp z with z | z
     · exact f5 p (by simp [z])
     · obtain rfl:p=(l,lobj its' n'):=by simpa using z
       exact fun e=>hlf (by rw [show l=b from e]; exact hb)
 refine codeAny_loop (hq _ _) (fun k s'=>LpI X pins l fp tn W k s') ?_ m0
   ⟨0,σ,H,acc,its,n,I,rv,hz,st,fun b hb=>(hf b hb).1,w0⟩
 rintro k s3 ⟨i,σ3,H3,acc3,its3,n3,I3,rv3,hz3,st3,fr3,w3⟩
 rw [hA]
 obtain ⟨f,hf⟩:=hd (.ref it) (.ref l)
 rw [hf]
 refine wpAny_onRaise (Z57 (E:=fun _ _=>False) ?_ (fun _ _ q=>q) fun _ _ z=>z.elim)
 unfold compT
 refine Z55 (wpAny_standAt (Z55 ?_))
 have hxe:∀ {α:Type} {t:Sem α} {Q':α->Shared->Prop} {s':Shared},wpAny (model X.prog X.w) X.A t Q' X.xe s'->wpAny (model X.prog X.w) X.A t Q' (fun _ _=>False) s':=fun h=>by rw [hx] at h; exact h
 rcases turn i k σ3 H3 acc3 w3 with ⟨stop,qn⟩ | ⟨go,N,hN,step⟩
 · refine thn (T.done X rfl rfl rfl hcalm i _ s3 σ3 H3 _ I3 (stat fr3) st3 stop) fun r s4 ⟨hr,I4⟩=>?_
   subst hr
   exact Z56 ⟨rfl,σ3,H3,acc3,its3,n3,I4,rv3,hz3,qn⟩
 · refine thn (T.item X rfl rfl rfl hcalm i _ s3 σ3 H3 _ I3 (stat fr3) st3 go) fun r s4 ⟨u,hr,h4⟩=>?_
   subst hr
   refine Z55 (thn h4 fun _ s5 ⟨x,H5,I5,r5,y5,st5,fr5⟩=>?_)
   have ob:=T.obj _ _ st5
   have I5':Inv X ((pins++pinsAt fp s5.heap)++[(l,lobj its3 n3)]) σ3 H5 s5:=by
     have J5:=I5.pinned (stat fr5) ob
     refine J5.pins_of fun p hp=>J5.pin p ?_
     exact mem_sw hp
   have hlp:FpS X (pins++pinsAt fp s5.heap) l:=by
     obtain ⟨f1,f2,f3,f4,f5⟩:=hl
     refine ⟨f1,f2,f3,f4,fun p hp=>?_⟩
     simp only [Z11] at hp
     rcases hp with z | z | z
     · exact f5 p (by simp [z])
     · exact f5 p (by simp [z])
     · exact fun e=>hlf (e ▸ (of_pinsAt z).1)
   refine Z55 (thn (hxe (hg _ s5 σ3 H5 x u _ I5' r5 (step x H5 y5))) fun _ s6 ⟨σ6,H6,I6,q6⟩=>?_)
   refine Z55 (thn (hxe (ht _ s6 σ6 H6 _ I6 q6)) fun ok s7 ⟨H7,I7,q7⟩=>?_)
   have again:∀ {s8:Shared} {σ8:St} {H8:Hp} {acc8:List V} {its8:List Value} {n8:Nat},Inv X ((pins++pinsAt fp s5.heap)++[(l,lobj its8 n8)]) σ8 H8 s8->Vals acc8 its8->acc8.length<=sizeLine->N σ8 H8 acc8 ->
       ∃ m,m < k/\LpI X pins l fp tn W m s8:=fun {s8 σ8 H8 acc8 its8 n8} I8 rv8 hz8 n8'=>by
     obtain ⟨m',hm,w8⟩:=hN σ8 H8 acc8 n8'
     have pinOf:∀ b o,b ∈ fp->s5.heap.get? b=some o->s8.heap.get? b=some o/\H8 b=none:=fun b o hb e=>by
       have z:=I8.pin (b,o) (by simp only [Z11]; exact .inr (.inl (.inr (mem_pinsAt hb e))))
       exact ⟨z.1,z.2.1⟩
     refine ⟨m',hm,i+1,σ8,H8,acc8,its8,n8,I8.pins_of fun p hp=>I8.pin p ?_,rv8,hz8,T.keep _ _ _ st5 fun b hb o e=>(pinOf b o hb e).1,fun b hb=>?_,w8⟩
     · exact mem_dr hp
     · obtain ⟨o,e,d⟩:=ob b hb
       exact (pinOf b o hb e).2
   cases ok with
   | false=>
     refine Z55 (Z56 (Z56 ?_))
     exact ⟨rfl,again I7 rv3 hz3 q7⟩
   | true=>
     refine Z55 (thn (hxe (hb _ s7 σ6 H7 l acc3 its3 n3 N I7 hlp rv3 hz3 q7)) fun _ s8 ⟨σ8,H8,acc8,its8,n8,I8,rv8,hz8,q8⟩=>Z56 ?_)
     exact ⟨rfl,again I8 rv8 hz8 q8⟩
end
noncomputable def closL (cells:List (Str × Addr)):List (Str × NameKind)->List (Str × Addr)->List (Str × Addr)
 | [],cs=>cs
 | (n,k)::r,cs=>closL cells r (if k == .free then (match cells.lookup n with | some c=>(n,c)::cs | none=>cs) else cs)
theorem closL_sound {cells:List (Str × Addr)} {x:Str} {c:Addr}:∀ {ns:List (Str × NameKind)} {cs:List (Str × Addr)},(∀ y d,cs.lookup y=some d->cells.lookup y=some d)->(closL cells ns cs).lookup x=some c->cells.lookup x=some c
 | [],cs,h,e=>h x c e
 | (n,k)::r,cs,h,e=>by
   unfold closL at e
   refine closL_sound (ns:=r) (cs:=_) ?_ e
   intro y d hy
   split at hy
   · cases q:cells.lookup n with
     | none=>rw [q] at hy; exact h y d hy
     | some c'=>
       rw [q] at hy
       simp only [List.lookup_cons] at hy
       split at hy
       · rename_i heq
         have e1:y=n:=by simpa using heq
         cases hy
         rw [e1]; exact q
       · exact h y d hy
   · exact h y d hy
theorem closL_keep {cells:List (Str × Addr)} {x:Str}:∀ {ns:List (Str × NameKind)} {cs:List (Str × Addr)},(∃ c,cs.lookup x=some c)->∃ c,(closL cells ns cs).lookup x=some c
 | [],cs,h=>h
 | (n,k)::r,cs,h=>by
   unfold closL
   refine closL_keep (ns:=r) ?_
   split
   · cases q:cells.lookup n with
     | none=>exact h
     | some c'=>
       simp only [List.lookup_cons]
       split
       · exact ⟨_,rfl⟩
       · exact h
   · exact h
theorem closL_has {cells:List (Str × Addr)} {x:Str} {c:Addr} (hc:cells.lookup x=some c):∀ {ns:List (Str × NameKind)} {cs:List (Str × Addr)},(x,NameKind.free) ∈ ns->∃ c,(closL cells ns cs).lookup x=some c
 | [],cs,h=>by cases h
 | (n,k)::r,cs,h=>by
   unfold closL
   rcases Z19.mp h with e | h
   · cases e
     refine closL_keep ?_
     rw [hc]
     simp
   · exact closL_has hc h
theorem closureFor_eq {scope:Scope} {env:Env} (h:∀ y ∈ scope.names,y.2=.free->∃ c,env.cells.lookup y.1=some c):closureFor scope env=pure (closL env.cells scope.names []):=by
 have go:∀ (ns:List (Str × NameKind)) (cs:List (Str × Addr)),(∀ y ∈ ns,y.2=.free->∃ c,env.cells.lookup y.1=some c) ->
     (forIn ns cs fun (x:Str × NameKind) r=>match x with | (name,kind)=>if (kind == .free)=true then do let a <- cellOf env name; pure (ForInStep.yield ((name,a)::r)) else pure (ForInStep.yield r):Sem _)=pure (closL env.cells ns cs):=by
   intro ns
   induction ns with
   | nil=>intro cs _; rfl
   | cons x r ih=>
     intro cs hh
     obtain ⟨n,k⟩:=x
     rw [List.forIn_cons]
     by_cases hk:(k == NameKind.free)=true
     · have hk':k=.free:=by simpa using hk
       obtain ⟨c,hc⟩:=hh (n,k) Z16 hk'
       have e1:cellOf env n=pure c:=by unfold cellOf; rw [show env.cells.lookup n=some c from hc]
       show (if (k == NameKind.free)=true then _ else _) >>= _=_
       rw [if_pos hk,e1]
       refine Eq.trans (ih ((n,c)::cs) fun y hy=>hh y (Z8 _ hy)) ?_
       conv=>rhs; unfold closL
       rw [if_pos hk,show env.cells.lookup n=some c from hc]
     · show (if (k == NameKind.free)=true then _ else _) >>= _=_
       rw [if_neg hk]
       refine Eq.trans (ih cs fun y hy=>hh y (Z8 _ hy)) ?_
       conv=>rhs; unfold closL
       rw [if_neg hk]
 unfold closureFor
 have:=go scope.names [] h
 refine Eq.trans (congrArg (fun m=>m >>= fun cs=>pure cs) this) rfl
noncomputable def compCx (X:Cx) (scope:Scope) (ts:List Str) (ix:List Nat) (C:Addr) (s2:Shared) (H2:Hp) (fp:List Addr):Cx where
 prog:=X.prog
 w:=X.w
 K:=X.K
 mg:=X.mg
 base:=X.base
 A:=X.A
 N:=ts++ix.map fun j=>X.N.getD j Str.empty
 s₀:=s2
 H₀:=H2
 env:=compEnvC scope (closL X.env.cells scope.names []) C X.env
 outer:=X.stack
 stack:=X.stack
 ex:=fp
 fn:=fun _=>false
 calm:=X.calm
 pn:=[]
 xe:=fun _ _=>False
noncomputable def cst (nt:Nat) (ix:List Nat) (σ:St):St:=List.replicate nt none++ix.map fun j=>σ.getD j none
structure CompScope (X:Cx) (scope:Scope) (ts:List Str) (ix:List Nat):Prop where
 kind:scope.kind=.function
 nocell:(scope.names.all fun y=>y.2 != .cell)=true
 names:(scope.names.all fun y=>y.2 != .local || scope.names.lookup y.1 == some .local)=true
 free:(scope.names.all fun y=>y.2 != .free || (X.env.kindOf y.1 == some .cell || X.env.kindOf y.1 == some .free))=true
 caps:(ix.all fun j=>decide (j < X.N.length) && (scope.names.lookup (X.N.getD j Str.empty) == some .free))=true
theorem lookup_relabel_free {env:Env}:∀ {names:List (Str × NameKind)} {x:Str},names.lookup x=some .free ->
   (names.map fun (n,k)=>if (k == NameKind.free && env.scope.kind == .function && env.kindOf n == some .cell) then (n,NameKind.cell) else (n,k)).lookup x=some .cell ∨
   (names.map fun (n,k)=>if (k == NameKind.free && env.scope.kind == .function && env.kindOf n == some .cell) then (n,NameKind.cell) else (n,k)).lookup x=some .free
 | [],_,h=>by simp at h
 | (n,k)::r,x,h=>by
   have ih:=@lookup_relabel_free env r x
   rw [Z6]
   show List.lookup x ((if (k == NameKind.free && env.scope.kind == .function && env.kindOf n == some .cell)=true then (n,NameKind.cell) else (n,k))::_)=_∨List.lookup x ((if (k == NameKind.free && env.scope.kind == .function && env.kindOf n == some .cell)=true then (n,NameKind.cell) else (n,k))::_)=_
   cases hx:x == n with
   | true=>
     simp only [List.lookup_cons,hx] at h
     cases h
     split <;> simp [List.lookup_cons,hx]
   | false=>
     simp only [List.lookup_cons,hx] at h
     split <;> (simp only [List.lookup_cons,hx]; exact ih h)
theorem lookup_relabel_back {env:Env}:∀ {names:List (Str × NameKind)} {x:Str},(∀ y ∈ names,y.2 ≠ .cell) ->
   ((names.map fun (n,k)=>if (k == NameKind.free && env.scope.kind == .function && env.kindOf n == some .cell) then (n,NameKind.cell) else (n,k)).lookup x=some .cell ∨
   (names.map fun (n,k)=>if (k == NameKind.free && env.scope.kind == .function && env.kindOf n == some .cell) then (n,NameKind.cell) else (n,k)).lookup x=some .free)->(x,NameKind.free) ∈ names
 | [],_,_,h=>by simp at h
 | (n,k)::r,x,hn,h=>by
   have ih:=@lookup_relabel_back env r x fun y hy=>hn y (Z8 _ hy)
   have hk:=hn (n,k) Z16
   rw [Z6] at h
   change List.lookup x ((if (k == NameKind.free && env.scope.kind == .function && env.kindOf n == some .cell)=true then (n,NameKind.cell) else (n,k))::_)=_∨List.lookup x ((if (k == NameKind.free && env.scope.kind == .function && env.kindOf n == some .cell)=true then (n,NameKind.cell) else (n,k))::_)=_ at h
   cases hx:x == n with
   | true=>
     have e:x=n:=by simpa using hx
     subst e
     have kf:k=.free:=by
       split at h
       · rename_i hc
         simp only [Z25,beq_iff_eq] at hc
         exact hc.1.1
       · simp only [List.lookup_cons,hx] at h
         rcases h with h | h
         · cases h; exact absurd rfl hk
         · cases h; rfl
     rw [kf]; exact Z16
   | false=>
     refine Z8 _ (ih ?_)
     split at h <;> (simp only [List.lookup_cons,hx] at h; exact h)
theorem mem_of_lookupL {α:Type}:∀ {l:List (Str × α)} {x:Str} {a:α},l.lookup x=some a->(x,a) ∈ l:=fun h=>PySem.mem_of_lookup h
section
variable {X:Cx} {pins:List (Addr × Obj)} {σ:St} {H:Hp} {s:Shared} {scope:Scope} {ts:List Str} {ix:List Nat}
theorem comp_start {l C:Addr} {fp:List Addr} {h4:Heap} {tk:Nat} (I:Inv X pins σ H s) (S:CompScope X scope ts ix) (hcalm:X.calm=true)
   (hf:∀ b ∈ fp,FpOk X pins H b) (ho:∀ b ∈ fp,∃ o,s.heap.get? b=some o) (keep:∀ b o,s.heap.get? b=some o->h4.get? b=some o) (hl:h4.get? l=some (lobj [] 0)) (hls:s.heap.objs.size<=l) (hC:s.heap.objs.size<=C) (hlC:l ≠ C)
   (ns:h4.Ns C fun _=>none):Inv (compCx X scope ts ix C s H fp) ([]++[(l,lobj [] 0)]) (cst ts.length ix σ) H { s with heap:=h4,toks:=tk }:=by
 have nocell:∀ y ∈ scope.names,y.2 ≠ .cell:=fun y hy=>by simpa using Z50.mp S.nocell y hy
 have cl_in:∀ {x c},(closL X.env.cells scope.names []).lookup x=some c->X.env.cells.lookup x=some c:=fun {x c} e=>closL_sound (fun y d z=>by simp at z) e
 have fre:∀ y ∈ scope.names,y.2=.free->X.env.kindOf y.1=some .cell∨X.env.kindOf y.1=some .free:=fun y hy e=>by
   have:=Z50.mp S.free y hy
   simpa [e] using this
 have fpsz:∀ b ∈ fp,b < s.heap.objs.size:=fun b hb=>let ⟨o,e⟩:=ho b hb; Z13 e
 have freshH:∀ b,s.heap.objs.size<=b->H b=none:=fun b hb=>I.hok.fresh hb
 have ok':(compCx X scope ts ix C s H fp).Ok:=by
   refine ⟨I.ok.mod,S.kind,I.ok.glob,I.ok.blt,hC,fun x y c h1 h2=>I.ok.inj x y c (cl_in h1) (cl_in h2),fun x hx=>?_,fun x c z=>(by cases z),I.ok.hd,I.ok.frames,.inl rfl,fun b hb=>⟨?_,fun x c e=>?_⟩,I.bs,Z24 I.ok.bsz I.sz,fun b o e hb=>?_,fun b hb hs=>?_,I.stack,I.stkFree⟩
   · have hm:=lookup_relabel_back nocell hx
     obtain ⟨c,hc⟩:=I.ok.has x (fre _ hm rfl)
     exact closL_has hc hm
   · exact Z26 (Z15 (fpsz b hb) hC)
   · exact (hf b hb).2.2.2.2.1 x c (cl_in e)
   · rcases (hf b hb).2.2.2.1 with z | z
     · exact I.ok.noex b o e z
     · exact absurd (Z15 (Z13 e) (Z24 I.ok.bsz z)) (Z33 _)
   · rcases Z19.mp (I.stkSub b hs) with z | z
     · exact (hf b hb).2.1 z
     · exact (hf b hb).2.2.1 z
 refine ⟨ok',rfl,I.bare,Un.kept keep,⟨_,ns,fun i x v e1 e2 e3=>?_⟩,fun x c e=>?_,freshH C hC,fun x c e=>I.freeC x c (cl_in e),fun p hp=>?_,I.hok.kept keep,?_⟩
 · -- a captured name
   have e2':(List.replicate ts.length (none:Option V)++ix.map fun j=>σ.getD j none)[i]?=some (some v):=e2
   have e1':(ts++ix.map fun j=>X.N.getD j Str.empty)[i]?=some x:=e1
   by_cases hi:i < ts.length
   · rw [List.getElem?_append_left (by simpa using hi)] at e2'
     rw [List.getElem?_replicate] at e2'
     rw [if_pos hi] at e2'
     cases e2'
   · rw [List.getElem?_append_right (by simpa using hi),List.length_replicate,Z21] at e2'
     rw [List.getElem?_append_right (by lia),Z21] at e1'
     cases hj:ix[i - ts.length]? with
     | none=>rw [hj] at e1'; cases e1'
     | some j=>
       rw [hj] at e1' e2'
       have e1'':X.N.getD j Str.empty=x:=Z27 e1'
       have e2'':σ.getD j none=some v:=Z27 e2'
       have hcap:=Z50.mp S.caps j (List.mem_of_getElem? hj)
       simp only [Z25,decide_eq_true_eq,beq_iff_eq] at hcap
       obtain ⟨hjl,hfree⟩:=hcap
       rw [e1''] at hfree
       have eN:X.N[j]?=some x:=by rw [<- e1'']; simp [Z5,hjl]
       have eσ:σ[j]?=some (some v):=by
         rw [Z5] at e2''
         cases q:σ[j]? with
         | none=>rw [q] at e2''; cases e2''
         | some z=>rw [q] at e2''; exact congrArg some e2''
       have hm:=mem_of_lookupL hfree
       have hk:=fre _ hm rfl
       obtain ⟨m,hn,hlk⟩:=I.loc
       obtain ⟨u,r,lk⟩:=hlk j x v eN eσ (hk.elim (fun z=>.inr (.inl z)) fun z=>.inr (.inr z))
       refine ⟨u,r,.inr ⟨lookup_relabel_free hfree,?_⟩⟩
       rcases lk with ⟨z,_⟩ | ⟨_,c,hc,cell⟩
       · rcases hk with k | k <;> · rw [show X.env.kindOf x=some .local from z] at k; cases k
       · obtain ⟨c',hc'⟩:=closL_has (cs:=[]) hc hm
         have:c'=c:=Z27 ((cl_in hc').symm.trans hc)
         subst this
         obtain ⟨o,eo,d⟩:=cell
         exact ⟨c',hc',o,keep _ _ eo,d⟩
 · obtain ⟨v,o,eo,d⟩:=I.cell x c (cl_in e)
   exact ⟨v,o,keep _ _ eo,d⟩
 · obtain rfl:p=(l,lobj [] 0):=by simpa [compCx] using hp
   refine ⟨hl,freshH l hls,hlC,fun z=>?_,fun v z=>by cases z⟩
   rcases Z19.mp (I.stkSub l z) with e | e
   · exact absurd (Z15 I.lt hls) (by rw [e]; exact Z33 _)
   · exact I.nofs hls e
 · show (List.replicate ts.length none++ix.map _).length=(ts++ix.map _).length
   simp
theorem comp_end {l C:Addr} {fp:List Addr} {s':Shared} {h':Heap} {σ':St} {H':Hp} {acc:List V} {its:List Value} {n:Nat} (I:Inv X pins σ H s) (hf:∀ b ∈ fp,FpOk X pins H b) (hls:s.heap.objs.size<=l) (hC:s.heap.objs.size<=C)
   (J:Inv (compCx X scope ts ix C s H fp) ([]++[(l,lobj its n)]) σ' H' s') (rv:Vals acc its) (hz:acc.length<=sizeLine) (sb:∀ b,b ≠ C->h'.get? b=s'.heap.get? b) :
   Inv X pins σ (upd H' l (.lst acc)) { s' with heap:=h' }:=by
 obtain ⟨p1,p2,p3,p4,p5⟩:=J.pin (l,lobj its n) (by simp)
 have p1:s'.heap.get? l=some (lobj its n):=p1
 have p2:H' l=none:=p2
 have p3:l ≠ C:=p3
 have fC:H' C=none:=J.free
 have Hl:H l=none:=I.hok.fresh hls
 have old:∀ {b o},s.heap.get? b=some o->b ≠ C/\b ≠ l:=fun {b o} e=>⟨Z26 (Z15 (Z13 e) hC),Z26 (Z15 (Z13 e) hls)⟩
 have B:Un (frs X.stack) fp H H' s.heap s'.heap:=J.base
 refine I.call' (s':={ s' with heap:=h' }) (ch:=fp) J.os ⟨fun b o e n hb hx=>?_,fun b o e n hb hx=>?_,fun b o e n hx=>?_,fun b o e hx=>?_,fun b xs e=>?_,fun b o xs e=>?_,fun b ps e=>?_⟩ (fun b u e=>?_) J.bare fun b hb=>?_
 · exact (sb b (old e).1).trans (B.keep b o e n hb hx)
 · obtain ⟨sl,q⟩:=B.slot b o e n hb hx
   exact ⟨sl,(sb b (old e).1).trans q⟩
 · rw [upd_ne (old e).2]; exact B.free b o e n hx
 · obtain ⟨o',q⟩:=B.there b o e hx
   exact ⟨o',(sb b (old e).1).trans q⟩
 · have q:=B.tups b xs e
   rw [upd_ne (ne_of_none q p2)]; exact q
 · have q:=B.frzs b o xs e
   rw [upd_ne (ne_of_none q p2)]; exact q
 · obtain ⟨m,q⟩:=B.tbls b ps e
   exact ⟨m,by rw [upd_ne (ne_of_none q p2)]; exact q⟩
 · by_cases hb:b=l
   · subst hb
     rw [upd_same] at e
     cases e
     exact ⟨hz,its,n,rv,(sb b p3).trans p1⟩
   · rw [upd_ne hb] at e
     refine (J.hok b u e).stay (fun c v hc q=>(sb c ?_).trans q) (fun c q=>by rw [upd_ne (ne_of_none q p2)]; exact q) fun c xs q=>by rw [upd_ne (ne_of_none q p2)]; exact q
     rcases hc with rfl | hc
     · exact ne_of_none e fC
     · exact ne_of_none hc fC
 · obtain ⟨f0,f1,f2,f3,f4,f5⟩:=hf b hb
   exact ⟨f3,f1,f4,f5⟩
end
theorem compStart_any {prog:Program} {w:World} {A:Around} {R:Result->Shared->Prop} {s:Shared} {elt:Expr} {gens:List Comprehension} {scope:Scope} {pos:Pos} {it acc:Value} {env:Env} {d:Nat} {g:Comprehension} (hg:gens[d]?=some g) (ha:g.is_async=0)
   (h0:codeAny (model prog w) A (.compLoop (.ListComp elt gens scope pos) d it acc env) R s)
   (h:wpAny (model prog w) A (pyIter it) (fun it' s'=>codeAny (model prog w) A (.compLoop (.ListComp elt gens scope pos) d it' acc env) R s')
     (notedBy (model prog w) A env fun x s'=>R (.error x) s') s) :
   codeAny (model prog w) A (.compStart (.ListComp elt gens scope pos) d it acc env) R s:=by
 refine codeAny_of_tree ?_
 show wpAny _ _ ((compStart (.ListComp elt gens scope pos) d it acc env).onRaise (fun x=>do noteFrame x env; standAt theWindowsPlace)) _ _ s
 refine wpAny_notedAt ?_
 have e:compStart (.ListComp elt gens scope pos) d it acc env=(do
     if (<- ask).params.followText "comprehension-iter-twice" then return <- again (.compLoop (.ListComp elt gens scope pos) d it acc env)
     rule "comprehension.iter-twice"
     standAt g.iter.pos
     again (.compLoop (.ListComp elt gens scope pos) d (<- pyIter it) acc env)):=by
   unfold compStart
   have e1:((clausesOf (.ListComp elt gens scope pos))[d]?).elim false (fun x=>x.is_async != 0)=false:=by
     show (gens[d]?).elim false _=false
     rw [hg]
     simp [ha]
   have e2:(clausesOf (.ListComp elt gens scope pos))[d]?=some g:=hg
   rw [e1,e2]
   rfl
 rw [e]
 show wpAny _ _ (ask >>= _) _ _ s
 refine Z55 (wpAny_askSetting (wpAny_ite ?_))
 split
 · first
     | exact Z55 (Z56 (Z56 (And.intro rfl h0)))
     | exact Z56 (And.intro rfl h0)
 · first
     | exact Z55 (wpAny_rule (Z55 (wpAny_standAt (Z55 (Z57 h (fun it' s' h'=>Z56 (And.intro rfl h')) fun _ _ x=>x)))))
     | (refine Z55 (wpAny_rule ?_); show wpAny _ _ (standAt g.iter.pos >>= _) _ _ s; exact Z55 (wpAny_standAt (Z55 (Z57 h (fun it' s' h'=>Z56 (And.intro rfl h')) fun _ _ x=>x))))
noncomputable def tComp (nt:Nat) (ix:List Nat) (wi:TI) (lp:It->TB):TE:=fun σ H Q=>wi σ H fun J H1=>lp J (cst nt ix σ) H1 [] fun _ H2 acc=>∀ l,H2 l=none->Q (.ref l) (upd H2 l (.lst acc))
noncomputable def PLp (X:Cx) (scope:Scope) (ts:List Str) (ix:List Nat) (tg:Expr) (c:Env->Value->Value->Code) (lp:It->TB):Prop:=
 ∀ (C:Addr) (s2:Shared) (H2:Hp) (fp:List Addr) (pins:List (Addr × Obj)) (s:Shared) (σ:St) (H:Hp) (l:Addr) (acc:List V) (its:List Value) (n:Nat) (Q:St->Hp->List V->Prop) (it:Addr) (tn:Nat->Heap->Prop) (J:It) (fp':List Addr),
   Inv (compCx X scope ts ix C s2 H2 fp) (pins++[(l,lobj its n)]) σ H s->FpS (compCx X scope ts ix C s2 H2 fp) pins l->Vals acc its->acc.length<=sizeLine->Turn X.prog X.w X.K tg J fp' it tn->tn 0 s.heap->(∀ b ∈ fp',FpOk (compCx X scope ts ix C s2 H2 fp) (pins++[(l,lobj its n)]) H b) ->
   lp J σ H acc Q->codeAny (model X.prog X.w) X.A (c (compCx X scope ts ix C s2 H2 fp).env (.ref it) (.ref l)) (fun r s'=>r=.ok .next/\AccP (compCx X scope ts ix C s2 H2 fp) pins l Q s') s
noncomputable def CompDone (X:Cx) (pins:List (Addr × Obj)) (σ:St) (Q:VK) (acc:Value) (C:Addr) (s':Shared):Prop:=
 ∃ l H',acc=.ref l/\(∃ m,s'.heap.Ns C m)/\H' C=none/\FpS X pins C/\Q (.ref l) H'/\∀ h':Heap,(∀ b,b ≠ C->h'.get? b=s'.heap.get? b)->Inv X pins σ H' { s' with heap:=h' }
section
variable {X:Cx} {tg iter elt:Expr} {ifs:List Expr} {gs:List Comprehension} {scope:Scope} {pos:Pos} {ts:List Str} {ix:List Nat} {wi:TI} {lp:It->TB}
theorem comp_core {use:Option (Value->Sem Unit)} {ps:Pos} {pins:List (Addr × Obj)} {s:Shared} {σ:St} {H:Hp} {Q:VK} {Q':Value->Shared->Prop} (hc:X.calm=true) (S:CompScope X scope ts ix) (hi:PI X tg iter wi)
   (hlp:PLp X scope ts ix tg (fun env it acc=>.compLoop (.ListComp elt (⟨tg,iter,ifs,0⟩::gs) scope pos) 0 it acc env) lp) (hs:∀ x,foldedSetIterable iter X.env x=pure x) (I:Inv X pins σ H s) (h:tComp ts.length ix wi lp σ H Q)
   (fin:∀ acc C s',CompDone X pins σ Q acc C s'->compPost (model X.prog X.w) X.A X.xe use Q' acc C (.ok .next) s') :
   wpAny (model X.prog X.w) X.A (comprehension (.ListComp elt (⟨tg,iter,ifs,0⟩::gs) scope pos) scope X.env ps (newList []) false (eval iter X.env) use) Q' X.xe s:=by
 have nocell:∀ y ∈ scope.names,y.2 ≠ .cell:=fun y hy=>by simpa using Z50.mp S.nocell y hy
 have names:∀ y ∈ scope.names,y.2=.local->scope.names.lookup y.1=some .local:=fun y hy e=>by
   have:=Z50.mp S.names y hy
   simpa [e] using this
 have fre:∀ y ∈ scope.names,y.2=.free->∃ c,X.env.cells.lookup y.1=some c:=fun y hy e=>by
   have:=Z50.mp S.free y hy
   exact I.ok.has y.1 (by simpa [e] using this)
 refine wpAny_comprehension_free (g:=⟨tg,iter,ifs,0⟩) (gs:=gs) rfl hs (closureFor_eq fre) S.kind names ?_
 refine thn (hi pins s σ H _ I h) fun xv s1 h1=>thn h1 fun itv s2 h2=>?_
 obtain ⟨it,fp,tn,J,H2,e,I2,T,st2,f2,q2⟩:=h2
 subst e
 refine wpAny_newObj_type (wpAny_newFunctionEnv nocell (by intro y hy; simp at hy) (fun h₁ hns₁ hsb₁=>?_) S.kind)
 dsimp only at hns₁ hsb₁ ⊢
 generalize hH2:s2.heap.push { cls:=.type "list",dict:=none,data:=.seq ([]:List Value).toArray }=G2 at hns₁ hsb₁ ⊢
 have hC:G2.objs.size=s2.heap.objs.size+1:=by rw [<- hH2,Heap.size_push]
 have hDC:s2.heap.objs.size ≠ G2.objs.size:=by rw [hC]; exact Z26 (Nat.lt_succ_self _)
 have hCle:s2.heap.objs.size<=G2.objs.size:=by rw [hC]; exact Nat.le_succ _
 have below:∀ b,b < s2.heap.objs.size->b ≠ G2.objs.size:=fun b hb=>by rw [hC]; exact Z26 (Nat.lt_succ_of_lt hb)
 have keep:∀ b o,s2.heap.get? b=some o->h₁.get? b=some o:=fun b o e=>hsb₁.extBut b o (below b (Z13 e)) (Z7 _ (hH2 ▸ Z7 _ e))
 have hl:h₁.get? s2.heap.objs.size=some (lobj [] 0):=hsb₁.extBut _ _ hDC (Z7 _ (hH2 ▸ Z20 _ rfl))
 have obf:∀ b ∈ fp,∃ o,s2.heap.get? b=some o:=fun b hb=>let ⟨o,e,_⟩:=T.obj _ _ st2 b hb; ⟨o,e⟩
 have ns:h₁.Ns G2.objs.size fun _=>none:=by simpa using hns₁
 have I4:Inv (compCx X scope ts ix G2.objs.size s2 H2 fp) ([]++[(s2.heap.objs.size,lobj [] 0)]) (cst ts.length ix σ) H2 { s2 with heap:=h₁,toks:=s2.toks+([]:List (Str × Value)).length }:=
   comp_start I2 S hc f2 obf keep hl (Z10 _) hCle hDC ns
 have lS:FpS (compCx X scope ts ix G2.objs.size s2 H2 fp) [] s2.heap.objs.size:=by
   refine ⟨hDC,fun z=>?_,.inr (Z10 _),fun x c e z=>?_,fun p hp=>absurd hp (by simp [compCx])⟩
   · rcases Z19.mp (I2.stkSub _ z) with e | e
     · exact absurd I2.lt (by rw [<- e]; exact Z33 _)
     · exact I2.nofs (Z10 _) e
   · obtain ⟨v,q⟩:=I2.cell x c (closL_sound (fun y d z=>by simp at z) e)
     exact absurd q.lt (by rw [z]; exact Z33 _)
 have stn:tn 0 h₁:=T.keep _ _ _ st2 fun b _ o e=>keep b o e
 have fp4:∀ b ∈ fp,FpOk (compCx X scope ts ix G2.objs.size s2 H2 fp) ([]++[(s2.heap.objs.size,lobj [] 0)]) H2 b:=fun b hb=>by
   obtain ⟨f0,f1,f2',f3,f4,f5⟩:=f2 b hb
   obtain ⟨o,eo⟩:=obf b hb
   refine ⟨f0,below b (Z13 eo),fun z=>?_,.inl hb,fun x c e=>f4 x c (closL_sound (fun y d z=>by simp at z) e),fun p hp=>?_⟩
   · rcases Z19.mp (I2.stkSub b z) with e | e
     · exact f1 e
     · exact f2' e
   · obtain rfl:p=(s2.heap.objs.size,lobj [] 0):=by simpa [compCx] using hp
     exact Nat.ne_of_gt (Z13 eo)
 have run:∀ s3:Shared,s3={ s2 with heap:=h₁,toks:=s2.toks+([]:List (Str × Value)).length } ->
     codeAny (model X.prog X.w) X.A (.compLoop (.ListComp elt (⟨tg,iter,ifs,0⟩::gs) scope pos) 0 (.ref it) (.ref s2.heap.objs.size) (compCx X scope ts ix G2.objs.size s2 H2 fp).env) (fun r s'=>compPost (model X.prog X.w) X.A X.xe use Q' (.ref s2.heap.objs.size) G2.objs.size r s') s3:=by
   rintro s3 rfl
   refine codeAny_mono (hlp G2.objs.size s2 H2 fp [] _ _ H2 _ [] [] 0 _ it tn J fp I4 lS .nil (Z30 _) T stn fp4 q2) fun r s' hr=>?_
   obtain ⟨rfl,σ',H',acc,its,n,J',rv,hz,q⟩:=hr
   have pl:=J'.pin (s2.heap.objs.size,lobj its n) (by simp)
   refine fin _ _ _ ⟨_,upd H' s2.heap.objs.size (.lst acc),rfl,let ⟨m,hn,_⟩:=J'.loc; ⟨m,hn⟩,by rw [upd_ne (Ne.symm hDC)]; exact J'.free,?_,q _ pl.2.1,fun h' sb=>comp_end I2 f2 (Z10 _) hCle J' rv hz sb⟩
   refine ⟨fun e=>?_,I2.nofs hCle,.inr (Z24 I2.sz hCle),fun x c e z=>?_,fun p hp z=>?_⟩
   · exact absurd (Z15 I2.lt hCle) (by rw [e]; exact Z33 _)
   · obtain ⟨v,q⟩:=I2.cell x c e
     exact absurd (Z15 q.lt hCle) (by rw [z]; exact Z33 _)
   · exact absurd (Z15 (Z13 (I2.pin p hp).1) hCle) (by rw [z]; exact Z33 _)
 exact compStart_any (g:=⟨tg,iter,ifs,0⟩) rfl rfl (run _ rfl) (T.self _ 0 _ _ _ stn (run _ rfl))
theorem pe_compG (hc:X.calm=true) (S:CompScope X scope ts ix) (hi:PI X tg iter wi)
   (hlp:PLp X scope ts ix tg (fun env it acc=>.compLoop (.ListComp elt (⟨tg,iter,ifs,0⟩::gs) scope pos) 0 it acc env) lp) (hs:∀ x,foldedSetIterable iter X.env x=pure x:=by intro _; rfl) :
   PE X (.ListComp elt (⟨tg,iter,ifs,0⟩::gs) scope pos) (tComp ts.length ix wi lp):=by
 intro pins s σ H Q I h
 rw [eval_ListComp]
 refine comp_core (use:=none) (Q:=Q) hc S hi hlp hs I h fun acc C s' ⟨l,H',e,⟨m,hn⟩,_,_,q,back⟩=>?_
 subst e
 exact ⟨m,hn,fun h' sb=>⟨.ref l,H',back h' fun b hb=>sb.2 b hb,rfl,q⟩⟩
end
section
variable {X:Cx} {tg iter elt tg2 iter2:Expr} {ifs ifs2:List Expr} {scope:Scope} {pos:Pos} {ts:List Str} {ix:List Nat} {g g2:TG} {tt tt2:TT} {te:TE} {wi2:TI}
theorem plp_one (hc:X.calm=true) (hg:∀ C s2 H2 fp,PG (compCx X scope ts ix C s2 H2 fp) tg g) (ht:∀ C s2 H2 fp,PIf (compCx X scope ts ix C s2 H2 fp) ifs tt) (he:∀ C s2 H2 fp,PE (compCx X scope ts ix C s2 H2 fp) elt te) :
   PLp X scope ts ix tg (fun env it acc=>.compLoop (.ListComp elt [⟨tg,iter,ifs,0⟩] scope pos) 0 it acc env) (lpW g tt (tEmit te)):=by
 intro C s2 H2 fp pins s σ H l acc its n Q it tn J fp' I hl rv hz T st hf h
 exact loop_run (X:=compCx X scope ts ix C s2 H2 fp) (iter:=iter) (c:=fun it acc=>.compLoop (.ListComp elt [⟨tg,iter,ifs,0⟩] scope pos) 0 it acc (compCx X scope ts ix C s2 H2 fp).env) rfl hc (hg C s2 H2 fp) (ht C s2 H2 fp) (pb_emit (he C s2 H2 fp))
   (fun _ _=>rfl) (fun _ _=>rfl) (fun it acc=>⟨_,rfl⟩) I hl rv hz T st hf h
end
set_option genInjectivity true in
inductive D where
 | non | bl (b:Bool) | int (i:Int) | str (x:Str) | tup (l:List D) | lst (l:List D)
mutual
def Rep (K:PySem.W.Frag) (H:Hp):D->V->Prop
 | .non,v=>v=.non
 | .bl b,v=>v=.bl b
 | .int i,v=>v=.int i
 | .str x,v=>v=.str x
 | .tup l,v=>∃ a xs,v=.ref a/\SqT K H a xs/\RepL K H l xs
 | .lst l,v=>∃ a xs,v=.ref a/\SqL K H a xs/\RepL K H l xs
def RepL (K:PySem.W.Frag) (H:Hp):List D->List V->Prop
 | [],xs=>xs=[]
 | d::ds,xs=>∃ x r,xs=x::r/\Rep K H d x/\RepL K H ds r
end
mutual
def D.eq:D->D->Bool
 | .non,.non=>true
 | .bl a,.bl b=>a == b
 | .bl a,.int b=>(if a then 1 else 0) == b
 | .int a,.bl b=>a == (if b then 1 else 0)
 | .int a,.int b=>a == b
 | .str a,.str b=>a == b
 | .tup a,.tup b=>D.eqL a b
 | .lst a,.lst b=>D.eqL a b
 | _,_=>false
def D.eqL:List D->List D->Bool
 | [],[]=>true
 | a::r,b::t=>D.eq a b && D.eqL r t
 | _,_=>false
end
theorem D.e1 (a b:Bool):D.eq (.bl a) (.bl b)=(a == b):=rfl
theorem D.e2 (a b:Int):D.eq (.int a) (.int b)=(a == b):=rfl
theorem D.e3 (a b:Str):D.eq (.str a) (.str b)=(a == b):=rfl
theorem D.e4 (a b:List D):D.eq (.tup a) (.tup b)=D.eqL a b:=rfl
theorem D.e5 (a b:List D):D.eq (.lst a) (.lst b)=D.eqL a b:=rfl
theorem D.e6:D.eqL [] []=true:=rfl
theorem D.e7 (a b:D) (r t:List D):D.eqL (a::r) (b::t)=(D.eq a b && D.eqL r t):=rfl
theorem D.e8 (b:D) (t:List D):D.eqL [] (b::t)=false:=rfl
theorem D.e9 (b:D) (t:List D):D.eqL (b::t) []=false:=rfl
mutual
def D.depth:D->Nat
 | .tup l=>D.depthL l+1
 | .lst l=>D.depthL l+1
 | _=>0
def D.depthL:List D->Nat
 | []=>0
 | a::r=>max (D.depth a) (D.depthL r)
end
mutual
theorem D.eq_refl:∀ d:D,D.eq d d=true
 | .non=>rfl
 | .bl b=>by simp -iota [D.e1,D.e2,D.e3,D.e4,D.e5]
 | .int i=>by simp -iota [D.e1,D.e2,D.e3,D.e4,D.e5]
 | .str x=>by simp -iota [D.e1,D.e2,D.e3,D.e4,D.e5]
 | .tup l=>by simp -iota [D.e1,D.e2,D.e3,D.e4,D.e5,D.eqL_refl l]
 | .lst l=>by simp -iota [D.e1,D.e2,D.e3,D.e4,D.e5,D.eqL_refl l]
theorem D.eqL_refl:∀ l:List D,D.eqL l l=true
 | []=>rfl
 | a::r=>by simp -iota [D.e6,D.e7,D.e8,D.e9,D.eq_refl a,D.eqL_refl r]
end
theorem RepL.length {K:PySem.W.Frag} {H:Hp}:∀ {l:List D} {xs:List V},RepL K H l xs->xs.length=l.length
 | [],xs,h=>by rw [RepL] at h; subst h; rfl
 | d::ds,xs,h=>by
   rw [RepL] at h
   obtain ⟨x,r,rfl,_,t⟩:=h
   simp -iota [RepL.length t]
theorem RepL.get {K:PySem.W.Frag} {H:Hp}:∀ {l:List D} {xs:List V} {i:Nat} {d:D},RepL K H l xs->l[i]?=some d->∃ x,xs[i]?=some x/\Rep K H d x
 | [],xs,i,d,h,e=>by simp -iota at e
 | d'::ds,xs,0,d,h,e=>by
   rw [RepL] at h
   obtain ⟨x,r,rfl,p,_⟩:=h
   simp -iota at e; subst e
   exact ⟨x,rfl,p⟩
 | d'::ds,xs,i+1,d,h,e=>by
   rw [RepL] at h
   obtain ⟨x,r,rfl,_,t⟩:=h
   obtain ⟨y,h1,h2⟩:=RepL.get (i:=i) t (by simpa using e)
   exact ⟨y,by simpa using h1,h2⟩
theorem RepL.nil {K:PySem.W.Frag} {H:Hp}:RepL K H [] []:=by rw [RepL]
theorem RepL.cons {K:PySem.W.Frag} {H:Hp} {d:D} {ds:List D} {x:V} {xs:List V} (h:Rep K H d x) (t:RepL K H ds xs):RepL K H (d::ds) (x::xs):=by rw [RepL]; exact ⟨x,xs,rfl,h,t⟩
noncomputable def Stay (K:PySem.W.Frag) (H H':Hp):Prop:=(∀ a xs,SqT K H a xs->SqT K H' a xs)/\∀ a xs,SqL K H a xs->SqL K H' a xs
theorem Same.stay {K:PySem.W.Frag} {H H':Hp} (s:Same H H'):Stay K H H':=by
 refine ⟨fun a xs h=>?_,fun a xs h=>s.seq h⟩
 exact s _ _ h
mutual
theorem Rep.stay {K:PySem.W.Frag} {H H':Hp} (s:Stay K H H'):∀ {d:D} {v:V},Rep K H d v->Rep K H' d v
 | .non,v,h=>by rw [Rep] at h ⊢; exact h
 | .bl _,v,h=>by rw [Rep] at h ⊢; exact h
 | .int _,v,h=>by rw [Rep] at h ⊢; exact h
 | .str _,v,h=>by rw [Rep] at h ⊢; exact h
 | .tup l,v,h=>by
   rw [Rep] at h ⊢
   obtain ⟨a,xs,e,p,q⟩:=h
   exact ⟨a,xs,e,s.1 a xs p,RepL.stay s q⟩
 | .lst l,v,h=>by
   rw [Rep] at h ⊢
   obtain ⟨a,xs,e,p,q⟩:=h
   exact ⟨a,xs,e,s.2 a xs p,RepL.stay s q⟩
theorem RepL.stay {K:PySem.W.Frag} {H H':Hp} (s:Stay K H H'):∀ {l:List D} {xs:List V},RepL K H l xs->RepL K H' l xs
 | [],xs,h=>by rw [RepL] at h ⊢; exact h
 | d::ds,xs,h=>by
   rw [RepL] at h
   obtain ⟨x,r,rfl,p,q⟩:=h
   exact .cons (Rep.stay s p) (RepL.stay s q)
end
mutual
def D.imm:D->Bool
 | .tup l=>D.immL l
 | .lst _=>false
 | _=>true
def D.immL:List D->Bool
 | []=>true
 | a::r=>D.imm a && D.immL r
end
noncomputable def StayT (K:PySem.W.Frag) (H H':Hp):Prop:=∀ a xs,SqT K H a xs->SqT K H' a xs
mutual
theorem Rep.stayT {K:PySem.W.Frag} {H H':Hp} (s:StayT K H H'):∀ {d:D} {v:V},D.imm d=true->Rep K H d v->Rep K H' d v
 | .non,v,_,h=>by rw [Rep] at h ⊢; exact h
 | .bl _,v,_,h=>by rw [Rep] at h ⊢; exact h
 | .int _,v,_,h=>by rw [Rep] at h ⊢; exact h
 | .str _,v,_,h=>by rw [Rep] at h ⊢; exact h
 | .tup l,v,i,h=>by
   rw [Rep] at h ⊢
   obtain ⟨a,xs,e,p,q⟩:=h
   exact ⟨a,xs,e,s a xs p,RepL.stayT s (by simpa [D.imm] using i) q⟩
 | .lst l,v,i,h=>by simp -iota [D.imm] at i
theorem RepL.stayT {K:PySem.W.Frag} {H H':Hp} (s:StayT K H H'):∀ {l:List D} {xs:List V},D.immL l=true->RepL K H l xs->RepL K H' l xs
 | [],xs,_,h=>by rw [RepL] at h ⊢; exact h
 | d::ds,xs,i,h=>by
   rw [RepL] at h
   obtain ⟨x,r,rfl,p,q⟩:=h
   simp -iota only [D.immL,Z25] at i
   exact .cons (Rep.stayT s i.1 p) (RepL.stayT s i.2 q)
end
section
variable {X:Cx} {pins:List (Addr × Obj)} {σ:St} {H:Hp} {s:Shared}
theorem Inv.list_ne_tuple (I:Inv X pins σ H s) {a:Addr} {xs ys:List V} (h:SqL X.K H a xs) (h':SqT X.K H a ys):False:=by
 obtain ⟨its,_,⟨o,n,e,c,_⟩,_⟩:=I.list h
 obtain ⟨its',_,⟨o',e',c',_⟩,_⟩:=I.tuple h'
 rw [e] at e'; cases e'
 rw [c] at c'
 exact absurd c' (by decide)
mutual
theorem Rep.inj (I:Inv X pins σ H s):∀ {d e:D} {v:V},Rep X.K H d v->Rep X.K H e v->d=e
 | .non,e,v,h,h'=>by rw [Rep] at h; subst h; cases e <;> rw [Rep] at h' <;> first | rfl | (obtain ⟨_,_,z,_⟩:=h'; cases z; done) | (cases h'; done)
 | .bl b,e,v,h,h'=>by rw [Rep] at h; subst h; cases e <;> rw [Rep] at h' <;> first | (cases h'; rfl) | (obtain ⟨_,_,z,_⟩:=h'; cases z; done) | (cases h'; done)
 | .int b,e,v,h,h'=>by rw [Rep] at h; subst h; cases e <;> rw [Rep] at h' <;> first | (cases h'; rfl) | (obtain ⟨_,_,z,_⟩:=h'; cases z; done) | (cases h'; done)
 | .str b,e,v,h,h'=>by rw [Rep] at h; subst h; cases e <;> rw [Rep] at h' <;> first | (cases h'; rfl) | (obtain ⟨_,_,z,_⟩:=h'; cases z; done) | (cases h'; done)
 | .tup l,e,v,h,h'=>by
   rw [Rep] at h
   obtain ⟨a,xs,rfl,p,q⟩:=h
   cases e <;> rw [Rep] at h'
   case tup m=>
     obtain ⟨b,ys,z,p',q'⟩:=h'
     cases z
     have:=I.tuple_inj p p'
     subst this
     rw [RepL.inj I q q']
   case lst m=>
     obtain ⟨b,ys,z,p',q'⟩:=h'
     cases z
     exact (I.list_ne_tuple p' p).elim
   all_goals cases h'
 | .lst l,e,v,h,h'=>by
   rw [Rep] at h
   obtain ⟨a,xs,rfl,p,q⟩:=h
   cases e <;> rw [Rep] at h'
   case lst m=>
     obtain ⟨b,ys,z,p',q'⟩:=h'
     cases z
     have:=I.list_inj p p'
     subst this
     rw [RepL.inj I q q']
   case tup m=>
     obtain ⟨b,ys,z,p',q'⟩:=h'
     cases z
     exact (I.list_ne_tuple p p').elim
   all_goals cases h'
theorem RepL.inj (I:Inv X pins σ H s):∀ {l m:List D} {xs:List V},RepL X.K H l xs->RepL X.K H m xs->l=m
 | [],m,xs,h,h'=>by
   rw [RepL] at h; subst h
   cases m with
   | nil=>rfl
   | cons a r=>rw [RepL] at h'; obtain ⟨_,_,z,_⟩:=h'; cases z
 | d::ds,m,xs,h,h'=>by
   rw [RepL] at h
   obtain ⟨x,r,rfl,p,q⟩:=h
   cases m with
   | nil=>rw [RepL] at h'; cases h'
   | cons a t=>
     rw [RepL] at h'
     obtain ⟨_,_,z,p',q'⟩:=h'
     cases z
     rw [Rep.inj I p p',RepL.inj I q q']
end
end
noncomputable def eqAtJ (l m:List D) (j:Nat):Bool:=match l[j]?,m[j]? with
 | some a,some b=>D.eq a b
 | _,_=>true
theorem eqL_all:∀ (l m:List D),((List.range (min l.length m.length)).all (eqAtJ l m) && l.length == m.length)=D.eqL l m
 | [],[]=>by simp -iota [D.e6,D.e7,D.e8,D.e9]
 | [],b::t=>by simp -iota [D.e6,D.e7,D.e8,D.e9]
 | a::r,[]=>by simp -iota [D.e6,D.e7,D.e8,D.e9]
 | a::r,b::t=>by
   rw [D.e7,<- eqL_all r t]
   have e1:min (a::r).length (b::t).length=min r.length t.length+1:=by simp -iota [Nat.succ_min_succ]
   rw [e1,List.range_succ_eq_map,List.all_cons,List.all_map]
   have e2:(eqAtJ (a::r) (b::t) ∘ Nat.succ)=eqAtJ r t:=by funext j; simp -iota [eqAtJ]
   rw [e2]
   have e3:eqAtJ (a::r) (b::t) 0=D.eq a b:=by simp [eqAtJ]
   rw [e3,Bool.and_assoc]
   congr 2
   simp
theorem eqL_len {l m:List D} (h:l.length ≠ m.length):D.eqL l m=false:=by
 rw [<- eqL_all l m]
 simp -iota [h]
section
variable {X:Cx} {pins:List (Addr × Obj)} {σ:St} {H:Hp} {s:Shared}
open PySem.SeqAt
theorem depthL_get:∀ {l:List D} {j:Nat} {d:D},l[j]?=some d->D.depth d<=D.depthL l
 | [],j,d,e=>by simp -iota at e
 | a::r,0,d,e=>by simp -iota at e; subst e; rw [D.depthL]; exact Nat.le_max_left _ _
 | a::r,j+1,d,e=>by rw [D.depthL]; exact Z24 (depthL_get (l:=r) (j:=j) (by simpa using e)) (Nat.le_max_right _ _)
set_option maxHeartbeats 1000000 in
theorem eqFlat_non (I:Inv X pins σ H s) {A:Around} {e:D} {y:V} {v:Value} (hu:A.units < cLine) (re:Rep X.K H e y) (rv:RelV y v) :
   EqAt A s Value.none v (D.eq .non e)/\RcAt A s Value.none v (D.eq .non e):=by
 cases e <;> rw [Rep] at re
 case non=>
   subst re
   cases rv
   exact ⟨EqAt.same _,RcAt.none_none⟩
 case bl c=>
   subst re
   cases rv
   exact ⟨EqAt.none_bool _,RcAt.none_bool _⟩
 case int c=>
   subst re
   obtain ⟨t',rfl⟩:=rv
   exact ⟨EqAt.none_int _ _,RcAt.none_int _ _⟩
 case str c=>
   subst re
   obtain ⟨t',rfl⟩:=rv
   exact ⟨EqAt.none_str _ _,RcAt.none_str _ _⟩
 case tup m=>
   obtain ⟨a,xs,rfl,p,q⟩:=re
   cases rv
   obtain ⟨its,r,pl,_⟩:=I.tuple p
   exact ⟨EqAt.none_tuple  pl hu,RcAt.none_tuple  pl hu⟩
 case lst m=>
   obtain ⟨a,xs,rfl,p,q⟩:=re
   cases rv
   obtain ⟨its,r,pl,_⟩:=I.list p
   exact ⟨EqAt.none_list  pl.isList hu,RcAt.none_list  pl.isList hu⟩
set_option maxHeartbeats 1000000 in
theorem eqFlat_bl (I:Inv X pins σ H s) {A:Around} {b:Bool} {e:D} {y:V} {v:Value} (hu:A.units < cLine) (re:Rep X.K H e y) (rv:RelV y v) :
   EqAt A s (.bool b) v (D.eq (.bl b) e)/\RcAt A s (.bool b) v (D.eq (.bl b) e):=by
 cases e <;> rw [Rep] at re
 case non=>
   subst re
   cases rv
   exact ⟨EqAt.bool_none _,RcAt.bool_none _⟩
 case bl c=>
   subst re
   cases rv
   exact ⟨EqAt.bool_bool _ _,RcAt.bool_bool _ _⟩
 case int c=>
   subst re
   obtain ⟨t',rfl⟩:=rv
   exact ⟨EqAt.bool_int _ _ _,RcAt.bool_int _ _ _⟩
 case str c=>
   subst re
   obtain ⟨t',rfl⟩:=rv
   exact ⟨EqAt.bool_str _ _ _,RcAt.bool_str _ _ _⟩
 case tup m=>
   obtain ⟨a,xs,rfl,p,q⟩:=re
   cases rv
   obtain ⟨its,r,pl,_⟩:=I.tuple p
   exact ⟨EqAt.bool_tuple _ pl hu,RcAt.bool_tuple _ pl hu⟩
 case lst m=>
   obtain ⟨a,xs,rfl,p,q⟩:=re
   cases rv
   obtain ⟨its,r,pl,_⟩:=I.list p
   exact ⟨EqAt.bool_list _ pl.isList hu,RcAt.bool_list _ pl.isList hu⟩
set_option maxHeartbeats 1000000 in
theorem eqFlat_int (I:Inv X pins σ H s) {A:Around} {b:Int} {e:D} {y:V} {t:Tok} {v:Value} (hu:A.units < cLine) (re:Rep X.K H e y) (rv:RelV y v) :
   EqAt A s (.int b t) v (D.eq (.int b) e)/\RcAt A s (.int b t) v (D.eq (.int b) e):=by
 cases e <;> rw [Rep] at re
 case non=>
   subst re
   cases rv
   exact ⟨EqAt.int_none _ _,RcAt.int_none _ _⟩
 case bl c=>
   subst re
   cases rv
   exact ⟨EqAt.int_bool _ _ _,RcAt.int_bool _ _ _⟩
 case int c=>
   subst re
   obtain ⟨t',rfl⟩:=rv
   exact ⟨EqAt.int_int _ _ _ _,RcAt.int_int _ _ _ _⟩
 case str c=>
   subst re
   obtain ⟨t',rfl⟩:=rv
   exact ⟨EqAt.int_str _ _ _ _,RcAt.int_str _ _ _ _⟩
 case tup m=>
   obtain ⟨a,xs,rfl,p,q⟩:=re
   cases rv
   obtain ⟨its,r,pl,_⟩:=I.tuple p
   exact ⟨EqAt.int_tuple _ _ pl hu,RcAt.int_tuple _ _ pl hu⟩
 case lst m=>
   obtain ⟨a,xs,rfl,p,q⟩:=re
   cases rv
   obtain ⟨its,r,pl,_⟩:=I.list p
   exact ⟨EqAt.int_list _ _ pl.isList hu,RcAt.int_list _ _ pl.isList hu⟩
set_option maxHeartbeats 1000000 in
theorem eqFlat_str (I:Inv X pins σ H s) {A:Around} {b:Str} {e:D} {y:V} {t:Tok} {v:Value} (hu:A.units < cLine) (re:Rep X.K H e y) (rv:RelV y v) :
   EqAt A s (.str b t) v (D.eq (.str b) e)/\RcAt A s (.str b t) v (D.eq (.str b) e):=by
 cases e <;> rw [Rep] at re
 case non=>
   subst re
   cases rv
   exact ⟨EqAt.str_none _ _,RcAt.str_none _ _⟩
 case bl c=>
   subst re
   cases rv
   exact ⟨EqAt.str_bool _ _ _,RcAt.str_bool _ _ _⟩
 case int c=>
   subst re
   obtain ⟨t',rfl⟩:=rv
   exact ⟨EqAt.str_int _ _ _ _,RcAt.str_int _ _ _ _⟩
 case str c=>
   subst re
   obtain ⟨t',rfl⟩:=rv
   exact ⟨EqAt.str_str _ _ _ _,RcAt.str_str _ _ _ _⟩
 case tup m=>
   obtain ⟨a,xs,rfl,p,q⟩:=re
   cases rv
   obtain ⟨its,r,pl,_⟩:=I.tuple p
   exact ⟨EqAt.str_tuple _ _ pl hu,RcAt.str_tuple _ _ pl hu⟩
 case lst m=>
   obtain ⟨a,xs,rfl,p,q⟩:=re
   cases rv
   obtain ⟨its,r,pl,_⟩:=I.list p
   exact ⟨EqAt.str_list _ _ pl.isList hu,RcAt.str_list _ _ pl.isList hu⟩
set_option maxHeartbeats 4000000 in
theorem eqD (I:Inv X pins σ H s):∀ (n:Nat) (A:Around) (d e:D) (x y:V) (u v:Value),D.depth d<=n->A.units+n < cLine->Rep X.K H d x->Rep X.K H e y->RelV x u->RelV y v->EqAt A s u v (D.eq d e)/\RcAt A s u v (D.eq d e):=by
 intro n
 induction n with
 | zero=>
   intro A d e x y u v hn hu rd re ru rv
   have hu:A.units < cLine:=by omega
   cases d with
   | non=>rw [Rep] at rd; subst rd; cases ru; exact eqFlat_non I hu re rv
   | bl b=>rw [Rep] at rd; subst rd; cases ru; exact eqFlat_bl I hu re rv
   | int i=>rw [Rep] at rd; subst rd; obtain ⟨t',rfl⟩:=ru; exact eqFlat_int I hu re rv
   | str i=>rw [Rep] at rd; subst rd; obtain ⟨t',rfl⟩:=ru; exact eqFlat_str I hu re rv
   | tup l=>rw [D.depth] at hn; grind
   | lst l=>rw [D.depth] at hn; omega
 | succ n ih=>
   intro A d e x y u v hn hu rd re ru rv
   have hu0:A.units < cLine:=by grind
   have hu1:A.in1.units+n < cLine:=by show A.units+1+n < cLine; lia
   have flat:D.depth d=0->EqAt A s u v (D.eq d e)/\RcAt A s u v (D.eq d e):=fun z=>ih A d e x y u v (by grind) (by lia) rd re ru rv
   have items:∀ {l m:List D} {xs ys:List V} {its its':List Value},D.depthL l<=n->RepL X.K H l xs->RepL X.K H m ys->Vals xs its->Vals ys its' ->
       ∀ j (h1:j < its.toArray.size) (h2:j < its'.toArray.size),EqAt A.in1 s its.toArray[j] its'.toArray[j] (eqAtJ l m j):=by
     intro l m xs ys its its' hd rl rm r r' j h1 h2
     have L1:=r.length; have L2:=r'.length; have L3:=rl.length; have L4:=rm.length
     simp -iota only [Z4] at h1 h2
     have j1:j < l.length:=by lia
     have j2:j < m.length:=by lia
     obtain ⟨x',hx',px⟩:=rl.get (i:=j) (d:=l[j]) (by simp -iota [j1])
     obtain ⟨y',hy',py⟩:=rm.get (i:=j) (d:=m[j]) (by simp -iota [j2])
     obtain ⟨u',hu',pu⟩:=r.get hx'
     obtain ⟨v',hv',pv'⟩:=r'.get hy'
     have e1:its.toArray[j]=u':=by
       have:=(Z9.mp hu').2; simpa using this
     have e2:its'.toArray[j]=v':=by
       have:=(Z9.mp hv').2; simpa using this
     have e3:eqAtJ l m j=D.eq l[j] m[j]:=by simp [eqAtJ,j1,j2]
     rw [e1,e2,e3]
     exact (ih A.in1 l[j] m[j] x' y' u' v' (Z24 (depthL_get (l:=l) (j:=j) (by simp -iota [j1])) hd) hu1 px py pu pv').1
   cases d with
   | non=>exact flat (by simp [D.depth])
   | bl b=>exact flat (by simp [D.depth])
   | int i=>exact flat (by simp [D.depth])
   | str i=>exact flat (by simp [D.depth])
   | tup l=>
     have rd0:=rd
     rw [Rep] at rd
     obtain ⟨a,xs,rfl,p,q⟩:=rd
     cases ru
     obtain ⟨its,r,pl,_⟩:=I.tuple p
     have hdl:D.depthL l<=n:=by rw [D.depth] at hn; lia
     have re0:=re
     cases e <;> rw [Rep] at re
     case non=>subst re; cases rv; exact ⟨EqAt.tuple_none pl hu0,RcAt.tuple_none pl hu0⟩
     case bl b=>subst re; cases rv; exact ⟨EqAt.tuple_bool _ pl hu0,RcAt.tuple_bool _ pl hu0⟩
     case int b=>subst re; obtain ⟨t,rfl⟩:=rv; exact ⟨EqAt.tuple_int _ _ pl hu0,RcAt.tuple_int _ _ pl hu0⟩
     case str b=>subst re; obtain ⟨t,rfl⟩:=rv; exact ⟨EqAt.tuple_str _ _ pl hu0,RcAt.tuple_str _ _ pl hu0⟩
     case lst m=>
       obtain ⟨b,ys,rfl,p',q'⟩:=re
       cases rv
       obtain ⟨its',r',pl',_⟩:=I.list p'
       exact ⟨EqAt.tuple_list pl pl'.isList hu0,RcAt.tuple_list pl pl'.isList hu0⟩
     case tup m=>
       obtain ⟨b,ys,rfl,p',q'⟩:=re
       cases rv
       obtain ⟨its',r',pl',_⟩:=I.tuple p'
       have L1:=r.length; have L2:=r'.length; have L3:=q.length; have L4:=q'.length
       have rc:RcAt A s (.ref a) (.ref b) (D.eq (.tup l) (.tup m)):=by
         have z:=RcAt.tuples (e:=eqAtJ l m) pl pl' hu0 (items hdl q q' r r')
         rw [D.e4,<- eqL_all l m]
         simp -iota only [Z4] at z
         rw [<- L1,<- L2,L3,L4] at z
         exact z
       refine ⟨?_,rc⟩
       by_cases hab:a=b
       · subst hab
         rw [Rep.inj I rd0 re0,D.eq_refl]
         exact EqAt.same _
       · exact .of_refs hab rc
   | lst l=>
     have rd0:=rd
     rw [Rep] at rd
     obtain ⟨a,xs,rfl,p,q⟩:=rd
     cases ru
     obtain ⟨its,r,pl,_⟩:=I.list p
     have hdl:D.depthL l<=n:=by rw [D.depth] at hn; omega
     have re0:=re
     cases e <;> rw [Rep] at re
     case non=>subst re; cases rv; exact ⟨EqAt.list_none pl.isList hu0,RcAt.list_none pl.isList hu0⟩
     case bl b=>subst re; cases rv; exact ⟨EqAt.list_bool _ pl.isList hu0,RcAt.list_bool _ pl.isList hu0⟩
     case int b=>subst re; obtain ⟨t,rfl⟩:=rv; exact ⟨EqAt.list_int _ _ pl.isList hu0,RcAt.list_int _ _ pl.isList hu0⟩
     case str b=>subst re; obtain ⟨t,rfl⟩:=rv; exact ⟨EqAt.list_str _ _ pl.isList hu0,RcAt.list_str _ _ pl.isList hu0⟩
     case tup m=>
       obtain ⟨b,ys,rfl,p',q'⟩:=re
       cases rv
       obtain ⟨its',r',pl',_⟩:=I.tuple p'
       exact ⟨EqAt.list_tuple pl.isList pl' hu0,RcAt.list_tuple pl.isList pl' hu0⟩
     case lst m=>
       obtain ⟨b,ys,rfl,p',q'⟩:=re
       cases rv
       obtain ⟨its',r',pl',_⟩:=I.list p'
       have L1:=r.length; have L2:=r'.length; have L3:=q.length; have L4:=q'.length
       have rc:RcAt A s (.ref a) (.ref b) (D.eq (.lst l) (.lst m)):=by
         rw [D.e5]
         by_cases hl:l.length=m.length
         · have z:=RcAt.lists (e:=eqAtJ l m) pl.isList pl'.isList (by simp; grind) hu0 (items hdl q q' r r')
           rw [<- eqL_all l m,hl]
           simp -iota only [Z4] at z
           rw [<- L1,L3,hl] at z
           simpa using z
         · rw [eqL_len hl]
           exact RcAt.lists_lengths pl.isList pl'.isList (by simp; grind) hu0
       refine ⟨?_,rc⟩
       by_cases hab:a=b
       · subst hab
         rw [Rep.inj I rd0 re0,D.eq_refl]
         exact EqAt.same _
       · exact .of_refs hab rc
end
section
variable {X:Cx}
open Classical in
theorem preSum_list (ns:List Int):∀ j,j<=ns.length->preSum (fun i=>ns.getD i 0) j=(ns.take j).sum
 | 0,_=>by simp -iota [preSum]
 | j+1,h=>by
   rw [preSum,preSum_list ns j (by lia),List.take_add_one,List.sum_append]
   have e:ns[j]?=some (ns[j]'(by lia)):=Z3 _
   simp -iota [e,Z5]
theorem call_sumL (hc:X.calm=true):CallR X (.builtin "sum") (fun xs H Q=>∃ (p:Addr) (ns:List Int),xs=[.ref p]/\SqL X.K H p (ns.map V.int)/\Q (.int ns.sum) H):=by
 intro pins s σ H xs us Q I r h
 obtain ⟨p,ns,rfl,hq,q⟩:=h
 obtain ⟨u,rfl,rx⟩:=vals1 r
 cases rx
 obtain ⟨its,r',pl,hz⟩:=I.list hq
 have hlen:=r'.length
 rw [Z2] at hlen
 have hlt:p < s.heap.objs.size:=by obtain ⟨_,_,e,_⟩:=pl; exact Z13 e
 refine call_sum_walkG (wpAny_pyIter_list pl.isList ⟨s.heap.objs.size,[s.heap.objs.size,p],[s.heap.objs.size],its.toArray.size,_,_,fun i=>ns.getD i 0,rfl,Walks.list (A:=X.A.in1) (show X.A.in1.handled=none from I.ok.hd hc) _ _ (Z26 hlt) its.toArray,⟨⟨_,Z20 _ rfl,rfl,rfl⟩,pl.isList.push _⟩,?_,?_,?_⟩)
 · intro b hb
   show b < (s.heap.push _).objs.size
   rw [Heap.size_push]
   rcases Z19.mp hb with rfl | hb
   · exact Nat.lt_succ_self _
   · obtain rfl:b=p:=by simpa using hb
     exact Nat.lt_succ_of_lt hlt
 · intro i v hv
   have hv':its[i]?=some v:=by simpa using hv
   have hi:i < its.length:=(Z9.mp hv').1
   obtain ⟨u',hu',ru⟩:=r'.get (i:=i) (x:=V.int (ns[i]'(by lia))) (by simp)
   rw [hv'] at hu'
   cases hu'
   obtain ⟨t,rfl⟩:=ru
   exact ⟨t,by simp -iota [Z5,Z3 (show i < ns.length by omega)]⟩
 · intro h' tk t' kk
   have e:preSum (fun i=>ns.getD i 0) its.toArray.size=ns.sum:=by
     rw [Z4,<- hlen,preSum_list ns _ (Z10 _),List.take_length]
   rw [e]
   refine ⟨.int ns.sum,H,I.kept (t':=tk) fun b o eo=>kk b o (fun hb=>?_) (Z7 _ eo),⟨t',rfl⟩,q⟩
   obtain rfl:b=s.heap.objs.size:=by simpa using hb
   exact absurd (Z13 eo) (Z33 _)
noncomputable def isiT (t c:String):Bool:=t == c || (t == "bool" && c == "int")
noncomputable def kindsT:List String:=["NoneType","bool","int","str","list","tuple"]
theorem kit_all (K:PySem.W.Frag):∀ t ∈ kindsT,∀ c ∈ ["bool","int","str","list","tuple"],PySem.W.kitOne K (.type t) (.type c)=some (isiT t c):=by
 intro t ht c hc
 simp -iota only [kindsT,Z19,List.not_mem_nil,or_false] at ht hc
 rcases ht with rfl | rfl | rfl | rfl | rfl | rfl <;> rcases hc with rfl | rfl | rfl | rfl | rfl <;> first | rfl | decide +kernel | (unfold PySem.W.kitOne; rfl)
end
end L2
namespace L2
open PySem PySem.Spec PyProof.Rows
structure FnG (P:Program) (w:World) (K:PySem.W.Frag) (mg:Str->Option Value) (base:Heap) (x:Str) (k:Nat) (ps:List Str) (sp:Sp):Prop where
 ex:∃ (f:Addr) (fd:FuncData),FnOk P w K mg base CX0 k f fd ps sp/\mg x=some (.ref f)/\PySem.W.keepIn K (.ref f)=true/\Binds K fd ps []
section
variable {X:Cx} {e:Expr} {es:List Expr} {t:TA} {p pos:Pos} {x:Str} {k:Nat} {ps:List Str} {sp:Sp}
theorem pe_callF (F:FnG X.prog X.w X.K X.mg X.base x k ps sp) (hr:Room k X.A) (hg:Gl X x) (ha:PA X (e::es) t) (hdb:(x == ("__debug__":Str))=false:=by decide) (he:starEach (e::es) X.env=(false,eval e X.env)::starEach es X.env:=by rfl)
   (hpl:(backTo pos (starEach es X.env)).any (·.1)=false:=by rfl):PE X (.Call (.Name x p) (e::es) [] pos) (tCall sp [] E0 t):=by
 obtain ⟨f,fd,F,hm,hk,hb⟩:=F.ex
 exact pe_call F hr hg hm hk hb .nil pass0 ha hdb he hpl
end
noncomputable def rAddA (K:PySem.W.Frag):R2:=fun x y H Q=>match x,y with
 | .int i,.int j=>Q (.int (i+j)) H
 | .int i,.bl k=>Q (.int (i+b2i k)) H
 | .str i,.str j=>i.length+j.length<=sizeLine/\Q (.str (i++j)) H
 | .ref a,.ref b=>rCatT K (.ref a) (.ref b) H Q∨rCat (.ref a) (.ref b) H Q
 | _,_=>False
noncomputable def toD:V->D
 | .non=>.non
 | .bl b=>.bl b
 | .int i=>.int i
 | .str x=>.str x
 | _=>.non
theorem rep_toD {K:PySem.W.Frag} {H:Hp} {x:V} (h:flatV x=true):Rep K H (toD x) x:=by
 cases x <;> first | (simp [flatV] at h; done) | (simp [toD,Rep])
theorem eq_toD {x y:V} (hx:flatV x=true) (hy:flatV y=true):D.eq (toD x) (toD y)=eqV x y:=by
 cases x <;> cases y <;> first | (simp [flatV] at hx; done) | (simp [flatV] at hy; done) | rfl
noncomputable def rEqA (K:PySem.W.Frag) (n:Nat) (neg:Bool):R2:=fun x y H Q=>match flatV x && flatV y with
 | true=>Q (.bl (if neg then !eqV x y else eqV x y)) H
 | false=>∃ d e,Rep K H d x/\Rep K H e y/\D.depth d<=n/\Q (.bl (if neg then !D.eq d e else D.eq d e)) H
noncomputable def rIxA (K:PySem.W.Frag):R2:=fun x y H Q=>match x,y with
 | .str z,.int i=>z.length<=sizeLine/\∃ c,atI z.cps.toList i=some c/\Q (.str ⟨#[c]⟩) H
 | .ref p,.int i=>∃ xs v,(SqL K H p xs∨SqT K H p xs)/\atI xs i=some v/\Q v H
 | _,_=>False
noncomputable def rMulA:R2:=fun x y H Q=>match x,y with
 | .int i,.int j=>CMul i j/\Q (.int (i * j)) H
 | _,_=>False
noncomputable def CDivB (j:Int):Prop:=0 < j/\j.natAbs.log2 < 9000
noncomputable def rModA:R2:=fun x y H Q=>match x,y with
 | .int i,.int j=>0 < j/\Q (.int (i % j)) H
 | _,_=>False
noncomputable def rSubA:R2:=fun x y H Q=>match x,y with
 | .int i,.int j=>Q (.int (i - j)) H
 | _,_=>False
noncomputable def rPowA:R2:=fun x y H Q=>match x,y with
 | .int i,.int j=>CPow i j/\Q (.int (i ^ j.toNat)) H
 | _,_=>False
noncomputable def rCmpA (p:Int->Int->Bool) (q:Str->Str->Bool):R2:=fun x y H Q=>match x,y with
 | .int i,.int j=>Q (.bl (p i j)) H
 | .str i,.str j=>Q (.bl (q i j)) H
 | _,_=>False
section
variable {X:Cx}
theorem op_addA:OpR X (binaryOp .Add) (rAddA X.K):=by
 intro pins s σ H x y v u Q I rx ry h
 cases x with
 | int i=>
   cases y with
   | int j=>exact op_add pins s σ H _ _ v u Q I rx ry ⟨_,_,rfl,rfl,h⟩
   | bl j=>exact op_add_ib pins s σ H _ _ v u Q I rx ry ⟨_,_,rfl,rfl,h⟩
   | _=>exact False.elim h
 | str i=>
   cases y with
   | str j=>exact op_add_str pins s σ H _ _ v u Q I rx ry ⟨_,_,rfl,rfl,h.1,h.2⟩
   | _=>exact False.elim h
 | ref a=>
   cases y with
   | ref b=>
     rcases h with h | h
     · exact op_catT pins s σ H _ _ v u Q I rx ry h
     · exact op_cat pins s σ H _ _ v u Q I rx ry h
   | _=>exact False.elim h
 | _=>exact False.elim h
theorem op_mulA:OpR X (binaryOp .Mult) rMulA:=by
 intro pins s σ H x y v u Q I rx ry h
 unfold rMulA at h
 split at h
 · exact op_mul pins s σ H _ _ v u Q I rx ry ⟨_,_,rfl,rfl,h.1,h.2⟩
 · exact h.elim
theorem op_modA:OpR X (binaryOp .Mod) rModA:=by
 intro pins s σ H x y v u Q I rx ry h
 unfold rModA at h
 split at h
 · exact op_mod pins s σ H _ _ v u Q I rx ry ⟨_,_,rfl,rfl,h.1,h.2⟩
 · exact h.elim
theorem op_subA:OpR X (binaryOp .Sub) rSubA:=by
 intro pins s σ H x y v u Q I rx ry h
 unfold rSubA at h
 split at h
 · exact op_sub pins s σ H _ _ v u Q I rx ry ⟨_,_,rfl,rfl,h⟩
 · exact h.elim
theorem op_powA:OpR X (binaryOp .Pow) rPowA:=by
 intro pins s σ H x y v u Q I rx ry h
 unfold rPowA at h
 split at h
 · exact op_pow pins s σ H _ _ v u Q I rx ry ⟨_,_,rfl,rfl,h.1,h.2⟩
 · exact h.elim
theorem eqA_run {n:Nat} {neg:Bool} (hu:X.A.units+n < cLine) {pins:List (Addr × Obj)} {s:Shared} {σ:St} {H:Hp} {x y:V} {v u:Value} {Q:VK} (I:Inv X pins σ H s) (rx:RelV x v) (ry:RelV y u) (h:rEqA X.K n neg x y H Q) :
   ∃ b,SeqAt.RcAt X.A s v u b/\Q (.bl (if neg then !b else b)) H:=by
 unfold rEqA at h
 cases e:flatV x && flatV y with
 | true=>
   rw [e] at h
   rw [Z25] at e
   have d0:D.depth (toD x)<=n:=by cases x <;> simp [toD,D.depth]
   have z:=(eqD I n X.A (toD x) (toD y) x y v u d0 hu (rep_toD e.1) (rep_toD e.2) rx ry).2
   rw [eq_toD e.1 e.2] at z
   exact ⟨_,z,h⟩
 | false=>
   rw [e] at h
   obtain ⟨d,e,rd,re,hd,q⟩:=h
   exact ⟨_,(eqD I n X.A d e x y v u hd hu rd re rx ry).2,q⟩
theorem op_eqA {n:Nat} (hu:X.A.units+n < cLine):OpR X (compareOp .Eq) (rEqA X.K n false):=by
 intro pins s σ H x y v u Q I rx ry h
 obtain ⟨b,r,q⟩:=eqA_run hu I rx ry h
 exact r _ _ _ _ ⟨.bl b,H,I,rfl,q⟩
theorem rIxA_of {K:PySem.W.Frag} {x y:V} {H:Hp} {Q:VK} (h:rIxA K x y H Q):rIx K x y H Q:=by
 cases y with
 | int j=>
   cases x with
   | str z=>
     obtain ⟨h1,c,h2,q⟩:=h
     exact .inr (.inr ⟨_,_,c,rfl,rfl,h1,h2,q⟩)
   | ref a=>
     obtain ⟨xs,w,h1 | h1,h2,q⟩:=h
     · exact .inl ⟨_,xs,_,w,rfl,rfl,h1,h2,q⟩
     · exact .inr (.inl ⟨_,xs,_,w,rfl,rfl,h1,h2,q⟩)
   | _=>exact False.elim h
 | _=>cases x <;> exact False.elim h
theorem IxR.imp {r r':R2} (h:IxR X r) (i:∀ x y H Q,r' x y H Q->r x y H Q):IxR X r':=by
 unfold IxR at h ⊢
 intros
 apply h <;> first | assumption | (apply i; assumption)
theorem op_ixA:IxR X (rIxA X.K):=ix_seq.imp fun _ _ _ _ h=>rIxA_of h
end
section
variable {X:Cx} {pins:List (Addr × Obj)} {σ:St} {H:Hp} {s:Shared}
theorem eqItems (I:Inv X pins σ H s) {n:Nat} {A:Around} (hu:A.units+n < cLine) {l m:List D} {xs ys:List V} {its its':List Value} (hd:D.depthL l<=n) (rl:RepL X.K H l xs) (rm:RepL X.K H m ys) (r:Vals xs its) (r':Vals ys its') :
   ∀ j (h1:j < its.toArray.size) (h2:j < its'.toArray.size),SeqAt.EqAt A s its.toArray[j] its'.toArray[j] (eqAtJ l m j):=by
 intro j h1 h2
 have L1:=r.length; have L2:=r'.length; have L3:=rl.length; have L4:=rm.length
 simp only [Z4] at h1 h2
 have j1:j < l.length:=by lia
 have j2:j < m.length:=by lia
 obtain ⟨x',hx',px⟩:=rl.get (i:=j) (d:=l[j]) (by simp [j1])
 obtain ⟨y',hy',py⟩:=rm.get (i:=j) (d:=m[j]) (by simp [j2])
 obtain ⟨u',hu',pu⟩:=r.get hx'
 obtain ⟨v',hv',pv'⟩:=r'.get hy'
 have e1:its.toArray[j]=u':=by
   have:=(Z9.mp hu').2; simpa using this
 have e2:its'.toArray[j]=v':=by
   have:=(Z9.mp hv').2; simpa using this
 have e3:eqAtJ l m j=D.eq l[j] m[j]:=by simp [eqAtJ,j1,j2]
 rw [e1,e2,e3]
 exact (eqD I n A l[j] m[j] x' y' u' v' (Z24 (depthL_get (l:=l) (j:=j) (by simp [j1])) hd) hu px py pu pv').1
set_option maxHeartbeats 4000000 in
theorem neD (I:Inv X pins σ H s) {n:Nat} {A:Around} {d e:D} {x y:V} {u v:Value} (hn:D.depth d<=n+1) (hu:A.units+(n+1) < cLine) (rd:Rep X.K H d x) (re:Rep X.K H e y) (ru:RelV x u) (rv:RelV y v):SeqAt.RcNeAt A s u v (!D.eq d e):=by
 have hu0:A.units < cLine:=by grind
 have hu1:A.in1.units+n < cLine:=by show A.units+1+n < cLine; lia
 cases d <;> rw [Rep] at rd
 case non=>
   subst rd
   cases ru
   cases e <;> rw [Rep] at re
   case non=>
     subst re
     cases rv
     exact SeqAt.RcNeAt.none_none
   case bl c=>
     subst re
     cases rv
     exact SeqAt.RcNeAt.none_bool _
   case int c=>
     subst re
     obtain ⟨t',rfl⟩:=rv
     exact SeqAt.RcNeAt.none_int _ _
   case str c=>
     subst re
     obtain ⟨t',rfl⟩:=rv
     exact SeqAt.RcNeAt.none_str _ _
   case tup m=>
     obtain ⟨b',ys,rfl,p',q'⟩:=re
     cases rv
     obtain ⟨its',r',pl',_⟩:=I.tuple p'
     exact SeqAt.RcNeAt.none_tuple  pl' hu0
   case lst m=>
     obtain ⟨b',ys,rfl,p',q'⟩:=re
     cases rv
     obtain ⟨its',r',pl',_⟩:=I.list p'
     exact SeqAt.RcNeAt.none_list  pl'.isList hu0
 case bl b=>
   subst rd
   cases ru
   cases e <;> rw [Rep] at re
   case non=>
     subst re
     cases rv
     exact SeqAt.RcNeAt.bool_none _
   case bl c=>
     subst re
     cases rv
     exact SeqAt.RcNeAt.bool_bool _ _
   case int c=>
     subst re
     obtain ⟨t',rfl⟩:=rv
     exact SeqAt.RcNeAt.bool_int _ _ _
   case str c=>
     subst re
     obtain ⟨t',rfl⟩:=rv
     exact SeqAt.RcNeAt.bool_str _ _ _
   case tup m=>
     obtain ⟨b',ys,rfl,p',q'⟩:=re
     cases rv
     obtain ⟨its',r',pl',_⟩:=I.tuple p'
     exact SeqAt.RcNeAt.bool_tuple _ pl' hu0
   case lst m=>
     obtain ⟨b',ys,rfl,p',q'⟩:=re
     cases rv
     obtain ⟨its',r',pl',_⟩:=I.list p'
     exact SeqAt.RcNeAt.bool_list _ pl'.isList hu0
 case int b=>
   subst rd
   obtain ⟨t,rfl⟩:=ru
   cases e <;> rw [Rep] at re
   case non=>
     subst re
     cases rv
     exact SeqAt.RcNeAt.int_none _ _
   case bl c=>
     subst re
     cases rv
     exact SeqAt.RcNeAt.int_bool _ _ _
   case int c=>
     subst re
     obtain ⟨t',rfl⟩:=rv
     exact SeqAt.RcNeAt.int_int _ _ _ _
   case str c=>
     subst re
     obtain ⟨t',rfl⟩:=rv
     exact SeqAt.RcNeAt.int_str _ _ _ _
   case tup m=>
     obtain ⟨b',ys,rfl,p',q'⟩:=re
     cases rv
     obtain ⟨its',r',pl',_⟩:=I.tuple p'
     exact SeqAt.RcNeAt.int_tuple _ _ pl' hu0
   case lst m=>
     obtain ⟨b',ys,rfl,p',q'⟩:=re
     cases rv
     obtain ⟨its',r',pl',_⟩:=I.list p'
     exact SeqAt.RcNeAt.int_list _ _ pl'.isList hu0
 case str b=>
   subst rd
   obtain ⟨t,rfl⟩:=ru
   cases e <;> rw [Rep] at re
   case non=>
     subst re
     cases rv
     exact SeqAt.RcNeAt.str_none _ _
   case bl c=>
     subst re
     cases rv
     exact SeqAt.RcNeAt.str_bool _ _ _
   case int c=>
     subst re
     obtain ⟨t',rfl⟩:=rv
     exact SeqAt.RcNeAt.str_int _ _ _ _
   case str c=>
     subst re
     obtain ⟨t',rfl⟩:=rv
     exact SeqAt.RcNeAt.str_str _ _ _ _
   case tup m=>
     obtain ⟨b',ys,rfl,p',q'⟩:=re
     cases rv
     obtain ⟨its',r',pl',_⟩:=I.tuple p'
     exact SeqAt.RcNeAt.str_tuple _ _ pl' hu0
   case lst m=>
     obtain ⟨b',ys,rfl,p',q'⟩:=re
     cases rv
     obtain ⟨its',r',pl',_⟩:=I.list p'
     exact SeqAt.RcNeAt.str_list _ _ pl'.isList hu0
 case tup l=>
   obtain ⟨a,xs,rfl,p,q⟩:=rd
   cases ru
   obtain ⟨its,r,pl,_⟩:=I.tuple p
   cases e <;> rw [Rep] at re
   case non=>
     subst re
     cases rv
     exact SeqAt.RcNeAt.tuple_none  pl hu0
   case bl c=>
     subst re
     cases rv
     exact SeqAt.RcNeAt.tuple_bool _ pl hu0
   case int c=>
     subst re
     obtain ⟨t',rfl⟩:=rv
     exact SeqAt.RcNeAt.tuple_int _ _ pl hu0
   case str c=>
     subst re
     obtain ⟨t',rfl⟩:=rv
     exact SeqAt.RcNeAt.tuple_str _ _ pl hu0
   case tup m=>
     obtain ⟨b',ys,rfl,p',q'⟩:=re
     cases rv
     obtain ⟨its',r',pl',_⟩:=I.tuple p'
     have L1:=r.length; have L2:=r'.length; have L3:=q.length; have L4:=q'.length
     have hdl:D.depthL l<=n:=by rw [D.depth] at hn; lia
     have it:=eqItems I hu1 hdl q q' r r'
     have z:=SeqAt.RcNeAt.tuples (e:=eqAtJ l m) pl pl' hu0 it
     rw [D.e4,<- eqL_all l m]
     simp only [Z4] at z
     rw [<- L1,<- L2,L3,L4] at z
     exact z
   case lst m=>
     obtain ⟨b',ys,rfl,p',q'⟩:=re
     cases rv
     obtain ⟨its',r',pl',_⟩:=I.list p'
     exact SeqAt.RcNeAt.tuple_list  pl pl'.isList hu0
 case lst l=>
   obtain ⟨a,xs,rfl,p,q⟩:=rd
   cases ru
   obtain ⟨its,r,pl,_⟩:=I.list p
   cases e <;> rw [Rep] at re
   case non=>
     subst re
     cases rv
     exact SeqAt.RcNeAt.list_none  pl.isList hu0
   case bl c=>
     subst re
     cases rv
     exact SeqAt.RcNeAt.list_bool _ pl.isList hu0
   case int c=>
     subst re
     obtain ⟨t',rfl⟩:=rv
     exact SeqAt.RcNeAt.list_int _ _ pl.isList hu0
   case str c=>
     subst re
     obtain ⟨t',rfl⟩:=rv
     exact SeqAt.RcNeAt.list_str _ _ pl.isList hu0
   case tup m=>
     obtain ⟨b',ys,rfl,p',q'⟩:=re
     cases rv
     obtain ⟨its',r',pl',_⟩:=I.tuple p'
     exact SeqAt.RcNeAt.list_tuple  pl.isList pl' hu0
   case lst m=>
     obtain ⟨b',ys,rfl,p',q'⟩:=re
     cases rv
     obtain ⟨its',r',pl',_⟩:=I.list p'
     have L1:=r.length; have L2:=r'.length; have L3:=q.length; have L4:=q'.length
     have hdl:D.depthL l<=n:=by rw [D.depth] at hn; omega
     have it:=eqItems I hu1 hdl q q' r r'
     rw [D.e5]
     by_cases hl:l.length=m.length
     · have z:=SeqAt.RcNeAt.lists (e:=eqAtJ l m) pl.isList pl'.isList (by simp; grind) hu0 it
       rw [<- eqL_all l m,hl]
       simp only [Z4] at z
       rw [<- L1,L3,hl] at z
       simpa using z
     · rw [eqL_len hl]
       exact SeqAt.RcNeAt.lists_lengths pl.isList pl'.isList (by simp; grind) hu0
theorem op_neA {n:Nat} (hu:X.A.units+(n+1) < cLine):OpR X (compareOp .NotEq) (rEqA X.K (n+1) true):=by
 intro pins s σ H x y v u Q I rx ry h
 unfold rEqA at h
 cases e:flatV x && flatV y with
 | true=>
   rw [e] at h
   rw [Z25] at e
   have d0:D.depth (toD x)<=n+1:=by cases x <;> simp [toD,D.depth]
   have z:=neD I (n:=n) (A:=X.A) d0 hu (rep_toD e.1) (rep_toD e.2) rx ry
   rw [eq_toD e.1 e.2] at z
   exact z _ _ _ _ ⟨.bl _,H,I,rfl,h⟩
 | false=>
   rw [e] at h
   obtain ⟨d,e,rd,re,hd,q⟩:=h
   exact neD I (n:=n) (A:=X.A) hd hu rd re rx ry _ _ _ _ ⟨.bl _,H,I,rfl,q⟩
noncomputable def ltC (x y:Str):Bool:=decide (x.cps.toList < y.cps.toList)
theorem op_ltA:OpR X (compareOp .Lt) (rCmpA (fun i j=>decide (i < j)) ltC):=by
 intro pins s σ H x y v u Q I rx ry h
 unfold rCmpA at h
 split at h
 · exact op_lt pins s σ H _ _ v u Q I rx ry ⟨_,_,rfl,rfl,h⟩
 · obtain ⟨t,rfl⟩:=rx; obtain ⟨t',rfl⟩:=ry
   exact PySem.P.lt_str ⟨.bl _,H,I,rfl,h⟩
 · exact h.elim
theorem op_leA:OpR X (compareOp .LtE) (rCmpA (fun i j=>decide (i<=j)) (fun x y=>!ltC y x)):=by
 intro pins s σ H x y v u Q I rx ry h
 unfold rCmpA at h
 split at h
 · exact op_le pins s σ H _ _ v u Q I rx ry ⟨_,_,rfl,rfl,h⟩
 · obtain ⟨t,rfl⟩:=rx; obtain ⟨t',rfl⟩:=ry
   exact PySem.P.le_str ⟨.bl _,H,I,rfl,h⟩
 · exact h.elim
theorem op_gtA:OpR X (compareOp .Gt) (rCmpA (fun i j=>decide (j < i)) (fun x y=>ltC y x)):=by
 intro pins s σ H x y v u Q I rx ry h
 unfold rCmpA at h
 split at h
 · exact op_gt pins s σ H _ _ v u Q I rx ry ⟨_,_,rfl,rfl,h⟩
 · obtain ⟨t,rfl⟩:=rx; obtain ⟨t',rfl⟩:=ry
   exact PySem.P.gt_str ⟨.bl _,H,I,rfl,h⟩
 · exact h.elim
theorem op_geA:OpR X (compareOp .GtE) (rCmpA (fun i j=>decide (j<=i)) (fun x y=>!ltC x y)):=by
 intro pins s σ H x y v u Q I rx ry h
 unfold rCmpA at h
 split at h
 · exact op_ge pins s σ H _ _ v u Q I rx ry ⟨_,_,rfl,rfl,h⟩
 · obtain ⟨t,rfl⟩:=rx; obtain ⟨t',rfl⟩:=ry
   exact PySem.P.ge_str ⟨.bl _,H,I,rfl,h⟩
 · exact h.elim
end
noncomputable def posOf:List Str->Str->Nat
 | [],_=>0
 | y::r,x=>if x == y then 0 else posOf r x+1
noncomputable def capIx (N:List Str):List (Str × NameKind)->List Nat
 | []=>[]
 | (n,k)::r=>if k == .free then posOf N n::capIx N r else capIx N r
section
variable {X:Cx} {iter elt iter2:Expr} {ifs ifs2:List Expr} {scope:Scope} {pos px px2:Pos} {x x2:Str} {tt tt2:TT} {te:TE} {wi wi2:TI}
theorem pe_comp1 (hc:X.calm=true) (S:CompScope X scope [x] (capIx X.N scope.names)) (hi:PI X (.Name x px) iter wi) (hx:scope.names.lookup x=some .local) (hN:([x]++(capIx X.N scope.names).map fun j=>X.N.getD j Str.empty).Nodup)
   (ht:∀ C s2 H2 fp,PIf (compCx X scope [x] (capIx X.N scope.names) C s2 H2 fp) ifs tt) (he:∀ C s2 H2 fp,PE (compCx X scope [x] (capIx X.N scope.names) C s2 H2 fp) elt te)
   (hs:∀ x,foldedSetIterable iter X.env x=pure x:=by intro _; rfl) :
   PE X (.ListComp elt [⟨.Name x px,iter,ifs,0⟩] scope pos) (tComp 1 (capIx X.N scope.names) wi (lpW (gName 0) tt (tEmit te))):=
 pe_compG (ts:=[x]) hc S hi (plp_one hc (fun C s2 H2 fp=>pg_name (i:=0) hN rfl (.inl (lookup_relabel_local hx)) (.inr (lookup_relabel_local hx))) ht he) hs
end
noncomputable def But (p:Addr) (H H':Hp):Prop:=∀ b o,b ≠ p->H b=some o->H' b=some o
noncomputable def Its (z:Str):It:=⟨fun i _=>i < z.cps.size,fun i H x H'=>H'=H/\∃ c,z.cps.toList[i]?=some c/\x=.str ⟨#[c]⟩,fun i _=>z.cps.size<=i⟩
section
variable {X:Cx} {tg:Expr}
theorem turn_str {P:Program} {w:World} {K:PySem.W.Frag} {tg:Expr} (z:Str) (it:Addr) (T:String) (tk0:Tok) (hT:T="str_ascii_iterator"∨T="str_iterator"):Turn P w K tg (Its z) [it] it (fun i h=>h.IsStrIter it T z tk0 i) where
 mem:=by simp
 obj:=fun i h st b hb=>by
   have e:b=it:=by simpa using hb
   subst e
   obtain ⟨o,e,c,d⟩:=st
   exact ⟨o,e,fun v z=>by rw [d] at z; cases z⟩
 keep:=fun i h h' ⟨o,e,r⟩ k=>⟨o,k it (by simp) o e,r⟩
 item:=by
   intro X hP hw hK hc i pins s σ H E I hf st hg
   subst hP hw hK
   obtain ⟨f0,f1,f2,f3,f4,f5⟩:=hf it (by simp)
   have hi:i < z.cps.size:=hg
   have hx:z.cps[i]?=some z.cps[i]:=by simp [hi]
   have fin:∀ h',h'.IsStrIter it T z tk0 (i+1)->Heap.SameBut it s.heap h'->∃ u,some (Value.str ⟨#[z.cps[i]]⟩ s.toks)=some u /\
       wpAny (model X.prog X.w) X.A (letOwnedTupleGo tg (.ref it) u) (fun _ s2=>YP X pins σ H i (Its z) (fun i h=>h.IsStrIter it T z tk0 i) [it] u s2) E { s with heap:=h',toks:=s.toks+1 }:=fun h' st' sb=>by
     have I1:Inv X pins σ H { s with heap:=h',toks:=s.toks+1 }:=I.turned (fun b o hb e=>(sb.2 b hb).trans e) f0 f1 f3 f4 f5
     obtain ⟨o,e,c,d⟩:=id st'
     refine ⟨_,rfl,go_of (s:={ s with heap:=h',toks:=s.toks+1 }) e c d (by rcases hT with rfl | rfl <;> decide) ⟨.str ⟨#[z.cps[i]]⟩,H,I1,⟨s.toks,rfl⟩,⟨rfl,_,by simp [hi],rfl⟩,st',fun b hb=>(hf b hb).1⟩⟩
   rcases hT with rfl | rfl
   · exact wpAny_pyNext_ascii_item st hx fin
   · exact wpAny_pyNext_wide_item st hx fin
 done:=by
   intro X hP hw hK hc i pins s σ H E I hf st hg
   subst hP hw hK
   obtain ⟨f0,f1,f2,f3,f4,f5⟩:=hf it (by simp)
   have hx:z.cps[i]?=none:=by
     have:z.cps.size<=i:=hg
     simp [this]
   rcases hT with rfl | rfl
   · exact wpAny_pyNext_ascii_end (I.ok.hd hc) st hx fun h' eb=>⟨rfl,I.turned (t':=s.toks) (fun b o hb e=>eb b o hb e) f0 f1 f3 f4 f5⟩
   · exact wpAny_pyNext_wide_end (I.ok.hd hc) st hx fun h' eb=>⟨rfl,I.turned (t':=s.toks) (fun b o hb e=>eb b o hb e) f0 f1 f3 f4 f5⟩
 self:=fun _ _ _ _ _ st h=>by
   rcases hT with rfl | rfl
   · exact wpAny_pyIter_striter_ascii st h
   · exact wpAny_pyIter_striter_wide st h
noncomputable def iSeq (K:PySem.W.Frag) (tl:TE):TI:=fun σ H R=>tl σ H fun x H1=>match x with
 | .str z=>R (Its z) H1
 | .ref a=>((∃ xs,SqL K H1 a xs)/\R (Itl K a) H1)∨((∃ xs,SqT K H1 a xs)/\R (Itt K a) H1)
 | _=>False
theorem pi_seq {l:Expr} {tl:TE} (hl:PE X l tl):PI X tg l (iSeq X.K tl):=by
 intro pins s σ H R I h
 refine thn (hl pins s σ H _ I h) fun v s1 ⟨x,H1,I1,r1,q1⟩=>?_
 try dsimp only at q1
 split at q1
 · rename_i z
   obtain ⟨t,rfl⟩:=r1
   have fp:∀ b ∈ [s1.heap.objs.size],FpOk X pins H1 b:=fun b hb=>by
     obtain rfl:b=s1.heap.objs.size:=by simpa using hb
     exact I1.fpOk (Z10 _) (I1.hok.fresh (Z10 _))
   cases ha:z.cps.all (· < 128)
   · exact wpAny_pyIter_wide ha ⟨s1.heap.objs.size,[s1.heap.objs.size],_,_,H1,rfl,I1.kept (t':=s1.toks) fun b o e=>Z7 _ e,turn_str z _ "str_iterator" t (.inr rfl),⟨_,Z20 _ rfl,rfl,rfl⟩,fp,q1⟩
   · exact wpAny_pyIter_ascii ha ⟨s1.heap.objs.size,[s1.heap.objs.size],_,_,H1,rfl,I1.kept (t':=s1.toks) fun b o e=>Z7 _ e,turn_str z _ "str_ascii_iterator" t (.inl rfl),⟨_,Z20 _ rfl,rfl,rfl⟩,fp,q1⟩
 · rename_i a
   cases r1
   rcases q1 with ⟨⟨xs,hq⟩,q⟩ | ⟨⟨xs,hq⟩,q⟩
   · obtain ⟨its,rv,p,hz⟩:=I1.list hq
     refine wpAny_pyIter_list p.isList ⟨s1.heap.objs.size,[s1.heap.objs.size],_,_,H1,rfl,I1.kept (t':=s1.toks) fun b o e=>Z7 _ e,turn_list a _,⟨_,Z20 _ rfl,rfl,rfl⟩,fun b hb=>?_,q⟩
     obtain rfl:b=s1.heap.objs.size:=by simpa using hb
     exact I1.fpOk (Z10 _) (I1.hok.fresh (Z10 _))
   · obtain ⟨its,rv,p,hz⟩:=I1.tuple hq
     refine wpAny_pyIter_tuple (show s1.heap.IsTuple a its.toArray from p) ⟨s1.heap.objs.size,[s1.heap.objs.size],_,_,H1,rfl,I1.kept (t':=s1.toks) fun b o e=>Z7 _ e,turn_tuple a _,⟨_,Z20 _ rfl,rfl,rfl⟩,fun b hb=>?_,q⟩
     obtain rfl:b=s1.heap.objs.size:=by simpa using hb
     exact I1.fpOk (Z10 _) (I1.hok.fresh (Z10 _))
 · exact q1.elim
end
noncomputable def rLen (K:PySem.W.Frag) (xs:List V) (H:Hp) (Q:VK):Prop:=∃ x n,xs=[x]/\LenV K x H n/\Q (.int (n:Nat)) H
noncomputable def TyK (K:PySem.W.Frag) (H:Hp):V->String->Prop
 | .non,T=>T="NoneType"
 | .bl _,T=>T="bool"
 | .int _,T=>T="int"
 | .str _,T=>T="str"
 | .ref p,T=>(T="tuple"/\∃ xs,SqT K H p xs)∨(T="list"/\∃ xs,SqL K H p xs)
 | _,_=>False
noncomputable def rIsiK (K:PySem.W.Frag) (xs:List V) (H:Hp) (Q:VK):Prop:=∃ x c T,xs=[x,.ty c]/\TyK K H x T/\c ∈ ["bool","int","str","list","tuple"]/\Q (.bl (isiT T c)) H
noncomputable def rSum (K:PySem.W.Frag) (xs:List V) (H:Hp) (Q:VK):Prop:=∃ (p:Addr) (ns:List Int),xs=[.ref p]/\SqL K H p (ns.map V.int)/\Q (.int ns.sum) H
noncomputable def rTupOf (K:PySem.W.Frag) (xs:List V) (H:Hp) (Q:VK):Prop:=∃ p ys,xs=[.ref p]/\((SqL K H p ys/\∀ l,H l=none->Q (.ref l) (upd H l (.tup ys)))∨(SqT K H p ys/\Q (.ref p) H))
noncomputable def rInt1 (xs:List V) (H:Hp) (Q:VK):Prop:=(∃ i,xs=[.int i]/\Q (.int i) H)∨∃ k,xs=[.bl k]/\Q (.int (if k then 1 else 0)) H
section
variable {X:Cx}
theorem call_lenA:CallR X (.builtin "len") (rLen X.K):=call_len
theorem call_isiKA:CallR X (.builtin "isinstance") (rIsiK X.K):=by
 intro pins s σ H xs us Q I r h
 obtain ⟨x,c,T,rfl,hk,hc,q⟩:=h
 obtain ⟨u,u',rfl,rx,ry⟩:=vals2 r
 cases ry
 have fin:∀ tk,EP X pins σ Q (.bool (isiT T c)) { s with toks:=tk }:=fun tk=>⟨.bl _,H,I.tok _,rfl,q⟩
 cases x with
 | non=>cases hk; exact isinst_ok I rx (.non:TyOf X.K H .non _) (kit_all X.K _ (by simp [kindsT]) c hc) fin
 | bl b=>cases hk; exact isinst_ok I rx (.bl b:TyOf X.K H (.bl b) _) (kit_all X.K _ (by simp [kindsT]) c hc) fin
 | int i=>cases hk; exact isinst_ok I rx (.int i:TyOf X.K H (.int i) _) (kit_all X.K _ (by simp [kindsT]) c hc) fin
 | str i=>cases hk; exact isinst_ok I rx (.str i:TyOf X.K H (.str i) _) (kit_all X.K _ (by simp [kindsT]) c hc) fin
 | ref a=>
   cases rx
   rcases hk with ⟨rfl,xs,hq⟩ | ⟨rfl,xs,hq⟩
   · obtain ⟨its,_,⟨o,h1,h2,_⟩,_⟩:=I.tuple hq
     exact PySem.W.kia_one PySem.W.kitx_tuple I.kIn ⟨o,h1,h2⟩ (kit_all X.K _ (by simp [kindsT]) c hc) (fun z=>nomatch z) fin
   · obtain ⟨its,_,⟨o,n,h1,h2,_⟩,_⟩:=I.list hq
     exact PySem.W.kia_one PySem.W.kitx_list I.kIn ⟨o,h1,h2⟩ (kit_all X.K _ (by simp [kindsT]) c hc) (fun z=>nomatch z) fin
 | _=>exact hk.elim
theorem call_sumA (hc:X.calm=true):CallR X (.builtin "sum") (rSum X.K):=call_sumL hc
theorem call_tupleA:CallR X (.type "tuple") (rTupOf X.K):=call_tuple_of
theorem call_intA:CallR X (.type "int") rInt1:=call_int1
end
section
variable {K:PySem.W.Frag} {σ:St} {H:Hp} {Q:VK} {QB:Bool->Hp->Prop} {D':Ends} {ta tb:TE} {t u:TS} {tt tu:TT} {A B:Prop}
theorem g_lenS {z:Str} (hz:z.length<=sizeLine) (h:Q (.int z.length) H):rLen K [.str z] H Q:=⟨_,_,rfl,⟨hz,rfl⟩,h⟩
theorem g_lenTK {p:Addr} {xs:List V} (hp:SqT K H p xs) (h:Q (.int xs.length) H):rLen K [.ref p] H Q:=⟨_,_,rfl,.inr ⟨xs,hp,rfl⟩,h⟩
end
structure KT (K:PySem.W.Frag):Prop where
section
variable {X:Cx} {K:PySem.W.Frag}
theorem op_eqK {n:Nat} (kt:KT K) (hu:X.A.units+n < cLine) (hK:X.K=K:=by rfl):OpR X (compareOp .Eq) (rEqA K n false):=hK ▸ op_eqA hu
theorem op_neK {n:Nat} (kt:KT K) (hu:X.A.units+(n+1) < cLine) (hK:X.K=K:=by rfl):OpR X (compareOp .NotEq) (rEqA K (n+1) true):=hK ▸ op_neA hu
theorem call_lenK (kt:KT K) (hK:X.K=K:=by rfl):CallR X (.builtin "len") (rLen K):=hK ▸ call_lenA
theorem call_sumK (kt:KT K) (hc:X.calm=true) (hK:X.K=K:=by rfl):CallR X (.builtin "sum") (rSum K):=hK ▸ call_sumA hc
theorem call_isiK (kt:KT K) (hK:X.K=K:=by rfl):CallR X (.builtin "isinstance") (rIsiK K):=hK ▸ call_isiKA
theorem call_tupleK (kt:KT K) (hK:X.K=K:=by rfl):CallR X (.type "tuple") (rTupOf K):=hK ▸ call_tupleA
theorem pi_seqK {tg l:Expr} {tl:TE} (kt:KT K) (hl:PE X l tl) (hK:X.K=K:=by rfl):PI X tg l (iSeq K tl):=hK ▸ pi_seq hl
theorem pg_tupK {es:List Expr} {k:Nat} {t:TGs} {n:Nat} {pos:Pos} (kt:KT K) (hc:X.calm=true) (h:PGs X es t)
   (hn:(assignEach es X.env).length=n:=by rfl) (hst:(assignEach es X.env).findIdx? (·.1)=none:=by rfl) (hK:X.K=K:=by rfl):PG X (.Tuple es k pos) (gTup K n t):=hK ▸ pg_tup hc h hn hst
end
noncomputable def ndB:List Str->Bool
 | []=>true
 | a::r=>!(r.any fun b=>a == b) && ndB r
theorem ndB_nodup:∀ {l:List Str},ndB l=true->l.Nodup
 | [],_=>List.nodup_nil
 | a::r,h=>by
   simp only [ndB,Z25,Bool.not_eq_true',List.any_eq_false] at h
   exact List.nodup_cons.mpr ⟨fun hm=>h.1 a hm (by simp),ndB_nodup h.2⟩
end L2
namespace My
open PySem L2
theorem un4 {k n:Nat} {A:Around} (r:Room k A) (h:n<=150:=by decide):A.units+n < cLine:=by have:=r.un; lia
theorem wr_ex (H:Hp) (l:Addr) (o:HO):∃ H',upd H l o=H'/\But l H H'/\H' l=some o:=⟨_,rfl,fun b u hb e=>by rw [upd_ne hb]; exact e,upd_same⟩
theorem stayT_same {K:PySem.W.Frag} {H H':Hp} (s:Same H H'):StayT K H H':=(Same.stay s).1
end My
namespace L2
open PySem PySem.Spec PyProof.Rows
noncomputable def tChain3 (r r' r'':R2) (ta tb tc td:TE):TT:=fun σ H Q=>ta σ H fun x H1=>tb σ H1 fun y H2=>r x y H2 fun z H3=>∃ k,z=.bl k /\
 (if k=true then tc σ H3 fun w H4=>r' y w H4 fun z' H5=>∃ k',z'=.bl k'/\(if k'=true then td σ H5 fun u H6=>r'' w u H6 fun z2 H7=>∃ k2,z2=.bl k2/\Q k2 H7 else Q false H5) else Q false H3)
section
variable {X:Cx} {a b c d:Expr} {ta tb tc td:TE} {pos:Pos}
theorem pt_chain3 {op op' op'':CmpOp} {r r' r'':R2} (ho:OpR X (compareOp op) r) (ho':OpR X (compareOp op') r') (ho'':OpR X (compareOp op'') r'') (ha:PE X a ta) (hb:PE X b tb) (hc:PE X c tc) (hd:PE X d td)
   (hm:lastMarks [op,op',op''] [b,c,d]=false:=by with_unfolding_all rfl):PT X (.Compare a [op,op',op''] [b,c,d] pos) (tChain3 r r' r'' ta tb tc td):=by
 intro pins s σ H Q I h
 refine isTrue_chain (thn (ha pins s σ H _ I h) fun v s1 ⟨x,H1,I1,r1,q1⟩=>test_link (thn (hb pins s1 σ H1 _ I1 q1) fun u s2 ⟨y,H2,I2,r2,q2⟩=>
   thn (ho pins s2 σ H2 x y v u _ I2 r1 r2 q2) fun d1 s3 ⟨z,H3,I3,r3,k,e,q3⟩=>?_)) hm
 subst e
 cases r3
 refine wpAny_truthy_bool ?_
 cases k with
 | false=>exact ite_ff ⟨H3,I3,q3⟩
 | true=>
   refine ite_tt (test_link (thn (hc pins s3 σ H3 _ I3 q3) fun w' s4 ⟨z',H4,I4,r4,q4⟩=>thn (ho' pins s4 σ H4 y z' u w' _ I4 r2 r4 q4) fun d' s5 ⟨z2,H5,I5,r5,k2,e2,q5⟩=>?_))
   subst e2
   cases r5
   refine wpAny_truthy_bool ?_
   cases k2 with
   | false=>exact ite_ff ⟨H5,I5,q5⟩
   | true=>
     refine ite_tt (test_last (thn (hd pins s5 σ H5 _ I5 q5) fun w2 s6 ⟨z3,H6,I6,r6,q6⟩=>thn (ho'' pins s6 σ H6 z' z3 w' w2 _ I6 r4 r6 q6) fun d2 s7 ⟨z4,H7,I7,r7,k3,e3,q7⟩=>?_))
     subst e3
     cases r7
     exact wpAny_truthy_bool ⟨H7,I7,q7⟩
end
section
variable {X:Cx} {K:PySem.W.Frag}
theorem strsAre_of:∀ {ys:List Str} {its:List Value},Vals (ys.map V.str) its->StrsAre its ys
 | [],_,h=>by
   rw [List.map_nil] at h
   cases h
   exact .nil
 | y::r,_,h=>by
   rw [Z6] at h
   cases h with
   | cons p q=>
     obtain ⟨t,rfl⟩:=p
     exact .cons y t (strsAre_of q)
noncomputable def rJoin (K:PySem.W.Frag):V->List V->Hp->VK->Prop:=fun x vs H Q=>∃ (z:Str) (l:Addr) (ys:List Str),x=.str z/\vs=[.ref l]/\SqL K H l (ys.map V.str)/\(ys.map (·.length)).sum+ys.length * z.length<=16777216/\Q (.str (Txt.join z ys)) H
theorem mt_join (kt:KT K) (hK:X.K=K:=by rfl):MtR X "str.join" (rJoin K):=by
 subst hK
 intro pins s σ H x vs v us Q I rx rv h
 obtain ⟨z,l,ys,rfl,rfl,hq,hz,q⟩:=h
 obtain ⟨t,rfl⟩:=rx
 obtain ⟨u,rfl,ru⟩:=vals1 rv
 cases ru
 obtain ⟨its,r,pl,_⟩:=I.list hq
 exact join_list pl.isList (by simpa using strsAre_of r) hz fun t' k=>⟨.str _,H,I.tok _,⟨_,rfl⟩,q⟩
end
theorem join_codes:∀ l:List Str,(Txt.join Str.empty l).cps.toList=(l.map (·.cps.toList)).flatten:=by
 intro l
 show (Builtin.Str.glued Str.empty l).cps.toList=_
 rw [StrLaws.glued_eq_join]
 induction l with
 | nil=>rfl
 | cons x r ih=>
   cases r with
   | nil=>show x.cps.toList=_; simp
   | cons y t=>
     show (x++Str.empty++Str.join Str.empty (y::t)).cps.toList=_
     rw [Z6,Z39,<- ih]
     show (x.cps++#[]++(Str.join Str.empty (y::t)).cps).toList=_
     simp
end L2
set_option maxHeartbeats 1000000
namespace L2
open PySem PySem.Spec PyProof.Rows
section
variable {X:Cx} {K:PySem.W.Frag}
noncomputable def signsV (z:Str):List V:=z.cps.toList.map fun c=>V.str ⟨#[c]⟩
theorem signs_vals {z:Str} {acc:Array Value} (h:ItemsOf (SignAt z) acc z.cps.size):Vals (signsV z) acc.toList:=by
 obtain ⟨h1,h2⟩:=h
 have go:∀ (cs:List Nat) (vs:List Value),cs.length=vs.length->(∀ (j:Nat) (v:Value),vs[j]?=some v->∃ c u,cs[j]?=some c/\v=.str ⟨#[c]⟩ u)->Vals (cs.map fun c=>V.str ⟨#[c]⟩) vs:=by
   intro cs
   induction cs with
   | nil=>
     intro vs hl _
     cases vs with
     | nil=>exact .nil
     | cons v r=>simp at hl
   | cons c r ih=>
     intro vs hl hv
     cases vs with
     | nil=>simp at hl
     | cons v t=>
       obtain ⟨c',u,e1,e2⟩:=hv 0 v rfl
       simp at e1
       subst e1
       refine .cons ⟨u,e2⟩ (ih t (by simpa using hl) fun j v' hj=>?_)
       simpa using hv (j+1) v' (by simpa using hj)
 refine go z.cps.toList acc.toList (by simp [h1]) fun j v hj=>?_
 obtain ⟨c,u,e1,e2⟩:=h2 j v (by simpa using hj)
 exact ⟨c,u,by simpa using e1,e2⟩
noncomputable def rTupS (xs:List V) (H:Hp) (Q:VK):Prop:=∃ z,xs=[.str z]/\z.length<=sizeLine/\∀ l,H l=none->Q (.ref l) (upd H l (.tup (signsV z)))
theorem call_tupS (hc:X.calm=true):CallR X (.type "tuple") rTupS:=by
 intro pins s σ H xs us Q I r h
 obtain ⟨z,rfl,hz,q⟩:=h
 obtain ⟨u,rfl,t,rfl⟩:=vals1 r
 refine call_tuple_str (I.ok.hd hc) z t (hsz:=hz) fun h' tk acc kp hI=>?_
 have rv:=signs_vals hI
 have I1:Inv X pins σ H { s with heap:=h',toks:=tk }:=I.kept kp
 have I2:Inv X pins σ (upd H h'.objs.size (.tup (signsV z))) { s with heap:=h'.push { cls:=.type "tuple",data:=.seq acc },toks:=tk }:=by
   refine I1.laid (t':=tk) (fun b o e=>Z7 _ e) (Z10 _) (show ObjOk X.prog X.w _ _ _ (.tup (signsV z)) from ⟨?_,acc.toList,rv,?_⟩)
   · unfold signsV
     rw [Z2,Array.length_toList]
     exact hz
   · simpa using IsTup.new h' acc
 exact ⟨.ref h'.objs.size,_,I2,rfl,q _ (I1.hok.fresh (Z10 _))⟩
noncomputable def rSlS:V->Option Int->Option Int->Hp->VK->Prop:=fun x lo hi H Q=>∃ z,x=.str z/\z.length<=sizeLine/\Q (.str (Txt.slice z lo hi)) H
theorem part_of {v:Value} {o:Option Int} (h:IsPart v o):∃ q:Option (Int × Tok),v=partValue q/\q.map (·.1)=o:=by
 cases h with
 | none=>exact ⟨none,rfl,rfl⟩
 | int i t=>exact ⟨some (i,t),rfl,rfl⟩
theorem sl_str:SlR X rSlS:=by
 intro pins s σ H x v vl vu lo hi sl Q I rx hs pl pu h
 obtain ⟨z,rfl,hz,q⟩:=h
 obtain ⟨t,rfl⟩:=rx
 obtain ⟨a,rfl,ea⟩:=part_of pl
 obtain ⟨b,rfl,eb⟩:=part_of pu
 refine ⟨"str",_,PySem.F.slot_str_getitem.lookup,typeIs_str _ _ _,?_⟩
 refine wpAny_getItem_str_slice (l:=a) (u:=b) (st:=none) hs rfl ?_
 subst ea eb
 exact post_val_or_str ⟨Z24 (Txt.slice_le z _ _) hz,fun t' k=>⟨.str _,H,I.tok _,⟨t',rfl⟩,q⟩⟩
end
section
variable {X:Cx} {pins:List (Addr × Obj)} {σ:St} {H:Hp} {s:Shared} {a b:Addr} {v:V} {kvs:List (List Key × V)} {k:List Key} {A:Around} {E:Value->Shared->Prop}
theorem keyS (I:Inv X pins σ H s) (e:SqT X.K H b (k.map kV)):(tupleKind (mixKind X.prog X.w)).is s.heap k b:=by
 obtain ⟨its,r,⟨o,h1,h2,n,h3⟩,_⟩:=I.tuple e
 exact ⟨o,its.toArray,n,h1,h2,h3,by simpa using items_are r⟩
theorem dS_type (I:Inv X pins σ H s) (e:H a=some (.dT kvs)):s.TypeIs (.ref a) "dict":=by
 obtain ⟨_,_,xs,_,dd⟩:=dt_of I.hok e
 exact dd.typeIs
theorem dS_get {Q:Value->Shared->Prop} (hu:A.units+1 < cLine) (I:Inv X pins σ H s) (e:H a=some (.dT kvs)) (eb:SqT X.K H b (k.map kV)) (l:valV kvs k=some v) (h:∀ w' s',Inv X pins σ H s'->RelV v w'->Q w' s') :
   wpAny (model X.prog X.w) A (getItem (.ref a) (.ref b)) Q E s:=by
 obtain ⟨z,hd,xs,rel,dd⟩:=dt_of I.hok e
 obtain ⟨w',hw,rw'⟩:=RelO.some_of (v:=v) (o:=(atKey xs k).map (·.2)) (by rw [<- l]; exact rel.val k)
 obtain ⟨p,hp,hp2⟩:=Option.map_eq_some_iff.mp hw
 refine wpAny_getItem_heap (tupleKind_room_in1 hu) (keyS I eb) dd hp ?_
 rw [hp2]
 exact h w' _ (I.tok _) rw'
theorem dS_set {r:Value} {Q:Unit->Shared->Prop} (hu:A.units+1 < cLine) (I:Inv X pins σ H s) (e:H a=some (.dT kvs)) (eb:H b=some (.tup (k.map kV))) (hl:kvs.length < sizeLine) (rv:RelV v r) (h:∀ s',Inv X pins σ (upd H a (.dT (putK kvs k v))) s'->Q () s') :
   wpAny (model X.prog X.w) A (setItem (.ref a) (.ref b) r) Q E s:=d_setItem hu I (DPut.t e eb hl) rfl rv h
end
noncomputable def rIxD (K:PySem.W.Frag):R2:=fun x y H Q=>∃ a b kvs k v,x=.ref a/\y=.ref b/\H a=some (.dT kvs)/\SqT K H b (k.map kV)/\valV kvs k=some v/\Q v H
noncomputable def rIxK:R2:=fun x y H Q=>∃ a kvs i v,x=.ref a/\y=.int i/\H a=some (.dK kvs)/\valV kvs (.inl i)=some v/\Q v H
noncomputable def rIxX (K:PySem.W.Frag):R2:=fun x y H Q=>rIxA K x y H Q∨rIxD K x y H Q∨rIxK x y H Q
section
variable {X:Cx} {K:PySem.W.Frag}
theorem ix_dict (hu:X.A.units+1 < cLine):IxR X (rIxD X.K):=by
 intro value slice pins s σ H x y v u Q I rx ry h hs
 obtain ⟨a,b,kvs,k,z,rfl,rfl,e,eb,l,q⟩:=h
 cases rx
 cases ry
 exact tail_any (dS_type I e) PySem.F.slot_dict_getitem.lookup (dS_get hu I e eb l fun w' s3 I3 rw'=>⟨z,H,I3,rw',q⟩) hs
theorem ix_dk (hu:X.A.units+1 < cLine):IxR X rIxK:=by
 intro value slice pins s σ H x y v u Q I rx ry h hs
 obtain ⟨a,kvs,i,z,rfl,rfl,e,l,q⟩:=h
 cases rx
 have g:DGet H a (.int i) (some z):=.inl ⟨kvs,.inl i,.inl e,rfl,l.symm⟩
 exact tail_any (dict_typeIs I g) PySem.F.slot_dict_getitem.lookup (d_getItem hu I g ry fun w' s3 I3 rw'=>⟨z,H,I3,rw',q⟩) hs
theorem op_ixX (kt:KT K) (hu:X.A.units+1 < cLine) (hK:X.K=K:=by rfl):IxR X (rIxX K):=by
 subst hK
 exact op_ixA.or ((ix_dict hu).or (ix_dk hu))
noncomputable def rSetD:V->V->V->Hp->(Hp->Prop)->Prop:=fun o i v H Q=>∃ a b kvs k,o=.ref a/\i=.ref b/\H a=some (.dT kvs)/\H b=some (.tup (k.map kV))/\kvs.length < sizeLine/\Q (upd H a (.dT (putK kvs k v)))
noncomputable def rSetK:V->V->V->Hp->(Hp->Prop)->Prop:=fun o i v H Q=>∃ a n kvs,o=.ref a/\i=.int n/\H a=some (.dK kvs)/\kvs.length < sizeLine/\Q (upd H a (.dK (putK kvs (.inl n) v)))
noncomputable def rSetX:V->V->V->Hp->(Hp->Prop)->Prop:=fun o i v H Q=>rSetL o i v H Q∨rSetD o i v H Q∨rSetK o i v H Q
theorem set_any (hu:X.A.units+1 < cLine):PSet X rSetX:=by
 intro pins s σ H o i v ov iv u Q I ro ri rv h
 rcases h with h | h | h
 · exact set_list pins s σ H o i v ov iv u Q I ro ri rv h
 · obtain ⟨a,b,kvs,k,rfl,rfl,e,eb,hl,q⟩:=h
   cases ro
   cases ri
   exact dS_set hu I e eb hl rv fun s3 I3=>⟨_,I3,q⟩
 · obtain ⟨a,n,kvs,rfl,rfl,e,hl,q⟩:=h
   cases ro
   have g:DPut H a (.int n) v (upd H a (.dK (putK kvs (.inl n) v))):=.inl ⟨kvs,.inl n,e,rfl,hl,rfl⟩
   exact d_setItem hu I g ri rv fun s3 I3=>⟨_,I3,q⟩
noncomputable def tDNewX:TE:=fun σ H Q=>tDNewT σ H Q∨tDNewK σ H Q
theorem pe_dnewX {pos:Pos}:PE X (.Dict [] [] pos) tDNewX:=fun pins s σ H Q I h=>h.elim (fun h=>pe_dnewT pins s σ H Q I h) fun h=>pe_dnewK pins s σ H Q I h
noncomputable def pOne (Q:VK) (p:Addr) (l:List (V × V)) (H2:Hp):Prop:=∃ x y b k,l=[(x,y)]/\x=V.ref b/\H2 p=some (.dT [])/\H2 b=some (.tup (k.map kV))/\Q (.ref p) (upd H2 p (.dT [(k,y)]))
noncomputable def tDOne (tk tv:TE):TE:=fun σ H Q=>∀ p,H p=none->tk σ (upd H p (.dT [])) fun x H1=>tv σ H1 fun y H2=>pOne Q p [(x,y)] H2
theorem pe_dOne {k v:Expr} {tk tv:TE} {pos:Pos} (hu:X.A.units+1 < cLine) (hk:PE X k tk) (hv:PE X v tv):PE X (.Dict [some k] [v] pos) (tDOne tk tv):=by
 intro pins s σ H Q I q
 have hn:=I.hok.fresh (Z10 s.heap.objs.size)
 have I1:=I.laid (a:=s.heap.objs.size) (o:=.dT []) (h':=s.heap.push { cls:=.type "dict",data:=.dict #[] }) (t':=s.toks) (fun _ _ q=>Z7 _ q) (Z10 _) (dt_empty s.heap I.big)
 refine wpAny_Dict_any rfl rfl (by simp) (by simp) ?_
 have ps:PPs X pos [some k] [v] [(tk,tv)]:=pps_cons hk hv pps_nil
 refine thn (ps pins _ σ _ (pOne Q s.heap.objs.size) I1 (q _ hn)) fun ws s2 ⟨l,H2,I2,rel,x,y,b,k,el,ex,e,eb,q2⟩=>?_
 · subst el; subst ex
   cases rel with
   | @cons w0 w' _ _ r t=>
     cases t
     obtain ⟨u1,u2⟩:=w'
     obtain ⟨r1,r2⟩:=r
     dsimp only at r1 r2
     cases (show u1=Value.ref b from r1)
     obtain ⟨z,hd,xs,rl,dd⟩:=dt_of I2.hok e
     cases rl
     unfold storeAll
     rw [List.forIn_cons]
     refine Z55 (Z55 (wpAny_dictSet_heap (hsz:=Z30 _) (by show X.A.units < cLine; lia) (key_of I2.hok eb) dd fun h' dd' hs=>?_))
     refine Z56 ?_
     dsimp only
     rw [List.forIn_nil]
     refine Z56 ⟨.ref s.heap.objs.size,_,?_,rfl,q2⟩
     obtain ⟨q,es,ep,hq,h2,h3,h4,_,h5⟩:=dd'
     refine d_write I2 (by rw [e]; exact True.intro) hs ⟨q,hq⟩ ⟨by simp [sizeLine_eq],hd,_,?_,q,es,ep,hq,h2,h3,h4,h5⟩
     refine .cons ⟨rfl,?_,r2⟩ .nil
     rw [upd_ne (ne_of eb e (fun z=>nomatch z))]
     exact eb
end
end L2
namespace Mir
open PySem L2
set_option genInjectivity true in
inductive S where
 | d (x:D)
 | pot (ns:List Int) (i r m:Int)
 | dc (kvs:List (List Key × D))
 | dk (kvs:List (Key × D))
 | scr (ns:List Int)
noncomputable abbrev En:=List (Option S)
noncomputable def look:En->Nat->Option S
 | [],_=>none
 | x::_,0=>x
 | _::r,n+1=>look r n
set_option genInjectivity true in
inductive Op where
 | val (d:D)
 | var (i:Nat)
set_option genInjectivity true in
inductive Md where
 | pl | ow | lk | io
 deriving DecidableEq
noncomputable def mode:List Md->Nat->Md
 | [],_=>.pl
 | m::_,0=>m
 | _::r,n+1=>mode r n
noncomputable def unD:Option S->Option D
 | some (.d x)=>some x
 | _=>none
noncomputable def res (ρ:En):Op->Option D
 | .val d=>some d
 | .var i=>unD (look ρ i)
noncomputable def resS (ρ:En):Op->Option S
 | .val d=>some (.d d)
 | .var i=>look ρ i
noncomputable def immO (s:Option D):Option D:=match s with
 | some x=>if D.imm x=true then some x else none
 | none=>none
noncomputable def sto (md:List Md) (ρ:En):Op->Option D
 | .val d=>some d
 | .var i=>match mode md i with
   | .pl=>unD (look ρ i)
   | _=>immO (unD (look ρ i))
theorem look_set_eq:∀ {ρ:En} {i:Nat} {x:Option S},i < ρ.length->look (ρ.set i x) i=x
 | [],i,x,h=>by simp at h
 | y::r,0,x,h=>rfl
 | y::r,i+1,x,h=>by simp only [List.set_cons_succ,look]; exact look_set_eq (by simpa using h)
theorem look_set_ne:∀ {ρ:En} {i j:Nat} {x:Option S},i ≠ j->look (ρ.set i x) j=look ρ j
 | [],i,j,x,h=>rfl
 | y::r,0,0,x,h=>absurd rfl h
 | y::r,0,j+1,x,h=>rfl
 | y::r,i+1,0,x,h=>rfl
 | y::r,i+1,j+1,x,h=>by simp only [List.set_cons_succ,look]; exact look_set_ne (fun e=>h (by rw [e]))
theorem look_lt:∀ {ρ:En} {i:Nat} {s:S},look ρ i=some s->i < ρ.length
 | [],i,s,h=>by cases h
 | y::r,0,s,h=>by simp
 | y::r,i+1,s,h=>by have:=look_lt (ρ:=r) (i:=i) h; simp; omega
mutual
def RepP (K:PySem.W.Frag) (H:Hp) (ok:Addr->Prop):D->V->Prop
 | .non,v=>v=.non
 | .bl b,v=>v=.bl b
 | .int i,v=>v=.int i
 | .str x,v=>v=.str x
 | .tup l,v=>∃ a xs,v=.ref a/\SqT K H a xs/\RepPL K H ok l xs
 | .lst l,v=>∃ a xs,v=.ref a/\H a=some (.lst xs)/\ok a/\RepPL K H ok l xs
def RepPL (K:PySem.W.Frag) (H:Hp) (ok:Addr->Prop):List D->List V->Prop
 | [],xs=>xs=[]
 | d::ds,xs=>∃ x r,xs=x::r/\RepP K H ok d x/\RepPL K H ok ds r
end
section
variable {K:PySem.W.Frag} {H H':Hp} {ok ok':Addr->Prop}
theorem RepPL.nil:RepPL K H ok [] []:=by rw [RepPL]
theorem RepPL.cons {d:D} {ds:List D} {x:V} {xs:List V} (h:RepP K H ok d x) (t:RepPL K H ok ds xs):RepPL K H ok (d::ds) (x::xs):=by rw [RepPL]; exact ⟨x,xs,rfl,h,t⟩
theorem RepPL.cons_inv {d:D} {ds:List D} {xs:List V} (h:RepPL K H ok (d::ds) xs):∃ x r,xs=x::r/\RepP K H ok d x/\RepPL K H ok ds r:=by rw [RepPL] at h; exact h
theorem RepPL.nil_inv {xs:List V} (h:RepPL K H ok [] xs):xs=[]:=by rw [RepPL] at h; exact h
theorem RepPL.length:∀ {l:List D} {xs:List V},RepPL K H ok l xs->xs.length=l.length
 | [],xs,h=>by rw [h.nil_inv]; rfl
 | d::ds,xs,h=>by
   obtain ⟨x,r,rfl,_,h2⟩:=h.cons_inv
   simp [RepPL.length h2]
theorem RepPL.get:∀ {l:List D} {xs:List V} {i:Nat} {d:D},RepPL K H ok l xs->l[i]?=some d->∃ x,xs[i]?=some x/\RepP K H ok d x
 | [],xs,i,d,h,e=>by simp at e
 | d'::ds,xs,0,d,h,e=>by
   obtain ⟨x,r,rfl,h1,_⟩:=h.cons_inv
   simp at e; subst e
   exact ⟨x,rfl,h1⟩
 | d'::ds,xs,i+1,d,h,e=>by
   obtain ⟨x,r,rfl,_,h2⟩:=h.cons_inv
   simp at e
   obtain ⟨y,e1,h3⟩:=RepPL.get h2 e
   exact ⟨y,by simpa using e1,h3⟩
theorem RepPL.append:∀ {l m:List D} {xs ys:List V},RepPL K H ok l xs->RepPL K H ok m ys->RepPL K H ok (l++m) (xs++ys)
 | [],m,xs,ys,h,t=>by rw [h.nil_inv]; exact t
 | d::ds,m,xs,ys,h,t=>by
   obtain ⟨x,r,rfl,h1,h2⟩:=h.cons_inv
   exact .cons h1 (RepPL.append h2 t)
theorem RepPL.take:∀ {l:List D} {xs:List V} (n:Nat),RepPL K H ok l xs->RepPL K H ok (l.take n) (xs.take n)
 | l,xs,0,h=>by simp; exact .nil
 | [],xs,n+1,h=>by rw [h.nil_inv]; simp; exact .nil
 | d::ds,xs,n+1,h=>by
   obtain ⟨x,r,rfl,h1,h2⟩:=h.cons_inv
   simp only [List.take_succ_cons]
   exact .cons h1 (RepPL.take n h2)
theorem RepPL.drop:∀ {l:List D} {xs:List V} (n:Nat),RepPL K H ok l xs->RepPL K H ok (l.drop n) (xs.drop n)
 | l,xs,0,h=>by simpa using h
 | [],xs,n+1,h=>by rw [h.nil_inv]; simp; exact .nil
 | d::ds,xs,n+1,h=>by
   obtain ⟨x,r,rfl,h1,h2⟩:=h.cons_inv
   simp only [List.drop_succ_cons]
   exact RepPL.drop n h2
theorem RepPL.dropLast {l:List D} {xs:List V} (h:RepPL K H ok l xs):RepPL K H ok l.dropLast xs.dropLast:=by
 rw [List.dropLast_eq_take,List.dropLast_eq_take,h.length]
 exact h.take _
theorem RepPL.set:∀ {l:List D} {xs:List V} {d:D} {x:V} (i:Nat),RepPL K H ok l xs->RepP K H ok d x->RepPL K H ok (l.set i d) (xs.set i x)
 | [],xs,d,x,i,h,r=>by rw [h.nil_inv]; simp; exact .nil
 | d'::ds,xs,d,x,0,h,r=>by
   obtain ⟨y,t,rfl,h1,h2⟩:=h.cons_inv
   exact .cons r h2
 | d'::ds,xs,d,x,i+1,h,r=>by
   obtain ⟨y,t,rfl,h1,h2⟩:=h.cons_inv
   exact .cons h1 (RepPL.set i h2 r)
theorem RepPL.rep:∀ {l:List D} {xs:List V} (k:Nat),RepPL K H ok l xs->RepPL K H ok (List.replicate k l).flatten (List.replicate k xs).flatten
 | l,xs,0,h=>by simp; exact .nil
 | l,xs,k+1,h=>by
   rw [Z22,Z22,Z39,Z39]
   exact h.append (RepPL.rep k h)
mutual
theorem RepP.rep:∀ {d:D} {v:V},RepP K H ok d v->Rep K H d v
 | .non,v,h=>by rw [RepP] at h; rw [Rep]; exact h
 | .bl _,v,h=>by rw [RepP] at h; rw [Rep]; exact h
 | .int _,v,h=>by rw [RepP] at h; rw [Rep]; exact h
 | .str _,v,h=>by rw [RepP] at h; rw [Rep]; exact h
 | .tup l,v,h=>by
   rw [RepP] at h; rw [Rep]
   obtain ⟨a,xs,e,t,r⟩:=h
   exact ⟨a,xs,e,t,RepPL.repL r⟩
 | .lst l,v,h=>by
   rw [RepP] at h; rw [Rep]
   obtain ⟨a,xs,e,t,_,r⟩:=h
   exact ⟨a,xs,e,.inl (.inl t),RepPL.repL r⟩
theorem RepPL.repL:∀ {l:List D} {xs:List V},RepPL K H ok l xs->RepL K H l xs
 | [],xs,h=>by rw [h.nil_inv]; exact .nil
 | d::ds,xs,h=>by
   obtain ⟨x,r,rfl,h1,h2⟩:=h.cons_inv
   exact .cons (RepP.rep h1) (RepPL.repL h2)
end
mutual
theorem RepP.stay (hT:StayT K H H') (hL:∀ a xs,ok a->H a=some (.lst xs)->H' a=some (.lst xs)/\ok' a):∀ {d:D} {v:V},RepP K H ok d v->RepP K H' ok' d v
 | .non,v,h=>by rw [RepP] at h ⊢; exact h
 | .bl _,v,h=>by rw [RepP] at h ⊢; exact h
 | .int _,v,h=>by rw [RepP] at h ⊢; exact h
 | .str _,v,h=>by rw [RepP] at h ⊢; exact h
 | .tup l,v,h=>by
   rw [RepP] at h ⊢
   obtain ⟨a,xs,e,t,r⟩:=h
   exact ⟨a,xs,e,hT _ _ t,RepPL.stay hT hL r⟩
 | .lst l,v,h=>by
   rw [RepP] at h ⊢
   obtain ⟨a,xs,e,t,o,r⟩:=h
   exact ⟨a,xs,e,(hL _ _ o t).1,(hL _ _ o t).2,RepPL.stay hT hL r⟩
theorem RepPL.stay (hT:StayT K H H') (hL:∀ a xs,ok a->H a=some (.lst xs)->H' a=some (.lst xs)/\ok' a):∀ {l:List D} {xs:List V},RepPL K H ok l xs->RepPL K H' ok' l xs
 | [],xs,h=>by rw [h.nil_inv]; exact .nil
 | d::ds,xs,h=>by
   obtain ⟨x,r,rfl,h1,h2⟩:=h.cons_inv
   exact .cons (RepP.stay hT hL h1) (RepPL.stay hT hL h2)
end
mutual
theorem RepP.ofImm:∀ {d:D} {v:V},D.imm d=true->Rep K H d v->RepP K H ok d v
 | .non,v,_,h=>by rw [Rep] at h; rw [RepP]; exact h
 | .bl _,v,_,h=>by rw [Rep] at h; rw [RepP]; exact h
 | .int _,v,_,h=>by rw [Rep] at h; rw [RepP]; exact h
 | .str _,v,_,h=>by rw [Rep] at h; rw [RepP]; exact h
 | .tup l,v,i,h=>by
   rw [Rep] at h; rw [RepP]
   obtain ⟨a,xs,e,t,r⟩:=h
   exact ⟨a,xs,e,t,RepPL.ofImm (by simpa [D.imm] using i) r⟩
 | .lst l,v,i,h=>by simp [D.imm] at i
theorem RepPL.ofImm:∀ {l:List D} {xs:List V},D.immL l=true->RepL K H l xs->RepPL K H ok l xs
 | [],xs,_,h=>by rw [RepL] at h; subst h; exact .nil
 | d::ds,xs,i,h=>by
   rw [RepL] at h
   obtain ⟨x,r,rfl,h1,h2⟩:=h
   rw [D.immL,Z25] at i
   exact .cons (RepP.ofImm i.1 h1) (RepPL.ofImm i.2 h2)
end
noncomputable def RepT (K:PySem.W.Frag) (H:Hp) (ok:Addr->Prop):D->V->Prop
 | .lst l,v=>∃ a xs,v=.ref a/\H a=some (.lst xs)/\RepPL K H ok l xs
 | d,v=>RepP K H ok d v
theorem RepP.top {d:D} {v:V} (h:RepP K H ok d v):RepT K H ok d v:=by
 cases d <;> first | exact h | (rw [RepP] at h; obtain ⟨a,xs,e,t,_,r⟩:=h; exact ⟨a,xs,e,t,r⟩)
theorem RepT.rep {d:D} {v:V} (h:RepT K H ok d v):Rep K H d v:=by
 cases d <;> first | exact RepP.rep (K:=K) (H:=H) (ok:=ok) (show RepP K H ok _ v from h) | (obtain ⟨a,xs,e,t,r⟩:=h; rw [Rep]; exact ⟨a,xs,e,.inl (.inl t),r.repL⟩)
theorem RepT.imm {d:D} {v:V} {ok':Addr->Prop} (h:RepT K H ok d v) (i:D.imm d=true):RepP K H ok' d v:=RepP.ofImm i h.rep
theorem RepP.mono {d:D} {v:V} (h:RepP K H ok d v) (m:∀ a xs,ok a->H a=some (.lst xs)->ok' a):RepP K H ok' d v:=h.stay (fun _ _ z=>z) fun a xs o r=>⟨r,m a xs o r⟩
theorem RepPL.mono {d:List D} {v:List V} (h:RepPL K H ok d v) (m:∀ a xs,ok a->H a=some (.lst xs)->ok' a):RepPL K H ok' d v:=h.stay (fun _ _ z=>z) fun a xs o r=>⟨r,m a xs o r⟩
theorem RepP.same {d:D} {v:V} (h:RepP K H ok d v) (s:Same H H'):RepP K H' ok d v:=h.stay (My.stayT_same s) fun a xs o r=>⟨s _ _ r,o⟩
theorem RepPL.same {d:List D} {v:List V} (h:RepPL K H ok d v) (s:Same H H'):RepPL K H' ok d v:=h.stay (My.stayT_same s) fun a xs o r=>⟨s _ _ r,o⟩
end
noncomputable def MutO (o:Option HO):Prop:=(∃ xs,o=some (.lst xs))∨(∃ kvs,o=some (.dT kvs))∨∃ kvs,o=some (.dK kvs)
noncomputable def RepKV {κ:Type} (K:PySem.W.Frag) (H:Hp) (ok:Addr->Prop) (kvs:List (κ × D)) (ws:List (κ × V)):Prop:=ws.map (·.1)=kvs.map (·.1)/\RepPL K H ok (kvs.map (·.2)) (ws.map (·.2))
noncomputable def Ext (W:Addr->Prop) (H H':Hp):Prop:=∀ b o,¬ W b->H b=some o->H' b=some o
theorem Ext.refl (W:Addr->Prop) (H:Hp):Ext W H H:=fun _ _ _ h=>h
theorem Ext.trans {W:Addr->Prop} {H H1 H2:Hp} (a:Ext W H H1) (b:Ext W H1 H2):Ext W H H2:=fun c o n h=>b c o n (a c o n h)
theorem Same.ext {W:Addr->Prop} {H H':Hp} (s:Same H H'):Ext W H H':=fun b o _ h=>s b o h
theorem Ext.stayT {K:PySem.W.Frag} {W:Addr->Prop} {H H':Hp} (e:Ext W H H') (k:∀ a,W a->MutO (H a)):StayT K H H':=by
 intro a ys h
 replace h:H a=some (.tup ys):=h
 exact e a _ (fun w=>by rcases k a w with ⟨xs,z⟩ | ⟨xs,z⟩ | ⟨xs,z⟩ <;> (rw [h] at z; cases z)) h
noncomputable def isM:S->Bool
 | .d (.lst _)=>true
 | .d _=>false
 | .scr _=>false
 | _=>true
noncomputable def Cell (K:PySem.W.Frag) (A:Addr->Prop) (H:Hp) (ok okq:Addr->Prop):S->V->Prop
 | .d (.lst l),v=>∃ a xs,v=.ref a/\H a=some (.lst xs)/\A a/\ok a/\RepPL K H (fun b=>¬ A b) l xs
 | .d x,v=>RepP K H (fun b=>¬ A b) x v
 | .pot ns i r m,v=>∃ p q,v=.ref p/\H p=some (.lst [.ref q,.int i,.int r,.int m])/\H q=some (.lst (ns.map V.int))/\A p/\ok p/\¬ A q/\okq q
 | .dc kvs,v=>∃ a ws,v=.ref a/\H a=some (.dT ws)/\A a/\ok a/\RepKV K H (fun b=>¬ A b) kvs ws
 | .dk kvs,v=>∃ a ws,v=.ref a/\H a=some (.dK ws)/\A a/\ok a/\RepKV K H (fun b=>¬ A b) kvs ws
 | .scr _,_=>False
noncomputable def ScrAt (K:PySem.W.Frag) (H:Hp) (a:Addr) (ns:List Int):Prop:=(∃ o,H a=some (.frz o (.lst (ns.map V.int)))) ∨
 ∃ (o:Obj) (its:Array Value) (n:Nat),K.lookup a=some o/\o.cls=.type "list"/\o.dict=none/\o.data=.seq its n/\its.size<=sizeLine/\Vals (ns.map V.int) its.toList
theorem ScrAt.sq {K:PySem.W.Frag} {H:Hp} {a:Addr} {ns:List Int} (h:ScrAt K H a ns):SqL K H a (ns.map V.int):=by
 rcases h with h | h
 · exact .inl (.inr h)
 · exact .inr h
theorem ScrAt.ext {K:PySem.W.Frag} {W:Addr->Prop} {H H':Hp} {a:Addr} {ns:List Int} (e:Ext W H H') (k:∀ a,W a->MutO (H a)) (h:ScrAt K H a ns):ScrAt K H' a ns:=by
 rcases h with ⟨o,h⟩ | h
 · exact .inl ⟨o,e a _ (fun w=>by rcases k a w with ⟨xs,z⟩ | ⟨xs,z⟩ | ⟨xs,z⟩ <;> (rw [h] at z; cases z)) h⟩
 · exact .inr h
theorem ScrAt.same {K:PySem.W.Frag} {H H':Hp} {a:Addr} {ns:List Int} (s:Same H H') (h:ScrAt K H a ns):ScrAt K H' a ns:=by
 rcases h with ⟨o,h⟩ | h
 · exact .inl ⟨o,s _ _ h⟩
 · exact .inr h
noncomputable def SRep (K:PySem.W.Frag) (H:Hp) (ok:Addr->Prop):S->V->Prop
 | .d x,v=>RepP K H ok x v
 | .scr ns,v=>∃ a,v=.ref a/\ScrAt K H a ns
 | .dc kvs,v=>∃ a ws,v=.ref a/\H a=some (.dT ws)/\ok a/\RepKV K H ok kvs ws
 | _,_=>False
structure Cn where
 K:PySem.W.Frag
 H0:Hp
 M:Addr->Prop
 Q:Addr->Prop
 free:Bool
noncomputable def SlotAt (C:Cn) (A W:Addr->Prop) (H:Hp) (s:S) (v:V):Md->Prop
 | .pl=>SRep C.K H (fun b=>¬ A b) s v
 | .ow=>Cell C.K A H (fun a=>W a/\C.H0 a=none) (fun _=>True) s v
 | .lk=>Cell C.K A H (fun a=>¬ W a) (fun _=>True) s v
 | .io=>Cell C.K A H (fun a=>W a/\C.M a) C.Q s v
structure R (C:Cn) (md:List Md) (A W:Addr->Prop) (ρ:En) (σ:St) (H:Hp):Prop where
 len:σ.length=ρ.length
 wa:∀ a,W a->A a
 ak:∀ a,A a->MutO (H a)
 base:∀ b o,C.H0 b=some o->¬ C.M b->H b=some o
 wf:∀ a,W a->C.H0 a=none∨C.M a
 ma:∀ a,C.M a->A a
 fo:C.free=true->∀ a xs,C.H0 a=some (.lst xs)->¬ C.Q a->A a
 slot:∀ i s,look ρ i=some s->∃ v,σ[i]?=some (some v)/\SlotAt C A W H s v (mode md i)
 inj:∀ i j s s' a,i ≠ j->mode md i ≠ .pl->mode md j ≠ .pl->look ρ i=some s->look ρ j=some s'->isM s=true->isM s'=true->σ[i]?=some (some (.ref a))->σ[j]?=some (some (.ref a))->False
section
variable {C:Cn} {md:List Md} {A W:Addr->Prop} {ρ:En} {σ:St} {H H':Hp}
theorem R.wk (r:R C md A W ρ σ H):∀ a,W a->MutO (H a):=fun a w=>r.ak a (r.wa a w)
theorem R.stayP (r:R C md A W ρ σ H) (e:Ext W H H') {d:D} {v:V} (h:RepP C.K H (fun b=>¬ A b) d v):RepP C.K H' (fun b=>¬ A b) d v:=
 h.stay (e.stayT r.wk) fun a xs o z=>⟨e a _ (fun w=>o (r.wa a w)) z,o⟩
theorem R.stayPL (r:R C md A W ρ σ H) (e:Ext W H H') {d:List D} {v:List V} (h:RepPL C.K H (fun b=>¬ A b) d v):RepPL C.K H' (fun b=>¬ A b) d v:=
 h.stay (e.stayT r.wk) fun a xs o z=>⟨e a _ (fun w=>o (r.wa a w)) z,o⟩
theorem Cell.same {K:PySem.W.Frag} {ok okq:Addr->Prop} {s:S} {v:V} (s1:Same H H') (h:Cell K A H ok okq s v):Cell K A H' ok okq s v:=by
 match s,h with
 | .d (.lst l),h=>
   obtain ⟨a,xs,e,h1,h2,h3,h4⟩:=h
   exact ⟨a,xs,e,s1 _ _ h1,h2,h3,h4.same s1⟩
 | .d .non,h=>exact RepP.same h s1
 | .d (.bl _),h=>exact RepP.same h s1
 | .d (.int _),h=>exact RepP.same h s1
 | .d (.str _),h=>exact RepP.same h s1
 | .d (.tup _),h=>exact RepP.same h s1
 | .pot ns i r m,h=>
   obtain ⟨p,q,e,h1,h2,h3⟩:=h
   exact ⟨p,q,e,s1 _ _ h1,s1 _ _ h2,h3⟩
 | .dc kvs,h=>
   obtain ⟨a,ws,e,h1,h2,h3,h4,h5⟩:=h
   exact ⟨a,ws,e,s1 _ _ h1,h2,h3,h4,h5.same s1⟩
 | .dk kvs,h=>
   obtain ⟨a,ws,e,h1,h2,h3,h4,h5⟩:=h
   exact ⟨a,ws,e,s1 _ _ h1,h2,h3,h4,h5.same s1⟩
 | .scr _,h=>exact h.elim
theorem R.same (r:R C md A W ρ σ H) (s:Same H H'):R C md A W ρ σ H' where
 len:=r.len
 wa:=r.wa
 ak:=fun a h=>(r.ak a h).imp (fun ⟨xs,e⟩=>⟨xs,s _ _ e⟩) (fun z=>z.imp (fun ⟨xs,e⟩=>⟨xs,s _ _ e⟩) (fun ⟨xs,e⟩=>⟨xs,s _ _ e⟩))
 base:=fun b o h n=>s _ _ (r.base b o h n)
 wf:=r.wf
 ma:=r.ma
 fo:=r.fo
 slot:=fun i t h=>by
   obtain ⟨v,e,h1⟩:=r.slot i t h
   refine ⟨v,e,?_⟩
   cases em:mode md i with
   | pl=>
     rw [em] at h1
     cases t with
     | d x=>
       exact RepP.same h1 s
     | scr ns=>
       obtain ⟨a,z,h1⟩:=h1; exact ⟨a,z,h1.same s⟩
     | dc kvs=>
       obtain ⟨a,ws,z,h1,h2,h3,h4⟩:=h1; exact ⟨a,ws,z,s _ _ h1,h2,h3,h4.same s⟩
     | _=>cases h1
   | ow=>rw [em] at h1; exact Cell.same s h1
   | lk=>rw [em] at h1; exact Cell.same s h1
   | io=>rw [em] at h1; exact Cell.same s h1
 inj:=r.inj
theorem R.fresh (r:R C md A W ρ σ H) {a:Addr} (h:H a=none):¬ A a:=fun z=>by
 rcases r.ak a z with ⟨xs,e⟩ | ⟨xs,e⟩ | ⟨xs,e⟩ <;> (rw [h] at e; cases e)
theorem R.freshP (r:R C md A W ρ σ H) {d:D} {v:V} {H':Hp} (h:RepP C.K H' (fun a=>¬ A a∨H a=none) d v):RepP C.K H' (fun a=>¬ A a) d v:=
 h.mono fun a xs o _=>by rcases o with o | o; exact o; exact r.fresh o
noncomputable def OpAt (C:Cn) (A:Addr->Prop) (σ:St) (H:Hp):Op->V->Prop
 | .val d,v=>RepP C.K H (fun a=>¬ A a) d v
 | .var i,v=>σ[i]?=some (some v)
theorem OpAt.stay {o:Op} {v:V} (r:R C md A W ρ σ H) (e:Ext W H H') (h:OpAt C A σ H o v):OpAt C A σ H' o v:=by
 cases o with
 | val d=>exact r.stayP e h
 | var i=>exact h
theorem Cell.top {K:PySem.W.Frag} {ok okq:Addr->Prop} {d:D} {v:V} (h:Cell K A H ok okq (.d d) v):RepT K H (fun a=>¬ A a) d v:=by
 match d,h with
 | .lst l,h=>
   obtain ⟨a,xs,e,h1,h2,h3,h4⟩:=h
   exact ⟨a,xs,e,h1,h4⟩
 | .non,h=>exact h
 | .bl _,h=>exact h
 | .int _,h=>exact h
 | .str _,h=>exact h
 | .tup _,h=>exact h
theorem SlotAt.top {d:D} {v:V} {m:Md} (h:SlotAt C A W H (.d d) v m):RepT C.K H (fun a=>¬ A a) d v:=by
 cases m with
 | pl=>exact RepP.top h
 | ow=>exact Cell.top h
 | lk=>exact Cell.top h
 | io=>exact Cell.top h
theorem unD_some {o:Option S} {d:D} (h:unD o=some d):o=some (.d d):=by
 cases o with
 | some y23=>
   cases y23 with
   | d x=>
     cases h; rfl
   | _=>cases h
 | _=>cases h
theorem OpAt.get {o:Op} {v:V} {d:D} (r:R C md A W ρ σ H) (h:OpAt C A σ H o v) (e:res ρ o=some d):RepT C.K H (fun a=>¬ A a) d v:=by
 cases o with
 | val d'=>cases e; exact RepP.top h
 | var i=>
   obtain ⟨v',e',h'⟩:=r.slot i (.d d) (unD_some e)
   have:some (some v)=some (some v'):=(show σ[i]?=some (some v) from h).symm.trans e'
   cases this
   exact h'.top
theorem OpAt.sto {o:Op} {v:V} {d:D} (r:R C md A W ρ σ H) (h:OpAt C A σ H o v) (e:sto md ρ o=some d):RepP C.K H (fun a=>¬ A a) d v:=by
 cases o with
 | val d'=>cases e; exact h
 | var i=>
   unfold Mir.sto at e
   cases em:mode md i with
   | pl=>
     simp only [em] at e
     obtain ⟨v',e',h'⟩:=r.slot i (.d d) (unD_some e)
     have:some (some v)=some (some v'):=(show σ[i]?=some (some v) from h).symm.trans e'
     cases this
     rw [em] at h'
     exact h'
   | _=>
     simp only [em] at e
     cases eu:unD (look ρ i) with
     | none=>rw [eu] at e; cases e
     | some x=>
       rw [eu] at e
       unfold immO at e
       simp only at e
       split at e
       · cases e
         rename_i hi
         exact (OpAt.get r h (show res ρ (.var i)=some d from eu)).imm hi
       · cases e
noncomputable abbrev ME:=En->Option (Op × En)
noncomputable abbrev MT:=En->Option (Bool × En)
noncomputable abbrev MA:=En->Option (List Op × En)
noncomputable def LE (C:Cn) (md:List Md) (t:TE) (f:ME):Prop:=∀ (A W:Addr->Prop) (ρ:En) (σ:St) (H:Hp) (Q:VK) (o:Op) (ρ':En),R C md A W ρ σ H->f ρ=some (o,ρ') ->
 (∀ v H',Ext W H H'->R C md A W ρ' σ H'->OpAt C A σ H' o v->Q v H')->t σ H Q
noncomputable def LT (C:Cn) (md:List Md) (t:TT) (f:MT):Prop:=∀ (A W:Addr->Prop) (ρ:En) (σ:St) (H:Hp) (Q:Bool->Hp->Prop) (b:Bool) (ρ':En),R C md A W ρ σ H->f ρ=some (b,ρ') ->
 (∀ H',Ext W H H'->R C md A W ρ' σ H'->Q b H')->t σ H Q
noncomputable def OpsAt (C:Cn) (A:Addr->Prop) (σ:St) (H:Hp):List Op->List V->Prop
 | [],vs=>vs=[]
 | o::os,vs=>∃ v r,vs=v::r/\OpAt C A σ H o v/\OpsAt C A σ H os r
noncomputable def LA (C:Cn) (md:List Md) (t:TA) (f:MA):Prop:=∀ (A W:Addr->Prop) (ρ:En) (σ:St) (H:Hp) (Q:List V->Hp->Prop) (os:List Op) (ρ':En),R C md A W ρ σ H->f ρ=some (os,ρ') ->
 (∀ vs H',Ext W H H'->R C md A W ρ' σ H'->OpsAt C A σ H' os vs->Q vs H')->t σ H Q
end
end Mir
namespace Mir
open PySem L2
noncomputable def mVar (i:Nat):ME:=fun ρ=>match look ρ i with
 | some _=>some (.var i,ρ)
 | none=>none
noncomputable def mC (d:D):ME:=fun ρ=>some (.val d,ρ)
noncomputable def mOp (g:D->D->Option D) (fa fb:ME):ME:=fun ρ=>
 (fa ρ).bind fun x=>(fb x.2).bind fun y=>(res y.2 x.1).bind fun d=>(res y.2 y.1).bind fun e=>(g d e).bind fun u=>some (.val u,y.2)
noncomputable def mUn (g:D->Option D) (fa:ME):ME:=fun ρ=>(fa ρ).bind fun x=>(res x.2 x.1).bind fun d=>(g d).bind fun u=>some (.val u,x.2)
noncomputable def mNil:MA:=fun ρ=>some ([],ρ)
noncomputable def mCons (fa:ME) (fr:MA):MA:=fun ρ=>(fa ρ).bind fun x=>(fr x.2).bind fun y=>some (x.1::y.1,y.2)
noncomputable def ress (ρ:En):List Op->Option (List D)
 | []=>some []
 | o::os=>(res ρ o).bind fun d=>(ress ρ os).bind fun ds=>some (d::ds)
noncomputable def stos (md:List Md) (ρ:En):List Op->Option (List D)
 | []=>some []
 | o::os=>(sto md ρ o).bind fun d=>(stos md ρ os).bind fun ds=>some (d::ds)
noncomputable def mCB (g:List D->Option D) (fa:MA):ME:=fun ρ=>(fa ρ).bind fun x=>(ress x.2 x.1).bind fun ds=>(g ds).bind fun u=>some (.val u,x.2)
noncomputable def mTup (md:List Md) (fa:MA):ME:=fun ρ=>(fa ρ).bind fun x=>(stos md x.2 x.1).bind fun ds=>if ds.length<=sizeLine then some (.val (.tup ds),x.2) else none
noncomputable def mLst (md:List Md) (fa:MA):ME:=fun ρ=>(fa ρ).bind fun x=>(stos md x.2 x.1).bind fun ds=>if ds.length<=sizeLine then some (.val (.lst ds),x.2) else none
noncomputable def asB:D->Option Bool
 | .bl b=>some b
 | _=>none
noncomputable def mB (fa:ME):MT:=fun ρ=>(fa ρ).bind fun x=>(res x.2 x.1).bind fun d=>(asB d).bind fun b=>some (b,x.2)
noncomputable def mAnd (fa fb:MT):MT:=fun ρ=>(fa ρ).bind fun x=>if x.1=true then fb x.2 else some (false,x.2)
noncomputable def mOr (fa fb:MT):MT:=fun ρ=>(fa ρ).bind fun x=>if x.1=true then some (true,x.2) else fb x.2
noncomputable def mNot (fa:MT):MT:=fun ρ=>(fa ρ).bind fun x=>some (!x.1,x.2)
noncomputable def mYes:MT:=fun ρ=>some (true,ρ)
noncomputable def mAndV (fa fb:ME):ME:=fun ρ=>(fa ρ).bind fun x=>(res x.2 x.1).bind fun d=>(asB d).bind fun b=>if b=true then fb x.2 else some (.val (.bl false),x.2)
noncomputable def mNotV (fa:ME):ME:=fun ρ=>(fa ρ).bind fun x=>(res x.2 x.1).bind fun d=>(asB d).bind fun b=>some (.val (.bl (!b)),x.2)
noncomputable def mIf (c:MT) (fa fb:ME):ME:=fun ρ=>(c ρ).bind fun x=>if x.1=true then fa x.2 else fb x.2
noncomputable def mChain (g g':D->D->Option D) (fa fb fc:ME):ME:=fun ρ=>
 (fa ρ).bind fun x=>(fb x.2).bind fun y=>(res y.2 x.1).bind fun d=>(res y.2 y.1).bind fun e=>(g d e).bind fun u=>(asB u).bind fun b=>
   if b=true then (fc y.2).bind fun z=>(res z.2 y.1).bind fun e=>(res z.2 z.1).bind fun h=>(g' e h).bind fun u=>some (.val u,z.2) else some (.val (.bl false),y.2)
noncomputable def mChain3 (g g' g'':D->D->Option D) (fa fb fc fd:ME):MT:=fun ρ=>
 (fa ρ).bind fun x=>(fb x.2).bind fun y=>(res y.2 x.1).bind fun d=>(res y.2 y.1).bind fun e=>(g d e).bind fun u=>(asB u).bind fun b=>
   if b=true then (fc y.2).bind fun z=>(res z.2 y.1).bind fun e=>(res z.2 z.1).bind fun h=>(g' e h).bind fun u=>(asB u).bind fun b=>
     if b=true then (fd z.2).bind fun w=>(res w.2 z.1).bind fun h=>(res w.2 w.1).bind fun k=>(g'' h k).bind fun u=>(asB u).bind fun b=>some (b,w.2) else some (false,z.2)
   else some (false,y.2)
noncomputable def OpA (K:PySem.W.Frag) (r:R2) (g:D->D->Option D):Prop:=∀ (H:Hp) (ok:Addr->Prop) (x y:V) (d e u:D) (Q:VK),RepT K H ok d x->RepT K H ok e y->g d e=some u ->
 (∀ v H',Same H H'->RepP K H' (fun a=>ok a∨H a=none) u v->Q v H')->r x y H Q
noncomputable def UnA (K:PySem.W.Frag) (r:V->Hp->VK->Prop) (g:D->Option D):Prop:=∀ (H:Hp) (ok:Addr->Prop) (x:V) (d u:D) (Q:VK),RepT K H ok d x->g d=some u ->
 (∀ v H',Same H H'->RepP K H' (fun a=>ok a∨H a=none) u v->Q v H')->r x H Q
noncomputable def RepTL (K:PySem.W.Frag) (H:Hp) (ok:Addr->Prop):List D->List V->Prop
 | [],vs=>vs=[]
 | d::ds,vs=>∃ v r,vs=v::r/\RepT K H ok d v/\RepTL K H ok ds r
noncomputable def CbA (K:PySem.W.Frag) (r:List V->Hp->VK->Prop) (g:List D->Option D):Prop:=∀ (H:Hp) (ok:Addr->Prop) (vs:List V) (ds:List D) (u:D) (Q:VK),RepTL K H ok ds vs->g ds=some u ->
 (∀ v H',Same H H'->RepP K H' (fun a=>ok a∨H a=none) u v->Q v H')->r vs H Q
section
variable {C:Cn} {md:List Md}
theorem le_var (i:Nat):LE C md (tVar i) (mVar i):=by
 intro A W ρ σ H Q o ρ' r e k
 unfold mVar at e
 cases el:look ρ i with
 | none=>rw [el] at e; cases e
 | some s=>
   rw [el] at e; cases e
   obtain ⟨v,ev,_⟩:=r.slot i s el
   exact ⟨v,ev,k v H (Ext.refl _ _) r ev⟩
theorem le_c {v:V} (d:D) (h:∀ H ok,RepP C.K H ok d v):LE C md (tC v) (mC d):=by
 intro A W ρ σ H Q o ρ' r e k
 cases e
 exact k v H (Ext.refl _ _) r (h _ _)
theorem le_int {i:Int}:LE C md (tC (.int i)) (mC (.int i)):=le_c _ fun _ _=>by rw [RepP]
theorem le_str {i:Str}:LE C md (tC (.str i)) (mC (.str i)):=le_c _ fun _ _=>by rw [RepP]
theorem le_bl {i:Bool}:LE C md (tC (.bl i)) (mC (.bl i)):=le_c _ fun _ _=>by rw [RepP]
theorem fin {A W:Addr->Prop} {ρ:En} {σ:St} {H H1 H':Hp} {d:D} {v:V} (e:Ext W H H1) (r:R C md A W ρ σ H1) (s:Same H1 H') (h:RepP C.K H' (fun a=>¬ A a∨H1 a=none) d v) :
   Ext W H H'/\R C md A W ρ σ H'/\OpAt C A σ H' (.val d) v:=⟨e.trans (Same.ext s),r.same s,r.freshP h⟩
theorem le_op {r:R2} {g:D->D->Option D} {ta tb:TE} {fa fb:ME} (h:OpA C.K r g) (ha:LE C md ta fa) (hb:LE C md tb fb):LE C md (tOp r ta tb) (mOp g fa fb):=by
 intro A W ρ σ H Q o ρ' r0 e k
 unfold mOp at e
 simp only [Z0] at e
 obtain ⟨⟨o1,ρ1⟩,e1,⟨o2,ρ2⟩,e2,d,e3,c,e4,u,e5,e6⟩:=e
 cases e6
 refine ha A W ρ σ H _ o1 ρ1 r0 e1 fun v1 H1 x1 r1 p1=>?_
 refine hb A W ρ1 σ H1 _ o2 ρ2 r1 e2 fun v2 H2 x2 r2 p2=>?_
 refine h H2 _ v1 v2 d c u Q ((p1.stay r1 x2).get r2 e3) (p2.get r2 e4) e5 fun v H' s q=>?_
 obtain ⟨z1,z2,z3⟩:=fin (x1.trans x2) r2 s q
 exact k v H' z1 z2 z3
theorem le_un {r:V->Hp->VK->Prop} {g:D->Option D} {ta:TE} {fa:ME} (h:UnA C.K r g) (ha:LE C md ta fa):LE C md (tUn r ta) (mUn g fa):=by
 intro A W ρ σ H Q o ρ' r0 e k
 unfold mUn at e
 simp only [Z0] at e
 obtain ⟨⟨o1,ρ1⟩,e1,d,e3,u,e5,e6⟩:=e
 cases e6
 refine ha A W ρ σ H _ o1 ρ1 r0 e1 fun v1 H1 x1 r1 p1=>?_
 refine h H1 _ v1 d u Q (p1.get r1 e3) e5 fun v H' s q=>?_
 obtain ⟨z1,z2,z3⟩:=fin x1 r1 s q
 exact k v H' z1 z2 z3
theorem la_nil:LA C md tNil mNil:=by
 intro A W ρ σ H Q os ρ' r0 e k
 cases e
 exact k [] H (Ext.refl _ _) r0 rfl
theorem la_cons {ta:TE} {tr:TA} {fa:ME} {fr:MA} (ha:LE C md ta fa) (hr:LA C md tr fr):LA C md (tCons ta tr) (mCons fa fr):=by
 intro A W ρ σ H Q os ρ' r0 e k
 unfold mCons at e
 simp only [Z0] at e
 obtain ⟨⟨o1,ρ1⟩,e1,⟨o2,ρ2⟩,e2,e6⟩:=e
 cases e6
 refine ha A W ρ σ H _ o1 ρ1 r0 e1 fun v1 H1 x1 r1 p1=>?_
 refine hr A W ρ1 σ H1 _ o2 ρ2 r1 e2 fun v2 H2 x2 r2 p2=>?_
 exact k _ _ (x1.trans x2) r2 ⟨v1,v2,rfl,p1.stay r1 x2,p2⟩
theorem OpsAt.get {A W:Addr->Prop} {ρ:En} {σ:St} {H:Hp} (r:R C md A W ρ σ H):∀ {os:List Op} {vs:List V} {ds:List D},OpsAt C A σ H os vs->ress ρ os=some ds->RepTL C.K H (fun a=>¬ A a) ds vs
 | [],vs,ds,h,e=>by cases e; exact h
 | o::os,vs,ds,h,e=>by
   obtain ⟨v,t,rfl,h1,h2⟩:=h
   unfold ress at e
   simp only [Z0] at e
   obtain ⟨d,e1,ds',e2,e3⟩:=e
   cases e3
   exact ⟨v,t,rfl,h1.get r e1,OpsAt.get r h2 e2⟩
theorem OpsAt.stos {A W:Addr->Prop} {ρ:En} {σ:St} {H:Hp} (r:R C md A W ρ σ H):∀ {os:List Op} {vs:List V} {ds:List D},OpsAt C A σ H os vs->stos md ρ os=some ds->RepPL C.K H (fun a=>¬ A a) ds vs
 | [],vs,ds,h,e=>by cases e; rw [show vs=[] from h]; exact .nil
 | o::os,vs,ds,h,e=>by
   obtain ⟨v,t,rfl,h1,h2⟩:=h
   unfold Mir.stos at e
   simp only [Z0] at e
   obtain ⟨d,e1,ds',e2,e3⟩:=e
   cases e3
   exact .cons (h1.sto r e1) (OpsAt.stos r h2 e2)
theorem le_cb {r:List V->Hp->VK->Prop} {g:List D->Option D} {ta:TA} {fa:MA} (h:CbA C.K r g) (ha:LA C md ta fa):LE C md (tCB r ta) (mCB g fa):=by
 intro A W ρ σ H Q o ρ' r0 e k
 unfold mCB at e
 simp only [Z0] at e
 obtain ⟨⟨o1,ρ1⟩,e1,ds,e3,u,e5,e6⟩:=e
 cases e6
 refine ha A W ρ σ H _ o1 ρ1 r0 e1 fun v1 H1 x1 r1 p1=>?_
 refine h H1 _ v1 ds u Q (p1.get r1 e3) e5 fun v H' s q=>?_
 obtain ⟨z1,z2,z3⟩:=fin x1 r1 s q
 exact k v H' z1 z2 z3
theorem new_same {H:Hp} {p:Addr} {o:HO} (hp:H p=none):Same H (upd H p o):=fun b u e=>by rw [upd_ne (ne_of_none e hp)]; exact e
theorem le_tup {t:TA} {fa:MA} (ha:LA C md t fa):LE C md (tTup t) (mTup md fa):=by
 intro A W ρ σ H Q o ρ' r0 e k
 unfold mTup at e
 simp only [Z0] at e
 obtain ⟨⟨o1,ρ1⟩,e1,ds,e3,e5⟩:=e
 split at e5
 · cases e5
   rename_i hz
   refine ha A W ρ σ H _ o1 ρ1 r0 e1 fun v1 H1 x1 r1 p1=>?_
   have q:=p1.stos r1 e3
   refine ⟨by rw [q.length]; exact hz,fun p hp=>?_⟩
   have s:=new_same (o:=.tup v1) hp
   refine k _ _ (x1.trans (Same.ext s)) (r1.same s) ?_
   show RepP _ _ _ (.tup ds) _
   rw [RepP]
   exact ⟨p,v1,rfl,upd_same,q.same s⟩
 · cases e5
theorem le_lst {t:TA} {fa:MA} (ha:LA C md t fa):LE C md (tLst t) (mLst md fa):=by
 intro A W ρ σ H Q o ρ' r0 e k
 unfold mLst at e
 simp only [Z0] at e
 obtain ⟨⟨o1,ρ1⟩,e1,ds,e3,e5⟩:=e
 split at e5
 · cases e5
   rename_i hz
   refine ha A W ρ σ H _ o1 ρ1 r0 e1 fun v1 H1 x1 r1 p1=>?_
   have q:=p1.stos r1 e3
   refine ⟨by rw [q.length]; exact hz,fun p hp=>?_⟩
   have s:=new_same (o:=.lst v1) hp
   refine k _ _ (x1.trans (Same.ext s)) (r1.same s) ?_
   show RepP _ _ _ (.lst ds) _
   rw [RepP]
   exact ⟨p,v1,rfl,upd_same,r1.fresh hp,q.same s⟩
 · cases e5
theorem asB_some {d:D} {b:Bool} (h:asB d=some b):d=.bl b:=by cases d <;> first | (cases h; done) | (cases h; rfl)
theorem bl_of {A W:Addr->Prop} {ρ:En} {σ:St} {H:Hp} {o:Op} {d:D} {b:Bool} {v:V} (r:R C md A W ρ σ H) (h:OpAt C A σ H o v) (e:res ρ o=some d) (eb:asB d=some b):v=.bl b:=by
 have z:=(h.get r e).rep
 rw [asB_some eb,Rep] at z
 exact z
theorem lt_b {ta:TE} {fa:ME} (ha:LE C md ta fa):LT C md (tB ta) (mB fa):=by
 intro A W ρ σ H Q b ρ' r0 e k
 unfold mB at e
 simp only [Z0] at e
 obtain ⟨⟨o1,ρ1⟩,e1,d,e3,b',e5,e6⟩:=e
 cases e6
 exact ha A W ρ σ H _ o1 ρ1 r0 e1 fun v1 H1 x1 r1 p1=>⟨b,bl_of r1 p1 e3 e5,k H1 x1 r1⟩
theorem lt_yes:LT C md tYes mYes:=by
 intro A W ρ σ H Q b ρ' r0 e k
 cases e
 exact k H (Ext.refl _ _) r0
theorem lt_and {ta tb:TT} {fa fb:MT} (ha:LT C md ta fa) (hb:LT C md tb fb):LT C md (tAnd ta tb) (mAnd fa fb):=by
 intro A W ρ σ H Q b ρ' r0 e k
 unfold mAnd at e
 simp only [Z0] at e
 obtain ⟨⟨b1,ρ1⟩,e1,e2⟩:=e
 refine ha A W ρ σ H _ b1 ρ1 r0 e1 fun H1 x1 r1=>?_
 cases b1 with
 | true=>exact iteT (hb A W ρ1 σ H1 _ b ρ' r1 (by simpa using e2) fun H2 x2 r2=>k H2 (x1.trans x2) r2)
 | false=>simp at e2; obtain ⟨rfl,rfl⟩:=e2; exact iteF (k H1 x1 r1)
theorem lt_or {ta tb:TT} {fa fb:MT} (ha:LT C md ta fa) (hb:LT C md tb fb):LT C md (tOr ta tb) (mOr fa fb):=by
 intro A W ρ σ H Q b ρ' r0 e k
 unfold mOr at e
 simp only [Z0] at e
 obtain ⟨⟨b1,ρ1⟩,e1,e2⟩:=e
 refine ha A W ρ σ H _ b1 ρ1 r0 e1 fun H1 x1 r1=>?_
 cases b1 with
 | true=>simp at e2; obtain ⟨rfl,rfl⟩:=e2; exact iteT (k H1 x1 r1)
 | false=>exact iteF (hb A W ρ1 σ H1 _ b ρ' r1 (by simpa using e2) fun H2 x2 r2=>k H2 (x1.trans x2) r2)
theorem lt_not {ta:TT} {fa:MT} (ha:LT C md ta fa):LT C md (tNot ta) (mNot fa):=by
 intro A W ρ σ H Q b ρ' r0 e k
 unfold mNot at e
 simp only [Z0] at e
 obtain ⟨⟨b1,ρ1⟩,e1,e2⟩:=e
 cases e2
 exact ha A W ρ σ H _ b1 ρ1 r0 e1 fun H1 x1 r1=>k H1 x1 r1
theorem le_andV {ta tb:TE} {fa fb:ME} (ha:LE C md ta fa) (hb:LE C md tb fb):LE C md (tAndV ta tb) (mAndV fa fb):=by
 intro A W ρ σ H Q o ρ' r0 e k
 unfold mAndV at e
 simp only [Z0] at e
 obtain ⟨⟨o1,ρ1⟩,e1,d,e3,b,e5,e6⟩:=e
 refine ha A W ρ σ H _ o1 ρ1 r0 e1 fun v1 H1 x1 r1 p1=>⟨b,bl_of r1 p1 e3 e5,?_⟩
 cases b with
 | true=>exact iteT (hb A W ρ1 σ H1 _ o ρ' r1 (by simpa using e6) fun v H2 x2 r2=>k v H2 (x1.trans x2) r2)
 | false=>simp at e6; obtain ⟨rfl,rfl⟩:=e6; exact iteF (k _ H1 x1 r1 (by show RepP _ _ _ _ _; rw [RepP]))
theorem le_notV {ta:TE} {fa:ME} (ha:LE C md ta fa):LE C md (tNotV ta) (mNotV fa):=by
 intro A W ρ σ H Q o ρ' r0 e k
 unfold mNotV at e
 simp only [Z0] at e
 obtain ⟨⟨o1,ρ1⟩,e1,d,e3,b,e5,e6⟩:=e
 cases e6
 exact ha A W ρ σ H _ o1 ρ1 r0 e1 fun v1 H1 x1 r1 p1=>⟨b,bl_of r1 p1 e3 e5,k _ H1 x1 r1 (by show RepP _ _ _ _ _; rw [RepP])⟩
theorem le_if {tc:TT} {ta tb:TE} {fc:MT} {fa fb:ME} (hc:LT C md tc fc) (ha:LE C md ta fa) (hb:LE C md tb fb):LE C md (tIf tc ta tb) (mIf fc fa fb):=by
 intro A W ρ σ H Q o ρ' r0 e k
 unfold mIf at e
 simp only [Z0] at e
 obtain ⟨⟨b1,ρ1⟩,e1,e2⟩:=e
 refine hc A W ρ σ H _ b1 ρ1 r0 e1 fun H1 x1 r1=>?_
 cases b1 with
 | true=>exact iteT (ha A W ρ1 σ H1 _ o ρ' r1 (by simpa using e2) fun v H2 x2 r2=>k v H2 (x1.trans x2) r2)
 | false=>exact iteF (hb A W ρ1 σ H1 _ o ρ' r1 (by simpa using e2) fun v H2 x2 r2=>k v H2 (x1.trans x2) r2)
theorem bl_rep {K:PySem.W.Frag} {H:Hp} {ok:Addr->Prop} {u:D} {b:Bool} {v:V} (h:RepP K H ok u v) (e:asB u=some b):v=.bl b:=by
 rw [asB_some e,RepP] at h; exact h
theorem le_chain {r r':R2} {g g':D->D->Option D} {ta tb tc:TE} {fa fb fc:ME} (h:OpA C.K r g) (h':OpA C.K r' g') (ha:LE C md ta fa) (hb:LE C md tb fb) (hc:LE C md tc fc):LE C md (tChain r r' ta tb tc) (mChain g g' fa fb fc):=by
 intro A W ρ σ H Q o ρ' r0 e k
 unfold mChain at e
 simp only [Z0] at e
 obtain ⟨⟨o1,ρ1⟩,e1,⟨o2,ρ2⟩,e2,d,e3,c,e4,u,e5,b,e6,e7⟩:=e
 refine ha A W ρ σ H _ o1 ρ1 r0 e1 fun v1 H1 x1 r1 p1=>?_
 refine hb A W ρ1 σ H1 _ o2 ρ2 r1 e2 fun v2 H2 x2 r2 p2=>?_
 refine h H2 _ v1 v2 d c u _ ((p1.stay r1 x2).get r2 e3) (p2.get r2 e4) e5 fun v H3 s q=>?_
 refine ⟨b,bl_rep q e6,?_⟩
 have x3:Ext W H H3:=(x1.trans x2).trans (Same.ext s)
 have r3:=r2.same s
 cases b with
 | false=>simp at e7; obtain ⟨rfl,rfl⟩:=e7; exact iteF (k _ H3 x3 r3 (by show RepP _ _ _ _ _; rw [RepP]))
 | true=>
   simp only [if_true,Z0] at e7
   obtain ⟨⟨o3,ρ3⟩,f1,d',f2,e',f3,u',f4,f5⟩:=e7
   cases f5
   refine iteT ?_
   refine hc A W ρ2 σ H3 _ o3 _ r3 f1 fun v3 H4 x4 r4 p4=>?_
   refine h' H4 _ v2 v3 d' e' u' _ (((p2.stay r2 (Same.ext s)).stay r3 x4).get r4 f2) (p4.get r4 f3) f4 fun v H5 s5 q5=>?_
   obtain ⟨z1,z2,z3⟩:=fin (x3.trans x4) r4 s5 q5
   exact k v H5 z1 z2 z3
theorem lt_chain3 {r r' r'':R2} {g g' g'':D->D->Option D} {ta tb tc td:TE} {fa fb fc fd:ME} (h:OpA C.K r g) (h':OpA C.K r' g') (h'':OpA C.K r'' g'') (ha:LE C md ta fa) (hb:LE C md tb fb) (hc:LE C md tc fc) (hd:LE C md td fd) :
   LT C md (tChain3 r r' r'' ta tb tc td) (mChain3 g g' g'' fa fb fc fd):=by
 intro A W ρ σ H Q o ρ' r0 e k
 unfold mChain3 at e
 simp only [Z0] at e
 obtain ⟨⟨o1,ρ1⟩,e1,⟨o2,ρ2⟩,e2,d,e3,c,e4,u,e5,b,e6,e7⟩:=e
 refine ha A W ρ σ H _ o1 ρ1 r0 e1 fun v1 H1 x1 r1 p1=>?_
 refine hb A W ρ1 σ H1 _ o2 ρ2 r1 e2 fun v2 H2 x2 r2 p2=>?_
 refine h H2 _ v1 v2 d c u _ ((p1.stay r1 x2).get r2 e3) (p2.get r2 e4) e5 fun v H3 s q=>?_
 refine ⟨b,bl_rep q e6,?_⟩
 have x3:Ext W H H3:=(x1.trans x2).trans (Same.ext s)
 have r3:=r2.same s
 cases b with
 | false=>simp at e7; obtain ⟨rfl,rfl⟩:=e7; exact iteF (k H3 x3 r3)
 | true=>
   simp only [if_true,Z0] at e7
   obtain ⟨⟨o3,ρ3⟩,f1,d',f2,e',f3,u',f4,b',f5,f6⟩:=e7
   refine iteT ?_
   refine hc A W ρ2 σ H3 _ o3 ρ3 r3 f1 fun v3 H4 x4 r4 p4=>?_
   refine h' H4 _ v2 v3 d' e' u' _ (((p2.stay r2 (Same.ext s)).stay r3 x4).get r4 f2) (p4.get r4 f3) f4 fun v H5 s5 q5=>?_
   refine ⟨b',bl_rep q5 f5,?_⟩
   have x5:Ext W H H5:=(x3.trans x4).trans (Same.ext s5)
   have r5:=r4.same s5
   cases b' with
   | false=>simp at f6; obtain ⟨rfl,rfl⟩:=f6; exact iteF (k H5 x5 r5)
   | true=>
     simp only [if_true,Z0] at f6
     obtain ⟨⟨o4,ρ4⟩,g1,d2,g2,e2',g3,u2,g4,b2,g5,g6⟩:=f6
     cases g6
     refine iteT ?_
     refine hd A W ρ3 σ H5 _ o4 _ r5 g1 fun v4 H6 x6 r6 p6=>?_
     refine h'' H6 _ v3 v4 d2 e2' u2 _ (((p4.stay r4 (Same.ext s5)).stay r5 x6).get r6 g2) (p6.get r6 g3) g4 fun v H7 s7 q7=>?_
     exact ⟨_,bl_rep q7 g5,k H7 ((x5.trans x6).trans (Same.ext s7)) (r6.same s7)⟩
end
end Mir
namespace L2
open PySem PySem.Spec PyProof.Rows
section
variable {X:Cx} {K:PySem.W.Frag} {pins:List (Addr × Obj)} {σ:St} {H:Hp} {s:Shared} {l:Addr} {xs:List V}
theorem Inv.lstR (I:Inv X pins σ H s) (hH:Rd H l (.lst xs)):xs.length<=sizeLine/\∃ (its:List Value) (n:Nat),Vals xs its/\xs.length=its.length/\s.heap.get? l=some { cls:=.type "list",data:=.seq its.toArray n }:=by
 obtain ⟨z,its,n,r,e⟩:=hH.ok I.hok
 exact ⟨z,its,n,r,r.length,e⟩
noncomputable def rCatR:R2:=fun x y H Q=>∃ l b xs zs,x=.ref l/\y=.ref b/\Rd H l (.lst xs)/\Rd H b (.lst zs)/\xs.length+zs.length<=sizeLine/\∀ p,H p=none->Q (.ref p) (upd H p (.lst (xs++zs)))
theorem op_catR:OpR X (binaryOp .Add) rCatR:=by
 intro pins s σ H x y v u Q I rx ry h
 obtain ⟨l,b,xs,zs,rfl,rfl,hH,hB,hz,q⟩:=h
 cases rx
 cases ry
 obtain ⟨z,its,n,r,hl,e⟩:=I.lstR hH
 obtain ⟨z2,its2,n2,r2,hl2,e2⟩:=I.lstR hB
 refine PySem.P.add_list e e2 ?_ (by rw [Z4,Z4]; grind)
 have ea:its.toArray++its2.toArray=(its++its2).toArray:=by simp
 rw [ea]
 exact ⟨.ref _,_,I.lnew (t':=s.toks) (r.append r2) (by rw [Z17]; exact hz),rfl,q _ I.fresh⟩
noncomputable def rAddX (K:PySem.W.Frag):R2:=fun x y H Q=>match x,y with
 | .int i,.int j=>Q (.int (i+j)) H
 | .int i,.bl k=>Q (.int (i+b2i k)) H
 | .str i,.str j=>i.length+j.length<=sizeLine/\Q (.str (i++j)) H
 | .ref a,.ref b=>rCatT K (.ref a) (.ref b) H Q∨rCatR (.ref a) (.ref b) H Q
 | _,_=>False
theorem op_addX (kt:KT K) (hK:X.K=K:=by rfl):OpR X (binaryOp .Add) (rAddX K):=by
 subst hK
 intro pins s σ H x y v u Q I rx ry h
 cases x with
 | int i=>
   cases y with
   | int j=>exact op_addA pins s σ H _ _ v u Q I rx ry h
   | bl k=>exact op_addA pins s σ H _ _ v u Q I rx ry h
   | _=>exact False.elim h
 | str i=>
   cases y with
   | str j=>exact op_addA pins s σ H _ _ v u Q I rx ry h
   | _=>exact False.elim h
 | ref a=>
   cases y with
   | ref b=>
     rcases h with h | h
     · exact op_addA pins s σ H _ _ v u Q I rx ry (.inl h)
     · exact op_catR pins s σ H _ _ v u Q I rx ry h
   | _=>exact False.elim h
 | _=>exact False.elim h
end
end L2
namespace Mir
open PySem PySem.Spec PyProof.Rows L2
noncomputable def addD:D->D->Option D
 | .int i,.int j=>some (.int (i+j))
 | .int i,.bl k=>some (.int (i+b2i k))
 | .str i,.str j=>if i.length+j.length<=sizeLine then some (.str (i++j)) else none
 | .tup (a::l),.tup m=>if l.length+1+m.length<=sizeLine then some (.tup (a::l++m)) else none
 | .lst l,.lst m=>if l.length+m.length<=sizeLine then some (.lst (l++m)) else none
 | _,_=>none
noncomputable def subD:D->D->Option D
 | .int i,.int j=>some (.int (i - j))
 | _,_=>none
instance {i j:Int}:Decidable (CMul i j):=by unfold CMul; infer_instance
instance {j:Int}:Decidable (CDivB j):=by unfold CDivB; infer_instance
instance {i j:Int}:Decidable (CPow i j):=by unfold CPow; infer_instance
noncomputable def modD:D->D->Option D
 | .int i,.int j=>if 0 < j then some (.int (i % j)) else none
 | _,_=>none
noncomputable def powD:D->D->Option D
 | .int i,.int j=>if CPow i j then some (.int (i ^ j.toNat)) else none
 | _,_=>none
noncomputable def cmpD (p:Int->Int->Bool) (q:Str->Str->Bool):D->D->Option D
 | .int i,.int j=>some (.bl (p i j))
 | .str i,.str j=>some (.bl (q i j))
 | _,_=>none
noncomputable def eqD (n:Nat) (neg:Bool) (d e:D):Option D:=if D.depth d<=n then some (.bl (if neg then !D.eq d e else D.eq d e)) else none
noncomputable def ixD:D->D->Option D
 | .str z,.int i=>if z.length<=sizeLine then (atI z.cps.toList i).map fun c=>.str ⟨#[c]⟩ else none
 | .tup l,.int i=>atI l i
 | .lst l,.int i=>atI l i
 | _,_=>none
noncomputable def itemsD:D->Option (List D)
 | .tup l=>some l
 | .lst l=>some l
 | _=>none
noncomputable def inD (n:Nat) (neg:Bool) (d e:D):Option D:=(itemsD e).bind fun l=>if D.depthL l<=n then some (.bl (if neg then !(l.any fun e=>D.eq e d) else l.any fun e=>D.eq e d)) else none
noncomputable def negD:D->Option D
 | .int i=>some (.int (-i))
 | _=>none
section
variable {K:PySem.W.Frag} {H:Hp} {ok:Addr->Prop} {x:V}
theorem RepT.int_inv {i:Int} (h:RepT K H ok (.int i) x):x=.int i:=by have z:RepP K H ok (.int i) x:=h; rw [RepP] at z; exact z
theorem RepT.str_inv {i:Str} (h:RepT K H ok (.str i) x):x=.str i:=by have z:RepP K H ok (.str i) x:=h; rw [RepP] at z; exact z
theorem RepT.bl_inv {i:Bool} (h:RepT K H ok (.bl i) x):x=.bl i:=by have z:RepP K H ok (.bl i) x:=h; rw [RepP] at z; exact z
theorem RepT.non_inv (h:RepT K H ok .non x):x=.non:=by have z:RepP K H ok .non x:=h; rw [RepP] at z; exact z
theorem RepT.tup_inv {l:List D} (h:RepT K H ok (.tup l) x):∃ a xs,x=.ref a/\SqT K H a xs/\RepPL K H ok l xs:=by have z:RepP K H ok (.tup l) x:=h; rw [RepP] at z; exact z
theorem RepT.lst_inv {l:List D} (h:RepT K H ok (.lst l) x):∃ a xs,x=.ref a/\H a=some (.lst xs)/\RepPL K H ok l xs:=h
theorem repP_int {i:Int}:RepP K H ok (.int i) (.int i):=by rw [RepP]
theorem repP_bl {i:Bool}:RepP K H ok (.bl i) (.bl i):=by rw [RepP]
theorem repP_str {i:Str}:RepP K H ok (.str i) (.str i):=by rw [RepP]
theorem repP_non:RepP K H ok .non .non:=by rw [RepP]
end
section
variable {K:PySem.W.Frag}
theorem op_add:OpA K (rAddX K) addD:=by
 intro H ok x y d e u Q h1 h2 g k
 cases d with
 | int i=>
   cases e with
   | int j=>
     cases g; obtain rfl:=h1.int_inv; obtain rfl:=h2.int_inv
     exact k _ H (Same.refl _) repP_int
   | bl j=>
     cases g; obtain rfl:=h1.int_inv; obtain rfl:=h2.bl_inv
     exact k _ H (Same.refl _) repP_int
   | _=>cases g
 | str i=>
   cases e with
   | str j=>
     obtain rfl:=h1.str_inv; obtain rfl:=h2.str_inv
     replace g:(if i.length+j.length<=sizeLine then some (D.str (i++j)) else none)=some u:=g
     split at g
     · cases g; rename_i hz; exact ⟨hz,k _ H (Same.refl _) repP_str⟩
     · cases g
   | _=>cases g
 | tup y16=>
   cases y16 with
   | cons a l=>
     cases e with
     | tup m=>
       obtain ⟨p,xs,rfl,hp,rp⟩:=h1.tup_inv
       obtain ⟨q,ys,rfl,hq,rq⟩:=h2.tup_inv
       replace g:(if l.length+1+m.length<=sizeLine then some (D.tup (a::l++m)) else none)=some u:=g
       split at g
       · cases g
         rename_i hz
         have L1:=rp.length; have L2:=rq.length
         rw [Z58] at L1
         refine .inl ⟨p,q,xs,ys,rfl,rfl,hp,hq,fun z=>by rw [z] at L1; simp at L1,by lia,fun z=>?_,fun _ t ht=>?_⟩
         · subst z
           have:m=[]:=by cases m with | nil=>rfl | cons _ _=>simp at L2
           subst this
           refine k _ H (Same.refl _) ?_
           rw [Z35,RepP]
           exact ⟨p,xs,rfl,hp,rp.mono fun _ _ o _=>.inl o⟩
         · have s:=new_same (o:=.tup (xs++ys)) ht
           refine k _ _ s ?_
           rw [RepP]
           exact ⟨t,_,rfl,upd_same,((rp.append rq).same s).mono fun _ _ o _=>.inl o⟩
       · cases g
     | _=>cases g
   | _=>cases g
 | lst l=>
   cases e with
   | lst m=>
     obtain ⟨p,xs,rfl,hp,rp⟩:=h1.lst_inv
     obtain ⟨q,ys,rfl,hq,rq⟩:=h2.lst_inv
     replace g:(if l.length+m.length<=sizeLine then some (D.lst (l++m)) else none)=some u:=g
     split at g
     · cases g
       rename_i hz
       have L1:=rp.length; have L2:=rq.length
       refine .inr ⟨p,q,xs,ys,rfl,rfl,.inl hp,.inl hq,by grind,fun t ht=>?_⟩
       have s:=new_same (o:=.lst (xs++ys)) ht
       refine k _ _ s ?_
       rw [RepP]
       exact ⟨t,_,rfl,upd_same,.inr ht,((rp.append rq).same s).mono fun _ _ o _=>.inl o⟩
     · cases g
   | _=>cases g
 | _=>cases g
theorem op_sub:OpA K rSubA subD:=by
 intro H ok x y d e u Q h1 h2 g k
 cases d with
 | int i=>
   cases e with
   | int j=>
     cases g; obtain rfl:=h1.int_inv; obtain rfl:=h2.int_inv
     exact k _ H (Same.refl _) repP_int
   | _=>cases g
 | _=>cases g
theorem op_mod:OpA K rModA modD:=by
 intro H ok x y d e u Q h1 h2 g k
 cases d with
 | int i=>
   cases e with
   | int j=>
     obtain rfl:=h1.int_inv; obtain rfl:=h2.int_inv
     replace g:(if 0 < j then some (D.int (i % j)) else none)=some u:=g
     split at g
     · cases g; rename_i hz; exact ⟨hz,k _ H (Same.refl _) repP_int⟩
     · cases g
   | _=>cases g
 | _=>cases g
theorem op_pow:OpA K rPowA powD:=by
 intro H ok x y d e u Q h1 h2 g k
 cases d with
 | int i=>
   cases e with
   | int j=>
     obtain rfl:=h1.int_inv; obtain rfl:=h2.int_inv
     replace g:(if CPow i j then some (D.int (i ^ j.toNat)) else none)=some u:=g
     split at g
     · cases g; rename_i hz; exact ⟨hz,k _ H (Same.refl _) repP_int⟩
     · cases g
   | _=>cases g
 | _=>cases g
theorem op_cmp {p:Int->Int->Bool} {q:Str->Str->Bool}:OpA K (rCmpA p q) (cmpD p q):=by
 intro H ok x y d e u Q h1 h2 g k
 cases d with
 | int i=>
   cases e with
   | int j=>
     cases g; obtain rfl:=h1.int_inv; obtain rfl:=h2.int_inv
     exact k _ H (Same.refl _) repP_bl
   | _=>cases g
 | str i=>
   cases e with
   | str j=>
     cases g; obtain rfl:=h1.str_inv; obtain rfl:=h2.str_inv
     exact k _ H (Same.refl _) repP_bl
   | _=>cases g
 | _=>cases g
theorem flat_toD {H:Hp} {x:V} {d:D} (h:Rep K H d x) (f:flatV x=true):d=toD x:=by
 cases d <;> rw [Rep] at h <;> first | (subst h; rfl) | (obtain ⟨a,xs,rfl,_⟩:=h; cases f)
theorem op_eq {n:Nat} {neg:Bool}:OpA K (rEqA K n neg) (Mir.eqD n neg):=by
 intro H ok x y d e u Q h1 h2 g k
 unfold Mir.eqD at g
 split at g
 · cases g
   rename_i hd
   unfold rEqA
   cases ef:flatV x && flatV y with
   | true=>
     rw [Z25] at ef
     obtain rfl:=flat_toD h1.rep ef.1
     obtain rfl:=flat_toD h2.rep ef.2
     have z:=k _ H (Same.refl _) repP_bl
     rw [eq_toD ef.1 ef.2] at z
     exact z
   | false=>exact ⟨d,e,h1.rep,h2.rep,hd,k _ H (Same.refl _) repP_bl⟩
 · cases g
theorem atI_repP {H:Hp} {ok:Addr->Prop} {l:List D} {xs:List V} {i:Int} {d:D} (r:RepPL K H ok l xs) (hd:atI l i=some d):∃ x,atI xs i=some x/\RepP K H ok d x:=by
 unfold atI at hd ⊢
 rw [r.length]
 cases e:ixN l.length i with
 | none=>rw [e] at hd; cases hd
 | some j=>
   rw [e] at hd
   exact r.get (i:=j) hd
theorem op_ix:OpA K (rIxA K) ixD:=by
 intro H ok x y d e u Q h1 h2 g k
 cases d with
 | str z=>
   cases e with
   | int i=>
     obtain rfl:=h1.str_inv; obtain rfl:=h2.int_inv
     replace g:(if z.length<=sizeLine then (atI z.cps.toList i).map fun c=>D.str ⟨#[c]⟩ else none)=some u:=g
     split at g
     · rename_i hz
       cases ea:atI z.cps.toList i with
       | none=>rw [ea] at g; cases g
       | some c=>rw [ea] at g; cases g; exact ⟨hz,c,ea,k _ H (Same.refl _) repP_str⟩
     · cases g
   | _=>cases g
 | tup l=>
   cases e with
   | int i=>
     obtain rfl:=h2.int_inv
     obtain ⟨p,xs,rfl,hp,rp⟩:=h1.tup_inv
     obtain ⟨v,ev,rv⟩:=atI_repP rp g
     exact ⟨xs,v,.inr hp,ev,k _ H (Same.refl _) (rv.mono fun _ _ o _=>.inl o)⟩
   | _=>cases g
 | lst l=>
   cases e with
   | int i=>
     obtain rfl:=h2.int_inv
     obtain ⟨p,xs,rfl,hp,rp⟩:=h1.lst_inv
     obtain ⟨v,ev,rv⟩:=atI_repP rp g
     exact ⟨xs,v,.inl (.inl (.inl hp)),ev,k _ H (Same.refl _) (rv.mono fun _ _ o _=>.inl o)⟩
   | _=>cases g
 | _=>cases g
theorem un_neg:UnA K (rU fun i=>.int (-i)) negD:=by
 intro H ok x d u Q h1 g k
 cases d with
 | int i=>
   cases g; exact ⟨i,h1.int_inv,k _ H (Same.refl _) repP_int⟩
 | _=>cases g
theorem RepTL.one_inv {H:Hp} {ok:Addr->Prop} {d:D} {vs:List V} (h:RepTL K H ok [d] vs):∃ v,vs=[v]/\RepT K H ok d v:=by
 obtain ⟨v,r,rfl,h1,h2⟩:=h
 cases (show r=[] from h2)
 exact ⟨v,rfl,h1⟩
noncomputable def lenD:List D->Option D
 | [.str z]=>if z.length<=sizeLine then some (.int z.length) else none
 | [.tup l]=>some (.int l.length)
 | [.lst l]=>some (.int l.length)
 | _=>none
theorem cb_len:CbA K (rLen K) lenD:=by
 intro H ok vs ds u Q h g k
 cases ds with
 | cons y17 y18=>
   cases y17 with
   | str z=>
     cases y18 with
     | nil=>
       obtain ⟨v,rfl,h1⟩:=h.one_inv
       obtain rfl:=h1.str_inv
       replace g:(if z.length<=sizeLine then some (D.int z.length) else none)=some u:=g
       split at g
       · cases g; rename_i hz; exact g_lenS hz (k _ H (Same.refl _) repP_int)
       · cases g
     | _=>cases g
   | tup l=>
     cases y18 with
     | nil=>
       cases g
       obtain ⟨v,rfl,h1⟩:=h.one_inv
       obtain ⟨p,xs,rfl,hp,rp⟩:=h1.tup_inv
       refine g_lenTK hp ?_
       rw [rp.length]
       exact k _ H (Same.refl _) repP_int
     | _=>cases g
   | lst l=>
     cases y18 with
     | nil=>
       cases g
       obtain ⟨v,rfl,h1⟩:=h.one_inv
       obtain ⟨p,xs,rfl,hp,rp⟩:=h1.lst_inv
       refine ⟨_,_,rfl,.inl ⟨xs,.inl (.inl hp),rfl⟩,?_⟩
       rw [rp.length]
       exact k _ H (Same.refl _) repP_int
     | _=>cases g
   | _=>cases g
 | _=>cases g
noncomputable def intsD:List D->Option (List Int)
 | []=>some []
 | .int i::r=>(intsD r).map (i::·)
 | _=>none
theorem intsD_map:∀ {l:List D} {ns:List Int},intsD l=some ns->l=ns.map D.int
 | [],ns,h=>by cases h; rfl
 | .int i::r,ns,h=>by
   replace h:(intsD r).map (i::·)=some ns:=h
   cases e:intsD r with
   | none=>rw [e] at h; cases h
   | some m=>rw [e] at h; cases h; simp [intsD_map e]
theorem intsD_of (ns:List Int):intsD (ns.map D.int)=some ns:=by
 induction ns with
 | nil=>rfl
 | cons a r ih=>rw [Z6,intsD,ih]; rfl
theorem repPL_ints {H:Hp} {ok:Addr->Prop}:∀ {ns:List Int} {xs:List V},RepPL K H ok (ns.map D.int) xs->xs=ns.map V.int
 | [],xs,h=>h.nil_inv
 | i::r,xs,h=>by
   obtain ⟨x,t,rfl,h1,h2⟩:=h.cons_inv
   rw [RepP] at h1
   rw [h1,repPL_ints h2]; rfl
noncomputable def sumD:List D->Option D
 | [.lst l]=>(intsD l).map fun ns=>.int ns.sum
 | _=>none
theorem cb_sum:CbA K (rSum K) sumD:=by
 intro H ok vs ds u Q h g k
 cases ds with
 | cons y21 y22=>
   cases y21 with
   | lst l=>
     cases y22 with
     | nil=>
       obtain ⟨v,rfl,h1⟩:=h.one_inv
       obtain ⟨p,xs,rfl,hp,rp⟩:=h1.lst_inv
       replace g:((intsD l).map fun ns=>D.int ns.sum)=some u:=g
       cases e:intsD l with
       | none=>rw [e] at g; cases g
       | some ns=>
         rw [e] at g; cases g
         rw [intsD_map e] at rp
         refine ⟨p,ns,rfl,.inl (.inl ?_),k _ H (Same.refl _) repP_int⟩
         rw [<- repPL_ints rp]
         exact hp
     | _=>cases g
   | _=>cases g
 | _=>cases g
noncomputable def intD:List D->Option D
 | [.int i]=>some (.int i)
 | [.bl k]=>some (.int (if k then 1 else 0))
 | _=>none
theorem cb_int:CbA K rInt1 intD:=by
 intro H ok vs ds u Q h g k
 cases ds with
 | cons y23 y24=>
   cases y23 with
   | int i=>
     cases y24 with
     | nil=>
       cases g
       obtain ⟨v,rfl,h1⟩:=h.one_inv
       obtain rfl:=h1.int_inv
       exact .inl ⟨i,rfl,k _ H (Same.refl _) repP_int⟩
     | _=>cases g
   | bl i=>
     cases y24 with
     | nil=>
       cases g
       obtain ⟨v,rfl,h1⟩:=h.one_inv
       obtain rfl:=h1.bl_inv
       exact .inr ⟨i,rfl,k _ H (Same.refl _) repP_int⟩
     | _=>cases g
   | _=>cases g
 | _=>cases g
noncomputable def listD:List D->Option D
 | [.lst l]=>some (.lst l)
 | [.tup l]=>some (.lst l)
 | _=>none
noncomputable def tupD:List D->Option D
 | [.lst l]=>some (.tup l)
 | [.tup l]=>some (.tup l)
 | _=>none
theorem cb_tup:CbA K (rTupOf K) tupD:=by
 intro H ok vs ds u Q h g k
 cases ds with
 | cons y27 y28=>
   cases y27 with
   | lst l=>
     cases y28 with
     | nil=>
       cases g
       obtain ⟨v,rfl,h1⟩:=h.one_inv
       obtain ⟨p,xs,rfl,hp,rp⟩:=h1.lst_inv
       refine ⟨p,xs,rfl,.inl ⟨.inl (.inl hp),fun t ht=>?_⟩⟩
       have s:=new_same (o:=.tup xs) ht
       refine k _ _ s ?_
       rw [RepP]
       exact ⟨t,_,rfl,upd_same,(rp.same s).mono fun _ _ o _=>.inl o⟩
     | _=>cases g
   | tup l=>
     cases y28 with
     | nil=>
       cases g
       obtain ⟨v,rfl,h1⟩:=h.one_inv
       obtain ⟨p,xs,rfl,hp,rp⟩:=h1.tup_inv
       refine ⟨p,xs,rfl,.inr ⟨hp,?_⟩⟩
       refine k _ H (Same.refl _) ?_
       rw [RepP]
       exact ⟨p,_,rfl,hp,rp.mono fun _ _ o _=>.inl o⟩
     | _=>cases g
   | _=>cases g
 | _=>cases g
noncomputable def kindD:D->String
 | .non=>"NoneType"
 | .bl _=>"bool"
 | .int _=>"int"
 | .str _=>"str"
 | .tup _=>"tuple"
 | .lst _=>"list"
theorem kind_of {H:Hp} {ok:Addr->Prop} {d:D} {x:V} (h:RepT K H ok d x):TyK K H x (kindD d):=by
 have z:=h.rep
 cases d <;> rw [Rep] at z
 case tup l=>obtain ⟨a,xs,rfl,h1,_⟩:=z; exact .inl ⟨rfl,xs,h1⟩
 case lst l=>obtain ⟨a,xs,rfl,h1,_⟩:=z; exact .inr ⟨rfl,xs,h1⟩
 all_goals (subst z; rfl)
end
section
variable {C:Cn} {md:List Md}
noncomputable def mIsi (c:String) (fa:ME):ME:=fun ρ=>(fa ρ).bind fun x=>(res x.2 x.1).bind fun d=>some (.val (.bl (isiT (kindD d) c)),x.2)
theorem le_isi {ta:TE} {fa:ME} {c:String} (hc:c ∈ ["bool","int","str","list","tuple"]) (ha:LE C md ta fa):LE C md (tCB (rIsiK C.K) (tCons ta (tCons (tC (V.ty c)) tNil))) (mIsi c fa):=by
 intro A W ρ σ H Q o ρ' r0 e k
 unfold mIsi at e
 simp only [Z0] at e
 obtain ⟨⟨o1,ρ1⟩,e1,d,e3,e6⟩:=e
 cases e6
 refine ha A W ρ σ H _ o1 ρ1 r0 e1 fun v1 H1 x1 r1 p1=>?_
 exact ⟨v1,c,kindD d,rfl,kind_of (p1.get r1 e3),hc,k _ H1 x1 r1 (show RepP _ _ _ _ _ from repP_bl)⟩
end
noncomputable def Fix (fx:Nat->Prop) (σ σ':L2.St):Prop:=∀ j,fx j->σ'[j]?=σ[j]?
theorem Fix.refl (fx:Nat->Prop) (σ:L2.St):Fix fx σ σ:=fun _ _=>rfl
theorem Fix.trans {fx:Nat->Prop} {a b c:L2.St} (h:Fix fx a b) (h':Fix fx b c):Fix fx a c:=fun j f=>(h' j f).trans (h j f)
noncomputable def held (md:List Md) (j:Nat):Prop:=mode md j=.lk∨mode md j=.io
structure Gr (A W:Addr->Prop) (H:Hp) (A' W':Addr->Prop) (H':Hp):Prop where
 an:∀ a,A' a->A a∨H a=none
 wn:∀ a,W' a->W a∨H a=none
 ext:Ext W H H'
section
variable {C:Cn} {md:List Md} {A W A' W' A'' W'':Addr->Prop} {ρ ρ':En} {σ σ':L2.St} {H H' H'':Hp}
theorem Gr.refl (A W:Addr->Prop) (H:Hp):Gr A W H A W H:=⟨fun _ h=>.inl h,fun _ h=>.inl h,Ext.refl _ _⟩
theorem Gr.ofExt (e:Ext W H H'):Gr A W H A W H':=⟨fun _ h=>.inl h,fun _ h=>.inl h,e⟩
theorem Gr.back (g:Gr A W H A' W' H') (wa:∀ a,W a->A a) {a:Addr} (h:H' a=none):A a∨H a=none:=by
 cases e:H a with
 | none=>exact .inr rfl
 | some o=>
   by_cases w:W a
   · exact .inl (wa a w)
   · rw [g.ext a o w e] at h; cases h
theorem Gr.trans (g:Gr A W H A' W' H') (wk:∀ a,W a->A a) (mw:∀ a,W a->True) (g':Gr A' W' H' A'' W'' H''):Gr A W H A'' W'' H'' where
 an:=fun a h=>by
   rcases g'.an a h with h | h
   · exact g.an a h
   · exact g.back wk h
 wn:=fun a h=>by
   rcases g'.wn a h with h | h
   · exact g.wn a h
   · cases e:H a with
     | none=>exact .inr rfl
     | some o=>
       by_cases w:W a
       · exact .inl w
       · rw [g.ext a o w e] at h; cases h
 ext:=fun b o n h=>by
   refine g'.ext b o (fun w=>?_) (g.ext b o n h)
   rcases g.wn b w with z | z
   · exact n z
   · rw [z] at h; cases h
theorem set_get {i j:Nat} {x:Option V} (h:i ≠ j):(σ.set i x)[j]?=σ[j]?:=by rw [List.getElem?_set_ne h]
theorem set_get_eq {i:Nat} {x:Option V} (h:i < σ.length):(σ.set i x)[i]?=some x:=by rw [List.getElem?_set_self h]
theorem R.setP (r:R C md A W ρ σ H) {i:Nat} (hm:mode md i=.pl) {d:D} {v:V} (h:RepP C.K H (fun b=>¬ A b) d v):R C md A W (ρ.set i (some (.d d))) (σ.set i (some v)) H where
 len:=by rw [Z32,Z32]; exact r.len
 wa:=r.wa
 ak:=r.ak
 base:=r.base
 wf:=r.wf
 ma:=r.ma
 fo:=r.fo
 slot:=fun j s e=>by
   by_cases hij:i=j
   · subst hij
     have hl:=look_lt e
     rw [Z32] at hl
     rw [look_set_eq hl] at e
     cases e
     refine ⟨v,set_get_eq (by rw [r.len]; exact hl),?_⟩
     rw [hm]
     exact h
   · rw [look_set_ne hij] at e
     obtain ⟨w,e1,h1⟩:=r.slot j s e
     exact ⟨w,by rw [set_get hij]; exact e1,h1⟩
 inj:=fun j k s s' a hjk m1 m2 e1 e2 i1 i2 l1 l2=>by
   have n1:i ≠ j:=fun z=>m1 (by rw [<- z]; exact hm)
   have n2:i ≠ k:=fun z=>m2 (by rw [<- z]; exact hm)
   rw [look_set_ne n1] at e1
   rw [look_set_ne n2] at e2
   rw [set_get n1] at l1
   rw [set_get n2] at l2
   exact r.inj j k s s' a hjk m1 m2 e1 e2 i1 i2 l1 l2
theorem Cell.at {K:PySem.W.Frag} {ok okq:Addr->Prop} {s:S} {a:Addr} (i:isM s=true) (h:Cell K A H ok okq s (.ref a)):MutO (H a)/\A a/\ok a:=by
 match s,h with
 | .d (.lst l),h=>
   obtain ⟨b,xs,e,h1,h2,h3,h4⟩:=h
   cases e
   exact ⟨.inl ⟨xs,h1⟩,h2,h3⟩
 | .pot ns i r m,h=>
   obtain ⟨p,q,e,h1,h2,h3,h4,_⟩:=h
   cases e
   exact ⟨.inl ⟨_,h1⟩,h3,h4⟩
 | .d .non,h=>cases i
 | .d (.bl _),h=>cases i
 | .d (.int _),h=>cases i
 | .d (.str _),h=>cases i
 | .d (.tup _),h=>cases i
 | .dc kvs,h=>
   obtain ⟨b,ws,e,h1,h2,h3,h4⟩:=h
   cases e
   exact ⟨.inr (.inl ⟨ws,h1⟩),h2,h3⟩
 | .dk kvs,h=>
   obtain ⟨b,ws,e,h1,h2,h3,h4⟩:=h
   cases e
   exact ⟨.inr (.inr ⟨ws,h1⟩),h2,h3⟩
 | .scr _,h=>exact h.elim
theorem SlotAt.at {s:S} {a:Addr} {m:Md} (hm:m ≠ .pl) (i:isM s=true) (h:SlotAt C A W H s (.ref a) m):MutO (H a)/\A a:=by
 cases m with
 | pl=>exact absurd rfl hm
 | ow=>exact ⟨(Cell.at i h).1,(Cell.at i h).2.1⟩
 | lk=>exact ⟨(Cell.at i h).1,(Cell.at i h).2.1⟩
 | io=>exact ⟨(Cell.at i h).1,(Cell.at i h).2.1⟩
theorem Cell.grow {K:PySem.W.Frag} {ok ok' okq:Addr->Prop} {s:S} {v:V} (s1:Same H H') (ha:∀ a,A a->A' a) (hn:∀ a,A' a->A a∨H a=none) (hok:∀ a,H a ≠ none->ok a->ok' a)
   (h:Cell K A H ok okq s v):Cell K A' H' ok' okq s v:=by
 have P:∀ {d:D} {v:V},RepP K H (fun b=>¬ A b) d v->RepP K H' (fun b=>¬ A' b) d v:=fun h=>(h.stay (My.stayT_same s1) fun a xs o z=>⟨s1 _ _ z,fun w=>by
   rcases hn a w with y | y
   · exact o y
   · rw [y] at z; cases z⟩)
 have PL:∀ {d:List D} {v:List V},RepPL K H (fun b=>¬ A b) d v->RepPL K H' (fun b=>¬ A' b) d v:=fun h=>(h.stay (My.stayT_same s1) fun a xs o z=>⟨s1 _ _ z,fun w=>by
   rcases hn a w with y | y
   · exact o y
   · rw [y] at z; cases z⟩)
 cases s with
 | d y37=>
   cases y37 with
   | lst l=>
     obtain ⟨a,xs,e,h1,h2,h3,h4⟩:=h
     exact ⟨a,xs,e,s1 _ _ h1,ha _ h2,hok a (by rw [h1]; simp) h3,PL h4⟩
   | non=>
     exact P h
   | bl y38=>
     exact P h
   | int y39=>
     exact P h
   | str y40=>
     exact P h
   | tup y41=>
     exact P h
 | pot ns i r m=>
   obtain ⟨p,q,e,h1,h2,h3,h4,h5,h6⟩:=h
   refine ⟨p,q,e,s1 _ _ h1,s1 _ _ h2,ha _ h3,hok p (by rw [h1]; simp) h4,fun z=>?_,h6⟩
   rcases hn q z with y | y
   · exact h5 y
   · rw [h2] at y; cases y
 | dc kvs=>
   obtain ⟨a,ws,e,h1,h2,h3,h4,h5⟩:=h
   exact ⟨a,ws,e,s1 _ _ h1,ha _ h2,hok a (by rw [h1]; simp) h3,h4,PL h5⟩
 | dk kvs=>
   obtain ⟨a,ws,e,h1,h2,h3,h4,h5⟩:=h
   exact ⟨a,ws,e,s1 _ _ h1,ha _ h2,hok a (by rw [h1]; simp) h3,h4,PL h5⟩
 | scr y42=>
   exact h.elim
noncomputable def NewAt (K:PySem.W.Frag) (A:Addr->Prop) (H1:Hp) (a:Addr) (H':Hp):S->Prop
 | .d (.lst l)=>∃ xs,H' a=some (.lst xs)/\RepPL K H' (fun b=>¬ A b/\b ≠ a) l xs
 | .pot ns i r m=>∃ q,H1 q=none/\q ≠ a/\H' a=some (.lst [.ref q,.int i,.int r,.int m])/\H' q=some (.lst (ns.map V.int))
 | .dk kvs=>∃ ws,H' a=some (.dK ws)/\RepKV K H' (fun b=>¬ A b/\b ≠ a) kvs ws
 | .dc kvs=>∃ ws,H' a=some (.dT ws)/\RepKV K H' (fun b=>¬ A b/\b ≠ a) kvs ws
 | _=>False
theorem R.h0 (r:R C md A W ρ σ H) {a:Addr} (h:H a=none):C.H0 a=none:=by
 cases e:C.H0 a with
 | none=>rfl
 | some o=>
   by_cases m:C.M a
   · exact absurd (r.ma a m) (r.fresh h)
   · rw [r.base a o e m] at h; cases h
theorem R.setN (r:R C md A W ρ σ H) {i:Nat} (hm:mode md i=.ow) {s:S} {a:Addr} (ha:H a=none) (s1:Same H H') (n:NewAt C.K A H a H' s) :
   ∃ A' W',Gr A W H A' W' H'/\R C md A' W' (ρ.set i (some s)) (σ.set i (some (.ref a))) H':=by
 obtain ⟨B,hB,hBa,hBn,hBk,hcell⟩:∃ B:Addr->Prop,(∀ b,B b->H b=none)/\B a/\(∀ b,B b->MutO (H' b))/\True/\∀ ok:Addr->Prop,ok a->Cell C.K (fun b=>A b∨B b) H' ok (fun _=>True) s (.ref a):=by
   match s,n with
   | .d (.lst l),⟨xs,h1,h2⟩=>
     refine ⟨fun b=>b=a,fun b e=>by rw [e]; exact ha,rfl,fun b e=>.inl ⟨xs,by rw [e]; exact h1⟩,trivial,fun ok hok=>⟨a,xs,rfl,h1,.inr rfl,hok,h2.mono fun b _ o _ z=>?_⟩⟩
     rcases z with z | z
     · exact o.1 z
     · exact o.2 z
   | .pot ns i r' m,⟨q,hq,hqa,h1,h2⟩=>
     refine ⟨fun b=>b=a,fun b e=>by rw [e]; exact ha,rfl,fun b e=>.inl ⟨_,(show H' b=_ from (congrArg H' e).trans h1)⟩,trivial,fun ok hok=>⟨a,q,rfl,h1,h2,.inr rfl,hok,fun z=>?_,trivial⟩⟩
     rcases z with z | z
     · exact r.fresh hq z
     · exact hqa z
   | .dc kvs,⟨ws,h1,h2,h3⟩=>
     refine ⟨fun b=>b=a,fun b e=>by rw [e]; exact ha,rfl,fun b e=>.inr (.inl ⟨ws,by rw [e]; exact h1⟩),trivial,fun ok hok=>⟨a,ws,rfl,h1,.inr rfl,hok,h2,h3.mono fun b _ o _ z=>?_⟩⟩
     rcases z with z | z
     · exact o.1 z
     · exact o.2 z
   | .dk kvs,⟨ws,h1,h2,h3⟩=>
     refine ⟨fun b=>b=a,fun b e=>by rw [e]; exact ha,rfl,fun b e=>.inr (.inr ⟨ws,by rw [e]; exact h1⟩),trivial,fun ok hok=>⟨a,ws,rfl,h1,.inr rfl,hok,h2,h3.mono fun b _ o _ z=>?_⟩⟩
     rcases z with z | z
     · exact o.1 z
     · exact o.2 z
 refine ⟨fun b=>A b∨B b,fun b=>W b∨b=a,⟨fun b h=>h.imp id (hB b),fun b h=>h.imp id fun e=>by rw [e]; exact ha,Same.ext s1⟩,?_⟩
 have other:∀ j t,i ≠ j->look ρ j=some t->∃ v,σ[j]?=some (some v)/\SlotAt C (fun b=>A b∨B b) (fun b=>W b∨b=a) H' t v (mode md j):=fun j t hij e=>by
   obtain ⟨w,e1,h1⟩:=r.slot j t e
   refine ⟨w,e1,?_⟩
   have hn:∀ b,(A b∨B b)->A b∨H b=none:=fun b h=>h.imp id (hB b)
   have hw:∀ b,(W b∨b=a)->W b∨H b=none:=fun b h=>h.imp id fun e=>by rw [e]; exact ha
   cases em:mode md j with
   | pl=>
     rw [em] at h1
     cases t with
     | scr ns=>
       obtain ⟨a,z,h1⟩:=h1; exact ⟨a,z,h1.same s1⟩
     | dc kvs=>
       obtain ⟨c,ws,z,h1,h2,h3,h4⟩:=h1
       refine ⟨c,ws,z,s1 _ _ h1,fun w=>?_,h3,RepPL.stay (My.stayT_same s1) (fun b xs o z=>⟨s1 _ _ z,fun w=>?_⟩) h4⟩
       · rcases hn c w with y | y
         · exact h2 y
         · rw [y] at h1; cases h1
       · rcases hn b w with y | y
         · exact o y
         · rw [y] at z; cases z
     | d x=>
       refine RepP.stay (My.stayT_same s1) (fun b xs o z=>⟨s1 _ _ z,fun w=>?_⟩) h1
       rcases hn b w with y | y
       · exact o y
       · rw [y] at z; cases z
     | _=>cases h1
   | ow=>rw [em] at h1; exact Cell.grow s1 (fun b h=>.inl h) hn (fun b _ h=>⟨.inl h.1,h.2⟩) h1
   | lk=>
     rw [em] at h1
     refine Cell.grow s1 (fun b h=>.inl h) hn (fun b nn h z=>?_) h1
     rcases hw b z with y | y
     · exact h y
     · exact nn y
   | io=>rw [em] at h1; exact Cell.grow s1 (fun b h=>.inl h) hn (fun b _ h=>⟨.inl h.1,h.2⟩) h1
 exact {
   len:=by rw [Z32,Z32]; exact r.len
   wa:=fun b h=>h.imp (r.wa b) fun e=>by rw [e]; exact hBa
   ak:=fun b h=>by
     rcases h with h | h
     · exact (r.ak b h).imp (fun ⟨xs,e⟩=>⟨xs,s1 _ _ e⟩) (fun z=>z.imp (fun ⟨xs,e⟩=>⟨xs,s1 _ _ e⟩) (fun ⟨xs,e⟩=>⟨xs,s1 _ _ e⟩))
     · exact hBn b h
   base:=fun b o h1 h2=>s1 _ _ (r.base b o h1 h2)
   wf:=fun b h=>by
     rcases h with h | h
     · exact r.wf b h
     · rw [h]; exact .inl (r.h0 ha)
   ma:=fun b h=>.inl (r.ma b h)
   fo:=fun hf b xs h n=>.inl (r.fo hf b xs h n)
   slot:=fun j t e=>by
     by_cases hij:i=j
     · subst hij
       have hl:=look_lt e
       rw [Z32] at hl
       rw [look_set_eq hl] at e
       cases e
       refine ⟨.ref a,set_get_eq (by rw [r.len]; exact hl),?_⟩
       rw [hm]
       exact hcell _ ⟨.inr rfl,r.h0 ha⟩
     · rw [look_set_ne hij] at e
       obtain ⟨w,e1,h1⟩:=other j t hij e
       exact ⟨w,by rw [set_get hij]; exact e1,h1⟩
   inj:=fun j k t t' b hjk m1 m2 e1 e2 i1 i2 l1 l2=>by
     have no:∀ j t,i ≠ j->mode md j ≠ .pl->look ρ j=some t->isM t=true->σ[j]?=some (some (.ref a))->False:=fun j t hij mj ej ij lj=>by
       obtain ⟨w,e1,h1⟩:=r.slot j t ej
       rw [lj] at e1; cases e1
       rcases (SlotAt.at mj ij h1).1 with ⟨xs,z⟩ | ⟨xs,z⟩ | ⟨xs,z⟩ <;> (rw [ha] at z; cases z)
     have hilt:i < σ.length∨¬ i < σ.length:=Nat.lt_or_ge i σ.length |>.imp id fun h=>by lia
     by_cases n1:i=j
     · subst n1
       have hl:=look_lt e1
       rw [Z32] at hl
       rw [set_get_eq (by rw [r.len]; exact hl)] at l1
       cases l1
       rw [look_set_ne hjk] at e2
       rw [set_get hjk] at l2
       exact no k t' hjk m2 e2 i2 l2
     · by_cases n2:i=k
       · subst n2
         have hl:=look_lt e2
         rw [Z32] at hl
         rw [set_get_eq (by rw [r.len]; exact hl)] at l2
         cases l2
         rw [look_set_ne n1] at e1
         rw [set_get n1] at l1
         exact no j t n1 m1 e1 i1 l1
       · rw [look_set_ne n1] at e1
         rw [look_set_ne n2] at e2
         rw [set_get n1] at l1
         rw [set_get n2] at l2
         exact r.inj j k t t' b hjk m1 m2 e1 e2 i1 i2 l1 l2 }
theorem R.write (r:R C md A W ρ σ H) {i:Nat} (hm:mode md i=.ow∨mode md i=.io) {s s':S} {a:Addr} (e:look ρ i=some s) (is:isM s=true) (is':isM s'=true) (ev:σ[i]?=some (some (.ref a))) (b:But a H H') (ha:MutO (H' a))
   (n:∀ ok okq:Addr->Prop,ok a->A a->W a->(∀ d v,RepP C.K H (fun b=>¬ A b) d v->RepP C.K H' (fun b=>¬ A b) d v)->Cell C.K A H ok okq s (.ref a)->Cell C.K A H' ok okq s' (.ref a)) :
   Ext W H H'/\R C md A W (ρ.set i (some s')) σ H':=by
 obtain ⟨w,e1,h1⟩:=r.slot i s e
 rw [ev] at e1; cases e1
 have wa:W a/\A a:=by
   rcases hm with hm | hm <;> (rw [hm] at h1; exact ⟨(Cell.at is h1).2.2.1,(Cell.at is h1).2.1⟩)
 have ex:Ext W H H':=fun c o nc h=>b c o (fun z=>nc (by rw [z]; exact wa.1)) h
 have stP:∀ d v,RepP C.K H (fun b=>¬ A b) d v->RepP C.K H' (fun b=>¬ A b) d v:=fun d v h=>r.stayP ex h
 have stPL:∀ d v,RepPL C.K H (fun b=>¬ A b) d v->RepPL C.K H' (fun b=>¬ A b) d v:=fun d v h=>r.stayPL ex h
 have hil:=look_lt e
 refine ⟨ex,{ len:=by rw [Z32]; exact r.len,wa:=r.wa,ak:=fun c h=>?_,base:=fun c o h1 h2=>?_,wf:=r.wf,ma:=r.ma,fo:=r.fo,slot:=fun j t ej=>?_,inj:=fun j k t t' c hjk m1 m2 e1 e2 i1 i2 l1 l2=>?_ }⟩
 · by_cases hc:c=a
   · rw [hc]; exact ha
   · exact (r.ak c h).imp (fun ⟨xs,z⟩=>⟨xs,b c _ hc z⟩) (fun z=>z.imp (fun ⟨xs,z⟩=>⟨xs,b c _ hc z⟩) (fun ⟨xs,z⟩=>⟨xs,b c _ hc z⟩))
 · refine b c o (fun z=>?_) (r.base c o h1 h2)
   rcases r.wf a wa.1 with y | y
   · rw [z,y] at h1; cases h1
   · exact h2 (by rw [z]; exact y)
 · by_cases hij:i=j
   · subst hij
     rw [look_set_eq hil] at ej
     cases ej
     refine ⟨.ref a,ev,?_⟩
     rcases hm with hm | hm
     · rw [hm] at h1 ⊢
       exact n _ _ (Cell.at is h1).2.2 wa.2 wa.1 stP h1
     · rw [hm] at h1 ⊢
       exact n _ _ (Cell.at is h1).2.2 wa.2 wa.1 stP h1
   · rw [look_set_ne hij] at ej
     obtain ⟨w,e1,h2⟩:=r.slot j t ej
     refine ⟨w,e1,?_⟩
     have keep:∀ c xs,c ≠ a->H c=some (HO.lst xs)->H' c=some (HO.lst xs):=fun c xs hc h=>b c _ hc h
     have cell:∀ ok okq:Addr->Prop,mode md j ≠ .pl->Cell C.K A H ok okq t w->Cell C.K A H' ok okq t w:=fun ok okq mj h=>by
       cases t with
       | d y43=>
         cases y43 with
         | lst l=>
           obtain ⟨c,xs,rfl,g1,g2,g3,g4⟩:=h
           refine ⟨c,xs,rfl,keep c xs (fun z=>?_) g1,g2,g3,stPL _ _ g4⟩
           subst z
           exact r.inj i j s _ c hij (by rcases hm with hm | hm <;> (rw [hm]; simp)) mj e ej is rfl ev e1
         | non=>
           exact stP _ _ h
         | bl y44=>
           exact stP _ _ h
         | int y45=>
           exact stP _ _ h
         | str y46=>
           exact stP _ _ h
         | tup y47=>
           exact stP _ _ h
       | pot ns i' r' m=>
         obtain ⟨p,q,rfl,g1,g2,g3,g4,g5,g6⟩:=h
         refine ⟨p,q,rfl,keep p _ (fun z=>?_) g1,keep q _ (fun z=>g5 (by rw [z]; exact wa.2)) g2,g3,g4,g5,g6⟩
         subst z
         exact r.inj i j s _ p hij (by rcases hm with hm | hm <;> (rw [hm]; simp)) mj e ej is rfl ev e1
       | dc kvs=>
         obtain ⟨c,ws,rfl,g1,g2,g3,g4,g5⟩:=h
         refine ⟨c,ws,rfl,b c _ (fun z=>?_) g1,g2,g3,g4,stPL _ _ g5⟩
         subst z
         exact r.inj i j s _ c hij (by rcases hm with hm | hm <;> (rw [hm]; simp)) mj e ej is rfl ev e1
       | dk kvs=>
         obtain ⟨c,ws,rfl,g1,g2,g3,g4,g5⟩:=h
         refine ⟨c,ws,rfl,b c _ (fun z=>?_) g1,g2,g3,g4,stPL _ _ g5⟩
         subst z
         exact r.inj i j s _ c hij (by rcases hm with hm | hm <;> (rw [hm]; simp)) mj e ej is rfl ev e1
       | scr y48=>
         exact h.elim
     cases em:mode md j with
     | pl=>
       rw [em] at h2
       cases t with
       | d x=>
         exact stP _ _ h2
       | scr ns=>
         obtain ⟨a,z,h2⟩:=h2; exact ⟨a,z,h2.ext ex r.wk⟩
       | dc kvs=>
         obtain ⟨c,ws,z,g1,g2,g3,g4⟩:=h2
         exact ⟨c,ws,z,ex c _ (fun w=>g2 (r.wa c w)) g1,g2,g3,stPL _ _ g4⟩
       | _=>first | (cases h2; done) | (cases e3'; done) | (cases e2; done) | (cases e6; done) | contradiction
     | ow=>rw [em] at h2; exact cell _ _ (by rw [em]; simp) h2
     | lk=>rw [em] at h2; exact cell _ _ (by rw [em]; simp) h2
     | io=>rw [em] at h2; exact cell _ _ (by rw [em]; simp) h2
 · have fixl:∀ j t,look (ρ.set i (some s')) j=some t->isM t=true->∃ t0,look ρ j=some t0/\isM t0=true:=fun j t ej ij=>by
     by_cases hij:i=j
     · subst hij; exact ⟨s,e,is⟩
     · rw [look_set_ne hij] at ej; exact ⟨t,ej,ij⟩
   obtain ⟨t0,f1,f2⟩:=fixl j t e1 i1
   obtain ⟨t1,f3,f4⟩:=fixl k t' e2 i2
   exact r.inj j k t0 t1 c hjk m1 m2 f1 f3 f2 f4 l1 l2
end
noncomputable abbrev MG:=D->En->Option En
noncomputable abbrev MGs:=List D->En->Option En
noncomputable abbrev MN:=En->Option (S × En)
set_option genInjectivity true in
inductive Fl where
 | nx | brk | ct | ret (s:S)
noncomputable abbrev MS:=En->Option (Fl × En)
noncomputable def LG (C:Cn) (md:List Md) (fx:Nat->Prop) (g:TG) (f:MG):Prop:=∀ (A W:Addr->Prop) (ρ:En) (σ:L2.St) (H:Hp) (v:V) (d:D) (ρ':En) (Q:L2.St->Hp->Prop),R C md A W ρ σ H->RepP C.K H (fun a=>¬ A a) d v->f d ρ=some ρ' ->
 (∀ σ' H',Ext W H H'->R C md A W ρ' σ' H'->Fix fx σ σ'->Q σ' H')->g v σ H Q
noncomputable def LGs (C:Cn) (md:List Md) (fx:Nat->Prop) (g:TGs) (f:MGs):Prop:=∀ (A W:Addr->Prop) (ρ:En) (σ:L2.St) (H:Hp) (vs:List V) (ds:List D) (ρ':En) (Q:L2.St->Hp->Prop),R C md A W ρ σ H->RepPL C.K H (fun a=>¬ A a) ds vs->f ds ρ=some ρ' ->
 (∀ σ' H',Ext W H H'->R C md A W ρ' σ' H'->Fix fx σ σ'->Q σ' H')->g vs σ H Q
noncomputable def LN (C:Cn) (md:List Md) (t:TE) (f:MN):Prop:=∀ (A W:Addr->Prop) (ρ:En) (σ:L2.St) (H:Hp) (Q:VK) (s:S) (ρ':En),R C md A W ρ σ H->f ρ=some (s,ρ') ->
 (∀ a H1 H',Ext W H H1->R C md A W ρ' σ H1->H1 a=none->Same H1 H'->NewAt C.K A H1 a H' s->Q (.ref a) H')->t σ H Q
noncomputable def NewR (K:PySem.W.Frag) (H0 H:Hp):S->V->Prop
 | .d (.lst l),v=>∃ a xs,v=.ref a/\H0 a=none/\H a=some (.lst xs)/\RepPL K H (fun b=>H0 b=none/\b ≠ a) l xs
 | .d x,v=>RepP K H (fun a=>H0 a=none) x v
 | .dc kvs,v=>∃ a ws,v=.ref a/\H0 a=none/\H a=some (.dT ws)/\RepKV K H (fun b=>H0 b=none/\b ≠ a) kvs ws
 | _,_=>False
theorem NewR.repP {K:PySem.W.Frag} {H0 H:Hp} {d:D} {v:V} (h:NewR K H0 H (.d d) v):RepP K H (fun a=>H0 a=none) d v:=by
 cases d with
 | lst l=>
   obtain ⟨a,xs,rfl,h1,h2,h3⟩:=h
   rw [RepP]
   exact ⟨a,xs,rfl,h2,h1,h3.mono fun _ _ o _=>o.1⟩
 | non=>
   exact h
 | bl y9=>
   exact h
 | int y10=>
   exact h
 | str y11=>
   exact h
 | tup y12=>
   exact h
theorem NewR.ofImm {K:PySem.W.Frag} {H0 H:Hp} {d:D} {v:V} (i:D.imm d=true) (h:Rep K H d v):NewR K H0 H (.d d) v:=by
 have z:RepP K H (fun a=>H0 a=none) d v:=RepP.ofImm i h
 cases d with
 | non=>
   exact z
 | bl y29=>
   exact z
 | int y30=>
   exact z
 | str y31=>
   exact z
 | tup y32=>
   exact z
 | _=>cases i
noncomputable def RetAt (C:Cn) (H:Hp) (s:S) (v:V):Prop:=NewR C.K C.H0 H s v∨(C.free=true/\∃ x,s=.d x/\RepP C.K H (fun a=>C.H0 a=none∨C.Q a) x v)
noncomputable def EndAt (C:Cn) (md:List Md) (A W:Addr->Prop) (σ:L2.St) (H:Hp) (D:Ends) (ρ':En):Fl->Prop
 | .nx=>∀ A' W' σ' H',Gr A W H A' W' H'->R C md A' W' ρ' σ' H'->Fix (held md) σ σ'->D.nx σ' H'
 | .brk=>∀ A' W' σ' H',Gr A W H A' W' H'->R C md A' W' ρ' σ' H'->Fix (held md) σ σ'->D.bk σ' H'
 | .ct=>∀ A' W' σ' H',Gr A W H A' W' H'->R C md A' W' ρ' σ' H'->Fix (held md) σ σ'->D.ct σ' H'
 | .ret s=>∀ A' W' σ' v H',Gr A W H A' W' H'->R C md A' W' ρ' σ' H'->Fix (held md) σ σ'->RetAt C H' s v->D.rt v H'
noncomputable def LS (C:Cn) (md:List Md) (t:TS) (f:MS):Prop:=∀ (A W:Addr->Prop) (ρ:En) (σ:L2.St) (H:Hp) (D:Ends) (fl:Fl) (ρ':En),R C md A W ρ σ H->f ρ=some (fl,ρ')->EndAt C md A W σ H D ρ' fl->t D σ H
noncomputable def mgName (i:Nat):MG:=fun d ρ=>some (ρ.set i (some (.d d)))
noncomputable def mgNil:MGs:=fun ds ρ=>match ds with
 | []=>some ρ
 | _=>none
noncomputable def mgCons (f:MG) (g:MGs):MGs:=fun ds ρ=>match ds with
 | d::r=>(f d ρ).bind fun ρ1=>g r ρ1
 | []=>none
noncomputable def mgTup (n:Nat) (g:MGs):MG:=fun d ρ=>match d with
 | .tup l=>if l.length=n then g l ρ else none
 | _=>none
noncomputable def setD (i:D) (v:D):Option S->Option S
 | some (.d (.lst l))=>match i with
   | .int k=>(ixN l.length k).map fun j=>.d (.lst (l.set j v))
   | _=>none
 | _=>none
noncomputable def mgSub (md:List Md) (x:Nat) (fi:ME):MG:=fun d ρ=>(look ρ x).bind fun _=>(fi ρ).bind fun y=>(res y.2 y.1).bind fun i=>(setD i d (look y.2 x)).bind fun s=>some (y.2.set x (some s))
noncomputable def mNext:MS:=fun ρ=>some (.nx,ρ)
noncomputable def mSeq (f g:MS):MS:=fun ρ=>(f ρ).bind fun x=>match x.1 with
 | .nx=>g x.2
 | fl=>some (fl,x.2)
noncomputable def mDrop (f:ME):MS:=fun ρ=>(f ρ).bind fun x=>some (.nx,x.2)
noncomputable def mAsg (md:List Md) (f:ME) (g:MG):MS:=fun ρ=>(f ρ).bind fun x=>(sto md x.2 x.1).bind fun d=>(g d x.2).bind fun ρ'=>some (.nx,ρ')
noncomputable def mAsgN (f:MN) (i:Nat):MS:=fun ρ=>(f ρ).bind fun x=>some (.nx,x.2.set i (some x.1))
noncomputable def mIfS (c:MT) (f g:MS):MS:=fun ρ=>(c ρ).bind fun x=>if x.1=true then f x.2 else g x.2
noncomputable def mRet (f:ME):MS:=fun ρ=>(f ρ).bind fun x=>(immO (res x.2 x.1)).bind fun d=>some (.ret (.d d),x.2)
noncomputable def immS:S->Option S
 | .d (.lst l)=>if D.immL l=true then some (.d (.lst l)) else none
 | _=>none
noncomputable def mRetNew (f:MN):MS:=fun ρ=>(f ρ).bind fun x=>(immS x.1).bind fun s=>some (.ret s,x.2)
noncomputable def mRetV (i:Nat):MS:=fun ρ=>(look ρ i).bind fun s=>(immS s).bind fun s=>some (.ret s,ρ)
section
variable {C:Cn} {md:List Md} {fx:Nat->Prop}
theorem lg_name {i:Nat} (hm:mode md i=.pl) (hf:¬ fx i):LG C md fx (gName i) (mgName i):=by
 intro A W ρ σ H v d ρ' Q r h e k
 cases e
 exact k _ H (Ext.refl _ _) (r.setP hm h) fun j fj=>set_get (fun z=>hf (by rw [z]; exact fj))
theorem lgs_nil:LGs C md fx gNil mgNil:=by
 intro A W ρ σ H vs ds ρ' Q r h e k
 unfold mgNil at e
 cases ds with
 | nil=>
   cases e; exact ⟨h.nil_inv,k _ H (Ext.refl _ _) r (Fix.refl _ _)⟩
 | _=>cases e
theorem lgs_cons {t:TG} {u:TGs} {f:MG} {g:MGs} (h1:LG C md fx t f) (h2:LGs C md fx u g):LGs C md fx (gCons t u) (mgCons f g):=by
 intro A W ρ σ H vs ds ρ' Q r h e k
 unfold mgCons at e
 cases ds with
 | cons d ds'=>
   simp only [Z0] at e
   obtain ⟨ρ1,e1,e2⟩:=e
   obtain ⟨v,vr,rfl,p1,p2⟩:=h.cons_inv
   refine ⟨v,vr,rfl,h1 A W ρ σ H v d ρ1 _ r p1 e1 fun σ1 H1 x1 r1 f1=>?_⟩
   exact h2 A W ρ1 σ1 H1 vr ds' ρ' _ r1 (r.stayPL x1 p2) e2 fun σ2 H2 x2 r2 f2=>k σ2 H2 (x1.trans x2) r2 (f1.trans f2)
 | _=>cases e
theorem lg_tup {n:Nat} {t:TGs} {g:MGs} (h:LGs C md fx t g):LG C md fx (gTup C.K n t) (mgTup n g):=by
 intro A W ρ σ H v d ρ' Q r p e k
 unfold mgTup at e
 cases d with
 | tup l=>
   replace e:(if l.length=n then g l ρ else none)=some ρ':=e
   split at e
   · rename_i hl
     rw [RepP] at p
     obtain ⟨a,xs,rfl,p1,p2⟩:=p
     exact ⟨a,xs,rfl,p1,by rw [p2.length]; exact hl,h A W ρ σ H xs l ρ' Q r p2 e k⟩
   · cases e
 | _=>cases e
theorem setD_some {i v:D} {o:Option S} {s:S} (h:setD i v o=some s):∃ l k j,o=some (.d (.lst l))/\i=.int k/\ixN l.length k=some j/\s=.d (.lst (l.set j v)):=by
 cases o with
 | some y33=>
   cases y33 with
   | d y34=>
     cases y34 with
     | lst l=>
       cases i with
       | int k=>
         unfold setD at h
         simp only [Option.map_eq_some_iff] at h
         obtain ⟨j,e,rfl⟩:=h
         exact ⟨l,k,j,rfl,rfl,e,rfl⟩
       | _=>cases h
     | _=>cases h
   | _=>cases h
 | _=>cases h
theorem ls_next:LS C md tNext mNext:=by
 intro A W ρ σ H D fl ρ' r e k
 cases e
 exact k A W σ H (Gr.refl _ _ _) r (Fix.refl _ _)
theorem R.mutw {A W A' W':Addr->Prop} {ρ ρ':En} {σ σ':L2.St} {H H':Hp} (r:R C md A W ρ σ H) (g:Gr A W H A' W' H') (r':R C md A' W' ρ' σ' H'):∀ a,W a->True:=fun _ _=>trivial
theorem EndAt.then {A W A' W':Addr->Prop} {ρ ρ1 ρ':En} {σ σ':L2.St} {H H':Hp} {D:Ends} {fl:Fl} (r:R C md A W ρ σ H) (g:Gr A W H A' W' H') (r':R C md A' W' ρ1 σ' H') (f:Fix (held md) σ σ') (h:EndAt C md A W σ H D ρ' fl):EndAt C md A' W' σ' H' D ρ' fl:=by
 cases fl with
 | nx=>exact fun A2 W2 σ2 H2 g2 r2 f2=>h A2 W2 σ2 H2 (g.trans r.wa (r.mutw g r') g2) r2 (f.trans f2)
 | brk=>exact fun A2 W2 σ2 H2 g2 r2 f2=>h A2 W2 σ2 H2 (g.trans r.wa (r.mutw g r') g2) r2 (f.trans f2)
 | ct=>exact fun A2 W2 σ2 H2 g2 r2 f2=>h A2 W2 σ2 H2 (g.trans r.wa (r.mutw g r') g2) r2 (f.trans f2)
 | ret s=>exact fun A2 W2 σ2 v H2 g2 r2 f2 z=>h A2 W2 σ2 v H2 (g.trans r.wa (r.mutw g r') g2) r2 (f.trans f2) z
theorem ls_seq {t u:TS} {f g:MS} (h1:LS C md t f) (h2:LS C md u g):LS C md (tSeq t u) (mSeq f g):=by
 intro A W ρ σ H D fl ρ' r e k
 unfold mSeq at e
 simp -iota only [Z0] at e
 obtain ⟨⟨fl1,ρ1⟩,e1,e2⟩:=e
 refine h1 A W ρ σ H _ fl1 ρ1 r e1 ?_
 cases fl1 with
 | nx=>exact fun A1 W1 σ1 H1 g1 r1 f1=>h2 A1 W1 ρ1 σ1 H1 D fl ρ' r1 e2 (EndAt.then r g1 r1 f1 k)
 | brk=>cases e2; exact k
 | ct=>cases e2; exact k
 | ret s=>cases e2; exact k
theorem ls_drop {t:TE} {f:ME} (h:LE C md t f):LS C md (tDrop t) (mDrop f):=by
 intro A W ρ σ H D fl ρ' r e k
 unfold mDrop at e
 simp -iota only [Z0] at e
 obtain ⟨⟨o,ρ1⟩,e1,e2⟩:=e
 cases e2
 exact h A W ρ σ H _ o _ r e1 fun v H1 x1 r1 _=>k A W σ H1 (Gr.ofExt x1) r1 (Fix.refl _ _)
theorem ls_asg {t:TE} {f:ME} {g:TG} {fg:MG} (h:LE C md t f) (hg:LG C md (held md) g fg):LS C md (tAsg t g) (mAsg md f fg):=by
 intro A W ρ σ H D fl ρ' r e k
 unfold mAsg at e
 simp -iota only [Z0] at e
 obtain ⟨⟨o,ρ1⟩,e1,d,e2,ρ2,e3,e4⟩:=e
 cases e4
 refine h A W ρ σ H _ o ρ1 r e1 fun v H1 x1 r1 p1=>?_
 exact hg A W ρ1 σ H1 v d _ _ r1 (p1.sto r1 e2) e3 fun σ2 H2 x2 r2 f2=>k A W σ2 H2 (Gr.ofExt (x1.trans x2)) r2 f2
theorem ls_asgN {t:TE} {f:MN} {i:Nat} (hm:mode md i=.ow) (h:LN C md t f):LS C md (tAsg t (gName i)) (mAsgN f i):=by
 intro A W ρ σ H D fl ρ' r e k
 unfold mAsgN at e
 simp -iota only [Z0] at e
 obtain ⟨⟨s,ρ1⟩,e1,e4⟩:=e
 cases e4
 refine h A W ρ σ H _ s ρ1 r e1 fun a H1 H2 x1 r1 ha s1 n=>?_
 obtain ⟨A2,W2,g2,r2⟩:=r1.setN hm ha s1 n
 refine k A2 W2 _ H2 ((Gr.ofExt x1).trans r.wa (fun _ _=>trivial) g2) r2 fun j fj=>set_get (fun z=>?_)
 rcases fj with fj | fj <;> (rw [<- z,hm] at fj; cases fj)
theorem ls_if {c:TT} {t u:TS} {fc:MT} {f g:MS} (hc:LT C md c fc) (h1:LS C md t f) (h2:LS C md u g):LS C md (tIfS c t u) (mIfS fc f g):=by
 intro A W ρ σ H D fl ρ' r e k
 unfold mIfS at e
 simp -iota only [Z0] at e
 obtain ⟨⟨b,ρ1⟩,e1,e2⟩:=e
 refine hc A W ρ σ H _ b ρ1 r e1 fun H1 x1 r1=>?_
 have k':=EndAt.then r (Gr.ofExt x1) r1 (Fix.refl _ _) k
 cases b with
 | true=>exact iteT (h1 A W ρ1 σ H1 D fl ρ' r1 (by simpa using e2) k')
 | false=>exact iteF (h2 A W ρ1 σ H1 D fl ρ' r1 (by simpa using e2) k')
theorem immO_some {o:Option D} {d:D} (h:immO o=some d):o=some d/\D.imm d=true:=by
 unfold immO at h
 split at h
 · split at h
   · cases h; exact ⟨rfl,by assumption⟩
   · cases h
 · cases h
theorem ls_ret {t:TE} {f:ME} (h:LE C md t f):LS C md (tRet t) (mRet f):=by
 intro A W ρ σ H D fl ρ' r e k
 unfold mRet at e
 simp -iota only [Z0] at e
 obtain ⟨⟨o,ρ1⟩,e1,d,e2,e3⟩:=e
 cases e3
 obtain ⟨e2,hi⟩:=immO_some e2
 exact h A W ρ σ H _ o _ r e1 fun v H1 x1 r1 p1=>k A W σ v H1 (Gr.ofExt x1) r1 (Fix.refl _ _) (.inl (NewR.ofImm hi (p1.get r1 e2).rep))
theorem immS_some {s s':S} (h:immS s=some s'):∃ l,s=.d (.lst l)/\s'=s/\D.immL l=true:=by
 cases s with
 | d y35=>
   cases y35 with
   | lst l=>
     replace h:(if D.immL l=true then some (S.d (.lst l)) else none)=some s':=h
     split at h
     · cases h; exact ⟨l,rfl,rfl,by assumption⟩
     · cases h
   | _=>cases h
 | _=>cases h
theorem ls_retNew {t:TE} {f:MN} (h:LN C md t f):LS C md (tRet t) (mRetNew f):=by
 intro A W ρ σ H D fl ρ' r e k
 unfold mRetNew at e
 simp -iota only [Z0] at e
 obtain ⟨⟨s,ρ1⟩,e1,s',e2,e3⟩:=e
 cases e3
 obtain ⟨l,rfl,rfl,hi⟩:=immS_some e2
 refine h A W ρ σ H _ _ _ r e1 fun a H1 H2 x1 r1 ha s1 n=>k A W σ (.ref a) H2 (Gr.ofExt (x1.trans (Same.ext s1))) (r1.same s1) (Fix.refl _ _) ?_
 obtain ⟨xs,h1,h2⟩:=n
 exact .inl ⟨a,xs,rfl,r1.h0 ha,h1,RepPL.ofImm hi h2.repL⟩
theorem ls_retV {i:Nat} (hm:mode md i=.ow):LS C md (tRet (tVar i)) (mRetV i):=by
 intro A W ρ σ H D fl ρ' r e k
 unfold mRetV at e
 simp -iota only [Z0] at e
 obtain ⟨s,e1,s',e2,e3⟩:=e
 cases e3
 obtain ⟨l,rfl,rfl,hi⟩:=immS_some e2
 obtain ⟨v,ev,h1⟩:=r.slot i _ e1
 refine ⟨v,ev,k A W σ v H (Gr.refl _ _ _) r (Fix.refl _ _) ?_⟩
 rw [hm] at h1
 obtain ⟨a,xs,rfl,q2,q3,q4,q5⟩:=h1
 exact .inl ⟨a,xs,rfl,q4.2,q2,RepPL.ofImm hi q5.repL⟩
noncomputable def lstS:Option S->Option (List D)
 | some (.d (.lst l))=>some l
 | _=>none
theorem lstS_some {o:Option S} {l:List D} (h:lstS o=some l):o=some (.d (.lst l)):=by
 cases o with
 | some y36=>
   cases y36 with
   | d y37=>
     cases y37 with
     | lst m=>
       cases h; rfl
     | _=>cases h
   | _=>cases h
 | _=>cases h
theorem R.cellAt {A W:Addr->Prop} {ρ:En} {σ:L2.St} {H:Hp} {i:Nat} {l:List D} {w:V} (r:R C md A W ρ σ H) (hm:mode md i=.ow∨mode md i=.io) (e:look ρ i=some (.d (.lst l))) (ew:σ[i]?=some (some w)) :
   ∃ a xs,w=.ref a/\H a=some (.lst xs)/\RepPL C.K H (fun b=>¬ A b) l xs:=by
 obtain ⟨w',hw',h1⟩:=r.slot i _ e
 rw [ew] at hw'; cases hw'
 rcases hm with hm | hm <;> (rw [hm] at h1; obtain ⟨a,xs,q1,q2,q3,q4,q5⟩:=h1; exact ⟨a,xs,q1,q2,q5⟩)
theorem R.writeL {A W:Addr->Prop} {ρ:En} {σ:L2.St} {H H':Hp} {i:Nat} {l l':List D} {a:Addr} {ys:List V} (r:R C md A W ρ σ H) (hm:mode md i=.ow∨mode md i=.io) (e:look ρ i=some (.d (.lst l))) (ew:σ[i]?=some (some (.ref a)))
   (b:But a H H') (h:H' a=some (.lst ys)) (rp:RepPL C.K H (fun b=>¬ A b) l' ys):Ext W H H'/\R C md A W (ρ.set i (some (.d (.lst l')))) σ H':=by
 refine r.write hm e rfl rfl ew b (.inl ⟨_,h⟩) fun ok okq oa aa wa st c=>⟨a,ys,rfl,h,aa,oa,?_⟩
 exact r.stayPL (fun c o nc h=>b c o (fun z=>nc (by rw [z]; exact wa)) h) rp
noncomputable def mAppend (md:List Md) (i:Nat) (f:MA):ME:=fun ρ=>(lstS (look ρ i)).bind fun _=>(f ρ).bind fun x=>(stos md x.2 x.1).bind fun ds=>(lstS (look x.2 i)).bind fun l=>match ds with
 | [d]=>if l.length < sizeLine then some (.val .non,x.2.set i (some (.d (.lst (l++[d]))))) else none
 | _=>none
theorem le_append {i:Nat} {t:TA} {f:MA} (hm:mode md i=.ow∨mode md i=.io) (h:LA C md t f):LE C md (tBM C.K "list" rAppend (tVar i) t) (mAppend md i f):=by
 intro A W ρ σ H Q o ρ' r e k
 unfold mAppend at e
 simp -iota only [Z0] at e
 obtain ⟨l0,e0,⟨os,ρ1⟩,e1,ds,e2,l,e3,e4⟩:=e
 cases ds with
 | cons d y38=>
   cases y38 with
   | nil=>
     dsimp only at e4
     split at e4
     · cases e4
       rename_i hz
       have e0:=lstS_some e0
       have e3:=lstS_some e3
       obtain ⟨w,ew,_⟩:=r.slot i _ e0
       obtain ⟨a,xs,rfl,q1,q2⟩:=r.cellAt hm e0 ew
       refine ⟨_,ew,.inl ⟨rfl,xs,.inl (.inl q1)⟩,?_⟩
       refine h A W ρ σ H _ os ρ1 r e1 fun vs H1 x1 r1 p1=>?_
       obtain ⟨v,z,rfl,pv,pz⟩:=(p1.stos r1 e2).cons_inv
       obtain rfl:=pz.nil_inv
       obtain ⟨a',ys,q3,q4,q5⟩:=r1.cellAt hm e3 ew
       cases q3
       refine ⟨a,ys,v,rfl,rfl,q4,by rw [q5.length]; exact hz,?_⟩
       obtain ⟨H2,e5,b2,h2⟩:=My.wr_ex H1 a (.lst (ys++[v]))
       rw [e5]
       obtain ⟨x2,r2⟩:=r1.writeL hm e3 ew b2 h2 (q5.append (.cons pv .nil))
       exact k _ H2 (x1.trans x2) r2 (show RepP _ _ _ _ _ from repP_non)
     · cases e4
   | _=>cases e4
 | _=>cases e4
noncomputable def mPop (i:Nat):ME:=fun ρ=>(lstS (look ρ i)).bind fun l=>(l[l.length - 1]?).bind fun d=>some (.val d,ρ.set i (some (.d (.lst l.dropLast))))
theorem le_pop {i:Nat} (hm:mode md i=.ow∨mode md i=.io):LE C md (tBM0 C.K "list" rPop (tVar i)) (mPop i):=by
 intro A W ρ σ H Q o ρ' r e k
 unfold mPop at e
 simp -iota only [Z0] at e
 obtain ⟨l,e0,d,e1,e2⟩:=e
 cases e2
 have e0:=lstS_some e0
 obtain ⟨w,ew,_⟩:=r.slot i _ e0
 obtain ⟨a,xs,rfl,q1,q2⟩:=r.cellAt hm e0 ew
 refine ⟨_,ew,.inl ⟨rfl,xs,.inl (.inl q1)⟩,?_⟩
 obtain ⟨y,ey,py⟩:=q2.get e1
 rw [<- q2.length] at ey
 refine ⟨a,xs,y,rfl,rfl,q1,ey,?_⟩
 obtain ⟨H2,e5,b2,h2⟩:=My.wr_ex H a (.lst xs.dropLast)
 rw [e5]
 obtain ⟨x2,r2⟩:=r.writeL hm e0 ew b2 h2 q2.dropLast
 exact k _ H2 x2 r2 (show RepP _ _ _ _ _ from r.stayP x2 py)
theorem RepPL.apart {K:PySem.W.Frag} {H:Hp} {ok:Addr->Prop} {l:List D} {xs:List V} {p:Addr} (h:RepPL K H ok l xs) (hp:H p=none):RepPL K H (fun b=>ok b/\b ≠ p) l xs:=
 h.mono fun b xs o z=>⟨o,fun e=>by subst e; rw [hp] at z; cases z⟩
noncomputable def mnLst (md:List Md) (fa:MA):MN:=fun ρ=>(fa ρ).bind fun x=>(stos md x.2 x.1).bind fun ds=>if ds.length<=sizeLine then some (.d (.lst ds),x.2) else none
theorem ln_lst {t:TA} {fa:MA} (ha:LA C md t fa):LN C md (tLst t) (mnLst md fa):=by
 intro A W ρ σ H Q s ρ' r0 e k
 unfold mnLst at e
 simp -iota only [Z0] at e
 obtain ⟨⟨o1,ρ1⟩,e1,ds,e3,e5⟩:=e
 split at e5
 · cases e5
   rename_i hz
   refine ha A W ρ σ H _ o1 _ r0 e1 fun v1 H1 x1 r1 p1=>?_
   have q:=p1.stos r1 e3
   refine ⟨by rw [q.length]; exact hz,fun p hp=>?_⟩
   have s:=new_same (o:=.lst v1) hp
   exact k p H1 _ x1 r1 hp s ⟨v1,upd_same,(q.apart hp).same s⟩
 · cases e5
end
noncomputable def SL (K:PySem.W.Frag) (H:Hp) (ok:Addr->Prop):List S->List V->Prop
 | [],vs=>vs=[]
 | s::ss,vs=>∃ v r,vs=v::r/\SRep K H ok s v/\SL K H ok ss r
noncomputable def spP (K:PySem.W.Frag) (m:List S->Option S):Sp:=fun vs H Q _=>∃ ss r,SL K H (fun _=>True) ss vs/\m ss=some r/\∀ v H',Same H H'->NewR K H H' r v->Q v H'
noncomputable def IoAt (K:PySem.W.Frag) (H:Hp) (p q:Addr):S->Prop
 | .pot ns i r m=>q ≠ p/\H p=some (.lst [.ref q,.int i,.int r,.int m])/\H q=some (.lst (ns.map V.int))
 | .d (.lst l)=>D.immL l=true/\∃ xs,H p=some (.lst xs)/\RepL K H l xs
 | _=>False
noncomputable def isPot:S->Bool
 | .pot _ _ _ _=>true
 | _=>false
noncomputable def NewM (K:PySem.W.Frag) (H H':Hp) (q:Addr) (s0 r:S) (v:V):Prop:=NewR K H H' r v∨(isPot s0=true/\∃ x,r=.d x/\RepP K H' (fun a=>H a=none∨a=q) x v)
noncomputable def spM (K:PySem.W.Frag) (m:List S->Option (S × S)):Sp:=fun vs H Q _=>∃ p q s0 ss vs' r s1,vs=.ref p::vs'/\IoAt K H p q s0/\SL K H (fun a=>a ≠ p) ss vs'/\m (s0::ss)=some (r,s1) /\
 ∀ v H',But p H H'->IoAt K H' p q s1->NewM K H H' q s0 r v->Q v H'
noncomputable def okIo:S->Option S
 | .pot ns i r m=>some (.pot ns i r m)
 | .d (.lst l)=>if D.immL l=true then some (.d (.lst l)) else none
 | _=>none
noncomputable def okIo2:S->S->Option S
 | .pot _ _ _ _,.pot ns i r m=>some (.pot ns i r m)
 | .d (.lst _),.d (.lst l)=>if D.immL l=true then some (.d (.lst l)) else none
 | _,_=>none
noncomputable def mCallM (md:List Md) (i:Nat) (m:List S->Option (S × S)) (f:MA):ME:=fun ρ=>(look ρ i).bind fun _=>(f ρ).bind fun x=>(stos md x.2 x.1).bind fun ds=>((look x.2 i).bind okIo).bind fun s0=>(m (s0::ds.map S.d)).bind fun y=>
 (unD (some y.1)).bind fun d=>(okIo2 s0 y.2).bind fun s1=>some (.val d,x.2.set i (some s1))
section
variable {C:Cn} {md:List Md} {fx:Nat->Prop}
theorem RepT.any {K:PySem.W.Frag} {H:Hp} {ok:Addr->Prop} {d:D} {v:V} (h:RepT K H ok d v):RepP K H (fun _=>True) d v:=by
 cases d with
 | lst l=>
   obtain ⟨a,xs,rfl,h1,h2⟩:=h
   rw [RepP]
   exact ⟨a,xs,rfl,h1,trivial,h2.mono fun _ _ _ _=>trivial⟩
 | non=>
   exact RepP.mono (ok:=ok) (show RepP K H ok _ v from h) fun _ _ _ _=>trivial
 | bl y15=>
   exact RepP.mono (ok:=ok) (show RepP K H ok _ v from h) fun _ _ _ _=>trivial
 | int y16=>
   exact RepP.mono (ok:=ok) (show RepP K H ok _ v from h) fun _ _ _ _=>trivial
 | str y17=>
   exact RepP.mono (ok:=ok) (show RepP K H ok _ v from h) fun _ _ _ _=>trivial
 | tup y18=>
   exact RepP.mono (ok:=ok) (show RepP K H ok _ v from h) fun _ _ _ _=>trivial
end
section
variable {C:Cn} {md:List Md} {fx:Nat->Prop}
theorem SL.ofP {K:PySem.W.Frag} {H:Hp} {ok ok':Addr->Prop} (m:∀ a,ok a->ok' a):∀ {ds:List D} {vs:List V},RepPL K H ok ds vs->SL K H ok' (ds.map S.d) vs
 | [],vs,h=>h.nil_inv
 | d::ds,vs,h=>by
   obtain ⟨v,r,rfl,h1,h2⟩:=h.cons_inv
   exact ⟨v,r,rfl,RepP.mono h1 fun a _ o _=>m a o,SL.ofP m h2⟩
theorem okIo_some {s s':S} (h:okIo s=some s'):s'=s/\isM s=true/\∀ l,s=.d (.lst l)->D.immL l=true:=by
 cases s with
 | pot ns i r m=>
   cases h; exact ⟨rfl,rfl,fun l z=>by cases z⟩
 | d y31=>
   cases y31 with
   | lst l=>
     replace h:(if D.immL l=true then some (S.d (.lst l)) else none)=some s':=h
     split at h
     · cases h; rename_i hi; exact ⟨rfl,rfl,fun m z=>by cases z; exact hi⟩
     · cases h
   | _=>cases h
 | _=>cases h
theorem okIo2_some {s0 s s':S} (h:okIo2 s0 s=some s'):s'=s/\isM s=true/\(∀ l,s=.d (.lst l)->D.immL l=true)/\∀ ns i r m,s=.pot ns i r m->∃ ns i r m,s0=.pot ns i r m:=by
 cases s0 with
 | pot y32 y33 y34 y35=>
   cases s with
   | pot ns i r m=>
     cases h; exact ⟨rfl,rfl,(fun l z=>by cases z),fun _ _ _ _ _=>⟨_,_,_,_,rfl⟩⟩
   | _=>cases h
 | d y36=>
   cases y36 with
   | lst y37=>
     cases s with
     | d y38=>
       cases y38 with
       | lst l=>
         replace h:(if D.immL l=true then some (S.d (.lst l)) else none)=some s':=h
         split at h
         · cases h; rename_i hi; exact ⟨rfl,rfl,(fun m z=>by cases z; exact hi),(fun _ _ _ _ z=>by cases z)⟩
         · cases h
       | _=>cases h
     | _=>cases h
   | _=>cases h
 | _=>cases h
theorem le_callM {i:Nat} {t:TA} {f:MA} {m:List S->Option (S × S)} {E:XK} (hm:mode md i=.ow∨mode md i=.io) (h:LA C md t f):LE C md (tCall (spM C.K m) [] E (tCons (tVar i) t)) (mCallM md i m f):=by
 intro A W ρ σ H Q o ρ' r e k
 unfold mCallM at e
 simp only [Z0] at e
 obtain ⟨sx,e0,⟨os,ρ1⟩,e1,ds,e2,s0,⟨s0',e3,e3'⟩,⟨y1,y2⟩,e4,d,e5,s1,e6,e7⟩:=e
 cases e7
 cases unD_some e5
 obtain ⟨rfl,is0,im0⟩:=okIo_some e3'
 obtain ⟨rfl,is1,im1,kd⟩:=okIo2_some e6
 obtain ⟨w,ew,_⟩:=r.slot i _ e0
 refine ⟨w,ew,?_⟩
 refine h A W ρ σ H _ os _ r e1 fun vs H1 x1 r1 p1=>?_
 show spM C.K m ((w::vs)++[]) H1 Q E
 rw [Z35]
 dsimp only at e2 e3 e4 e5 e6 is1 im1 kd k
 obtain ⟨w',ew',c1⟩:=r1.slot i _ e3
 rw [ew] at ew'; cases ew'
 obtain ⟨okc,okq,c⟩:∃ okc okq,Cell C.K A H1 okc okq s0 w:=by rcases hm with hm | hm <;> (rw [hm] at c1; exact ⟨_,_,c1⟩)
 obtain ⟨p,q,rfl,io,aq⟩:∃ p q,w=.ref p/\IoAt C.K H1 p q s0/\(∀ ns i r m,s0=.pot ns i r m->¬ A q):=by
   cases s0 with
   | pot ns i r m=>
     obtain ⟨p,q,rfl,h1,h2,h3,h4,h5,h6⟩:=c
     exact ⟨p,q,rfl,⟨fun z=>h5 (by rw [z]; exact h3),h1,h2⟩,fun _ _ _ _ _=>h5⟩
   | d y19=>
     cases y19 with
     | lst l=>
       obtain ⟨p,xs,rfl,h1,h2,h3,h4⟩:=c
       exact ⟨p,p,rfl,⟨im0 l rfl,xs,h1,h4.repL⟩,fun _ _ _ _ z=>by cases z⟩
     | _=>first | (cases c; done) | (cases im0; done) | (cases is0; done) | (cases e3'; done) | (cases e2; done) | (cases e6; done) | contradiction
   | _=>first | (cases c; done) | (cases im0; done) | (cases is0; done) | (cases e3'; done) | (cases e2; done) | (cases e6; done) | contradiction
 have ap:A p:=(Cell.at is0 c).2.1
 refine ⟨p,q,s0,ds.map S.d,vs,_,s1,rfl,io,SL.ofP (fun a o z=>o (by rw [z]; exact ap)) (p1.stos r1 e2),e4,fun v H2 b2 io2 n=>?_⟩
 have mu:MutO (H2 p):=by
   cases s1 with
   | pot ns i r m=>
     exact .inl ⟨_,io2.2.1⟩
   | d y20=>
     cases y20 with
     | lst l=>
       obtain ⟨_,xs,z,_⟩:=io2; exact .inl ⟨xs,z⟩
     | _=>first | (cases io2; done) | (cases is1; done) | (cases e3'; done) | (cases e2; done) | (cases e6; done) | contradiction
   | _=>first | (cases io2; done) | (cases is1; done) | (cases e3'; done) | (cases e2; done) | (cases e6; done) | contradiction
 obtain ⟨x2,r2⟩:=r1.write hm e3 is0 is1 ew b2 mu (s':=s1) fun ok okq oa aa wa st c=>by
   cases s1 with
   | pot ns i r m=>
     obtain ⟨g1,g2,g3⟩:=io2
     obtain ⟨ns',i',r',m',rfl⟩:=kd ns i r m rfl
     obtain ⟨p',q',z,h1,h2,h3,h4,h5,h6⟩:=c
     cases z
     have:q'=q:=by
       have z:=io.2.1
       rw [h1] at z
       injection z with z; injection z with z; injection z with z; injection z
     subst this
     exact ⟨p,q',rfl,g2,g3,aa,oa,h5,h6⟩
   | d y21=>
     cases y21 with
     | lst l=>
       obtain ⟨_,xs,z,z2⟩:=io2
       exact ⟨p,xs,rfl,z,aa,oa,RepPL.ofImm (im1 l rfl) z2⟩
     | _=>first | (cases kd; done) | (cases io2; done) | (cases im1; done) | (cases is1; done) | (cases e3'; done) | (cases e2; done) | (cases e6; done) | contradiction
   | _=>first | (cases kd; done) | (cases io2; done) | (cases im1; done) | (cases is1; done) | (cases e3'; done) | (cases e2; done) | (cases e6; done) | contradiction
 refine k v H2 (x1.trans x2) r2 ?_
 rcases n with n | ⟨ip,x,z,n⟩
 · exact (show RepP _ _ _ _ _ from n.repP.mono fun a _ o _=>r1.fresh o)
 · cases z
   refine (show RepP _ _ _ _ _ from n.mono fun a _ o _=>?_)
   rcases o with o | o
   · exact r1.fresh o
   · rw [o]
     cases s0 with
     | pot ns i r m=>
       exact aq ns i r m rfl
     | _=>first | (cases aq; done) | (cases ip; done) | (cases e3'; done) | (cases e2; done) | (cases e6; done) | contradiction
end
noncomputable abbrev MI:=En->Option (List D × En)
noncomputable def ItAt (C:Cn) (A W:Addr->Prop) (J:It) (ds:List D) (H:Hp):Prop:=∀ (A' W':Addr->Prop) (H':Hp),Gr A W H A' W' H'->∀ i,
 (∀ d,ds[i]?=some d->J.go i H'/\∀ x H'',J.yld i H' x H''->Same H' H''/\RepP C.K H'' (fun a=>¬ A' a∨H' a=none) d x)/\(ds.length<=i->J.stop i H')
theorem it_of {K:PySem.W.Frag} {ok:Addr->Prop} {H' H'':Hp} {d:D} {x:V} (h:H''=H'/\RepP K H' ok d x):Same H' H''/\RepP K H'' (fun a=>ok a∨H' a=none) d x:=by
 obtain ⟨rfl,h⟩:=h
 exact ⟨fun _ _ e=>e,h.mono fun a xs o _=>.inl o⟩
noncomputable def LI (C:Cn) (md:List Md) (lj:Option Nat) (wi:TI) (f:MI):Prop:=∀ (A W:Addr->Prop) (ρ:En) (σ:L2.St) (H:Hp) (Q:It->Hp->Prop) (ds:List D) (ρ':En),R C md A W ρ σ H->f ρ=some (ds,ρ') ->
 (∀ J H',Ext W H H'->R C md A W ρ' σ H'->(∀ W2:Addr->Prop,(∀ a,W2 a->W a)->(∀ j a s,lj=some j->mode md j ≠ .pl->look ρ' j=some s->isM s=true->σ[j]?=some (some (.ref a))->¬ W2 a)->ItAt C A W2 J ds H')->Q J H')->wi σ H Q
noncomputable def rngD (lo:Int) (n:Nat):List D:=(List.range n).map fun k=>D.int (lo+(k:Nat))
noncomputable def mRng1 (f:MA):MI:=fun ρ=>(f ρ).bind fun x=>(ress x.2 x.1).bind fun ds=>match ds with
 | [.int j]=>if -(2 ^ 62)<=j/\j < 2 ^ 62 then some (rngD 0 j.toNat,x.2) else none
 | _=>none
noncomputable def mRng2 (f:MA):MI:=fun ρ=>(f ρ).bind fun x=>(ress x.2 x.1).bind fun ds=>match ds with
 | [.int i,.int j]=>if -(2 ^ 62)<=i/\i < 2 ^ 62/\-(2 ^ 62)<=j/\j < 2 ^ 62 then some (rngD i (j - i).toNat,x.2) else none
 | _=>none
noncomputable def signsD (z:Str):List D:=z.cps.toList.map fun c=>D.str ⟨#[c]⟩
noncomputable def seqD:D->Option (List D)
 | .str z=>some (signsD z)
 | .tup l=>some l
 | .lst l=>some l
 | _=>none
noncomputable def mSeqI (md:List Md) (f:ME):MI:=fun ρ=>(f ρ).bind fun x=>(sto md x.2 x.1).bind fun d=>(seqD d).bind fun l=>some (l,x.2)
section
variable {C:Cn} {md:List Md}
theorem it_rng (A W:Addr->Prop) (lo:Int) (n:Nat) (H:Hp):ItAt C A W (Itr lo n) (rngD lo n) H:=by
 intro A' W' H' g i
 refine ⟨fun d e=>?_,fun h=>?_⟩
 · unfold rngD at e
   rw [Z21,Option.map_eq_some_iff] at e
   obtain ⟨k,e1,rfl⟩:=e
   have hk:=Z9.mp e1
   obtain ⟨h1,h2⟩:=hk
   rw [List.length_range] at h1
   rw [List.getElem_range] at h2
   subst h2
   refine ⟨h1,fun x H'' y=>it_of ⟨y.1,?_⟩⟩
   rw [y.2]
   exact repP_int
 · simp -iota [rngD] at h
   exact h
theorem li_rng1 {t:TA} {f:MA} (h:LA C md t f):LI C md none (iRng1 t) (mRng1 f):=by
 intro A W ρ σ H Q ds ρ' r e k
 unfold mRng1 at e
 simp -iota only [Z0] at e
 obtain ⟨⟨os,ρ1⟩,e1,xs,e2,e3⟩:=e
 cases xs with
 | cons y13 y14=>
   cases y13 with
   | int j=>
     cases y14 with
     | nil=>
       dsimp only at e3
       split at e3
       · rename_i hj
         cases e3
         refine h A W ρ σ H _ os _ r e1 fun vs H1 x1 r1 p1=>?_
         obtain ⟨v,rfl,pv⟩:=(p1.get r1 e2).one_inv
         obtain rfl:=pv.int_inv
         exact ⟨j,rfl,hj.1,hj.2,k _ H1 x1 r1 fun W2 _ _=>it_rng _ _ _ _ _⟩
       · cases e3
     | _=>cases e3
   | _=>cases e3
 | _=>cases e3
theorem li_rng2 {t:TA} {f:MA} (h:LA C md t f):LI C md none (iRng2 t) (mRng2 f):=by
 intro A W ρ σ H Q ds ρ' r e k
 unfold mRng2 at e
 simp -iota only [Z0] at e
 obtain ⟨⟨os,ρ1⟩,e1,xs,e2,e3⟩:=e
 cases xs with
 | cons y15 y16=>
   cases y15 with
   | int i=>
     cases y16 with
     | cons y17 y18=>
       cases y17 with
       | int j=>
         cases y18 with
         | nil=>
           dsimp only at e3
           split at e3
           · rename_i hj
             cases e3
             refine h A W ρ σ H _ os _ r e1 fun vs H1 x1 r1 p1=>?_
             obtain ⟨v,w,rfl,pv,pw⟩:=p1.get r1 e2
             obtain ⟨u,rfl,pu⟩:=RepTL.one_inv pw
             obtain rfl:=pv.int_inv
             obtain rfl:=pu.int_inv
             exact ⟨i,j,rfl,hj,k _ H1 x1 r1 fun W2 _ _=>it_rng _ _ _ _ _⟩
           · cases e3
         | _=>cases e3
       | _=>cases e3
     | _=>cases e3
   | _=>cases e3
 | _=>cases e3
theorem it_list {A W:Addr->Prop} {ρ:En} {σ:L2.St} {H:Hp} {W2:Addr->Prop} (r:R C md A W ρ σ H) (hw:∀ a,W2 a->W a) {a:Addr} {xs:List V} {l:List D} (h:H a=some (.lst xs)) (na:¬ W2 a) (p:RepPL C.K H (fun b=>¬ A b) l xs):ItAt C A W2 (Itl C.K a) l H:=by
 intro A' W' H' g i
 have h':H' a=some (.lst xs):=g.ext a _ na h
 have p':RepPL C.K H' (fun b=>¬ A' b) l xs:=p.stay (g.ext.stayT fun a w=>r.wk a (hw a w)) fun b ys o z=>⟨g.ext b _ (fun w=>o (r.wa b (hw b w))) z,fun w=>by
   rcases g.an b w with y | y
   · exact o y
   · rw [y] at z; cases z⟩
 refine ⟨fun d e=>?_,fun hl=>?_⟩
 · obtain ⟨x,ex,px⟩:=p'.get e
   refine ⟨⟨xs,x,.inl (.inl h'),ex⟩,fun y H'' yl=>it_of ⟨yl.1,?_⟩⟩
   have:=yl.2 xs (.inl (.inl h'))
   rw [ex] at this
   cases this
   exact px
 · exact ⟨xs,.inl (.inl h'),by rw [p'.length]; exact hl⟩
theorem it_tup {A W:Addr->Prop} {ρ:En} {σ:L2.St} {H:Hp} {W2:Addr->Prop} (r:R C md A W ρ σ H) (hw:∀ a,W2 a->W a) {a:Addr} {xs:List V} {l:List D} (h:SqT C.K H a xs) (p:RepPL C.K H (fun b=>¬ A b) l xs):ItAt C A W2 (Itt C.K a) l H:=by
 intro A' W' H' g i
 have st:StayT C.K H H':=g.ext.stayT fun a w=>r.wk a (hw a w)
 have h':SqT C.K H' a xs:=st _ _ h
 have p':RepPL C.K H' (fun b=>¬ A' b) l xs:=p.stay st fun b ys o z=>⟨g.ext b _ (fun w=>o (r.wa b (hw b w))) z,fun w=>by
   rcases g.an b w with y | y
   · exact o y
   · rw [y] at z; cases z⟩
 refine ⟨fun d e=>?_,fun hl=>?_⟩
 · obtain ⟨x,ex,px⟩:=p'.get e
   refine ⟨⟨xs,x,h',ex⟩,fun y H'' yl=>it_of ⟨yl.1,?_⟩⟩
   have:=yl.2 xs h'
   rw [ex] at this
   cases this
   exact px
 · exact ⟨xs,h',by rw [p'.length]; exact hl⟩
theorem it_str (A W:Addr->Prop) (z:Str) (H:Hp):ItAt C A W (Its z) (signsD z) H:=by
 intro A' W' H' g i
 refine ⟨fun d e=>?_,fun h=>?_⟩
 · unfold signsD at e
   rw [Z21,Option.map_eq_some_iff] at e
   obtain ⟨c,e1,rfl⟩:=e
   obtain ⟨h1,h2⟩:=Z9.mp e1
   refine ⟨(show i < z.cps.size by simpa using h1),fun x H'' y=>it_of ⟨y.1,?_⟩⟩
   obtain ⟨_,c',e2,rfl⟩:=y
   rw [e1] at e2; cases e2
   exact repP_str
 · simp -iota [signsD] at h
   exact h
theorem li_seq {t:TE} {f:ME} (h:LE C md t f):LI C md none (iSeq C.K t) (mSeqI md f):=by
 intro A W ρ σ H Q ds ρ' r e k
 unfold mSeqI at e
 simp -iota only [Z0] at e
 obtain ⟨⟨o,ρ1⟩,e1,d,e2,l,e3,e4⟩:=e
 cases e4
 refine h A W ρ σ H _ o _ r e1 fun v H1 x1 r1 p1=>?_
 have p:=p1.sto r1 e2
 cases d with
 | str z=>
   cases e3
   rw [RepP] at p
   subst p
   exact k _ H1 x1 r1 fun W2 _ _=>it_str _ _ _ _
 | tup l=>
   cases e3
   rw [RepP] at p
   obtain ⟨a,xs,rfl,h1,h2⟩:=p
   exact .inr ⟨⟨xs,h1⟩,k _ H1 x1 r1 fun W2 hw _=>it_tup r1 hw h1 h2⟩
 | lst l=>
   cases e3
   rw [RepP] at p
   obtain ⟨a,xs,rfl,h1,h2,h3⟩:=p
   exact .inl ⟨⟨xs,.inl (.inl h1)⟩,k _ H1 x1 r1 fun W2 hw _=>it_list r1 hw h1 (fun w=>h2 (r1.wa a (hw a w))) h3⟩
 | _=>first | (cases p; done) | (cases e3; done) | (cases e3'; done) | (cases e2; done) | (cases e6; done) | contradiction
noncomputable abbrev MB:=En->List D->Option (En × List D)
noncomputable def LB (C:Cn) (md:List Md) (nt:Nat) (tb:TB) (f:MB):Prop:=∀ (A W:Addr->Prop) (ρ:En) (σ:L2.St) (H:Hp) (acc:List V) (as:List D) (Q:L2.St->Hp->List V->Prop) (ρ':En) (as':List D),R C md A W ρ σ H->RepPL C.K H (fun a=>¬ A a) as acc->f ρ as=some (ρ',as') ->
 (∀ σ' H' acc',Ext W H H'->R C md A W ρ' σ' H'->RepPL C.K H' (fun a=>¬ A a) as' acc'->Fix (fun j=>nt<=j) σ σ'->Q σ' H' acc')->tb σ H acc Q
noncomputable def mEmit (md:List Md) (f:ME):MB:=fun ρ as=>(f ρ).bind fun x=>(sto md x.2 x.1).bind fun d=>if as.length < sizeLine then some (x.2,as++[d]) else none
noncomputable def lpM (fg:MG) (ft:MT) (fb:MB):List D->MB
 | [],ρ,as=>some (ρ,as)
 | d::ds,ρ,as=>(fg d ρ).bind fun ρ1=>(ft ρ1).bind fun y=>if y.1=true then (fb y.2 as).bind fun z=>lpM fg ft fb ds z.1 z.2 else lpM fg ft fb ds y.2 as
theorem lb_emit {nt:Nat} {te:TE} {f:ME} (h:LE C md te f):LB C md nt (tEmit te) (mEmit md f):=by
 intro A W ρ σ H acc as Q ρ' as' r ra e k
 unfold mEmit at e
 simp -iota only [Z0] at e
 obtain ⟨⟨o,ρ1⟩,e1,d,e2,e3⟩:=e
 split at e3
 · rename_i hz
   cases e3
   refine h A W ρ σ H _ o _ r e1 fun v H1 x1 r1 p1=>⟨by rw [ra.length]; exact hz,?_⟩
   exact k σ H1 _ x1 r1 ((r.stayPL x1 ra).append (.cons (p1.sto r1 e2) .nil)) (Fix.refl _ _)
 · cases e3
inductive LbI (C:Cn) (md:List Md) (A W:Addr->Prop) (H0:Hp) (nt:Nat) (σ:L2.St) (fg:MG) (ft:MT) (fb:MB) (ρ':En) (as':List D) (ds:List D) (σ1:L2.St) (H1:Hp) (acc1:List V):Prop
 | mk:∀ ρ1 as1,Ext W H0 H1->R C md A W ρ1 σ1 H1->RepPL C.K H1 (fun a=>¬ A a) as1 acc1->Fix (fun j=>nt<=j) σ σ1->lpM fg ft fb ds ρ1 as1=some (ρ',as')->LbI C md A W H0 nt σ fg ft fb ρ' as' ds σ1 H1 acc1
theorem lb_lp {nt:Nat} {g:TG} {tt:TT} {tb:TB} {fg:MG} {ft:MT} {fb:MB} (hg:LG C md (fun j=>nt<=j) g fg) (ht:LT C md tt ft) (hb:LB C md nt tb fb) {J:It} {A W:Addr->Prop} {ds:List D} {H0:Hp} (it:ItAt C A W J ds H0) :
   ∀ (ρ:En) (σ:L2.St) (acc:List V) (as:List D) (Q:L2.St->Hp->List V->Prop) (ρ':En) (as':List D),R C md A W ρ σ H0->RepPL C.K H0 (fun a=>¬ A a) as acc->lpM fg ft fb ds ρ as=some (ρ',as') ->
 (∀ σ' H' acc',Ext W H0 H'->R C md A W ρ' σ' H'->RepPL C.K H' (fun a=>¬ A a) as' acc'->Fix (fun j=>nt<=j) σ σ'->Q σ' H' acc')->lpW g tt tb J σ H0 acc Q:=by
 intro ρ σ acc as Q ρ' as' r ra e k
 refine ⟨fun i m σ1 H1 acc1=>m=ds.length - i/\i<=ds.length/\LbI C md A W H0 nt σ fg ft fb ρ' as' (ds.drop i) σ1 H1 acc1,
   ⟨ds.length,by simp,Z30 _,ρ,as,Ext.refl _ _,r,ra,Fix.refl _ _,by simpa using e⟩,?_⟩
 rintro i m σ1 H1 acc1 ⟨rfl,hi,ρ1,as1,x1,r1,ra1,f1,e1⟩
 obtain ⟨i1,i2⟩:=it A W H1 (Gr.ofExt x1) i
 by_cases hlt:i < ds.length
 · obtain ⟨go,yl⟩:=i1 ds[i] (by simp -iota [hlt])
   rw [List.drop_eq_getElem_cons hlt] at e1
   unfold lpM at e1
   simp -iota only [Z0] at e1
   obtain ⟨ρ2,e2,⟨b,ρ3⟩,e3,e4⟩:=e1
   refine .inr ⟨go,LbI C md A W H0 nt σ fg ft fb ρ' as' (ds.drop (i+1)),?_,?_⟩
   · intro σ' H' acc' h
     exact ⟨ds.length - (i+1),by omega,rfl,hlt,h⟩
   · intro x H'' y
     obtain ⟨sm,px⟩:=yl x H'' y
     replace px:=r1.freshP px
     replace r1:=r1.same sm
     replace ra1:=ra1.same sm
     replace x1:Ext W H0 H'':=x1.trans (Same.ext sm)
     refine hg A W ρ1 σ1 _ x ds[i] ρ2 _ r1 px e2 fun σ2 H2 x2 r2 f2=>?_
     refine ht A W ρ2 σ2 H2 _ b ρ3 r2 e3 fun H3 x3 r3=>?_
     have ra3:=r2.stayPL x3 (r1.stayPL x2 ra1)
     cases b with
     | true=>
       simp -iota only [if_true,Z0] at e4
       obtain ⟨⟨ρ4,as4⟩,e5,e6⟩:=e4
       refine iteT (hb A W ρ3 σ2 H3 acc1 as1 _ ρ4 as4 r3 ra3 e5 fun σ4 H4 acc4 x4 r4 ra4 f4=>?_)
       exact ⟨ρ4,as4,((x1.trans x2).trans x3).trans x4,r4,ra4,(f1.trans f2).trans f4,e6⟩
     | false=>
       simp -iota only [Z47,if_false] at e4
       exact iteF ⟨ρ3,as1,(x1.trans x2).trans x3,r3,ra3,f1.trans f2,e4⟩
 · have e0:i=ds.length:=by omega
   subst e0
   rw [List.drop_length] at e1
   cases e1
   exact .inl ⟨i2 (Z10 _),k σ1 H1 acc1 x1 r1 ra1 f1⟩
end
noncomputable def inEn (nt:Nat) (ix:List Nat) (ρ:En):En:=List.replicate nt none++ix.map fun j=>look ρ j
noncomputable def inMd (md:List Md) (kp:List Nat) (j:Nat):Md:=match mode md j with
 | .pl=>.pl
 | m=>if kp.contains j then m else .lk
noncomputable def mdIn (md:List Md) (nt:Nat) (ix kp:List Nat):List Md:=List.replicate nt .pl++ix.map (inMd md kp)
noncomputable def wbk (kp:List Nat) (nt:Nat) (ix:List Nat) (ρI:En):Nat->En->En
 | _,[]=>[]
 | j,x::r=>(if kp.contains j then look ρI (nt+ix.idxOf j) else x)::wbk kp nt ix ρI (j+1) r
noncomputable def wb (kp:List Nat) (nt:Nat) (ix:List Nat) (ρI ρ:En):En:=if kp.isEmpty then ρ else wbk kp nt ix ρI 0 ρ
theorem look_rep:∀ {nt k:Nat} {l:En},look (List.replicate nt none++l) k=if k < nt then none else look l (k - nt)
 | 0,k,l=>by simp
 | nt+1,0,l=>by simp [Z22,look]
 | nt+1,k+1,l=>by
   rw [Z22,Z51,look,look_rep (nt:=nt) (k:=k)]
   by_cases h:k < nt
   · simp [h]
   · simp [h]
theorem look_map {f:Nat->Option S}:∀ {ix:List Nat} {n:Nat},look (ix.map f) n=(ix[n]?).bind f
 | [],n=>by simp [look]
 | j::r,0=>by simp [look]
 | j::r,n+1=>by simp only [Z6,look,List.getElem?_cons_succ]; exact look_map
theorem mode_rep:∀ {nt k:Nat} {l:List Md},mode (List.replicate nt .pl++l) k=if k < nt then .pl else mode l (k - nt)
 | 0,k,l=>by simp
 | nt+1,0,l=>by simp [Z22,mode]
 | nt+1,k+1,l=>by
   rw [Z22,Z51,mode,mode_rep (nt:=nt) (k:=k)]
   by_cases h:k < nt
   · simp [h]
   · simp [h]
theorem mode_map {f:Nat->Md}:∀ {ix:List Nat} {n:Nat},mode (ix.map f) n=((ix[n]?).map f).getD .pl
 | [],n=>by simp [mode]
 | j::r,0=>by simp [mode]
 | j::r,n+1=>by simp only [Z6,mode,List.getElem?_cons_succ]; exact mode_map
theorem in_some {nt:Nat} {ix:List Nat} {ρ:En} {k:Nat} {s:S} (h:look (inEn nt ix ρ) k=some s):nt<=k/\∃ j,ix[k - nt]?=some j/\look ρ j=some s:=by
 unfold inEn at h
 rw [look_rep] at h
 split at h
 · cases h
 · rename_i hk
   rw [look_map,Z0] at h
   exact ⟨by lia,h⟩
theorem cst_get {nt:Nat} {ix:List Nat} {σ:L2.St} {k j:Nat} (hk:nt<=k) (h:ix[k - nt]?=some j):(cst nt ix σ)[k]?=some (σ.getD j none):=by
 unfold cst
 rw [List.getElem?_append_right (by simpa using hk),List.length_replicate,Z21,h]
 rfl
theorem mdIn_get {md:List Md} {nt:Nat} {ix kp:List Nat} {k j:Nat} (hk:nt<=k) (h:ix[k - nt]?=some j):mode (mdIn md nt ix kp) k=inMd md kp j:=by
 unfold mdIn
 rw [mode_rep,if_neg (by lia),mode_map,h]
 rfl
theorem getD_some {σ:L2.St} {j:Nat} {v:V}:σ.getD j none=some v ↔ σ[j]?=some (some v):=by
 rw [Z5]
 cases e:σ[j]? with
 | none=>simp
 | some x=>simp
theorem nodup_get:∀ {ix:List Nat} (hx:ix.Nodup) {a b j:Nat} (h1:ix[a]?=some j) (h2:ix[b]?=some j),a=b
 | [],hx,a,b,j,h1,h2=>by simp at h1
 | x::r,hx,0,0,j,h1,h2=>rfl
 | x::r,hx,0,b+1,j,h1,h2=>by
   simp at h1 h2; subst h1
   exact absurd (List.mem_of_getElem? h2) (List.nodup_cons.mp hx).1
 | x::r,hx,a+1,0,j,h1,h2=>by
   simp at h1 h2; subst h2
   exact absurd (List.mem_of_getElem? h1) (List.nodup_cons.mp hx).1
 | x::r,hx,a+1,b+1,j,h1,h2=>by
   simp at h1 h2
   rw [nodup_get (List.nodup_cons.mp hx).2 h1 h2]
theorem look_wbk {kp:List Nat} {nt:Nat} {ix:List Nat} {ρI:En}:∀ {ρ:En} {j0 j:Nat},look (wbk kp nt ix ρI j0 ρ) j=if j < ρ.length/\kp.contains (j0+j)=true then look ρI (nt+ix.idxOf (j0+j)) else look ρ j
 | [],j0,j=>by simp [wbk,look]
 | x::r,j0,0=>by
   simp only [wbk,look,Nat.add_zero,Z58]
   by_cases h:kp.contains j0=true
   · rw [if_pos h,if_pos ⟨by grind,h⟩]
   · rw [if_neg h,if_neg (fun z=>h z.2)]
 | x::r,j0,j+1=>by
   simp only [wbk,look]
   rw [look_wbk (ρ:=r) (j0:=j0+1) (j:=j),show j0+1+j=j0+(j+1) by grind]
   simp only [Z58,Nat.add_lt_add_iff_right]
theorem look_wb {kp:List Nat} {nt:Nat} {ix:List Nat} {ρI ρ:En} {j:Nat}:look (wb kp nt ix ρI ρ) j=if j < ρ.length/\j ∈ kp then look ρI (nt+ix.idxOf j) else look ρ j:=by
 unfold wb
 cases kp with
 | nil=>simp
 | cons a r=>
   rw [if_neg (by simp),look_wbk]
   simp only [Nat.zero_add,List.contains_iff_mem]
theorem len_wb {kp:List Nat} {nt:Nat} {ix:List Nat} {ρI ρ:En}:(wb kp nt ix ρI ρ).length=ρ.length:=by
 have go:∀ (ρ:En) j,(wbk kp nt ix ρI j ρ).length=ρ.length:=by
   intro ρ
   induction ρ with
   | nil=>intro j; rfl
   | cons x r ih=>intro j; simp [wbk,ih]
 unfold wb
 split
 · rfl
 · exact go _ _
section
variable {C:Cn} {md:List Md} {A W:Addr->Prop} {ρ:En} {σ:L2.St} {H:Hp} {nt:Nat} {ix kp:List Nat}
noncomputable def WI (md:List Md) (kp:List Nat) (ρ:En) (σ:L2.St) (W:Addr->Prop) (a:Addr):Prop:=W a/\∃ j s,j ∈ kp/\mode md j ≠ .pl/\look ρ j=some s/\isM s=true/\σ[j]?=some (some (.ref a))
theorem Cell.okMono {K:PySem.W.Frag} {ok ok' okq okq':Addr->Prop} {s:S} {v:V} (h:Cell K A H ok okq s v) (m:∀ a,isM s=true->v=.ref a->ok a->ok' a) (mq:∀ a,okq a->okq' a):Cell K A H ok' okq' s v:=by
 cases s with
 | d y25=>
   cases y25 with
   | lst l=>
     obtain ⟨a,xs,e,h1,h2,h3,h4⟩:=h
     exact ⟨a,xs,e,h1,h2,m a rfl e h3,h4⟩
   | non=>
     exact h
   | bl y26=>
     exact h
   | int y27=>
     exact h
   | str y28=>
     exact h
   | tup y29=>
     exact h
 | pot ns i r m'=>
   obtain ⟨p,q,e,h1,h2,h3,h4,h5,h6⟩:=h
   exact ⟨p,q,e,h1,h2,h3,m p rfl e h4,h5,mq q h6⟩
 | dc kvs=>
   obtain ⟨a,ws,e,h1,h2,h3,h4⟩:=h
   exact ⟨a,ws,e,h1,h2,m a rfl e h3,h4⟩
 | dk kvs=>
   obtain ⟨a,ws,e,h1,h2,h3,h4⟩:=h
   exact ⟨a,ws,e,h1,h2,m a rfl e h3,h4⟩
 | scr y30=>
   exact h.elim
theorem R.notWI (r:R C md A W ρ σ H) {j:Nat} {s:S} {a:Addr} (hk:j ∉ kp) (hm:mode md j ≠ .pl) (e:look ρ j=some s) (i:isM s=true) (ev:σ[j]?=some (some (.ref a))):¬ WI md kp ρ σ W a:=by
 rintro ⟨_,j',s',k',m',e',i',v'⟩
 exact r.inj j j' s s' a (fun z=>hk (by rw [z]; exact k')) hm m' e e' i i' ev v'
theorem R.inner (r:R C md A W ρ σ H) (hx:ix.Nodup):R C (mdIn md nt ix kp) A (WI md kp ρ σ W) (inEn nt ix ρ) (cst nt ix σ) H where
 len:=by simp [cst,inEn]
 wa:=fun a h=>r.wa a h.1
 ak:=r.ak
 base:=r.base
 wf:=fun a h=>r.wf a h.1
 ma:=r.ma
 fo:=r.fo
 slot:=fun k s e=>by
   obtain ⟨hk,j,e1,e2⟩:=in_some e
   obtain ⟨v,ev,c⟩:=r.slot j s e2
   refine ⟨v,by rw [cst_get hk e1,getD_some.mpr ev],?_⟩
   rw [mdIn_get hk e1]
   unfold inMd
   cases em:mode md j with
   | pl=>
     rw [em] at c
     cases s with
     | d x=>
       exact c
     | scr ns=>
       exact c
     | dc kvs=>
       exact c
     | _=>cases c
   | ow=>
     rw [em] at c
     dsimp only
     split
     · rename_i hc
       refine Cell.okMono c (fun a i z o=>⟨⟨o.1,j,s,by simpa using hc,by rw [em]; simp,e2,i,by rw [ev,z]⟩,o.2⟩) (fun _ h=>h)
     · rename_i hc
       exact Cell.okMono c (fun a i z o=>r.notWI (by simpa using hc) (by rw [em]; simp) e2 i (by rw [ev,z])) (fun _ h=>h)
   | lk=>
     rw [em] at c
     dsimp only
     have z:Cell C.K A H (fun a=>¬ WI md kp ρ σ W a) (fun _=>True) s v:=Cell.okMono c (fun a i z o w=>o w.1) (fun _ h=>h)
     split <;> exact z
   | io=>
     rw [em] at c
     dsimp only
     split
     · rename_i hc
       refine Cell.okMono c (fun a i z o=>⟨⟨o.1,j,s,by simpa using hc,by rw [em]; simp,e2,i,by rw [ev,z]⟩,o.2⟩) (fun _ h=>h)
     · rename_i hc
       exact Cell.okMono c (fun a i z o=>r.notWI (by simpa using hc) (by rw [em]; simp) e2 i (by rw [ev,z])) (fun _ _=>trivial)
 inj:=fun k1 k2 s s' a hne m1 m2 e1 e2 i1 i2 l1 l2=>by
   obtain ⟨hk1,j1,f1,g1⟩:=in_some e1
   obtain ⟨hk2,j2,f2,g2⟩:=in_some e2
   rw [mdIn_get hk1 f1] at m1
   rw [mdIn_get hk2 f2] at m2
   rw [cst_get hk1 f1] at l1
   rw [cst_get hk2 f2] at l2
   have n1:mode md j1 ≠ .pl:=fun z=>m1 (by unfold inMd; rw [z])
   have n2:mode md j2 ≠ .pl:=fun z=>m2 (by unfold inMd; rw [z])
   refine r.inj j1 j2 s s' a (fun z=>hne ?_) n1 n2 g1 g2 i1 i2 (getD_some.mp (Z27 l1)) (getD_some.mp (Z27 l2))
   subst z
   have:=nodup_get hx f1 f2
   grind
theorem Ext.mono {W W':Addr->Prop} {H H':Hp} (e:Ext W H H') (m:∀ a,W a->W' a):Ext W' H H':=fun b o n h=>e b o (fun w=>n (m b w)) h
theorem idx_get {ix:List Nat} {j:Nat} (h:j ∈ ix):ix[ix.idxOf j]?=some j:=by
 have hl:=List.idxOf_lt_length_of_mem h
 rw [Z3 hl]
 congr 1
 exact List.getElem_idxOf hl
theorem R.outer {ρI:En} {σI:L2.St} {H':Hp} (r:R C md A W ρ σ H) (hx:ix.Nodup) (hk:∀ j ∈ kp,j ∈ ix/\(mode md j=.ow∨mode md j=.io)) (r':R C (mdIn md nt ix kp) A (WI md kp ρ σ W) ρI σI H') (x:Ext (WI md kp ρ σ W) H H')
   (f:Fix (fun j=>nt<=j) (cst nt ix σ) σI):R C md A W (wb kp nt ix ρI ρ) σ H':=by
 have xw:Ext W H H':=x.mono fun a h=>h.1
 have kept:∀ j s,j ∈ kp->look ρI (nt+ix.idxOf j)=some s->∃ v,σ[j]?=some (some v)/\SlotAt C A (WI md kp ρ σ W) H' s v (mode md j):=fun j s hj e=>by
   obtain ⟨hi,hm⟩:=hk j hj
   obtain ⟨v,ev,c⟩:=r'.slot _ s e
   have e1:ix[nt+ix.idxOf j - nt]?=some j:=by rw [Nat.add_sub_cancel_left]; exact idx_get hi
   rw [mdIn_get (Z45 _ _) e1] at c
   have em:inMd md kp j=mode md j:=by
     unfold inMd
     rcases hm with hm | hm <;> (rw [hm]; simp [hj])
   rw [em] at c
   rw [f _ (Z45 _ _),cst_get (Z45 _ _) e1] at ev
   exact ⟨v,getD_some.mp (Z27 ev),c⟩
 exact {
   len:=by rw [len_wb]; exact r.len
   wa:=r.wa
   ak:=r'.ak
   base:=r'.base
   wf:=r.wf
   ma:=r.ma
   fo:=r.fo
   slot:=fun j s e=>by
     rw [look_wb] at e
     split at e
     · rename_i hj
       obtain ⟨v,ev,c⟩:=kept j s hj.2 e
       refine ⟨v,ev,?_⟩
       rcases (hk j hj.2).2 with hm | hm
       · rw [hm] at c ⊢
         exact Cell.okMono c (fun a _ _ o=>⟨o.1.1,o.2⟩) (fun _ h=>h)
       · rw [hm] at c ⊢
         exact Cell.okMono c (fun a _ _ o=>⟨o.1.1,o.2⟩) (fun _ h=>h)
     · rename_i hj
       have hj':j ∉ kp:=fun z=>hj ⟨look_lt e,z⟩
       obtain ⟨v,ev,c⟩:=r.slot j s e
       refine ⟨v,ev,?_⟩
       have cell:∀ ok okq:Addr->Prop,mode md j ≠ .pl->Cell C.K A H ok okq s v->Cell C.K A H' ok okq s v:=fun ok okq mj c=>by
         cases s with
         | d y31=>
           cases y31 with
           | lst l=>
             obtain ⟨a,xs,rfl,h1,h2,h3,h4⟩:=c
             exact ⟨a,xs,rfl,x a _ (r.notWI hj' mj e rfl ev) h1,h2,h3,r.stayPL xw h4⟩
           | non=>
             exact r.stayP xw c
           | bl y32=>
             exact r.stayP xw c
           | int y33=>
             exact r.stayP xw c
           | str y34=>
             exact r.stayP xw c
           | tup y35=>
             exact r.stayP xw c
         | pot ns i r' m'=>
           obtain ⟨p,q,rfl,h1,h2,h3,h4,h5,h6⟩:=c
           exact ⟨p,q,rfl,x p _ (r.notWI hj' mj e rfl ev) h1,x q _ (fun w=>h5 (r.wa q w.1)) h2,h3,h4,h5,h6⟩
         | dc kvs=>
           obtain ⟨a,ws,rfl,h1,h2,h3,h4,h5⟩:=c
           exact ⟨a,ws,rfl,x a _ (r.notWI hj' mj e rfl ev) h1,h2,h3,h4,r.stayPL xw h5⟩
         | dk kvs=>
           obtain ⟨a,ws,rfl,h1,h2,h3,h4,h5⟩:=c
           exact ⟨a,ws,rfl,x a _ (r.notWI hj' mj e rfl ev) h1,h2,h3,h4,r.stayPL xw h5⟩
         | scr y36=>
           exact c.elim
       cases em:mode md j with
       | pl=>
         rw [em] at c
         cases s with
         | d y=>
           exact r.stayP xw c
         | scr ns=>
           obtain ⟨a,z,c⟩:=c; exact ⟨a,z,c.ext xw r.wk⟩
         | dc kvs=>
           obtain ⟨a,ws,z,c1,c2,c3,c4⟩:=c; exact ⟨a,ws,z,xw a _ (fun w=>c2 (r.wa a w)) c1,c2,c3,r.stayPL xw c4⟩
         | _=>first | (cases c; done) | (cases e3'; done) | (cases e2; done) | (cases e6; done) | contradiction
       | ow=>rw [em] at c; exact cell _ _ (by rw [em]; simp) c
       | lk=>rw [em] at c; exact cell _ _ (by rw [em]; simp) c
       | io=>rw [em] at c; exact cell _ _ (by rw [em]; simp) c
   inj:=fun j1 j2 s s' a hne m1 m2 e1 e2 i1 i2 l1 l2=>by
     rw [look_wb] at e1 e2
     have back:∀ j s,j ∈ kp->look ρI (nt+ix.idxOf j)=some s->isM s=true->σ[j]?=some (some (.ref a))->WI md kp ρ σ W a:=fun j s hj e i l=>by
       obtain ⟨v,ev,c⟩:=kept j s hj e
       rw [l] at ev; cases ev
       rcases (hk j hj).2 with hm | hm <;> (rw [hm] at c; exact (Cell.at i c).2.2.1)
     by_cases c1:j1 < ρ.length/\j1 ∈ kp
     · rw [if_pos c1] at e1
       by_cases c2:j2 < ρ.length/\j2 ∈ kp
       · rw [if_pos c2] at e2
         have g1:ix[nt+ix.idxOf j1 - nt]?=some j1:=by rw [Nat.add_sub_cancel_left]; exact idx_get (hk j1 c1.2).1
         have g2:ix[nt+ix.idxOf j2 - nt]?=some j2:=by rw [Nat.add_sub_cancel_left]; exact idx_get (hk j2 c2.2).1
         have em:∀ j ∈ kp,inMd md kp j ≠ .pl:=fun j hj=>by
           unfold inMd
           rcases (hk j hj).2 with hm | hm <;> (rw [hm]; simp [hj])
         refine r'.inj _ _ s s' a (fun z=>hne ?_) (by rw [mdIn_get (Z45 _ _) g1]; exact em j1 c1.2) (by rw [mdIn_get (Z45 _ _) g2]; exact em j2 c2.2) e1 e2 i1 i2
           (by rw [f _ (Z45 _ _),cst_get (Z45 _ _) g1,getD_some.mpr l1]) (by rw [f _ (Z45 _ _),cst_get (Z45 _ _) g2,getD_some.mpr l2])
         rw [z] at g1
         exact Z27 (g1.symm.trans g2)
       · rw [if_neg c2] at e2
         exact r.notWI (fun z=>c2 ⟨look_lt e2,z⟩) m2 e2 i2 l2 (back j1 s c1.2 e1 i1 l1)
     · rw [if_neg c1] at e1
       by_cases c2:j2 < ρ.length/\j2 ∈ kp
       · rw [if_pos c2] at e2
         exact r.notWI (fun z=>c1 ⟨look_lt e1,z⟩) m1 e1 i1 l1 (back j2 s' c2.2 e2 i2 l2)
       · rw [if_neg c2] at e2
         exact r.inj j1 j2 s s' a hne m1 m2 e1 e2 i1 i2 l1 l2 }
noncomputable def mnComp (nt:Nat) (ix kp:List Nat) (fi:MI) (lp:List D->MB):MN:=fun ρ=>(fi ρ).bind fun y=>(lp y.1 (inEn nt ix y.2) []).bind fun z=>some (.d (.lst z.2),wb kp nt ix z.1 y.2)
noncomputable def mComp (nt:Nat) (ix kp:List Nat) (fi:MI) (lp:List D->MB):ME:=fun ρ=>(fi ρ).bind fun y=>(lp y.1 (inEn nt ix y.2) []).bind fun z=>some (.val (.lst z.2),wb kp nt ix z.1 y.2)
theorem ln_comp {lj:Option Nat} {wi:TI} {g:TG} {tt:TT} {tb:TB} {fi:MI} {fg:MG} {ft:MT} {fb:MB} (hx:ix.Nodup) (hk:∀ j ∈ kp,j ∈ ix/\(mode md j=.ow∨mode md j=.io)) (hl:∀ j,lj=some j->j ∉ kp)
   (hi:LI C md lj wi fi) (hg:LG C (mdIn md nt ix kp) (fun j=>nt<=j) g fg) (ht:LT C (mdIn md nt ix kp) tt ft) (hb:LB C (mdIn md nt ix kp) nt tb fb):LN C md (tComp nt ix wi (lpW g tt tb)) (mnComp nt ix kp fi (lpM fg ft fb)):=by
 intro A W ρ σ H Q s ρ' r e k
 unfold mnComp at e
 simp only [Z0] at e
 obtain ⟨⟨ds,ρ1⟩,e1,⟨ρ2,as⟩,e2,e3⟩:=e
 cases e3
 refine hi A W ρ σ H _ ds ρ1 r e1 fun J H1 x1 r1 it=>?_
 refine lb_lp hg ht hb (it (WI md kp ρ1 σ W) (fun a h=>h.1) fun j a s' z mj ej ij lj'=>r1.notWI (hl j z) mj ej ij lj') (inEn nt ix ρ1) (cst nt ix σ) [] [] _ ρ2 as (r1.inner hx) .nil e2 fun σ2 H2 acc x2 r2 ra f2=>?_
 have r3:=r1.outer hx hk r2 x2 f2
 intro l hl2
 have s1:=new_same (o:=.lst acc) hl2
 exact k l H2 _ (x1.trans (x2.mono fun a h=>h.1)) r3 hl2 s1 ⟨acc,upd_same,(ra.apart hl2).same s1⟩
theorem le_ofLN {t:TE} {f:MN} {g:ME} (h:LN C md t f) (hf:∀ ρ o ρ',g ρ=some (o,ρ')->∃ l,o=.val (.lst l)/\f ρ=some (.d (.lst l),ρ')):LE C md t g:=by
 intro A W ρ σ H Q o ρ' r e k
 obtain ⟨l,rfl,e'⟩:=hf ρ o ρ' e
 refine h A W ρ σ H Q _ ρ' r e' fun a H1 H2 x1 r1 ha s1 n=>?_
 obtain ⟨xs,h1,h2⟩:=n
 refine k _ H2 (x1.trans (Same.ext s1)) (r1.same s1) ?_
 show RepP _ _ _ (.lst l) _
 rw [RepP]
 exact ⟨a,xs,rfl,h1,r1.fresh ha,h2.mono fun _ _ o _=>o.1⟩
theorem le_comp {lj:Option Nat} {wi:TI} {g:TG} {tt:TT} {tb:TB} {fi:MI} {fg:MG} {ft:MT} {fb:MB} (hx:ix.Nodup) (hk:∀ j ∈ kp,j ∈ ix/\(mode md j=.ow∨mode md j=.io)) (hl:∀ j,lj=some j->j ∉ kp)
   (hi:LI C md lj wi fi) (hg:LG C (mdIn md nt ix kp) (fun j=>nt<=j) g fg) (ht:LT C (mdIn md nt ix kp) tt ft) (hb:LB C (mdIn md nt ix kp) nt tb fb):LE C md (tComp nt ix wi (lpW g tt tb)) (mComp nt ix kp fi (lpM fg ft fb)):=by
 refine le_ofLN (ln_comp hx hk hl hi hg ht hb) fun ρ o ρ' e=>?_
 unfold mComp at e
 unfold mnComp
 simp only [Z0] at e ⊢
 obtain ⟨y,e1,z,e2,e3⟩:=e
 cases e3
 exact ⟨z.2,rfl,y,e1,z,e2,rfl⟩
end
noncomputable def forM (fg:MG) (fb:MS):List D->En->Option (Fl × En)
 | [],ρ=>some (.nx,ρ)
 | d::ds,ρ=>(fg d ρ).bind fun ρ1=>(fb ρ1).bind fun x=>match x.1 with
   | .nx=>forM fg fb ds x.2
   | .ct=>forM fg fb ds x.2
   | .brk=>some (.nx,x.2)
   | .ret s=>some (.ret s,x.2)
noncomputable def mFor (fi:MI) (fg:MG) (fb:MS):MS:=fun ρ=>(fi ρ).bind fun y=>forM fg fb y.1 y.2
noncomputable def mForL (j:Nat) (fg:MG) (fb:MS):MS:=fun ρ=>(lstS (look ρ j)).bind fun l=>(forM fg fb l ρ).bind fun x=>(lstS (look x.2 j)).bind fun _=>some x
noncomputable def whM (fc:MT) (fb:MS):Nat->En->Option (Fl × En)
 | 0,_=>none
 | n+1,ρ=>(fc ρ).bind fun x=>if x.1=true then (fb x.2).bind fun y=>(match y.1 with
   | .nx=>whM fc fb n y.2
   | .ct=>whM fc fb n y.2
   | .brk=>some (.nx,y.2)
   | .ret s=>some (.ret s,y.2)) else some (.nx,x.2)
noncomputable def mWhile (n:Nat) (fc:MT) (fb:MS):MS:=whM fc fb n
section
variable {C:Cn} {md:List Md}
inductive FmI (C:Cn) (md:List Md) (A W:Addr->Prop) (H0:Hp) (σ:L2.St) (fg:MG) (fb:MS) (fl:Fl) (ρ':En) (ds:List D) (σ1:L2.St) (H1:Hp):Prop
 | mk:∀ A1 W1 ρ1,Gr A W H0 A1 W1 H1->R C md A1 W1 ρ1 σ1 H1->Fix (held md) σ σ1->forM fg fb ds ρ1=some (fl,ρ')->FmI C md A W H0 σ fg fb fl ρ' ds σ1 H1
theorem for_run {g:TG} {tb:TS} {fg:MG} {fb:MS} (hg:LG C md (held md) g fg) (hb:LS C md tb fb) {J:It} {A W:Addr->Prop} {ds:List D} {H0:Hp} (it:ItAt C A W J ds H0) (ρ:En) (σ:L2.St) (D:Ends) (fl:Fl) (ρ':En) (r:R C md A W ρ σ H0)
   (e:forM fg fb ds ρ=some (fl,ρ')) (k:EndAt C md A W σ H0 D ρ' fl):∃ W:Nat->Nat->L2.St->Hp->Prop,(∃ m,W 0 m σ H0)/\∀ i m σ H,W i m σ H ->
 (J.stop i H/\D.nx σ H)∨(J.go i H/\∃ N:L2.St->Hp->Prop,(∀ σ' H',N σ' H'->∃ m',m' < m/\W (i+1) m' σ' H')/\∀ x H',J.yld i H x H'->g x σ H' fun σ2 H2=>tb { D with nx:=N,ct:=N,bk:=D.nx } σ2 H2):=by
 refine ⟨fun i m σ1 H1=>m=ds.length - i/\i<=ds.length/\FmI C md A W H0 σ fg fb fl ρ' (ds.drop i) σ1 H1,
   ⟨ds.length,by simp,Z30 _,A,W,ρ,Gr.refl _ _ _,r,Fix.refl _ _,by simpa using e⟩,?_⟩
 rintro i m σ1 H1 ⟨rfl,hi,A1,W1,ρ1,g1,r1,f1,e1⟩
 obtain ⟨i1,i2⟩:=it A1 W1 H1 g1 i
 by_cases hlt:i < ds.length
 · obtain ⟨go,yl⟩:=i1 ds[i] (by simp [hlt])
   rw [List.drop_eq_getElem_cons hlt] at e1
   unfold forM at e1
   simp only [Z0] at e1
   obtain ⟨ρ2,e2,⟨fl3,ρ3⟩,e3,e4⟩:=e1
   refine .inr ⟨go,FmI C md A W H0 σ fg fb fl ρ' (ds.drop (i+1)),?_,?_⟩
   · intro σ' H' h
     exact ⟨ds.length - (i+1),by omega,rfl,hlt,h⟩
   · intro x H'' y
     obtain ⟨sm,px⟩:=yl x H'' y
     replace px:=r1.freshP px
     replace g1:Gr A W H0 A1 W1 H'':=g1.trans r.wa (fun _ _=>trivial) (Gr.ofExt (Same.ext sm))
     replace r1:=r1.same sm
     refine hg A1 W1 ρ1 σ1 _ x ds[i] ρ2 _ r1 px e2 fun σ2 H2 x2 r2 f2=>?_
     refine hb A1 W1 ρ2 σ2 H2 _ fl3 ρ3 r2 e3 ?_
     have gg:∀ {A3 W3:Addr->Prop} {H3:Hp} {ρ3:En} {σ3:L2.St},Gr A1 W1 H2 A3 W3 H3->R C md A3 W3 ρ3 σ3 H3->Gr A W H0 A3 W3 H3:=fun g3 r3=>by
       have ga:Gr A1 W1 _ _ _ _:=(Gr.ofExt x2).trans r1.wa (fun _ _=>trivial) g3
       exact g1.trans r.wa (fun _ _=>trivial) ga
     cases fl3 with
     | nx=>exact fun A3 W3 σ3 H3 g3 r3 f3=>⟨A3,W3,ρ3,gg g3 r3,r3,(f1.trans f2).trans f3,e4⟩
     | ct=>exact fun A3 W3 σ3 H3 g3 r3 f3=>⟨A3,W3,ρ3,gg g3 r3,r3,(f1.trans f2).trans f3,e4⟩
     | brk=>cases e4; exact fun A3 W3 σ3 H3 g3 r3 f3=>k A3 W3 σ3 H3 (gg g3 r3) r3 ((f1.trans f2).trans f3)
     | ret s=>cases e4; exact fun A3 W3 σ3 v H3 g3 r3 f3 z=>k A3 W3 σ3 v H3 (gg g3 r3) r3 ((f1.trans f2).trans f3) z
 · have e0:i=ds.length:=by omega
   subst e0
   rw [List.drop_length] at e1
   cases e1
   exact .inl ⟨i2 (Z10 _),k A1 W1 σ1 H1 g1 r1 f1⟩
theorem ls_for {wi:TI} {g:TG} {tb:TS} {fi:MI} {fg:MG} {fb:MS} (hi:LI C md none wi fi) (hg:LG C md (held md) g fg) (hb:LS C md tb fb):LS C md (tFor wi g tb) (mFor fi fg fb):=by
 intro A W ρ σ H D fl ρ' r e k
 unfold mFor at e
 simp only [Z0] at e
 obtain ⟨⟨ds,ρ1⟩,e1,e2⟩:=e
 refine hi A W ρ σ H _ ds ρ1 r e1 fun J H1 x1 r1 it=>?_
 exact for_run hg hb (it W (fun _ h=>h) (fun _ _ _ z=>by cases z)) ρ1 σ D fl ρ' r1 e2 (EndAt.then r (Gr.ofExt x1) r1 (Fix.refl _ _) k)
inductive WhI (C:Cn) (md:List Md) (A W:Addr->Prop) (H0:Hp) (σ:L2.St) (fc:MT) (fb:MS) (fl:Fl) (ρ':En) (m:Nat) (σ1:L2.St) (H1:Hp):Prop
 | mk:∀ A1 W1 ρ1,Gr A W H0 A1 W1 H1->R C md A1 W1 ρ1 σ1 H1->Fix (held md) σ σ1->whM fc fb m ρ1=some (fl,ρ')->WhI C md A W H0 σ fc fb fl ρ' m σ1 H1
theorem ls_while {c:TT} {tb:TS} {fc:MT} {fb:MS} (n:Nat) (hc:LT C md c fc) (hb:LS C md tb fb):LS C md (tWhile c tb) (mWhile n fc fb):=by
 intro A W ρ σ H D fl ρ' r e k
 unfold mWhile at e
 refine ⟨WhI C md A W H σ fc fb fl ρ',⟨n,A,W,ρ,Gr.refl _ _ _,r,Fix.refl _ _,e⟩,?_⟩
 rintro m σ1 H1 ⟨A1,W1,ρ1,g1,r1,f1,e1⟩
 cases m with
 | zero=>cases e1
 | succ m=>
   unfold whM at e1
   simp only [Z0] at e1
   obtain ⟨⟨b,ρ2⟩,e2,e3⟩:=e1
   refine hc A1 W1 ρ1 σ1 H1 _ b ρ2 r1 e2 fun H2 x2 r2=>?_
   have gg:∀ {A3 W3:Addr->Prop} {H3:Hp} {ρ3:En} {σ3:L2.St},Gr A1 W1 H2 A3 W3 H3->R C md A3 W3 ρ3 σ3 H3->Gr A W H A3 W3 H3:=fun g3 r3=>by
     have ga:Gr A1 W1 _ _ _ _:=(Gr.ofExt x2).trans r1.wa (fun _ _=>trivial) g3
     exact g1.trans r.wa (fun _ _=>trivial) ga
   cases b with
   | false=>
     simp only [Z47,if_false] at e3
     cases e3
     exact iteF (k A1 W1 σ1 H2 (gg (Gr.refl _ _ _) r2) r2 f1)
   | true=>
     simp only [if_true,Z0] at e3
     obtain ⟨⟨fl3,ρ3⟩,e4,e5⟩:=e3
     refine iteT ⟨WhI C md A W H σ fc fb fl ρ' m,?_,?_⟩
     · rintro σ' H' h
       exact ⟨m,Nat.lt_succ_self m,h⟩
     · refine hb A1 W1 ρ2 σ1 H2 _ fl3 ρ3 r2 e4 ?_
       cases fl3 with
       | nx=>exact fun A3 W3 σ3 H3 g3 r3 f3=>⟨A3,W3,ρ3,gg g3 r3,r3,f1.trans f3,e5⟩
       | ct=>exact fun A3 W3 σ3 H3 g3 r3 f3=>⟨A3,W3,ρ3,gg g3 r3,r3,f1.trans f3,e5⟩
       | brk=>cases e5; exact fun A3 W3 σ3 H3 g3 r3 f3=>k A3 W3 σ3 H3 (gg g3 r3) r3 (f1.trans f3)
       | ret s=>cases e5; exact fun A3 W3 σ3 v H3 g3 r3 f3 z=>k A3 W3 σ3 v H3 (gg g3 r3) r3 (f1.trans f3) z
theorem mode_set_eq:∀ {md:List Md} {j:Nat} {m:Md},mode md j ≠ .pl->mode (md.set j m) j=m
 | [],j,m,h=>absurd rfl h
 | x::r,0,m,h=>rfl
 | x::r,j+1,m,h=>mode_set_eq (md:=r) h
theorem mode_set_ne:∀ {md:List Md} {j i:Nat} {m:Md},j ≠ i->mode (md.set j m) i=mode md i
 | [],j,i,m,h=>rfl
 | x::r,0,0,m,h=>absurd rfl h
 | x::r,0,i+1,m,h=>rfl
 | x::r,j+1,0,m,h=>rfl
 | x::r,j+1,i+1,m,h=>mode_set_ne (md:=r) fun z=>h (by rw [z])
theorem R.lock {A W:Addr->Prop} {ρ:En} {σ:L2.St} {H:Hp} (r:R C md A W ρ σ H) {j:Nat} (hm:mode md j=.ow) {s:S} {a:Addr} (e:look ρ j=some s) (is:isM s=true) (ev:σ[j]?=some (some (.ref a))):R C (md.set j .lk) A (fun b=>W b/\b ≠ a) ρ σ H where
 len:=r.len
 wa:=fun b h=>r.wa b h.1
 ak:=r.ak
 base:=r.base
 wf:=fun b h=>r.wf b h.1
 ma:=r.ma
 fo:=r.fo
 slot:=fun i t ei=>by
   obtain ⟨v,ev',c⟩:=r.slot i t ei
   refine ⟨v,ev',?_⟩
   by_cases hij:j=i
   · subst hij
     rw [mode_set_eq (by rw [hm]; simp)]
     rw [hm] at c
     rw [e] at ei; cases ei
     rw [ev] at ev'; cases ev'
     exact Cell.okMono c (fun b _ z _ w=>w.2 (by cases z; rfl)) (fun _ h=>h)
   · rw [mode_set_ne hij]
     have na:∀ b,mode md i ≠ .pl->isM t=true->v=.ref b->b ≠ a:=fun b mi it z y=>by
       subst z; subst y
       exact r.inj j i s t b hij (by rw [hm]; simp) mi e ei is it ev ev'
     cases em:mode md i with
     | pl=>
       rw [em] at c
       cases t with
       | d x=>
         exact c
       | scr ns=>
         exact c
       | dc kvs=>
         exact c
       | _=>cases c
     | ow=>rw [em] at c; exact Cell.okMono c (fun b it z o=>⟨⟨o.1,na b (by rw [em]; simp) it z⟩,o.2⟩) (fun _ h=>h)
     | lk=>rw [em] at c; exact Cell.okMono c (fun b it z o w=>o w.1) (fun _ h=>h)
     | io=>rw [em] at c; exact Cell.okMono c (fun b it z o=>⟨⟨o.1,na b (by rw [em]; simp) it z⟩,o.2⟩) (fun _ h=>h)
 inj:=fun i k s s' b hne m1 m2 e1 e2 i1 i2 l1 l2=>by
   have f:∀ i,mode (md.set j .lk) i ≠ .pl->mode md i ≠ .pl:=fun i h=>by
     by_cases hij:j=i
     · subst hij; rw [hm]; simp
     · rw [mode_set_ne hij] at h; exact h
   exact r.inj i k s s' b hne (f i m1) (f k m2) e1 e2 i1 i2 l1 l2
theorem R.unlock {A W:Addr->Prop} {ρ:En} {σ:L2.St} {H:Hp} {j:Nat} (r:R C (md.set j .lk) A W ρ σ H) (hm:mode md j=.ow) {s:S} {a:Addr} (e:look ρ j=some s) (is:isM s=true) (ev:σ[j]?=some (some (.ref a))) (h0:C.H0 a=none) :
   R C md A (fun b=>W b∨b=a) ρ σ H where
 len:=r.len
 wa:=fun b h=>by
   rcases h with h | h
   · exact r.wa b h
   · obtain ⟨v,ev',c⟩:=r.slot j s e
     rw [ev] at ev'; cases ev'
     rw [mode_set_eq (by rw [hm]; simp)] at c
     rw [h]; exact (Cell.at is c).2.1
 ak:=r.ak
 base:=r.base
 wf:=fun b h=>by
   rcases h with h | h
   · exact r.wf b h
   · rw [h]; exact .inl h0
 ma:=r.ma
 fo:=r.fo
 slot:=fun i t ei=>by
   obtain ⟨v,ev',c⟩:=r.slot i t ei
   refine ⟨v,ev',?_⟩
   by_cases hij:j=i
   · subst hij
     rw [mode_set_eq (by rw [hm]; simp)] at c
     rw [hm]
     rw [e] at ei; cases ei
     rw [ev] at ev'; cases ev'
     exact Cell.okMono c (fun b _ z _=>by cases z; exact ⟨.inr rfl,h0⟩) (fun _ h=>h)
   · rw [mode_set_ne hij] at c
     have na:∀ b,mode md i ≠ .pl->isM t=true->v=.ref b->b ≠ a:=fun b mi it z y=>by
       subst z; subst y
       exact r.inj j i s t b hij (by rw [mode_set_eq (by rw [hm]; simp)]; simp) (by rw [mode_set_ne hij]; exact mi) e ei is it ev ev'
     cases em:mode md i with
     | pl=>
       rw [em] at c
       cases t with
       | d x=>
         exact c
       | scr ns=>
         exact c
       | dc kvs=>
         exact c
       | _=>cases c
     | ow=>rw [em] at c; exact Cell.okMono c (fun b it z o=>⟨.inl o.1,o.2⟩) (fun _ h=>h)
     | lk=>rw [em] at c; exact Cell.okMono c (fun b it z o w=>by rcases w with w | w; exact o w; exact na b (by rw [em]; simp) it z w) (fun _ h=>h)
     | io=>rw [em] at c; exact Cell.okMono c (fun b it z o=>⟨.inl o.1,o.2⟩) (fun _ h=>h)
 inj:=fun i k s s' b hne m1 m2 e1 e2 i1 i2 l1 l2=>by
   have f:∀ i,mode md i ≠ .pl->mode (md.set j .lk) i ≠ .pl:=fun i h=>by
     by_cases hij:j=i
     · subst hij; rw [mode_set_eq h]; simp
     · rw [mode_set_ne hij]; exact h
   exact r.inj i k s s' b hne (f i m1) (f k m2) e1 e2 i1 i2 l1 l2
theorem ls_forL {j:Nat} {g:TG} {tb:TS} {fg:MG} {fb:MS} (hm:mode md j=.ow) (hg:LG C (md.set j .lk) (held (md.set j .lk)) g fg) (hb:LS C (md.set j .lk) tb fb):LS C md (tFor (iSeq C.K (tVar j)) g tb) (mForL j fg fb):=by
 intro A W ρ σ H D fl ρ' r e k
 unfold mForL at e
 simp only [Z0] at e
 obtain ⟨l,e0,⟨fl1,ρ1⟩,e1,l',e2,e3⟩:=e
 cases e3
 have e0:=lstS_some e0
 have e2:=lstS_some e2
 obtain ⟨w,ew,c⟩:=r.slot j _ e0
 rw [hm] at c
 obtain ⟨a,xs,rfl,h1,h2,h3,h4⟩:=c
 have r1:=r.lock hm e0 rfl ew
 refine ⟨_,ew,.inl ⟨⟨xs,.inl (.inl h1)⟩,?_⟩⟩
 refine for_run hg hb (it_list r (W2:=fun b=>W b/\b ≠ a) (fun b h=>h.1) h1 (fun z=>z.2 rfl) h4) ρ σ D _ _ r1 e1 ?_
 have hj:held (md.set j .lk) j:=.inl (mode_set_eq (by rw [hm]; simp))
 have hf:∀ σ',Fix (held (md.set j .lk)) σ σ'->Fix (held md) σ σ':=fun σ' f i hi=>f i (by
   have:j ≠ i:=fun z=>by subst z; rcases hi with hi | hi <;> (rw [hm] at hi; cases hi)
   unfold held
   rw [mode_set_ne this]
   exact hi)
 have hgr:∀ {A' W':Addr->Prop} {H':Hp},Gr A (fun b=>W b/\b ≠ a) H A' W' H'->Gr A W H A' (fun b=>W' b∨b=a) H':=fun g=>⟨g.an,fun b h=>by
   rcases h with h | h
   · exact (g.wn b h).imp (fun z=>z.1) id
   · rw [h]; exact .inl h3.1,g.ext.mono fun b h=>h.1⟩
 cases fl with
 | nx=>exact fun A' W' σ' H' g' r' f'=>k A' _ σ' H' (hgr g') (r'.unlock hm e2 rfl (by rw [f' j hj]; exact ew) h3.2) (hf σ' f')
 | brk=>exact fun A' W' σ' H' g' r' f'=>k A' _ σ' H' (hgr g') (r'.unlock hm e2 rfl (by rw [f' j hj]; exact ew) h3.2) (hf σ' f')
 | ct=>exact fun A' W' σ' H' g' r' f'=>k A' _ σ' H' (hgr g') (r'.unlock hm e2 rfl (by rw [f' j hj]; exact ew) h3.2) (hf σ' f')
 | ret s=>exact fun A' W' σ' v H' g' r' f' z=>k A' _ σ' v H' (hgr g') (r'.unlock hm e2 rfl (by rw [f' j hj]; exact ew) h3.2) (hf σ' f') z
end
noncomputable def entry (n:Nat) (ss:List S):En:=ss.map some++List.replicate (n - ss.length) none
noncomputable def retOf:Option (Fl × En)->Option S
 | some (.ret s,_)=>some s
 | some (.nx,_)=>some (.d .non)
 | _=>none
noncomputable def mFn (n np:Nat) (mb:MS) (ss:List S):Option S:=if ss.length=np then retOf (mb (entry n ss)) else none
noncomputable def retM:Option (Fl × En)->Option (S × S)
 | some (.ret s,ρ)=>((look ρ 0).bind okIo).map fun s0=>(s,s0)
 | some (.nx,ρ)=>((look ρ 0).bind okIo).map fun s0=>(.d .non,s0)
 | _=>none
noncomputable def mFnM (n np:Nat) (mb:MS) (ss:List S):Option (S × S):=if ss.length=np then retM (mb (entry n ss)) else none
theorem look_entry:∀ {ss:List S} {k i:Nat},look (ss.map some++List.replicate k none) i=ss[i]?
 | [],0,i=>by simp [look]
 | [],k+1,i=>by
   rw [List.map_nil,List.nil_append]
   have:=look_rep (nt:=k+1) (k:=i) (l:=[])
   rw [Z35] at this
   rw [this]
   split <;> simp [look]
 | s::r,k,0=>by simp [look]
 | s::r,k,i+1=>by
   simp only [Z6,Z51,look,List.getElem?_cons_succ]
   exact look_entry
theorem SL.length {K:PySem.W.Frag} {H:Hp} {ok:Addr->Prop}:∀ {ss:List S} {vs:List V},SL K H ok ss vs->vs.length=ss.length
 | [],vs,h=>by rw [show vs=[] from h]; rfl
 | s::ss,vs,h=>by
   obtain ⟨v,r,rfl,_,h2⟩:=h
   simp [SL.length h2]
theorem SL.get {K:PySem.W.Frag} {H:Hp} {ok:Addr->Prop}:∀ {ss:List S} {vs:List V} {i:Nat} {s:S},SL K H ok ss vs->ss[i]?=some s->∃ v,vs[i]?=some v/\SRep K H ok s v
 | [],vs,i,s,h,e=>by simp at e
 | s'::ss,vs,0,s,h,e=>by
   obtain ⟨v,r,rfl,h1,_⟩:=h
   simp at e; subst e
   exact ⟨v,rfl,h1⟩
 | s'::ss,vs,i+1,s,h,e=>by
   obtain ⟨v,r,rfl,_,h2⟩:=h
   simp at e
   obtain ⟨w,e1,h3⟩:=SL.get h2 e
   exact ⟨w,by simpa using e1,h3⟩
theorem start_get {N:List Str} {vs:List V} {i:Nat} {v:V} (h:vs[i]?=some v):(L2.start N vs)[i]?=some (some v):=by
 unfold L2.start
 obtain ⟨hl,_⟩:=Z9.mp h
 rw [List.getElem?_append_left (by simpa using hl),Z21,h]
 rfl
theorem R.start {K:PySem.W.Frag} {md:List Md} {N:List Str} {ss:List S} {vs:List V} {H:Hp} (h:SL K H (fun _=>True) ss vs) (hN:ss.length<=N.length) (hmd:∀ i,i < ss.length->mode md i=.pl) :
   R ⟨K,H,fun _=>False,fun _=>False,false⟩ md (fun _=>False) (fun _=>False) (entry N.length ss) (L2.start N vs) H where
 len:=by simp [L2.start,entry,h.length]
 wa:=fun _ h=>h
 ak:=fun _ h=>h.elim
 base:=fun _ _ h _=>h
 wf:=fun _ h=>h.elim
 ma:=fun _ h=>h
 fo:=fun h=>by cases h
 slot:=fun i s e=>by
   unfold entry at e
   rw [look_entry] at e
   obtain ⟨v,ev,c⟩:=h.get e
   refine ⟨v,start_get ev,?_⟩
   rw [hmd i (Z9.mp e).1]
   cases s with
   | d x=>
     exact RepP.mono c fun _ _ _ _ z=>z
   | scr ns=>
     exact c
   | dc kvs=>
     obtain ⟨a,ws,z,c1,c2,c3,c4⟩:=c; exact ⟨a,ws,z,c1,fun z=>z,c3,RepPL.mono c4 fun _ _ _ _ z=>z⟩
   | _=>cases c
 inj:=fun i j s s' a hne m1 m2 e1 e2 i1 i2 l1 l2=>by
   unfold entry at e1
   rw [look_entry] at e1
   exact m1 (hmd i (Z9.mp e1).1)
section
variable {P:Program} {w:World} {K:PySem.W.Frag} {mg:Str->Option Value} {base:Heap}
theorem retOf_some {o:Option (Fl × En)} {r:S} (h:retOf o=some r):(∃ ρ,o=some (.ret r,ρ))∨∃ ρ,o=some (.nx,ρ)/\r=.d .non:=by
 match o,h with
 | some (.ret s,ρ),h=>cases h; exact .inl ⟨ρ,rfl⟩
 | some (.nx,ρ),h=>cases h; exact .inr ⟨ρ,rfl,rfl⟩
theorem fn_pure {x qual:Str} {st:Stmt} {f:Addr} {fd:FuncData} {N ps:List Str} {k:Nat} {md:List Md} {mb:MS} (F:Fun K x qual st f fd) (S0:FnScope N ps (defScope st)) (hp:ps.length<=N.length) (hmd:∀ i,i < ps.length->mode md i=.pl)
   (hb:∀ (cdv:Value) (A:Around) (outer:List Env) (s:Shared) (H:Hp) (E:XK),Room k (A.deeper (envOfC qual (defScope st) s.heap.objs.size f cdv)) ->
     ∃ t,PSs (cxOf CX0 P w K mg base N qual (defScope st) f cdv A outer s H E).nox (defBody st) t/\∀ C:Cn,C.K=K->LS C md t mb) :
   FnOk P w K mg base CX0 (k+1) f fd ps (spP K (mFn N.length ps.length mb)):=by
 refine F.ok S0 (fun vs H Q E h=>?_) (fun cdv A outer s H vs Q E hr h=>?_)
 · obtain ⟨ss,r,h1,h2,_⟩:=h
   unfold mFn at h2
   split at h2
   · rw [h1.length]; assumption
   · cases h2
 · obtain ⟨ss,r,h1,h2,q⟩:=h
   obtain ⟨t,ht,hl⟩:=hb cdv A outer s H E hr
   refine ⟨t,ht,?_⟩
   unfold mFn at h2
   split at h2
   · rename_i hlen
     have R0:=R.start (N:=N) (md:=md) h1 (by exact Z24 (Nat.le_of_eq hlen) hp) (fun i hi=>hmd i (by exact Z15 hi (Nat.le_of_eq hlen)))
     have same:∀ {A' W':Addr->Prop} {ρ':En} {σ':L2.St} {H':Hp},R ⟨K,H,fun _=>False,fun _=>False,false⟩ md A' W' ρ' σ' H'->Same H H':=fun r b o e=>r.base b o e (fun z=>z)
     rcases retOf_some h2 with ⟨ρ',e⟩ | ⟨ρ',e,rfl⟩
     · exact hl ⟨K,H,fun _=>False,fun _=>False,false⟩ rfl _ _ _ _ _ _ _ ρ' R0 e fun A' W' σ' v H' g r' f' z=>q v H' (same r') (by rcases z with z | z; exact z; cases z.1)
     · exact hl ⟨K,H,fun _=>False,fun _=>False,false⟩ rfl _ _ _ _ _ _ _ ρ' R0 e fun A' W' σ' H' g r' f'=>q .non H' (same r') (show RepP _ _ _ _ _ from repP_non)
   · cases h2
noncomputable def immT:S->Bool
 | .d x=>D.imm x
 | _=>false
theorem R.startM {md:List Md} {N:List Str} {s0:S} {ss:List S} {vs:List V} {H:Hp} {p q:Addr} (fr:Bool) (hfr:fr=true->∀ s ∈ ss,immT s=true) (io:IoAt K H p q s0) (h:SL K H (fun a=>a ≠ p) ss vs) (hN:ss.length+1<=N.length) (hm0:mode md 0=.io) (hmd:∀ i,i < ss.length->mode md (i+1)=.pl) :
   R ⟨K,H,fun a=>a=p,fun a=>a=q,fr⟩ md (fun a=>a=p∨(fr=true/\a ≠ q/\∃ xs,H a=some (.lst xs))) (fun a=>a=p) (entry N.length (s0::ss)) (L2.start N (.ref p::vs)) H where
 len:=by simp [L2.start,entry,h.length]
 wa:=fun _ h=>.inl h
 ak:=fun a e=>by
   rcases e with e | ⟨_,_,e⟩
   · cases s0 with
     | pot ns i r m=>
       exact .inl ⟨_,(congrArg H e).trans io.2.1⟩
     | d y17=>
       cases y17 with
       | lst l=>
         obtain ⟨_,xs,z,_⟩:=io; exact .inl ⟨xs,(congrArg H e).trans z⟩
       | _=>first | (cases io; done) | (cases e3'; done) | (cases e2; done) | (cases e6; done) | contradiction
     | _=>first | (cases io; done) | (cases e3'; done) | (cases e2; done) | (cases e6; done) | contradiction
   · exact .inl e
 base:=fun _ _ h _=>h
 wf:=fun _ h=>.inr h
 ma:=fun _ h=>.inl h
 fo:=fun hf a xs h n=>.inr ⟨hf,n,xs,h⟩
 slot:=fun i s e=>by
   unfold entry at e
   rw [look_entry] at e
   match i,e with
   | 0,e=>
     simp at e; subst e
     refine ⟨.ref p,start_get rfl,?_⟩
     rw [hm0]
     cases s0 with
     | pot ns i r m=>
       refine ⟨p,q,rfl,io.2.1,io.2.2,.inl rfl,⟨rfl,rfl⟩,fun z=>?_,rfl⟩
       rcases z with z | ⟨_,z,_⟩
       · exact io.1 z
       · exact z rfl
     | d y18=>
       cases y18 with
       | lst l=>
         obtain ⟨im,xs,z,z2⟩:=io
         exact ⟨p,xs,rfl,z,.inl rfl,⟨rfl,rfl⟩,RepPL.ofImm im z2⟩
       | _=>first | (cases io; done) | (cases e3'; done) | (cases e2; done) | (cases e6; done) | contradiction
     | _=>first | (cases io; done) | (cases e3'; done) | (cases e2; done) | (cases e6; done) | contradiction
   | i+1,e=>
     simp at e
     obtain ⟨v,ev,c⟩:=h.get e
     refine ⟨v,start_get (by simpa using ev),?_⟩
     rw [hmd i (Z9.mp e).1]
     have hmem:s ∈ ss:=List.mem_of_getElem? e
     cases s with
     | d x=>
       cases fr with
       | true=>exact RepP.ofImm (hfr rfl _ hmem) (RepP.rep c)
       | false=>exact RepP.mono c fun a _ o _ z=>by rcases z with z | z; exact o z; cases z.1
     | scr ns=>
       exact c
     | dc kvs=>
       obtain ⟨b,ws,z,c1,c2,c3,c4⟩:=c
       cases fr with
       | true=>
         have hi:=hfr rfl _ hmem
         cases hi
       | false=>
         refine ⟨b,ws,z,c1,fun y=>?_,c3,RepPL.mono c4 fun a _ o _ z=>?_⟩
         · rcases y with y | y
           · exact c2 y
           · cases y.1
         · rcases z with z | z
           · exact o z
           · cases z.1
     | _=>first | (cases hmem; done) | (cases c; done) | (cases e3'; done) | (cases e2; done) | (cases e6; done) | contradiction
 inj:=fun i j s s' a hne m1 m2 e1 e2 i1 i2 l1 l2=>by
   unfold entry at e1 e2
   rw [look_entry] at e1 e2
   have z:∀ i s,(s0::ss)[i]?=some s->mode md i ≠ .pl->i=0:=fun i s e m=>by
     match i,e with
     | 0,_=>rfl
     | i+1,e=>exact absurd (hmd i (Z9.mp (by simpa using e)).1) m
   exact hne ((z i s e1 m1).trans (z j s' e2 m2).symm)
theorem retM_some {o:Option (Fl × En)} {y:S × S} (h:retM o=some y):∃ ρ,look ρ 0=some y.2/\okIo y.2=some y.2/\((o=some (.ret y.1,ρ))∨(o=some (.nx,ρ)/\y.1=.d .non)):=by
 match o,h with
 | some (.ret s,ρ),h=>
   replace h:((look ρ 0).bind okIo).map (fun s0=>(s,s0))=some y:=h
   simp only [Option.map_eq_some_iff,Z0] at h
   obtain ⟨s0,⟨s1,e1,e2⟩,rfl⟩:=h
   obtain ⟨rfl,_⟩:=okIo_some e2
   exact ⟨ρ,e1,e2,.inl rfl⟩
 | some (.nx,ρ),h=>
   replace h:((look ρ 0).bind okIo).map (fun s0=>((.d .non:S),s0))=some y:=h
   simp only [Option.map_eq_some_iff,Z0] at h
   obtain ⟨s0,⟨s1,e1,e2⟩,rfl⟩:=h
   obtain ⟨rfl,_⟩:=okIo_some e2
   exact ⟨ρ,e1,e2,.inr ⟨rfl,rfl⟩⟩
noncomputable def mFnF (fr:Bool) (n np:Nat) (mb:MS) (ss:List S):Option (S × S):=if fr=true/\(ss.tail.all immT=false∨(ss.head?.map isPot).getD false=false) then none else mFnM n np mb ss
theorem fn_io {x qual:Str} {st:Stmt} {f:Addr} {fd:FuncData} {N ps:List Str} {k:Nat} {md:List Md} {mb:MS} (fr:Bool) (F:Fun K x qual st f fd) (S0:FnScope N ps (defScope st)) (hp:ps.length<=N.length) (hm0:mode md 0=.io) (hmd:∀ i,i+1 < ps.length->mode md (i+1)=.pl)
   (hb:∀ (cdv:Value) (A:Around) (outer:List Env) (s:Shared) (H:Hp) (E:XK),Room k (A.deeper (envOfC qual (defScope st) s.heap.objs.size f cdv)) ->
     ∃ t,PSs (cxOf CX0 P w K mg base N qual (defScope st) f cdv A outer s H E).nox (defBody st) t/\∀ C:Cn,C.K=K->C.free=fr->LS C md t mb) :
   FnOk P w K mg base CX0 (k+1) f fd ps (spM K (mFnF fr N.length ps.length mb)):=by
 refine F.ok S0 (fun vs H Q E h=>?_) (fun cdv A outer s H vs Q E hr h=>?_)
 · obtain ⟨p,q,s0,ss,vs',r,s1,rfl,io,h1,h2,_⟩:=h
   unfold mFnF at h2
   split at h2
   · cases h2
   unfold mFnM at h2
   split at h2
   · rw [Z58,h1.length]; assumption
   · cases h2
 · obtain ⟨p,q,s0,ss,vs',r,s1,rfl,io,h1,h2,kq⟩:=h
   obtain ⟨t,ht,hl⟩:=hb cdv A outer s H E hr
   refine ⟨t,ht,?_⟩
   unfold mFnF at h2
   split at h2
   · cases h2
   rename_i hfr
   have hfr':fr=true->∀ s ∈ ss,immT s=true:=fun z s hs=>by
     have:=hfr
     have e:ss.all immT=true:=by
       cases e:ss.all immT with
       | true=>rfl
       | false=>exact absurd ⟨z,.inl e⟩ this
     exact Z50.mp e s hs
   unfold mFnM at h2
   split at h2
   · rename_i hlen
     rw [Z58] at hlen
     have R0:=R.startM (N:=N) (md:=md) fr hfr' io h1 (by exact Z24 (Nat.le_of_eq hlen) hp) hm0 (fun i hi=>hmd i (by lia))
     obtain ⟨ρ',e1,e2,e3⟩:=retM_some h2
     obtain ⟨_,is1,im1⟩:=okIo_some e2
     dsimp only at e1 e2 e3 is1 im1
     have fin:∀ {A' W':Addr->Prop} {σ':L2.St} {H':Hp},R ⟨K,H,fun a=>a=p,fun a=>a=q,fr⟩ md A' W' ρ' σ' H'->Fix (held md) (L2.start N (.ref p::vs')) σ'->But p H H'/\IoAt K H' p q s1/\(isPot s0=true∨∃ l,s1=.d (.lst l)∨isPot s0=isPot s0):=fun {A' W' σ' H'} r' f'=>by
       refine ⟨fun b o n e=>r'.base b o e n,?_,.inr ⟨[],.inr rfl⟩⟩
       obtain ⟨v,ev,c⟩:=r'.slot 0 _ e1
       rw [f' 0 (.inr hm0),start_get (i:=0) (v:=.ref p) rfl] at ev
       cases ev
       rw [hm0] at c
       cases s1 with
       | pot ns i r m=>
         obtain ⟨p',q',z,g1,g2,g3,g4,g5,g6⟩:=c
         cases z
         have:q'=q:=g6
         subst this
         exact ⟨fun z=>g5 (by rw [z]; exact g3),g1,g2⟩
       | d y19=>
         cases y19 with
         | lst l=>
           obtain ⟨a,xs,z,g1,g2,g3,g4⟩:=c
           cases z
           exact ⟨im1 l rfl,xs,g1,g4.repL⟩
         | _=>first | (cases c; done) | (cases im1; done) | (cases is1; done) | (cases e3'; done) | (cases e2; done) | (cases e6; done) | contradiction
       | _=>first | (cases c; done) | (cases im1; done) | (cases is1; done) | (cases e3'; done) | (cases e2; done) | (cases e6; done) | contradiction
     have newm:∀ {H':Hp} {v:V},RetAt ⟨K,H,fun a=>a=p,fun a=>a=q,fr⟩ H' r v->(isPot s0=true∨fr=false)->NewM K H H' q s0 r v:=fun z hs=>by
       rcases z with z | ⟨zf,x,e,z⟩
       · exact .inl z
       · rcases hs with hs | hs
         · exact .inr ⟨hs,x,e,z⟩
         · rw [show fr=true from zf] at hs; cases hs
     have hs:isPot s0=true∨fr=false:=by
       cases hfq:fr with
       | false=>exact .inr rfl
       | true=>
         cases s0 with
         | pot y20 y21 y22 y23=>
           exact .inl rfl
         | d y24=>
           cases y24 with
           | lst l=>
             exact absurd ⟨hfq,.inr rfl⟩ hfr
           | _=>first | (cases io; done) | (cases e3'; done) | (cases e2; done) | (cases e6; done) | contradiction
         | _=>first | (cases io; done) | (cases e3'; done) | (cases e2; done) | (cases e6; done) | contradiction
     rcases e3 with e3 | ⟨e3,rfl⟩
     · exact hl ⟨K,H,fun a=>a=p,fun a=>a=q,fr⟩ rfl rfl _ _ _ _ _ _ _ ρ' R0 e3 fun A' W' σ' v H' g r' f' z=>kq v H' (fin r' f').1 (fin r' f').2.1 (newm z hs)
     · exact hl ⟨K,H,fun a=>a=p,fun a=>a=q,fr⟩ rfl rfl _ _ _ _ _ _ _ ρ' R0 e3 fun A' W' σ' H' g r' f'=>kq .non H' (fin r' f').1 (fin r' f').2.1 (.inl (show RepP _ _ _ _ _ from repP_non))
   · cases h2
noncomputable def spLawM (K:PySem.W.Frag):Sp:=fun vs H Q _=>∃ (a:Addr) (ns:List Int),vs=[.ref a]/\ScrAt K H a ns/\ns.length<=63/\∀ H',Q (.bl true) H'
theorem fn_law {x qual:Str} {st:Stmt} {f:Addr} {fd:FuncData} {N:List Str} {k:Nat} {md:List Md} {mb:MS} (F:Fun K x qual st f fd) (S0:FnScope N ["script"] (defScope st)) (hmd:mode md 0=.pl)
   (ok:∀ ns:List Int,ns.length<=63->mFn N.length 1 mb [.scr ns]=some (.d (.bl true)))
   (hb:∀ (cdv:Value) (A:Around) (outer:List Env) (s:Shared) (H:Hp) (E:XK),Room k (A.deeper (envOfC qual (defScope st) s.heap.objs.size f cdv)) ->
     ∃ t,PSs (cxOf CX0 P w K mg base N qual (defScope st) f cdv A outer s H E).nox (defBody st) t/\∀ C:Cn,C.K=K->LS C md t mb) (hN:1<=N.length:=by decide) :
   FnOk P w K mg base CX0 (k+1) f fd ["script"] (spLawM K):=by
 refine (fn_pure F S0 hN (fun i hi=>by have:i=0:=(by simpa using hi); rw [this]; exact hmd) hb).imp fun vs H Q E h=>?_
 obtain ⟨a,ns,rfl,h1,h2,h3⟩:=h
 refine ⟨[.scr ns],_,⟨_,[],rfl,⟨a,rfl,h1⟩,rfl⟩,ok ns h2,fun v H' _ n=>?_⟩
 have:RepP K H' (fun a=>H a=none) (.bl true) v:=n
 rw [RepP] at this
 subst this
 exact h3 H'
noncomputable def scrS:Option S->Option (List Int)
 | some (.scr ns)=>some ns
 | _=>none
theorem scrS_some {o:Option S} {ns:List Int} (h:scrS o=some ns):o=some (.scr ns):=by
 cases o with
 | some y25=>
   cases y25 with
   | scr m=>
     cases h; rfl
   | _=>cases h
 | _=>cases h
noncomputable def absI (c:Int):Int:=if c < 0 then -c else c
noncomputable def drawP (ns:List Int) (i r m n:Int):Int × Int × Int:=
 if r=0 then
   if (ns.length:Int)<=i then
     ((((m+1000003 * (i+1)+76543) * 48271 % 2147483647 * ((m+1000003 * (i+1)+76543) * 48271 % 2147483647) % 2147483647+40692 * (i+1)) * 69621 % 2147483629 / 8) % n,i+1,r)
   else if absI (ns.getD i.toNat 0) < 10 ^ 18 then (ns.getD i.toNat 0 % n,i+1,r)
   else (absI (ns.getD i.toNat 0) % n,i+1,absI (ns.getD i.toNat 0) / n)
 else (r % n,i,r / n)
noncomputable def mDraw:List S->Option (S × S)
 | [.pot ns i r m,.d (.int n)]=>if 0 < n/\n.natAbs.log2 < 9000/\0<=i then some (.d (.int (drawP ns i r m n).1),.pot ns (drawP ns i r m n).2.1 (drawP ns i r m n).2.2 m) else none
 | _=>none
end
end Mir
namespace L2
open PySem PySem.Spec PyProof.Rows
section
variable {X:Cx} {K:PySem.W.Frag}
noncomputable def repS (z:Str) (n:Int):Str:=if n < 1 then Str.empty else if (n == 1 || z.length == 0)=true then z else ⟨(List.replicate n.toNat z.cps).foldl (·++·) #[]⟩
theorem rep_size (z:Str) (n:Nat) (acc:Array Nat):((List.replicate n z.cps).foldl (·++·) acc).size=acc.size+n * z.length:=by
 induction n generalizing acc with
 | zero=>simp
 | succ n ih=>rw [Z22,List.foldl_cons,ih,Array.size_append,Nat.succ_mul]; show _=_+(_+z.cps.size); grind
noncomputable def rRepX:R2:=fun x y H Q=>∃ l k xs,x=.ref l/\y=.int k/\Rd H l (.lst xs)/\-(2 ^ 63)<=k/\k < 2 ^ 63/\xs.length * k.toNat<=sizeLine /\
 ∀ p,H p=none->Q (.ref p) (upd H p (.lst (List.replicate k.toNat xs).flatten))
theorem op_repR:OpR X (binaryOp .Mult) rRepX:=by
 intro pins s σ H x y v u Q I rx ry h
 obtain ⟨l,k,xs,rfl,rfl,hH,h1,h2,hz,q⟩:=h
 cases rx
 obtain ⟨t,rfl⟩:=ry
 obtain ⟨z,its,n,r,hl,e⟩:=I.lstR hH
 have hlen:its.toArray.size * k.toNat<=sizeLine:=by rw [Z4,<- hl]; exact hz
 have hcap:¬ its.toArray.size * k.toNat > (2 ^ 63 - 1) / 8:=by
   have:(sizeLine:Nat)<=(2 ^ 63 - 1) / 8:=by decide
   grind
 have hfit:¬ (!Builtin.List.listFitsIndex k)=true:=by
   rw [fitsIndex_both h1 h2]
   exact Z28
 have hlong:¬ Builtin.List.listTooLong (its.toArray.size * k.toNat)=true:=by
   rw [notLongL hlen]
   exact Z28
 have hnew:List.foldl (fun x1 x2=>x1++x2) #[] (List.replicate (if its.toArray.isEmpty=true then 0 else k.toNat) its.toArray)=(List.replicate k.toNat its).flatten.toArray:=by
   have f0:∀ m:Nat,List.foldl (fun x1 x2=>x1++x2) #[] (List.replicate m its.toArray)=(List.replicate m its).flatten.toArray:=fun m=>by
     have:=foldl_rep its m []
     rw [List.nil_append] at this
     exact this
   rw [f0]
   cases its with
   | nil=>simp
   | cons a r'=>rw [if_neg (by simp)]
 refine wpAny_binaryOp_repeat_ref (T:="list") (U:="int") (by decide) ⟨_,e,rfl⟩ (fun s'=>typeIs_int s' k t) noFill_list_mul F.fills_int_mul F.slot_int_rmul repeat_list F.slot_int_index.lookup
   (call_meets F.slot_int_rmul (typeIs_int s k t) F.entry_int_rmul (F.args_int_rmul_2 _ _) (int___rmul___int_list k t l its.toArray n)
     ⟨e,rfl,⟨_,e,rfl⟩,call_meets F.slot_list_mul ⟨_,e,rfl⟩ F.entry_list_mul (F.args_list_mul_2 _ _) (AutoListH.list___mul___list_int_3 l its.toArray n k t hfit hcap hlong) ⟨e,?_⟩⟩)
 rw [hnew]
 exact ⟨.ref _,_,I.lnew (t':=s.toks) (r.rep k.toNat) (by rw [len_rep,Nat.mul_comm]; exact hz),rfl,q _ I.fresh⟩
noncomputable def rMulX:R2:=fun x y H Q=>match x,y with
 | .int i,.int j=>CMul i j/\Q (.int (i * j)) H
 | .ref a,.int j=>rRepX (.ref a) (.int j) H Q
 | .str z,.int n=>(0<=n/\n<=1000/\z.length<=1000)/\Q (.str (repS z n)) H
 | _,_=>False
theorem op_mulX:OpR X (binaryOp .Mult) rMulX:=by
 intro pins s σ H x y v u Q I rx ry h
 cases x with
 | int i=>
   cases y with
   | int j=>exact op_mulA pins s σ H _ _ v u Q I rx ry h
   | _=>exact False.elim h
 | ref a=>
   cases y with
   | int j=>exact op_repR pins s σ H _ _ v u Q I rx ry h
   | _=>exact False.elim h
 | str z=>
   cases y with
   | int n=>
     obtain ⟨⟨h0,h1,h2⟩,q⟩:=h
     obtain ⟨t,rfl⟩:=rx; obtain ⟨t',rfl⟩:=ry
     have small:z.length * n.toNat<=1000000:=by
       have:n.toNat<=1000:=by lia
       calc z.length * n.toNat<=1000 * 1000:=Nat.mul_le_mul h2 this
         _=1000000:=by decide
     refine PySem.P.mul_str (by rw [decide_eq_false (by lia),decide_eq_false (by lia)]; rfl) (fun hn _=>?_) (fun _ _=>?_) ?_
     · have:(z.length:Int) * n<=2 ^ 63 - 1:=by
         have e:(z.length:Int) * n=((z.length * n.toNat:Nat):Int):=by rw [Int.natCast_mul,Int.toNat_of_nonneg h0]
         rw [e]; lia
       intro hgt
       have:(2 ^ 63 - 1) / n * n<=2 ^ 63 - 1:=Int.ediv_mul_le _ (by lia)
       have:(z.length:Int)<=(2 ^ 63 - 1) / n:=by
         rw [Int.le_ediv_iff_mul_le (by grind)]; assumption
       lia
     · show decide (z.length * n.toNat > sizeLine)=false
       rw [decide_eq_false]
       have:(1000000:Nat) < sizeLine:=by decide
       lia
     · unfold repS at q
       have big:(1000000:Nat) < sizeLine:=by decide
       split
       · rename_i hn
         rw [if_pos hn] at q
         exact ⟨by decide,.str _,H,I.tok _,⟨_,rfl⟩,q⟩
       · rename_i hn
         rw [if_neg hn] at q
         split
         · rename_i h3
           rw [if_pos h3] at q
           exact ⟨.str _,H,I,⟨_,rfl⟩,q⟩
         · rename_i h3
           rw [if_neg h3] at q
           refine ⟨?_,.str _,H,I.tok _,⟨_,rfl⟩,q⟩
           show Array.size _<=_
           rw [rep_size]
           have:z.length * n.toNat=n.toNat * z.length:=Nat.mul_comm _ _
           simp
           grind
   | _=>exact False.elim h
 | _=>exact False.elim h
noncomputable def rSlX (K:PySem.W.Frag):V->Option Int->Option Int->Hp->VK->Prop:=fun x lo hi H Q=>rSlS x lo hi H Q∨rSlL K x lo hi H Q∨rSlT K x lo hi H Q
theorem sl_any (kt:KT K) (hK:X.K=K:=by rfl):SlR X (rSlX K):=by
 subst hK
 exact sl_str.or (sl_list.or sl_tup)
noncomputable def tTru (K:PySem.W.Frag) (ta:TE):TT:=fun σ H Q=>ta σ H fun x H'=>∃ k,TruV K x H' k/\Q k H'
theorem pt_tru {a:Expr} {ta:TE} (kt:KT K) (ha:PE X a ta) (he:∀ whole,isTrue a X.env whole=(do let v <- whole; standAt a.pos; holding [v] (truthy v)):=by intro _; rfl) (hK:X.K=K:=by rfl):PT X a (tTru K ta):=by
 subst hK
 exact pt_truth ha he
noncomputable def rTupX (K:PySem.W.Frag) (xs:List V) (H:Hp) (Q:VK):Prop:=rTupOf K xs H Q∨rTupS xs H Q
theorem call_tupX (kt:KT K) (hc:X.calm=true) (hK:X.K=K:=by rfl):CallR X (.type "tuple") (rTupX K):=by
 subst hK
 exact (call_tupleK ⟨⟩).or (call_tupS hc)
theorem pe_compT {tg iter elt:Expr} {ifs:List Expr} {scope:Scope} {pos:Pos} {wi:TI} {g:TG} {tt:TT} {te:TE} (ts:List Str) (hc:X.calm=true) (S:CompScope X scope ts (capIx X.N scope.names)) (hi:PI X tg iter wi)
   (hg:∀ C s2 H2 fp,PG (compCx X scope ts (capIx X.N scope.names) C s2 H2 fp) tg g) (ht:∀ C s2 H2 fp,PIf (compCx X scope ts (capIx X.N scope.names) C s2 H2 fp) ifs tt) (he:∀ C s2 H2 fp,PE (compCx X scope ts (capIx X.N scope.names) C s2 H2 fp) elt te)
   (hs:∀ x,foldedSetIterable iter X.env x=pure x:=by intro _; rfl) :
   PE X (.ListComp elt [⟨tg,iter,ifs,0⟩] scope pos) (tComp ts.length (capIx X.N scope.names) wi (lpW g tt (tEmit te))):=
 pe_compG (ts:=ts) hc S hi (plp_one hc hg ht he) hs
end
end L2
namespace Mir
open PySem PySem.Spec PyProof.Rows L2
noncomputable def mulX:D->D->Option D
 | .int i,.int j=>if CMul i j then some (.int (i * j)) else none
 | .lst l,.int k=>if -(2 ^ 63)<=k/\k < 2 ^ 63/\l.length * k.toNat<=sizeLine then some (.lst (List.replicate k.toNat l).flatten) else none
 | .str z,.int n=>if 0<=n/\n<=1000/\z.length<=1000 then some (.str (repS z n)) else none
 | _,_=>none
section
variable {K:PySem.W.Frag}
noncomputable def cutD (l:List D) (lo hi:Option Int):List D:=(l.drop (HT.sIx l.length 0 lo)).take (HT.sIx l.length l.length hi - HT.sIx l.length 0 lo)
noncomputable def slD (d:D) (lo hi:Option Int):Option D:=match d with
 | .str z=>if z.length<=sizeLine then some (.str (Txt.slice z lo hi)) else none
 | .lst l=>some (.lst (cutD l lo hi))
 | .tup l=>if HT.sIx l.length 0 lo=0/\HT.sIx l.length l.length hi=l.length then none else some (.tup (cutD l lo hi))
 | _=>none
theorem RepPL.cut {H:Hp} {ok:Addr->Prop} {l:List D} {xs:List V} {lo hi:Option Int} (r:RepPL K H ok l xs):RepPL K H ok (cutD l lo hi) (cutV xs lo hi):=by
 unfold cutD cutV
 rw [r.length]
 exact (r.drop _).take _
theorem sl_run {H:Hp} {ok:Addr->Prop} {x:V} {d u:D} {lo hi:Option Int} {Q:VK} (h:RepT K H ok d x) (g:slD d lo hi=some u) (k:∀ v H',Same H H'->RepP K H' (fun a=>ok a∨H a=none) u v->Q v H'):rSlX K x lo hi H Q:=by
 cases d with
 | str z=>
   replace g:(if z.length<=sizeLine then some (D.str (Txt.slice z lo hi)) else none)=some u:=g
   split at g
   · rename_i hz; cases g; exact .inl ⟨z,h.str_inv,hz,k _ H (Same.refl _) repP_str⟩
   · cases g
 | lst l=>
   cases g
   obtain ⟨p,xs,rfl,hp,rp⟩:=h.lst_inv
   refine .inr (.inl ⟨p,xs,rfl,.inl (.inl hp),fun t ht=>?_⟩)
   have s:=new_same (o:=.lst (cutV xs lo hi)) ht
   refine k _ _ s ?_
   rw [RepP]
   exact ⟨t,_,rfl,upd_same,.inr ht,(rp.cut.same s).mono fun _ _ o _=>.inl o⟩
 | tup l=>
   replace g:(if HT.sIx l.length 0 lo=0/\HT.sIx l.length l.length hi=l.length then none else some (D.tup (cutD l lo hi)))=some u:=g
   split at g
   · cases g
   · rename_i hw
     cases g
     obtain ⟨p,xs,rfl,hp,rp⟩:=h.tup_inv
     refine .inr (.inr ⟨p,xs,rfl,hp,by rw [rp.length]; exact hw,fun t ht=>?_⟩)
     have s:=new_same (o:=.tup (cutV xs lo hi)) ht
     refine k _ _ s ?_
     rw [RepP]
     exact ⟨t,_,rfl,upd_same,(rp.cut.same s).mono fun _ _ o _=>.inl o⟩
 | _=>cases g
noncomputable def min2D:List D->Option D
 | [.int i,.int j]=>some (.int (if j < i then j else i))
 | _=>none
theorem RepTL.two_inv {H:Hp} {ok:Addr->Prop} {d e:D} {vs:List V} (h:RepTL K H ok [d,e] vs):∃ v w,vs=[v,w]/\RepT K H ok d v/\RepT K H ok e w:=by
 obtain ⟨v,r,rfl,h1,h2⟩:=h
 obtain ⟨w,rfl,h3⟩:=h2.one_inv
 exact ⟨v,w,rfl,h1,h3⟩
theorem repPL_signs {H:Hp} {ok:Addr->Prop} (z:Str):RepPL K H ok (signsD z) (signsV z):=by
 unfold signsD signsV
 induction z.cps.toList with
 | nil=>exact .nil
 | cons c r ih=>exact .cons repP_str ih
noncomputable def listX:List D->Option D
 | [.lst l]=>some (.lst l)
 | [.tup l]=>some (.lst l)
 | [.str z]=>if z.length<=sizeLine then some (.lst (signsD z)) else none
 | _=>none
noncomputable def tupX:List D->Option D
 | [.lst l]=>some (.tup l)
 | [.tup l]=>some (.tup l)
 | [.str z]=>if z.length<=sizeLine then some (.tup (signsD z)) else none
 | _=>none
theorem cb_tupX:CbA K (rTupX K) tupX:=by
 intro H ok vs ds u Q h g k
 cases ds with
 | cons y43 y44=>
   cases y43 with
   | lst l=>
     cases y44 with
     | nil=>
       exact .inl (cb_tup H ok vs _ u Q h g k)
     | _=>cases g
   | tup l=>
     cases y44 with
     | nil=>
       exact .inl (cb_tup H ok vs _ u Q h g k)
     | _=>cases g
   | str z=>
     cases y44 with
     | nil=>
       replace g:(if z.length<=sizeLine then some (D.tup (signsD z)) else none)=some u:=g
       split at g
       · rename_i hz
         cases g
         obtain ⟨v,rfl,h1⟩:=h.one_inv
         obtain rfl:=h1.str_inv
         refine .inr ⟨z,rfl,hz,fun t ht=>?_⟩
         have s:=new_same (o:=.tup (signsV z)) ht
         refine k _ _ s ?_
         rw [RepP]
         exact ⟨t,_,rfl,upd_same,repPL_signs z⟩
       · cases g
     | _=>cases g
   | _=>cases g
 | _=>cases g
noncomputable def inX (n:Nat) (neg:Bool) (d e:D):Option D:=match d,e with
 | .str y,.str z=>match y.cps.toList with
   | [c]=>if neg=true then some (.bl (!decide (c ∈ z.cps.toList))) else none
   | _=>none
 | d,e=>inD n neg d e
end
noncomputable abbrev MO:=En->Option (Option Int × En)
section
variable {C:Cn} {md:List Md}
noncomputable def LO (C:Cn) (md:List Md) (t:TO) (f:MO):Prop:=∀ (A W:Addr->Prop) (ρ:En) (σ:L2.St) (H:Hp) (Q:Option Int->Hp->Prop) (b:Option Int) (ρ':En),R C md A W ρ σ H->f ρ=some (b,ρ') ->
 (∀ H',Ext W H H'->R C md A W ρ' σ H'->Q b H')->t σ H Q
noncomputable def moNo:MO:=fun ρ=>some (none,ρ)
noncomputable def asI:D->Option Int
 | .int i=>some i
 | _=>none
theorem asI_some {d:D} {i:Int} (h:asI d=some i):d=.int i:=by cases d <;> first | (cases h; done) | (cases h; rfl)
noncomputable def moPart (f:ME):MO:=fun ρ=>(f ρ).bind fun x=>(res x.2 x.1).bind fun d=>(asI d).bind fun i=>some (some i,x.2)
theorem lo_no:LO C md tNoPart moNo:=by
 intro A W ρ σ H Q b ρ' r e k
 cases e
 exact k H (Ext.refl _ _) r
theorem lo_part {t:TE} {f:ME} (h:LE C md t f):LO C md (tPart t) (moPart f):=by
 intro A W ρ σ H Q b ρ' r e k
 unfold moPart at e
 simp -iota only [Z0] at e
 obtain ⟨⟨o,ρ1⟩,e1,d,e2,i,e3,e4⟩:=e
 cases e4
 cases asI_some e3
 exact h A W ρ σ H _ o _ r e1 fun v H1 x1 r1 p1=>⟨i,(p1.get r1 e2).int_inv,k H1 x1 r1⟩
noncomputable def strsD:List D->Option (List Str)
 | []=>some []
 | .str i::r=>(strsD r).map (i::·)
 | _=>none
theorem strsD_map:∀ {l:List D} {ns:List Str},strsD l=some ns->l=ns.map D.str
 | [],ns,h=>by cases h; rfl
 | .str i::r,ns,h=>by
   replace h:(strsD r).map (i::·)=some ns:=h
   cases e:strsD r with
   | none=>rw [e] at h; cases h
   | some m=>rw [e] at h; cases h; simp -iota [strsD_map e]
theorem strsD_of (ns:List Str):strsD (ns.map D.str)=some ns:=by
 induction ns with
 | nil=>rfl
 | cons a r ih=>rw [Z6,strsD,ih]; rfl
theorem repPL_strs {K:PySem.W.Frag} {H:Hp} {ok:Addr->Prop}:∀ {ns:List Str} {xs:List V},RepPL K H ok (ns.map D.str) xs->xs=ns.map V.str
 | [],xs,h=>h.nil_inv
 | i::r,xs,h=>by
   obtain ⟨x,t,rfl,h1,h2⟩:=h.cons_inv
   rw [RepP] at h1
   rw [h1,repPL_strs h2]; rfl
noncomputable def joinD (z:Str):List D->Option D
 | [.lst l]=>(strsD l).bind fun ys=>if (ys.map (·.length)).sum+ys.length * z.length<=16777216 then some (.str (Txt.join z ys)) else none
 | _=>none
noncomputable def mJoin (z:Str) (f:MA):ME:=fun ρ=>(f ρ).bind fun x=>(ress x.2 x.1).bind fun ds=>(joinD z ds).bind fun u=>some (.val u,x.2)
theorem le_join {z:Str} {t:TA} {f:MA} (h:LA C md t f):LE C md (tBM C.K "str" (rJoin C.K) (tC (.str z)) t) (mJoin z f):=by
 intro A W ρ σ H Q o ρ' r e k
 unfold mJoin at e
 simp -iota only [Z0] at e
 obtain ⟨⟨os,ρ1⟩,e1,ds,e2,u,e3,e4⟩:=e
 cases e4
 refine ⟨rfl,h A W ρ σ H _ os _ r e1 fun vs H1 x1 r1 p1=>?_⟩
 cases ds with
 | cons y45 y46=>
   cases y45 with
   | lst l=>
     cases y46 with
     | nil=>
       replace e3:((strsD l).bind fun ys=>if (ys.map (·.length)).sum+ys.length * z.length<=16777216 then some (D.str (Txt.join z ys)) else none)=some u:=e3
       simp -iota only [Z0] at e3
       obtain ⟨ys,e5,e6⟩:=e3
       split at e6
       · rename_i hz
         cases e6
         obtain ⟨v,rfl,h1⟩:=(p1.get r1 e2).one_inv
         obtain ⟨p,xs,rfl,hp,rp⟩:=h1.lst_inv
         rw [strsD_map e5] at rp
         refine ⟨z,p,ys,rfl,rfl,.inl (.inl ?_),hz,k _ H1 x1 r1 (show RepP _ _ _ _ _ from repP_str)⟩
         rw [<- repPL_strs rp]
         exact hp
       · cases e6
     | _=>cases e3
   | _=>cases e3
 | _=>cases e3
noncomputable def truD:D->Option Bool
 | .non=>some false
 | .bl b=>some b
 | .int i=>some (i != 0)
 | .str y=>if y.length<=sizeLine then some ((y.length:Int) != 0) else none
 | .tup l=>some (!l.isEmpty)
 | .lst l=>some (!l.isEmpty)
noncomputable def mTru (f:ME):MT:=fun ρ=>(f ρ).bind fun x=>(res x.2 x.1).bind fun d=>(truD d).bind fun b=>some (b,x.2)
theorem isEmpty_len {α β:Type} {l:List α} {m:List β} (h:l.length=m.length):l.isEmpty=m.isEmpty:=by
 cases l <;> cases m <;> simp -iota at h ⊢
theorem lt_tru {t:TE} {f:ME} (h:LE C md t f):LT C md (tTru C.K t) (mTru f):=by
 intro A W ρ σ H Q b ρ' r e k
 unfold mTru at e
 simp -iota only [Z0] at e
 obtain ⟨⟨o,ρ1⟩,e1,d,e2,b',e3,e4⟩:=e
 cases e4
 refine h A W ρ σ H _ o _ r e1 fun v H1 x1 r1 p1=>⟨b,?_,k H1 x1 r1⟩
 have p:=p1.get r1 e2
 cases d with
 | non=>
   cases e3; obtain rfl:=p.non_inv; rfl
 | bl c=>
   cases e3; obtain rfl:=p.bl_inv; rfl
 | int c=>
   cases e3; obtain rfl:=p.int_inv; rfl
 | str c=>
   obtain rfl:=p.str_inv
   replace e3:(if c.length<=sizeLine then some ((c.length:Int) != 0) else none)=some b:=e3
   split at e3
   · rename_i hz; cases e3; exact ⟨hz,rfl⟩
   · cases e3
 | tup l=>
   cases e3; obtain ⟨q,xs,rfl,hp,rp⟩:=p.tup_inv; exact .inr (.inl ⟨xs,hp,by rw [isEmpty_len rp.length]⟩)
 | lst l=>
   cases e3; obtain ⟨q,xs,rfl,hp,rp⟩:=p.lst_inv; exact .inl ⟨xs,.inl (.inl hp),by rw [isEmpty_len rp.length]⟩
theorem lt_test {ta:TE} {fa:ME} (ha:LE C md ta fa):LT C md (tTest ta) (mB fa):=lt_b ha
noncomputable def mLenS (i:Nat):ME:=fun ρ=>(scrS (look ρ i)).bind fun ns=>some (.val (.int ns.length),ρ)
theorem le_lenS {i:Nat} (hm:mode md i=.pl):LE C md (tCB (rLen C.K) (tCons (tVar i) tNil)) (mLenS i):=by
 intro A W ρ σ H Q o ρ' r e k
 unfold mLenS at e
 simp -iota only [Z0] at e
 obtain ⟨ns,e1,e2⟩:=e
 cases e2
 obtain ⟨v,ev,c⟩:=r.slot i _ (scrS_some e1)
 rw [hm] at c
 obtain ⟨a,rfl,c⟩:=c
 refine ⟨_,ev,_,ns.length,rfl,.inl ⟨_,c.sq,by simp⟩,k _ H (Ext.refl _ _) r (show RepP _ _ _ _ _ from repP_int)⟩
noncomputable def mIxS (i:Nat) (f:ME):ME:=fun ρ=>(scrS (look ρ i)).bind fun _=>(f ρ).bind fun x=>(res x.2 x.1).bind fun d=>(asI d).bind fun j=>(scrS (look x.2 i)).bind fun ns=>(atI ns j).bind fun n=>some (.val (.int n),x.2)
theorem atI_mapI {ns:List Int} {j n:Int} (h:atI ns j=some n):atI (ns.map V.int) j=some (V.int n):=by
 unfold atI at h ⊢
 rw [Z2]
 cases e:ixN ns.length j with
 | none=>rw [e] at h; cases h
 | some k=>
   rw [e] at h
   have h:ns[k]?=some n:=h
   show (ns.map V.int)[k]?=_
   rw [Z21,h]; rfl
noncomputable def argS:Option S->Option S
 | some (.d x)=>some (.d x)
 | some (.scr ns)=>some (.scr ns)
 | some (.dc kvs)=>some (.dc kvs)
 | _=>none
noncomputable def resA (ρ:En):List Op->Option (List S)
 | []=>some []
 | o::os=>(argS (resS ρ o)).bind fun d=>(resA ρ os).bind fun ds=>some (d::ds)
theorem OpsAt.argsA {A W:Addr->Prop} {ρ:En} {σ:L2.St} {H:Hp} (r:R C md A W ρ σ H):∀ {os:List Op} {vs:List V} {ss:List S},OpsAt C A σ H os vs->resA ρ os=some ss->SL C.K H (fun _=>True) ss vs
 | [],vs,ss,h,e=>by cases e; exact h
 | o::os,vs,ss,h,e=>by
   obtain ⟨v,t,rfl,h1,h2⟩:=h
   unfold resA at e
   simp -iota only [Z0] at e
   obtain ⟨s,e1,ss',e2,e3⟩:=e
   cases e3
   refine ⟨v,t,rfl,?_,OpsAt.argsA r h2 e2⟩
   match o,h1,e1 with
   | .val d,h1,e1=>cases e1; exact (RepP.top h1).any
   | .var i,h1,e1=>
     replace e1:argS (look ρ i)=some s:=e1
     cases el:look ρ i with
     | none=>rw [el] at e1; cases e1
     | some s'=>
       rw [el] at e1
       obtain ⟨v',ev',c⟩:=r.slot i _ el
       rw [show σ[i]?=some (some v) from h1] at ev'; cases ev'
       match s',e1,c with
       | .d x,e1,c=>cases e1; exact c.top.any
       | .scr ns,e1,c=>
         cases e1
         cases em:mode md i with
         | pl=>rw [em] at c; exact c
         | ow=>rw [em] at c; exact c.elim
         | lk=>rw [em] at c; exact c.elim
         | io=>rw [em] at c; exact c.elim
       | .dc kvs,e1,c=>
         cases e1
         have cc:∀ {ok okq:Addr->Prop},Cell C.K A H ok okq (.dc kvs) v->SRep C.K H (fun _=>True) (.dc kvs) v:=fun c=>by
           obtain ⟨a,ws,z,c1,c2,c3,c4,c5⟩:=c
           exact ⟨a,ws,z,c1,trivial,c4,RepPL.mono c5 fun _ _ _ _=>trivial⟩
         cases em:mode md i with
         | pl=>
           rw [em] at c
           obtain ⟨a,ws,z,c1,c2,c3,c4⟩:=c
           exact ⟨a,ws,z,c1,trivial,c3,RepPL.mono c4 fun _ _ _ _=>trivial⟩
         | ow=>rw [em] at c; exact cc (ok:=fun a=>W a/\C.H0 a=none) (okq:=fun _=>True) c
         | lk=>rw [em] at c; exact cc (ok:=fun a=>¬ W a) (okq:=fun _=>True) c
         | io=>rw [em] at c; exact cc (ok:=fun a=>W a/\C.M a) (okq:=C.Q) c
noncomputable def mCallA (m:List S->Option S) (f:MA):ME:=fun ρ=>(f ρ).bind fun x=>(resA x.2 x.1).bind fun ss=>(m ss).bind fun r=>(unD (some r)).bind fun d=>some (.val d,x.2)
noncomputable def mnCallA (m:List S->Option S) (f:MA):MN:=fun ρ=>(f ρ).bind fun x=>(resA x.2 x.1).bind fun ss=>(m ss).bind fun r=>(immS r).bind fun s=>some (s,x.2)
theorem le_callA {t:TA} {f:MA} {m:List S->Option S} {E:XK} (h:LA C md t f):LE C md (tCall (spP C.K m) [] E t) (mCallA m f):=by
 intro A W ρ σ H Q o ρ' r e k
 unfold mCallA at e
 simp -iota only [Z0] at e
 obtain ⟨⟨os,ρ1⟩,e1,ss,e2,s,e3,d,e4,e5⟩:=e
 cases e5
 cases unD_some e4
 refine h A W ρ σ H _ os _ r e1 fun vs H1 x1 r1 p1=>?_
 rw [Z35]
 refine ⟨ss,_,p1.argsA r1 e2,e3,fun v H2 s2 n=>?_⟩
 exact k v H2 (x1.trans (Same.ext s2)) (r1.same s2) (show RepP _ _ _ _ _ from n.repP.mono fun a _ o _=>r1.fresh o)
theorem ln_callA {t:TA} {f:MA} {m:List S->Option S} {E:XK} (h:LA C md t f):LN C md (tCall (spP C.K m) [] E t) (mnCallA m f):=by
 intro A W ρ σ H Q s ρ' r e k
 unfold mnCallA at e
 simp -iota only [Z0] at e
 obtain ⟨⟨os,ρ1⟩,e1,ss,e2,s0,e3,s',e4,e5⟩:=e
 cases e5
 obtain ⟨l,rfl,rfl,hi⟩:=immS_some e4
 refine h A W ρ σ H _ os _ r e1 fun vs H1 x1 r1 p1=>?_
 rw [Z35]
 refine ⟨ss,_,p1.argsA r1 e2,e3,fun v H2 s2 n=>?_⟩
 obtain ⟨a,xs,rfl,h1,h2,h3⟩:=n
 exact k a H1 H2 x1 r1 h1 s2 ⟨xs,h2,RepPL.ofImm hi h3.repL⟩
noncomputable def mnOp (g:D->D->Option D) (fa fb:ME):MN:=fun ρ=>
 (fa ρ).bind fun x=>(fb x.2).bind fun y=>(res y.2 x.1).bind fun d=>(res y.2 y.1).bind fun e=>(g d e).bind fun u=>match u with
   | .lst l=>some (.d (.lst l),y.2)
   | _=>none
noncomputable def OpN (K:PySem.W.Frag) (r:R2) (g:D->D->Option D):Prop:=∀ (H:Hp) (ok:Addr->Prop) (x y:V) (d e:D) (l:List D) (Q:VK),RepT K H ok d x->RepT K H ok e y->g d e=some (.lst l) ->
 (∀ p xs,H p=none->RepPL K H ok l xs->Q (.ref p) (upd H p (.lst xs)))->r x y H Q
theorem ln_op {r:R2} {g:D->D->Option D} {ta tb:TE} {fa fb:ME} (h:OpN C.K r g) (ha:LE C md ta fa) (hb:LE C md tb fb):LN C md (tOp r ta tb) (mnOp g fa fb):=by
 intro A W ρ σ H Q s ρ' r0 e k
 unfold mnOp at e
 simp -iota only [Z0] at e
 obtain ⟨⟨o1,ρ1⟩,e1,⟨o2,ρ2⟩,e2,d,e3,c,e4,u,e5,e6⟩:=e
 cases u with
 | lst l=>
   cases e6
   refine ha A W ρ σ H _ o1 ρ1 r0 e1 fun v1 H1 x1 r1 p1=>?_
   refine hb A W ρ1 σ H1 _ o2 _ r1 e2 fun v2 H2 x2 r2 p2=>?_
   refine h H2 _ v1 v2 d c l Q ((p1.stay r1 x2).get r2 e3) (p2.get r2 e4) e5 fun p xs hp q=>?_
   have s:=new_same (o:=.lst xs) hp
   exact k p H2 _ (x1.trans x2) r2 hp s ⟨xs,upd_same,(q.apart hp).same s⟩
 | _=>cases e6
theorem on_mul {K:PySem.W.Frag}:OpN K rMulX mulX:=by
 intro H ok x y d e u Q h1 h2 g k
 cases d with
 | lst l=>
   cases e with
   | int j=>
     obtain ⟨p,xs,rfl,hp,rp⟩:=h1.lst_inv; obtain rfl:=h2.int_inv
     replace g:(if -(2 ^ 63)<=j/\j < 2 ^ 63/\l.length * j.toNat<=sizeLine then some (D.lst (List.replicate j.toNat l).flatten) else none)=some (.lst u):=g
     split at g
     · rename_i hz
       cases g
       exact ⟨p,j,xs,rfl,rfl,.inl hp,hz.1,hz.2.1,by rw [rp.length]; exact hz.2.2,fun t ht=>k t _ ht (rp.rep j.toNat)⟩
     · cases g
   | _=>cases g
 | int i=>
   cases e with
   | int j=>
     replace g:(if CMul i j then some (D.int (i * j)) else none)=some (.lst u):=g
     split at g <;> cases g
   | _=>cases g
 | str z=>
   cases e with
   | int n=>
     replace g:(if 0<=n/\n<=1000/\z.length<=1000 then some (D.str (repS z n)) else none)=some (.lst u):=g
     split at g <;> cases g
   | _=>cases g
 | _=>cases g
noncomputable def mAug (i:Nat) (g:Int->Int->Int) (f:ME):MS:=fun ρ=>(look ρ i).bind fun s=>(unD (some s)).bind fun d=>(asI d).bind fun a=>(f ρ).bind fun x=>(res x.2 x.1).bind fun e=>(asI e).bind fun b=>some (.nx,x.2.set i (some (.d (.int (g a b)))))
theorem ls_aug {i:Nat} {g:Int->Int->Int} {t:TE} {f:ME} (hi:mode md i=.pl) (h:LE C md t f):LS C md (tAug i t (ipI g)) (mAug i g f):=by
 intro A W ρ σ H D fl ρ' r e k
 unfold mAug at e
 simp -iota only [Z0] at e
 obtain ⟨s,e0,d,e1,a,e2,⟨o,ρ1⟩,e3,d',e4,b,e5,e6⟩:=e
 cases e6
 cases unD_some e1
 cases asI_some e2
 cases asI_some e5
 obtain ⟨v,ev,c⟩:=r.slot i _ e0
 rw [hi] at c
 have c:RepP C.K H (fun a=>¬ A a) (.int a) v:=c
 rw [RepP] at c
 subst c
 refine ⟨_,ev,h A W ρ σ H _ o _ r e3 fun v H1 x1 r1 p1=>⟨a,b,rfl,(p1.get r1 e4).int_inv,k A W _ H1 (Gr.ofExt x1) (r1.setP hi repP_int) fun l hl=>?_⟩⟩
 exact set_get (fun z=>by rw [<- z] at hl; rcases hl with hl | hl <;> (rw [hi] at hl; cases hl))
end
end Mir
namespace L2
open PySem PySem.Spec PyProof.Rows
section
variable {X:Cx} {iter elt:Expr} {ifs:List Expr} {scope:Scope} {pos p1 p2 tp:Pos} {x1 x2:Str} {tk:Nat} {tt:TT} {te:TE} {wi:TI} {g:TG}
theorem pe_compT2 (hc:X.calm=true) (S:CompScope X scope [x1,x2] (capIx X.N scope.names)) (hi:PI X (.Tuple [.Name x1 p1,.Name x2 p2] tk tp) iter wi)
   (hg:∀ C s2 H2 fp,PG (compCx X scope [x1,x2] (capIx X.N scope.names) C s2 H2 fp) (.Tuple [.Name x1 p1,.Name x2 p2] tk tp) g) (ht:∀ C s2 H2 fp,PIf (compCx X scope [x1,x2] (capIx X.N scope.names) C s2 H2 fp) ifs tt) (he:∀ C s2 H2 fp,PE (compCx X scope [x1,x2] (capIx X.N scope.names) C s2 H2 fp) elt te)
   (hs:∀ x,foldedSetIterable iter X.env x=pure x:=by intro _; rfl) :
   PE X (.ListComp elt [⟨.Tuple [.Name x1 p1,.Name x2 p2] tk tp,iter,ifs,0⟩] scope pos) (tComp 2 (capIx X.N scope.names) wi (lpW g tt (tEmit te))):=
 pe_compT [x1,x2] hc S hi hg ht he hs
end
section
variable {X:Cx} {K:PySem.W.Frag} {o e:Expr} {es:List Expr} {to:TE} {t:TA} {name:Str} {apos cpos:Pos} {T id:String} {r:V->List V->Hp->VK->Prop}
theorem pe_bm0K (kt:KT K) (pa:PlainAttrs T) (slot:Slot T name id) (hty:typeOf (.builtin id)=pure (.type "method_descriptor")) (hm:MtR X id r) (ho:PE X o to)
   (hbase:attributeBase o name X.env (eval o X.env)=eval o X.env:=by rfl) (hline:(apos.endLine == cpos.line)=true:=by rfl) (hK:X.K=K:=by rfl):PE X (.Call (.Attribute o name apos) [] [] cpos) (tBM0 K T r to):=by
 subst hK
 exact pe_bm0 pa slot hty hm ho hbase hline
theorem pe_bmZ (kt:KT K) (pa:PlainAttrs T) (slot:Slot T name id) (hty:typeOf (.builtin id)=pure (.type "method_descriptor")) (hm:MtR X id r) (ho:PE X o to) (ha:PA X (e::es) t)
   (hbase:attributeBase o name X.env (eval o X.env)=eval o X.env:=by rfl)
   (hfew:((backTo cpos (starEach (e::es) X.env)).all (fun x=>!x.1) && (backToKw cpos (keywordEach [] X.env)).all (fun x=>x.1.isSome)
     && decide ((e::es).length+([]:List Keyword).length+(if ([]:List Keyword).isEmpty then 0 else 1) < 30))=true:=by rfl)
   (hline:(apos.endLine == cpos.line)=true:=by rfl) (hs:starEach (e::es) X.env=(false,eval e X.env)::starEach es X.env:=by rfl) (hplain:(backTo cpos (starEach es X.env)).any (·.1)=false:=by rfl) (hK:X.K=K:=by rfl) :
   PE X (.Call (.Attribute o name apos) (e::es) [] cpos) (tBM K T r to t):=by
 subst hK
 exact pe_bm pa slot hty hm ho ha hbase hfew hline hs hplain
end
end L2
namespace Mir
open PySem PySem.Spec PyProof.Rows L2
section
variable {C:Cn} {md:List Md} {nt:Nat} {ix ix' kp:List Nat}
theorem le_compE {lj:Option Nat} {wi:TI} {g:TG} {tt:TT} {tb:TB} {fi:MI} {fg:MG} {ft:MT} {fb:MB} (he:ix'=ix) (hx:ix.Nodup) (hk:∀ j ∈ kp,j ∈ ix/\(mode md j=.ow∨mode md j=.io)) (hl:∀ j,lj=some j->j ∉ kp)
   (hi:LI C md lj wi fi) (hg:LG C (mdIn md nt ix kp) (fun j=>nt<=j) g fg) (ht:LT C (mdIn md nt ix kp) tt ft) (hb:LB C (mdIn md nt ix kp) nt tb fb):LE C md (tComp nt ix' wi (lpW g tt tb)) (mComp nt ix kp fi (lpM fg ft fb)):=by
 subst he
 exact le_comp hx hk hl hi hg ht hb
end
end Mir
namespace Mir
open PySem L2
noncomputable abbrev ltD:D->D->Option D:=cmpD (fun i j=>decide (i < j)) ltC
noncomputable abbrev leD:D->D->Option D:=cmpD (fun i j=>decide (i<=j)) (fun x y=>!ltC y x)
noncomputable abbrev gtD:D->D->Option D:=cmpD (fun i j=>decide (j < i)) (fun x y=>ltC y x)
noncomputable abbrev geD:D->D->Option D:=cmpD (fun i j=>decide (j<=i)) (fun x y=>!ltC x y)
noncomputable def allPl:Nat->List Md->Bool
 | 0,_=>true
 | _+1,[]=>true
 | n+1,m::r=>(match m with | .pl=>true | _=>false) && allPl n r
theorem modes_pl:∀ {n:Nat} {md:List Md},allPl n md=true->∀ i,i < n->mode md i=.pl
 | 0,md,h,i,hi=>absurd hi (Nat.not_lt_zero _)
 | n+1,[],h,i,hi=>rfl
 | n+1,m::r,h,0,hi=>by
   simp only [allPl,Z25] at h
   cases m <;> simp at h <;> rfl
 | n+1,m::r,h,i+1,hi=>by
   simp only [allPl,Z25] at h
   exact modes_pl (n:=n) (md:=r) h.2 i (by omega)
theorem modes_io {n:Nat} {m:Md} {md:List Md} (h:allPl n md=true):∀ i,i+1 < n+1->mode (m::md) (i+1)=.pl:=fun i hi=>modes_pl h i (by omega)
end Mir
namespace Mir
open PySem PySem.Spec PyProof.Rows L2
section
variable {P:Program} {w:World} {K:PySem.W.Frag} {mg:Str->Option Value} {base:Heap} {x qual:Str} {st:Stmt} {f:Addr} {fd:FuncData} {N ps:List Str} {k n np:Nat} {md:List Md} {mb:MS}
noncomputable abbrev Body (P:Program) (w:World) (K:PySem.W.Frag) (mg:Str->Option Value) (base:Heap) (qual:Str) (st:Stmt) (f:Addr) (N:List Str) (k:Nat) (md:List Md) (mb:MS):Prop:=
 ∀ (cdv:Value) (A:Around) (outer:List Env) (s:Shared) (H:Hp) (E:XK),Room k (A.deeper (envOfC qual (defScope st) s.heap.objs.size f cdv)) ->
     ∃ t,PSs (cxOf CX0 P w K mg base N qual (defScope st) f cdv A outer s H E).nox (defBody st) t/\∀ C:Cn,C.K=K->LS C md t mb
theorem fn_pureE {m:List S->Option S} (F:Fun K x qual st f fd) (S0:FnScope N ps (defScope st)) (hn:N.length=n) (hp:ps.length=np) (hm:m=mFn n np mb) (hle:Nat.ble np n=true) (hmd:allPl np md=true)
   (hb:Body P w K mg base qual st f N k md mb):FnOk P w K mg base CX0 (k+1) f fd ps (spP K m):=by
 subst hn hp hm
 exact fn_pure F S0 (Z14 hle) (modes_pl hmd) hb
noncomputable abbrev BodyF (fr:Bool) (P:Program) (w:World) (K:PySem.W.Frag) (mg:Str->Option Value) (base:Heap) (qual:Str) (st:Stmt) (f:Addr) (N:List Str) (k:Nat) (md:List Md) (mb:MS):Prop:=
 ∀ (cdv:Value) (A:Around) (outer:List Env) (s:Shared) (H:Hp) (E:XK),Room k (A.deeper (envOfC qual (defScope st) s.heap.objs.size f cdv)) ->
     ∃ t,PSs (cxOf CX0 P w K mg base N qual (defScope st) f cdv A outer s H E).nox (defBody st) t/\∀ C:Cn,C.K=K->C.free=fr->LS C md t mb
theorem fn_ioE {m:List S->Option (S × S)} {md':List Md} (fr:Bool) (F:Fun K x qual st f fd) (S0:FnScope N ps (defScope st)) (hn:N.length=n) (hp:ps.length=np+1) (hm:m=mFnF fr n (np+1) mb) (hle:Nat.ble (np+1) n=true) (he:md=.io::md') (hmd:allPl np md'=true)
   (hb:BodyF fr P w K mg base qual st f N k md mb):FnOk P w K mg base CX0 (k+1) f fd ps (spM K m):=by
 subst hn hm he
 rw [<- hp] at hle ⊢
 exact fn_io fr F S0 (Z14 hle) rfl (fun i hi=>modes_io hmd i (by omega)) hb
theorem fn_lawE {m:List S->Option S} (F:Fun K x qual st f fd) (S0:FnScope N ["script"] (defScope st)) (hn:N.length=n) (hm:m=mFn n 1 mb) (hle:Nat.ble 1 n=true) (hmd:mode md 0=.pl)
   (ok:∀ ns:List Int,ns.length<=63->m [.scr ns]=some (.d (.bl true))) (hb:Body P w K mg base qual st f N k md mb):FnOk P w K mg base CX0 (k+1) f fd ["script"] (spLawM K):=by
 subst hn hm
 exact fn_law F S0 hmd ok hb (Z14 hle)
end
end Mir
namespace Srt
open PySem PySem.W PyProof.Rows
noncomputable def run {α:Type} (c:Nat->Nat->Bool):KasT α->α
 | .ret a=>a
 | .ask i j k=>run c (k (c i j))
theorem run_bind {α β:Type} (c:Nat->Nat->Bool) (f:α->KasT β):∀ t:KasT α,run c (t.bind f)=run c (f (run c t))
 | .ret _=>rfl
 | .ask i j k=>run_bind c f (k (c i j))
theorem run_ask {α:Type} (c:Nat->Nat->Bool) (i j:Nat) (k:Bool->KasT α):run c (.ask i j k)=run c (k (c i j)):=rfl
section
variable (O:KeyOrd) (key:Nat->O.α)
noncomputable abbrev cm:Nat->Nat->Bool:=fun i j=>O.blt (key i) (key j)
noncomputable def at_ (p:Array Nat) (i:Nat):O.α:=key (p.getD i 0)
noncomputable def Up (p:Array Nat) (k:Nat):Prop:=∀ i j,i<=j->j < k->O.kle (at_ O key p i) (at_ O key p j)
noncomputable def Dn (p:Array Nat) (k:Nat):Prop:=∀ i j,i<=j->j < k->O.kle (at_ O key p j) (at_ O key p i)
variable {O key}
theorem at_congr {p q:Array Nat} {i j:Nat} (h:p[i]?=q[j]?):at_ O key p i=at_ O key q j:=by
 unfold at_
 rw [Array.getD_eq_getD_getElem?,Array.getD_eq_getD_getElem?,h]
theorem at_bubble {p:Array Nat} {src d:Nat} (hs:src < p.size) (hd:d<=src) (k:Nat) :
   at_ O key (bubble p src d) k=if k=src - d then at_ O key p src else if src - d < k/\k<=src then at_ O key p (k - 1) else at_ O key p k:=by
 have e:=getElem?_bubble hs d hd k
 split
 · rw [if_pos (by assumption)] at e; exact at_congr e
 · rw [if_neg (by assumption)] at e
   split
   · rw [if_pos (by assumption)] at e; exact at_congr e
   · rw [if_neg (by assumption)] at e; exact at_congr e
theorem at_rev {p:Array Nat} {i j:Nat} (hj:j<=p.size) (k:Nat) :
   at_ O key (kas_rev p i j) k=if i<=k/\k < j then at_ O key p (i+j - 1 - k) else at_ O key p k:=by
 have e:=getElem?_mirror_all (i:=i) hj k
 unfold kas_rev
 split
 · rw [if_pos (by assumption)] at e; exact at_congr e
 · rw [if_neg (by assumption)] at e; exact at_congr e
theorem Up.rev {p:Array Nat} {n:Nat} (hn:n<=p.size) (h:Dn O key p n):Up O key (kas_rev p 0 n) n:=by
 intro i j hij hj
 rw [at_rev hn,at_rev hn,if_pos ⟨by grind,by exact Nat.lt_of_le_of_lt hij hj⟩,if_pos ⟨by grind,by exact hj⟩]
 exact h _ _ (by grind) (by grind)
theorem Dn.revEq {p:Array Nat} {n q m:Nat} (hn:n<=p.size) (hm:m<=n) (h:Dn O key p n) (he:∀ k,m<=k->k < n->at_ O key p k=at_ O key p (n - 1)):∀ k,k < n->at_ O key (kas_rev p m n) k=at_ O key p k:=by
 intro k hk
 rw [at_rev hn]
 split
 · rw [he _ (by grind) (by grind),he k (by lia) (by exact hk)]
 · rfl
theorem asc_ok (p:Array Nat):∀ (f n:Nat),1<=n->Up O key p n->n<=run (cm O key) (kas_asc p f n)/\run (cm O key) (kas_asc p f n)<=n+f/\Up O key p (run (cm O key) (kas_asc p f n))
 | 0,n,_,h=>⟨Z10 _,Z10 _,h⟩
 | f+1,n,h1,h=>by
   show n<=run (cm O key) (if _ then _ else _)/\run (cm O key) (if _ then _ else _)<=_/\Up O key p (run (cm O key) (if _ then _ else _))
   by_cases hc:cm O key (p.getD n 0) (p.getD (n - 1) 0)=true
   · rw [if_pos hc]; exact ⟨Z10 _,by show n<=_; grind,h⟩
   · rw [if_neg hc]
     have hle:O.kle (at_ O key p (n - 1)) (at_ O key p n):=by
       unfold KeyOrd.kle; simpa [cm,at_] using hc
     have h':Up O key p (n+1):=by
       intro i j hij hj
       by_cases hjn:j=n
       · subst hjn
         by_cases hin:i=j
         · subst hin; exact KeyOrd.kle_refl _
         · exact KeyOrd.kle_trans (h i (j - 1) (by lia) (by omega)) hle
       · exact h i j hij (by lia)
     obtain ⟨a,b,c⟩:=asc_ok p f (n+1) (by grind) h'
     exact ⟨by lia,by lia,c⟩
structure DSt (O:KeyOrd) (key:Nat->O.α) (p0:Array Nat) (top:Nat) (p:Array Nat) (n q:Nat):Prop where
 pm:p.Perm p0
 lo:q < n
 hi:n<=top
 dn:Dn O key p n
 eq:∀ k,n - 1 - q<=k->k < n->at_ O key p k=at_ O key p (n - 1)
noncomputable def DS (O:KeyOrd) (key:Nat->O.α) (p0:Array Nat) (top:Nat) (r:Array Nat × Nat × Nat):Prop:=DSt O key p0 top r.1 r.2.1 r.2.2
theorem desc_ok (p0:Array Nat) (top:Nat) (ht:top<=p0.size):∀ (f:Nat) (p:Array Nat) (n q:Nat),n+f=top->DSt O key p0 top p n q ->
   DS O key p0 top (run (cm O key) (kas_desc f p n q))
 | 0,p,n,q,_,h=>h
 | f+1,p,n,q,hf,h=>by
   have hsz:p.size=p0.size:=h.pm.size_eq
   have hq:=h.lo
   unfold kas_desc
   rw [run_ask]
   by_cases hc:cm O key (p.getD n 0) (p.getD (n - 1) 0)=true
   · simp only [if_pos hc]
     have hlt:O.klt (at_ O key p n) (at_ O key p (n - 1)):=hc
     have step:∀ p':Array Nat,p'.Perm p->(∀ k,k < n->at_ O key p' k=at_ O key p k)->at_ O key p' n=at_ O key p n->DSt O key p0 top p' (n+1) 0:=by
       intro p' pm eq en
       refine ⟨pm.trans h.pm,by grind,by lia,?_,?_⟩
       · intro i j hij hj
         by_cases hjn:j=n
         · subst hjn
           by_cases hin:i=j
           · subst hin; exact KeyOrd.kle_refl _
           · rw [en,eq i (by lia)]
             exact KeyOrd.kle_trans (KeyOrd.kle_of_klt hlt) (h.dn i (j - 1) (by lia) (by lia))
         · rw [eq i (by lia),eq j (by lia)]; exact h.dn i j hij (by omega)
       · intro k h1 h2
         have:k=n:=by grind
         subst this; rfl
     by_cases hq0:q > 0
     · simp only [if_pos hq0]
       refine desc_ok p0 top ht f _ (n+1) 0 (by lia) (step _ (mirror_perm _ _ _ _) (Dn.revEq (q:=q) (by lia) (by grind) h.dn fun k h1 h2=>h.eq k (by lia) h2) ?_)
       rw [at_rev (by omega),if_neg (by grind)]
     · simp only [if_neg hq0]
       exact desc_ok p0 top ht f _ (n+1) 0 (by omega) (step p (Array.Perm.refl _) (fun _ _=>rfl) rfl)
   · simp only [if_neg hc]
     rw [run_ask]
     by_cases hd:cm O key (p.getD (n - 1) 0) (p.getD n 0)=true
     · simp only [if_pos hd]; exact h
     · simp only [if_neg hd]
       have e:at_ O key p n=at_ O key p (n - 1):=O.total _ _ (by simpa [cm,at_] using hc) (by simpa [cm,at_] using hd)
       refine desc_ok p0 top ht f p (n+1) (q+1) (by omega) ⟨h.pm,by grind,by omega,?_,?_⟩
       · intro i j hij hj
         by_cases hjn:j=n
         · subst hjn
           by_cases hin:i=j
           · subst hin; exact KeyOrd.kle_refl _
           · rw [e]; exact h.dn i (j - 1) (by omega) (by omega)
         · exact h.dn i j hij (by omega)
       · intro k h1 h2
         show _=at_ O key p n
         by_cases hk:k=n
         · rw [hk]
         · rw [e]; exact h.eq k (by lia) (by lia)
noncomputable def CSt (O:KeyOrd) (key:Nat->O.α) (p0:Array Nat) (top:Nat) (r:Nat × Array Nat):Prop:=r.2.Perm p0/\1<=r.1/\r.1<=top/\Up O key r.2 r.1
theorem tail3_ok {p0 p:Array Nat} {n top:Nat} (ht:top<=p0.size) (pm:p.Perm p0) (h1:1<=n) (hn:n<=top) (h:Dn O key p n):CSt O key p0 top (run (cm O key) (kas_tail3 n top p)):=by
 have hsz:p.size=p0.size:=pm.size_eq
 unfold kas_tail3
 rw [run_bind]
 obtain ⟨a,b,c⟩:=asc_ok (O:=O) (key:=key) (kas_rev p 0 n) (top - n) n h1 (Up.rev (by lia) h)
 exact ⟨(mirror_perm _ _ _ _).trans pm,by show 1<=run _ _; exact Z24 h1 a,by show run _ _<=_; lia,c⟩
theorem descPart_ok {p0 p:Array Nat} {n top:Nat} (ht:top<=p0.size) (pm:p.Perm p0) (hn:n+1<=top) (h:Dn O key p (n+1)):CSt O key p0 top (run (cm O key) (kas_descPart n top p)):=by
 unfold kas_descPart
 rw [run_bind]
 have d:=desc_ok (O:=O) (key:=key) p0 top ht (top - (n+1)) p (n+1) 0 (by grind) ⟨pm,by grind,hn,h,fun k h1 h2=>by rw [show k=n+1 - 1 by lia]⟩
 generalize run (cm O key) (kas_desc (top - (n+1)) p (n+1) 0)=r at d
 obtain ⟨p',n',q'⟩:=r
 have hsz:p'.size=p0.size:=(DSt.pm d).size_eq
 have hq:q' < n':=DSt.lo d
 have hh:n'<=top:=DSt.hi d
 have d:DSt O key p0 top p' n' q':=d
 simp only
 split
 · refine tail3_ok ht ((mirror_perm _ _ _ _).trans d.pm) (by grind) d.hi ?_
   intro i j hij hj
   have e:=Dn.revEq (q:=q') (m:=n' - (q'+1)) (by lia) (by grind) d.dn fun k h1 h2=>d.eq k (by lia) h2
   rw [e i (by exact Nat.lt_of_le_of_lt hij hj),e j hj]
   exact d.dn i j hij hj
 · exact tail3_ok ht d.pm (by lia) d.hi d.dn
theorem count_ok {p0:Array Nat} {top:Nat} (h1:1<=top) (ht:top<=p0.size):CSt O key p0 top (run (cm O key) (kas_count top p0)):=by
 unfold kas_count
 rw [run_bind]
 have hu:Up O key p0 1:=fun i j hij hj=>by
   have:i=j:=by grind
   subst this; exact KeyOrd.kle_refl _
 obtain ⟨a,b,c⟩:=asc_ok (O:=O) (key:=key) p0 (top - 1) 1 (Z10 _) hu
 have stop:∀ f n,1<=n->run (cm O key) (kas_asc p0 f n) ≠ n+f->O.klt (at_ O key p0 (run (cm O key) (kas_asc p0 f n))) (at_ O key p0 (run (cm O key) (kas_asc p0 f n) - 1)):=by
   intro f
   induction f with
   | zero=>intro n _ h; exact absurd rfl h
   | succ f ih=>
     intro n hn h
     have e:run (cm O key) (kas_asc p0 (f+1) n)=run (cm O key) (if cm O key (p0.getD n 0) (p0.getD (n - 1) 0)=true then .ret n else kas_asc p0 f (n+1)):=rfl
     rw [e] at h ⊢
     by_cases hc:cm O key (p0.getD n 0) (p0.getD (n - 1) 0)=true
     · rw [if_pos hc] at h ⊢; exact hc
     · rw [if_neg hc] at h ⊢; exact ih (n+1) (by grind) (by grind)
 have st:=stop (top - 1) 1 (Z10 _)
 generalize run (cm O key) (kas_asc p0 (top - 1) 1)=n at a b c st
 by_cases hn:(n == top)=true
 · rw [if_pos hn]
   have:n=top:=by simpa using hn
   exact ⟨Array.Perm.refl _,by show 1<=n; exact a,by show n<=top; exact (Nat.le_of_eq this),c⟩
 · rw [if_neg hn]
   have hne:n ≠ top:=by simpa using hn
   have hlt:=st (by lia)
   by_cases h2:n > 1
   · rw [if_pos h2]
     show CSt O key p0 top (run (cm O key) (if _ then _ else _))
     by_cases hc:cm O key (p0.getD 0 0) (p0.getD (n - 1) 0)=true
     · rw [if_pos hc]; exact ⟨Array.Perm.refl _,by show 1<=n; exact a,by show n<=top; grind,c⟩
     · rw [if_neg hc]
       have he:∀ k,k < n->at_ O key p0 k=at_ O key p0 (n - 1):=fun k hk=>by
         have h3:O.kle (at_ O key p0 (n - 1)) (at_ O key p0 0):=by unfold KeyOrd.kle; simpa [cm,at_] using hc
         exact KeyOrd.kle_antisymm (c k (n - 1) (by grind) (by lia)) (KeyOrd.kle_trans h3 (c 0 k (by omega) hk))
       refine descPart_ok ht (mirror_perm _ _ _ _) (by lia) ?_
       have er:∀ k,k < n->at_ O key (kas_rev p0 0 n) k=at_ O key p0 (n - 1):=fun k hk=>by
         rw [at_rev (by grind),if_pos ⟨by omega,hk⟩]; exact he _ (by grind)
       have en:at_ O key (kas_rev p0 0 n) n=at_ O key p0 n:=by rw [at_rev (by grind),if_neg (by grind)]
       intro i j hij hj
       by_cases hjn:j=n
       · subst hjn
         by_cases hin:i=j
         · subst hin; exact KeyOrd.kle_refl _
         · rw [en,er i (by lia)]; exact KeyOrd.kle_of_klt hlt
       · rw [er i (by lia),er j (by lia)]; exact KeyOrd.kle_refl _
   · rw [if_neg h2]
     have h11:n=1:=by lia
     subst h11
     refine descPart_ok ht (Array.Perm.refl _) (by lia) ?_
     intro i j hij hj
     by_cases hj0:j=0
     · have:i=0:=by grind
       subst this; subst hj0; exact KeyOrd.kle_refl _
     · have hj1:j=1:=by grind
       subst hj1
       by_cases hi:i=1
       · subst hi; exact KeyOrd.kle_refl _
       · have:i=0:=by grind
         subst this; exact KeyOrd.kle_of_klt hlt
theorem place_ok {p:Array Nat} {k:Nat} (hs:Up O key p k):∀ (f l r:Nat),r - l<=f->l<=r->r<=k->(∀ i,i < l->O.kle (at_ O key p i) (at_ O key p k))->(∀ i,r<=i->i < k->O.klt (at_ O key p k) (at_ O key p i)) ->
   run (cm O key) (kas_place p k f l r)<=k/\(∀ i,i < run (cm O key) (kas_place p k f l r)->O.kle (at_ O key p i) (at_ O key p k))/\∀ i,run (cm O key) (kas_place p k f l r)<=i->i < k->O.klt (at_ O key p k) (at_ O key p i)
 | 0,l,r,hf,hlr,hr,hl,hh=>by
   have:l=r:=by grind
   subst this
   exact ⟨hr,hl,hh⟩
 | f+1,l,r,hf,hlr,hr,hl,hh=>by
   unfold kas_place
   by_cases hge:l ≥ r
   · have:l=r:=by lia
     subst this
     rw [if_pos hge]; exact ⟨hr,hl,hh⟩
   · rw [if_neg hge]
     rw [run_ask]
     by_cases hc:cm O key (p.getD k 0) (p.getD ((l+r) / 2) 0)=true
     · rw [if_pos hc]
       exact place_ok hs f l ((l+r) / 2) (by grind) (by lia) (by lia) hl fun i h1 h2=>KeyOrd.klt_of_klt_of_kle (show O.klt (at_ O key p k) (at_ O key p ((l+r) / 2)) from hc) (hs _ _ h1 h2)
     · rw [if_neg hc]
       refine place_ok hs f ((l+r) / 2+1) r (by grind) (by lia) hr (fun i h1=>?_) hh
       exact KeyOrd.kle_trans (hs i ((l+r) / 2) (by lia) (by lia)) (by unfold KeyOrd.kle; simpa [cm,at_] using hc)
theorem bin_ok (p0:Array Nat):∀ (f:Nat) (p:Array Nat) (k:Nat),p.Perm p0->k+f<=p0.size->Up O key p k->(run (cm O key) (kas_bin f p k)).Perm p0/\Up O key (run (cm O key) (kas_bin f p k)) (k+f)
 | 0,p,k,pm,_,h=>⟨pm,h⟩
 | f+1,p,k,pm,hk,h=>by
   have hsz:p.size=p0.size:=pm.size_eq
   unfold kas_bin
   rw [run_bind]
   obtain ⟨a,b,c⟩:=place_ok (O:=O) (key:=key) (p:=p) (k:=k) h k 0 k (by grind) (by grind) (Z10 _) (fun i hi=>by grind) (fun i h1 h2=>by lia)
   generalize run (cm O key) (kas_place p k k 0 k)=l at a b c
   have hb:=at_bubble (O:=O) (key:=key) (p:=p) (src:=k) (d:=k - l) (by lia) (by grind)
   rw [show k - (k - l)=l by lia] at hb
   have h':Up O key (bubble p k (k - l)) (k+1):=by
     intro i j hij hj
     rw [hb i,hb j]
     by_cases hi:i=l
     · subst hi
       rw [if_pos rfl]
       by_cases hji:j=i
       · rw [if_pos hji]; exact KeyOrd.kle_refl _
       · rw [if_neg hji,if_pos ⟨by lia,by lia⟩]; exact KeyOrd.kle_of_klt (c (j - 1) (by lia) (by grind))
     · rw [if_neg hi]
       by_cases hil:i < l
       · rw [if_neg (show ¬ (l < i/\i<=k) by lia)]
         by_cases hjl:j=l
         · rw [if_pos hjl]; exact b i hil
         · rw [if_neg hjl]
           by_cases hj2:l < j/\j<=k
           · rw [if_pos hj2]; exact h i (j - 1) (by grind) (by grind)
           · rw [if_neg hj2]; exact h i j hij (by lia)
       · rw [if_pos ⟨by lia,by lia⟩,if_neg (show ¬ j=l by lia),if_pos ⟨by lia,by lia⟩]
         exact h (i - 1) (j - 1) (by grind) (by grind)
   obtain ⟨x,y⟩:=bin_ok p0 f (bubble p k (k - l)) (k+1) ((bubble_perm _ _ _).trans pm) (by lia) h'
   exact ⟨x,by rwa [show k+(f+1)=k+1+f by grind]⟩
theorem sort_ok {n:Nat} (h2:2<=n):(run (cm O key) (kas_sort n)).Perm (List.range n).toArray/\Up O key (run (cm O key) (kas_sort n)) n:=by
 have hsz:(List.range n).toArray.size=n:=by simp
 unfold kas_sort
 rw [run_bind]
 obtain ⟨a,b,c,d⟩:=count_ok (O:=O) (key:=key) (p0:=(List.range n).toArray) (top:=n) (by grind) (by exact Nat.le_of_eq hsz.symm)
 generalize run (cm O key) (kas_count n (List.range n).toArray)=r at a b c d
 split
 · have:=bin_ok (O:=O) (key:=key) (List.range n).toArray (n - max r.1 1) r.2 (max r.1 1) a (by lia) (by rw [show max r.1 1=r.1 by lia]; exact d)
   rwa [show max r.1 1+(n - max r.1 1)=n by lia] at this
 · have:r.1=n:=by lia
   exact ⟨a,by rw [<- this]; exact d⟩
end
end Srt
namespace Srt
open PySem PySem.W PyProof.Rows L2
noncomputable def GoodR (N:Nat) {α:Type} (P:α->Prop):KasT α->Prop
 | .ret a=>P a
 | .ask i j k=>i < N/\j < N/\∀ b,GoodR N P (k b)
theorem goodR_bind {N:Nat} {α β:Type} {f:α->KasT β} {P:α->Prop} {R:β->Prop} (hf:∀ a,P a->GoodR N R (f a)):∀ t:KasT α,GoodR N P t->GoodR N R (t.bind f)
 | .ret a,h=>hf a h
 | .ask i j k,h=>⟨h.1,h.2.1,fun b=>goodR_bind hf (k b) (h.2.2 b)⟩
theorem goodR_ite {N:Nat} {α:Type} {P:α->Prop} {c:Prop} [Decidable c] {a b:KasT α} (h1:c->GoodR N P a) (h2:¬ c->GoodR N P b):GoodR N P (if c then a else b):=by
 split
 · exact h1 (by assumption)
 · exact h2 (by assumption)
noncomputable def In (N:Nat) (p:Array Nat):Prop:=∀ i,p.getD i 0 < N
theorem In.perm {N:Nat} {p q:Array Nat} (hN:0 < N) (h:In N p) (pm:q.Perm p):In N q:=by
 intro i
 rw [Array.getD_eq_getD_getElem?]
 cases e:q[i]? with
 | none=>exact hN
 | some x=>
   show x < N
   have hx:x ∈ q:=Array.mem_of_getElem? e
   have hp:x ∈ p:=pm.mem_iff.mp hx
   obtain ⟨j,hj,ej⟩:=Array.mem_iff_getElem.mp hp
   have:=h j
   rw [Array.getD_eq_getD_getElem?,Array.getElem?_eq_getElem hj,ej] at this
   exact this
section
variable {N:Nat} (hN:0 < N)
include hN
theorem In.rev {p:Array Nat} (h:In N p) (i j:Nat):In N (kas_rev p i j):=h.perm hN (mirror_perm _ _ _ _)
theorem g_asc {p:Array Nat} (h:In N p):∀ f n,GoodR N (fun _=>True) (kas_asc p f n)
 | 0,n=>trivial
 | f+1,n=>⟨h _,h _,fun b=>goodR_ite (fun _=>trivial) fun _=>g_asc h f (n+1)⟩
theorem g_desc:∀ f (p:Array Nat) n q,In N p->GoodR N (fun r=>In N r.1) (kas_desc f p n q)
 | 0,p,n,q,h=>h
 | f+1,p,n,q,h=>⟨h _,h _,fun b=>goodR_ite (fun _=>goodR_ite (fun _=>g_desc f _ _ _ (h.rev hN _ _)) fun _=>g_desc f _ _ _ h) fun _=>⟨h _,h _,fun d=>goodR_ite (fun _=>h) fun _=>g_desc f _ _ _ h⟩⟩
theorem g_tail3 {p:Array Nat} (h:In N p) (n m:Nat):GoodR N (fun r=>In N r.2) (kas_tail3 n m p):=goodR_bind (P:=fun _=>True) (R:=fun r=>In N r.2) (f:=fun m=>.ret (m,kas_rev p 0 n)) (fun a _=>h.rev hN 0 n) _ (g_asc hN (h.rev hN _ _) _ _)
theorem g_descPart {p:Array Nat} (h:In N p) (n m:Nat):GoodR N (fun r=>In N r.2) (kas_descPart n m p):=by
 unfold kas_descPart
 refine goodR_bind (P:=fun r=>In N r.1) (fun r hr=>?_) _ (g_desc hN _ _ _ _ h)
 exact goodR_ite (fun _=>g_tail3 hN (hr.rev hN _ _) _ _) fun _=>g_tail3 hN hr _ _
theorem g_count {p:Array Nat} (h:In N p) (m:Nat):GoodR N (fun r=>In N r.2) (kas_count m p):=by
 unfold kas_count
 refine goodR_bind (P:=fun _=>True) (fun n _=>?_) _ (g_asc hN h _ _)
 exact goodR_ite (fun _=>h) fun _=>goodR_ite (fun _=>⟨h _,h _,fun c=>goodR_ite (fun _=>h) fun _=>g_descPart hN (h.rev hN _ _) _ _⟩) fun _=>g_descPart hN h _ _
theorem g_place {p:Array Nat} (h:In N p) (k:Nat):∀ f l r,GoodR N (fun _=>True) (kas_place p k f l r)
 | 0,l,r=>trivial
 | f+1,l,r=>by
   unfold kas_place
   exact goodR_ite (fun _=>trivial) fun _=>⟨h _,h _,fun c=>goodR_ite (fun _=>g_place h k f _ _) fun _=>g_place h k f _ _⟩
theorem g_bin:∀ f (p:Array Nat) k,In N p->GoodR N (fun _=>True) (kas_bin f p k)
 | 0,p,k,h=>trivial
 | f+1,p,k,h=>by
   unfold kas_bin
   exact goodR_bind (P:=fun _=>True) (fun l _=>g_bin f _ _ (h.perm hN (bubble_perm _ _ _))) _ (g_place hN h k _ _ _)
end
theorem g_sort {n:Nat} (h:0 < n):GoodR n (fun _=>True) (kas_sort n):=by
 have hp:In n (List.range n).toArray:=by
   intro i
   rw [Array.getD_eq_getD_getElem?]
   cases e:(List.range n).toArray[i]? with
   | none=>exact h
   | some x=>
     show x < n
     have:x ∈ (List.range n).toArray:=Array.mem_of_getElem? e
     simpa using this
 unfold kas_sort
 refine goodR_bind (P:=fun r=>In n r.2) (fun r hr=>?_) _ (g_count h hp _)
 exact goodR_ite (fun _=>g_bin h _ _ _ hr) fun _=>trivial
theorem kasWp_run {N:Nat} {α:Type} {P:α->Prop} {c:Nat->Nat->Bool} {cmp:Nat->Nat->(Bool->Shared->Prop)->Shared->Prop} {Q:α->Shared->Prop} {s:Shared} (hc:∀ i j C,i < N->j < N->C (c i j) s->cmp i j C s) :
   ∀ t:KasT α,GoodR N P t->Q (run c t) s->t.kasWp cmp Q s
 | .ret a,_,h=>h
 | .ask i j k,g,h=>hc i j _ g.1 g.2.1 (kasWp_run hc (k (c i j)) (g.2.2 _) h)
theorem lex_irrefl:∀ a:List Int,HT.lexLt a a=false
 | []=>rfl
 | x::a=>by rw [HT.lexLt_cons,if_pos rfl]; exact lex_irrefl a
theorem lex_trans:∀ a b c:List Int,HT.lexLt a b=true->HT.lexLt b c=true->HT.lexLt a c=true
 | [],[],_,h,_=>by rw [HT.lexLt_nil_nil] at h; cases h
 | [],_::_,[],_,h=>by rw [HT.lexLt_cons_nil] at h; cases h
 | [],_::_,_::_,_,_=>rfl
 | _::_,[],_,h,_=>by rw [HT.lexLt_cons_nil] at h; cases h
 | _::_,_::_,[],_,h=>by rw [HT.lexLt_cons_nil] at h; cases h
 | x::a,y::b,z::c,h,k=>by
   rw [HT.lexLt_cons] at h k ⊢
   split at h
   · split at k
     · rw [if_pos (by grind)]; exact lex_trans a b c h k
     · have:=of_decide_eq_true k
       rw [if_neg (by grind)]; exact decide_eq_true (by grind)
   · have h1:=of_decide_eq_true h
     split at k
     · rw [if_neg (by grind)]; exact decide_eq_true (by grind)
     · have:=of_decide_eq_true k
       rw [if_neg (by lia)]; exact decide_eq_true (by exact Int.lt_trans h1 this)
theorem lex_neg:∀ a b c:List Int,HT.lexLt a c=true->HT.lexLt a b=true∨HT.lexLt b c=true
 | [],_,[],h=>by rw [HT.lexLt_nil_nil] at h; cases h
 | _::_,_,[],h=>by rw [HT.lexLt_cons_nil] at h; cases h
 | [],[],z::c,_=>.inr rfl
 | [],y::b,z::c,_=>.inl rfl
 | x::a,[],z::c,_=>.inr rfl
 | x::a,y::b,z::c,h=>by
   rw [HT.lexLt_cons] at h
   rw [HT.lexLt_cons,HT.lexLt_cons]
   by_cases h1:x=y
   · subst h1
     rw [if_pos rfl]
     by_cases h2:x=z
     · subst h2
       rw [if_pos rfl] at h ⊢
       exact lex_neg a b c h
     · rw [if_neg h2] at h ⊢; exact .inr h
   · rw [if_neg h1]
     by_cases h3:x < y
     · exact .inl (decide_eq_true h3)
     · refine .inr ?_
       split at h
       · rw [if_neg (by grind)]; exact decide_eq_true (by lia)
       · have:=of_decide_eq_true h
         rw [if_neg (by grind)]; exact decide_eq_true (by omega)
theorem lex_total:∀ a b:List Int,HT.lexLt a b=false->HT.lexLt b a=false->a=b
 | [],[],_,_=>rfl
 | [],y::b,h,_=>by rw [HT.lexLt_nil_cons] at h; cases h
 | x::a,[],_,h=>by rw [HT.lexLt_nil_cons] at h; cases h
 | x::a,y::b,h,k=>by
   rw [HT.lexLt_cons] at h k
   by_cases e:x=y
   · subst e
     rw [if_pos rfl] at h k
     rw [lex_total a b h k]
   · rw [if_neg e] at h
     rw [if_neg (Ne.symm e)] at k
     have:=of_decide_eq_false h
     have:=of_decide_eq_false k
     lia
noncomputable def lexO:KeyOrd:=⟨List Int,HT.lexLt,lex_irrefl,lex_trans,lex_neg,lex_total⟩
section
variable {prog:Program} {w:World} {A:Around} {s:Shared}
theorem one_int {b:Bool} {i j:Int} {t u:Tok} {Q:Bool->Shared->Prop} {E:Value->Shared->Prop} (h:Q (decide (i < j)) s):wpAny (model prog w) A (oneLt' b (.int i t) (.int j u)) Q E s:=by
 cases b with
 | true=>exact oneLt_int h
 | false=>exact kat_one _ _ (lt_int (show PySem.W.BoolBack Q (.bool (decide (i < j))) s from h))
theorem lex_run {b:Bool} {Q:Bool->Shared->Prop} {fin:Bool}:∀ {us vs:List Value} {ns ms:List Int} (i:Nat),IntsAre us ns->IntsAre vs ms->fin=decide (ns.length < ms.length)->Q (HT.lexLt ns ms) s->KatLex prog w A b fin Q (us.zip vs) i s
 | [],[],ns,ms,i,h1,h2,hf,h=>by
   cases h1; cases h2
   rw [hf]; exact h
 | [],v::vs,ns,ms,i,h1,h2,hf,h=>by
   cases h1; cases h2
   rw [hf]
   exact h
 | u::us,[],ns,ms,i,h1,h2,hf,h=>by
   cases h1; cases h2
   rw [hf]
   exact h
 | u::us,v::vs,ns,ms,i,h1,h2,hf,h=>by
   cases h1 with
   | cons x t h1=>
     rename_i ns
     cases h2 with
     | cons y t' h2=>
       rename_i ms
       rw [List.zip_cons_cons]
       refine kat_cons ?_
       refine SeqAt.EqAt.int_int (A:=A) (s:=s) x t y t' prog w _ _ ?_
       rw [HT.lexLt_cons] at h
       by_cases e:x=y
       · subst e
         rw [if_pos rfl] at h
         rw [show (x == x)=true by simp]
         exact kat_yes (lex_run (i+1) h1 h2 (by rw [hf]; simp) h)
       · rw [if_neg e] at h
         rw [show (x == y)=false by simpa using e]
         exact kat_no (one_int h)
theorem sort_few {vs:List Value} (hl:vs.length < 2):(arrOf (SortSt.mk' general' (vs.toArray.zip vs.toArray) #[] 7 none)).map (·.2)=(List.map (fun i=>vs.getD i Value.none) (List.range vs.length)).toArray:=by
 show (vs.toArray.zip vs.toArray).map (·.2)=_
 cases vs with
 | nil=>simp
 | cons v r=>
   cases r with
   | nil=>simp
   | cons u r=>exact absurd (Nat.lt_of_succ_lt_succ hl) (Nat.not_lt_zero _ <| Nat.lt_of_succ_lt_succ ·)
theorem sort_by {O:KeyOrd} {key:Nat->O.α} {a:Addr} {vs:List Value} {n:Nat} {P:PySem.Fin->Shared->Prop} {E:Value->Shared->Prop} (ho:s.heap.get? a=some (seqObj "list" vs.toArray n)) (h64:vs.length < 64)
   (hk:2<=vs.length->∀ s':Shared,(∀ b o,b ≠ a->s.heap.get? b=some o->s'.heap.get? b=some o)->∃ κ,(∀ (Q:SortKind->Shared->Prop) (E:Value->Shared->Prop),Q κ s'->wpAny (model prog w) A (keyKind' vs.toArray) Q E s')/\∀ i j C,i < vs.length->j < vs.length->C (O.blt (key i) (key j)) s'->kas_ask prog w A κ vs i j C s')
   (h:∀ q:List Nat,q.Perm (List.range vs.length)->(∀ i j,i<=j->j < vs.length->O.kle (key (q.getD i 0)) (key (q.getD j 0)))->P (.done (.ret .none)) { s with heap:=sortedHeap s.heap a vs (q.map fun i=>vs.getD i Value.none).toArray }) :
   wpAny (model prog w) A (Builtin.«list.sort» ⟨[.ref a],[]⟩) P E s:=by
 obtain ⟨e1,g1⟩:∃ e1,(s.heap.update a (Obj.mapSeq fun _=>#[])).get? a=some (seqObj "list" #[] e1):=⟨_,get?_update_seq ho fun _=>#[]⟩
 rw [list_sort_plain]
 have la:a < s.heap.objs.size:=Z13 ho
 apply Z55; apply listItems_at ho rfl
 apply Z55; refine listUpdate_at ho rfl ?_ (by simp -iota [sizeLine_eq]; lia) (Z30 _)
 apply Z55; apply seqEpoch_at g1 rfl
 apply Z55; refine wpAny_newTuple ?_ (by show vs.length<=_; rw [sizeLine_eq]; omega)
 apply Z55; refine wpAny_newList ?_ (Z30 _)
 apply wpAny_holding
 generalize eh:((s.heap.update a (Obj.mapSeq fun _=>(#[]:Array Value))).push (seqObj "tuple" vs.toArray 0)).push (seqObj "list" #[] 0)=hh
 have g6:hh.get? a=some (seqObj "list" #[] e1):=by
   subst eh
   rw [Heap.get?_push_ne _ _ _ (by rw [size_push',Heap.size_update]; exact Z26 (Nat.lt_succ_of_lt la))]
   rw [Heap.get?_push_ne _ _ _ (by rw [Heap.size_update]; exact Z26 la)]
   exact g1
 have gk:∀ b o,b ≠ a->s.heap.get? b=some o->hh.get? b=some o:=by
   subst eh
   intro b o hb hg
   exact Z7 _ (Z7 _ ((Heap.get?_update_ne _ _ _ _ hb).trans hg))
 have hf:∀ out,sortedHeap s.heap a vs out=hh.update a (Obj.mapSeq fun _=>out):=fun out=>by subst eh; rfl
 show wpAny (model prog w) A _ P E { s with heap:=hh }
 dsimp only
 by_cases h2:vs.toArray.size < 2
 · have hl:vs.length < 2:=by simpa using h2
   simp -iota only [if_pos h2]
   apply Z55; apply Z56
   rw [StateT.run_pure]
   apply Z55; apply Z56
   dsimp only
   apply Z55; apply seqEpoch_at g6 rfl
   have eo:=sort_few hl
   apply Z55
   refine listUpdate_at g6 rfl ?_ (Z30 _) (by rw [eo]; simp -iota [sizeLine_eq]; lia)
   simp -iota only [bne_self_eq_false,Z47,if_false]
   apply Z56
   rw [eo]
   have:=h (List.range vs.length) (List.Perm.refl _) (fun i j hij hj=>by
     have:i=j:=by grind
     subst this; exact KeyOrd.kle_refl _)
   rw [hf] at this
   exact this
 · have hl:2<=vs.length:=by simpa using h2
   simp -iota only [if_neg h2]
   obtain ⟨κ,k1,k2⟩:=hk hl { s with heap:=hh } gk
   apply Z55
   apply k1
   have so:=sort_ok (O:=O) (key:=key) hl
   generalize hp:run (cm O key) (kas_sort vs.length)=p at so
   have psz:p.size=vs.length:=by rw [so.1.size_eq]; simp
   apply Z55
   refine Z57 (kat_run (κ:=κ) (E:=fun _ _=>False) (Q:=fun st' s'=>s'={ s with heap:=hh }/\arrOf st'=p.map (kas_item (vs.toArray.zip vs.toArray))/\failedOf st'=none) (G:=fun p' s'=>p'=p/\s'={ s with heap:=hh }) rfl hl h64
     (fun p' st' s' a1 a2 a3 a4=>⟨a4.2,by rw [a2,a4.1],a3⟩) (kasWp_run k2 _ (g_sort (by grind)) ⟨hp,rfl⟩)) ?_ (fun _ _ z=>z.elim)
   rintro ⟨⟨⟩,st'⟩ s' ⟨rfl,ha,hff⟩
   dsimp only at ha hff ⊢
   have eo:=kat_snds rfl ha
   rw [eo]
   apply Z55; apply seqEpoch_at g6 rfl
   apply Z55
   refine listUpdate_at g6 rfl ?_ (Z30 _) (by simp -iota [sizeLine_eq,psz]; lia)
   rw [hff]
   simp -iota only [bne_self_eq_false,Z47,if_false]
   apply Z56
   have:=h p.toList (by have:=Array.perm_iff_toList_perm.mp so.1; simpa using this) (fun i j hij hj=>by
     have:=so.2 i j hij hj
     unfold at_ at this
     rw [Array.getD_eq_getD_getElem?,Array.getD_eq_getD_getElem?] at this
     rw [Z5,Z5]
     simpa using this)
   rw [hf] at this
   exact this
theorem collect_tup {l:Addr} {vs:List Value} {o:Obj} {n:Nat} {Q:List Value->Shared->Prop} {E:Value->Shared->Prop} (ho:s.heap.get? l=some o) (hc:o.cls=.type "tuple") (hd:o.data=.seq vs.toArray n) (hz:vs.length<=sizeLine)
   (h:Q vs { s with heap:=(s.heap.push (seqObj "list" #[] 0)).update s.heap.objs.size (Obj.mapSeq (·++vs.toArray)) }):wpAny (model prog w) A (collect (.ref l)) Q E s:=by
 have g':(s.heap.push (seqObj "list" #[] 0)).get? l=some o:=Z7 _ ho
 have gn:(s.heap.push (seqObj "list" #[] 0)).get? s.heap.objs.size=some (seqObj "list" #[] 0):=Z20 _ rfl
 unfold collect
 apply Z55
 apply wpAny_runValue
 apply codeAny_builtin entry_proto_collect'
 show wpAny _ _ (do again (.builtin "list.__iadd__" ⟨[<- newList [],.ref l],[]⟩)) _ _ _
 apply Z55
 refine wpAny_newList ?_ (Z30 _)
 apply Z56
 refine ⟨Code.quiet_builtin _ (by decide +kernel),codeAny_builtin entry_list_iadd' ?_⟩
 show wpAny _ _ (Builtin.List.listExtendWith _ _ _) _ _ _
 unfold Builtin.List.listExtendWith
 apply Z55
 refine wpAny_typeOf (T:="tuple") ⟨o,g',hc⟩ ?_
 have tt:(Value.type "tuple" == Value.type "tuple")=true:=rfl
 rw [if_pos (by rw [tt]; simp)]
 apply Z55
 refine listItems_at g' hd ?_
 apply Z55
 refine listItems_at gn rfl ?_
 rw [if_neg (by simp)]
 apply Z55
 refine listUpdate_at gn rfl ?_ (Z30 _) (by simp; lia)
 apply Z56
 have gu:=get?_update_seq gn (·++vs.toArray)
 apply Z55
 refine wpAny_load gu ?_
 show wpAny _ _ (pure ((#[]:Array Value)++vs.toArray).toList) _ _ _
 rw [show ((#[]:Array Value)++vs.toArray).toList=vs by simp]
 apply Z56
 exact h
theorem sorted_by {O:KeyOrd} {key:Nat->O.α} {l:Addr} {vs:List Value} {Q:Value->Shared->Prop} {E:Value->Shared->Prop} (hcol:∀ (A:Around) (Q:List Value->Shared->Prop) (E:Value->Shared->Prop),Q vs { s with heap:=(s.heap.push (seqObj "list" #[] 0)).update s.heap.objs.size (Obj.mapSeq (·++vs.toArray)) }->wpAny (model prog w) A (collect (.ref l)) Q E s) (h64:vs.length < 64)
   (hk:2<=vs.length->∀ (A:Around) (s':Shared),(∀ b o,s.heap.get? b=some o->s'.heap.get? b=some o)->∃ κ,(∀ (Q:SortKind->Shared->Prop) (E:Value->Shared->Prop),Q κ s'->wpAny (model prog w) A (keyKind' vs.toArray) Q E s')/\∀ i j C,i < vs.length->j < vs.length->C (O.blt (key i) (key j)) s'->kas_ask prog w A κ vs i j C s')
   (h:∀ q:List Nat,q.Perm (List.range vs.length)->(∀ i j,i<=j->j < vs.length->O.kle (key (q.getD i 0)) (key (q.getD j 0)))->Q (.ref (s.heap.objs.size+1)) { s with heap:=sortedAll s.heap vs (q.map fun i=>vs.getD i Value.none).toArray }) :
   wpAny (model prog w) A (call (.builtin "sorted") [.ref l]) Q E s:=by
 apply Calls.call_function_entry kind_sorted plain_sorted entry_sorted (args_sorted1 _)
 unfold Builtin.«sorted»
 apply Z55 (m:=checkCount "sorted" 1 1 _); apply Z56
 apply Z55; refine hcol _ _ _ ?_
 apply Z55; refine wpAny_newList ?_ (by rw [sizeLine_eq]; omega)
 have hz:((s.heap.push (seqObj "list" #[] 0)).update s.heap.objs.size (Obj.mapSeq (·++vs.toArray))).objs.size=s.heap.objs.size+1:=by rw [Heap.size_update,size_push']
 generalize e1:(s.heap.push (seqObj "list" #[] 0)).update s.heap.objs.size (Obj.mapSeq (·++vs.toArray))=h1 at hz
 have kp:∀ b o,s.heap.get? b=some o->h1.get? b=some o:=fun b o e=>by
   subst e1
   exact (Heap.get?_update_ne _ _ _ _ (Z26 (Z13 e))).trans (Z7 _ e)
 dsimp only
 have ea:∀ out,sortedAll s.heap vs out=sortedHeap (h1.push (seqObj "list" vs.toArray 0)) (s.heap.objs.size+1) vs out:=fun out=>by subst e1; rfl
 rw [hz]
 have hoL:(h1.push (seqObj "list" vs.toArray 0)).get? (s.heap.objs.size+1)=some (seqObj "list" vs.toArray 0):=by
   rw [<- hz]; exact Z20 _ rfl
 apply Z55
 apply wpAny_holding
 refine wpAny_call_entry slot_list_sort ⟨_,hoL,rfl⟩ entry_list_sort (sort_by (O:=O) (key:=key) hoL h64 (fun h2 s' hs=>hk h2 _ s' fun b o e=>hs b o (fun z=>?_) (Z7 _ (kp b o e))) fun q q1 q2=>⟨_,rfl,?_⟩) (args_list_sort _)
 · exact absurd z (Z26 (Nat.lt_succ_of_lt (Z13 e)))
 · apply Z56
   refine ⟨_,rfl,?_⟩
   have:=h q q1 q2
   rw [ea] at this
   exact this
end
noncomputable def KsAt (K:PySem.W.Frag) (H:Hp) (ys:List V) (ks:List (List Int)):Prop:=ks.length=ys.length/\∀ (i:Nat) (y:V),ys[i]?=some y->∃ b n ns,y=.ref b/\ks[i]?=some (n::ns)/\SqT K H b ((n::ns).map V.int)
noncomputable def Rises (ks:List (List Int)) (q:List Nat):Prop:=∀ i j,i<=j->j < ks.length->HT.lexLt (ks.getD (q.getD j 0) []) (ks.getD (q.getD i 0) [])=false
noncomputable def rSort (K:PySem.W.Frag) (xs:List V) (H:Hp) (Q:VK):Prop:=∃ a ys ks,xs=[.ref a]/\(SqL K H a ys∨SqT K H a ys)/\ys.length < 64/\KsAt K H ys ks /\
 ∀ q:List Nat,q.Perm (List.range ys.length)->Rises ks q->∀ l,H l=none->Q (.ref l) (upd H l (.lst (q.map fun i=>ys.getD i .non)))
theorem ints_vals:∀ {ns:List Int} {its:List Value},Vals (ns.map V.int) its->IntsAre its ns:=by
 intro ns
 induction ns with
 | nil=>intro its h; cases h; exact .nil
 | cons n ns ih=>
   intro its h
   rcases h with _ | ⟨r,t⟩
   obtain ⟨k,rfl⟩:=r
   exact .cons n k (ih t)
theorem kat_list {h:Heap}:∀ {vs:List Value} {fs:List Value},vs.length=fs.length->(∀ (i:Nat) (v:Value),vs[i]?=some v->∃ a o xs n f,v=.ref a/\h.get? a=some o/\o.cls=.type "tuple"/\o.data=.seq xs n/\xs[0]?=some f/\fs[i]?=some f)->KatTups h vs fs
 | [],[],_,_=>trivial
 | [],_::_,e,_=>by simp at e
 | _::_,[],e,_=>by simp at e
 | v::vs,f::fs,e,k=>by
   obtain ⟨a,o,xs,n,f',rfl,h1,h2,h3,h4,h5⟩:=k 0 v rfl
   have:f'=f:=by simpa using h5.symm
   subst this
   exact .cons h1 h2 h3 h4 (kat_list (by simpa using e) fun i v' hv=>k (i+1) v' (by simpa using hv))
theorem call_sort {X:Cx}:CallR X (.builtin "sorted") (rSort X.K):=by
 intro pins s σ H xs us Q I r h
 obtain ⟨a,ys,ks,rfl,hq,h64,⟨hkl,hks⟩,q⟩:=h
 obtain ⟨u,rfl,rx⟩:=vals1 r
 cases rx
 obtain ⟨its,r',hz,hcol⟩:∃ its,Vals ys its/\ys.length<=sizeLine/\∀ (A:Around) (Q:List Value->Shared->Prop) (E:Value->Shared->Prop),Q its { s with heap:=(s.heap.push (seqObj "list" #[] 0)).update s.heap.objs.size (Obj.mapSeq (·++its.toArray)) }->wpAny (model X.prog X.w) A (collect (.ref a)) Q E s:=by
   rcases hq with hq | hq
   · obtain ⟨its,r',pl,hz⟩:=I.list hq
     exact ⟨its,r',hz,fun A Q E z=>collect_list pl.isList z (by rw [<- r'.length]; exact hz)⟩
   · obtain ⟨its,r',⟨o,ho,hc,n,hd⟩,hz⟩:=I.tuple hq
     exact ⟨its,r',hz,fun A Q E z=>collect_tup ho hc hd (by rw [<- r'.length]; exact hz) z⟩
 have hlen:=r'.length
 refine sorted_by (O:=lexO) (key:=fun i=>ks.getD i []) hcol (by lia) ?_ ?_
 · intro h2 A s' kp
   have one:∀ (i:Nat) (v:Value),its[i]?=some v->∃ b o xs n m ms,v=.ref b/\s'.heap.get? b=some o/\o.cls=.type "tuple"/\o.data=.seq xs n/\IntsAre xs.toList (m::ms)/\ks.getD i []=m::ms:=by
     intro i v hv
     have hi:i < its.length:=(Z9.mp hv).1
     obtain ⟨y,hy⟩:∃ y,ys[i]?=some y:=⟨_,Z3 (by lia)⟩
     obtain ⟨v',hv',rv⟩:=r'.get hy
     rw [hv] at hv'; cases hv'
     obtain ⟨b,m,ms,rfl,hk,ht⟩:=hks i y hy
     cases rv
     obtain ⟨ts,rt,⟨o,ho,hc,n,hd⟩,_⟩:=I.tuple ht
     exact ⟨b,o,ts.toArray,n,m,ms,rfl,kp b o ho,hc,hd,by simpa using ints_vals rt,by rw [Z5,hk]; rfl⟩
   refine ⟨tuples' (Value.type "int" != Value.type "tuple"),fun Q' E' hQ=>?_,fun i j C hi hj hC=>?_⟩
   · have fst:∀ i:Nat,∃ f:Value,∀ v:Value,its[i]?=some v->∃ b o xs n,v=.ref b/\s'.heap.get? b=some o/\o.cls=.type "tuple"/\o.data=.seq xs n/\xs[0]?=some f/\∃ m t,f=.int m t:=by
       intro i
       cases e:its[i]? with
       | none=>exact ⟨.none,fun v hv=>by cases hv⟩
       | some v=>
         obtain ⟨b,o,xs,n,m,ms,rfl,h1,h2,h3,h4,_⟩:=one i v e
         generalize el:xs.toList=l at h4
         cases h4 with
         | cons m t h4=>
           refine ⟨.int m t,fun v' hv'=>?_⟩
           cases hv'
           exact ⟨b,o,xs,n,rfl,h1,h2,h3,by rw [<- Array.getElem?_toList,el]; rfl,m,t,rfl⟩
     obtain ⟨f,hf⟩:=Classical.axiomOfChoice fst
     have hall:∀ v ∈ (List.range its.length).map f,∃ m t,v=.int m t:=by
       intro v hv
       obtain ⟨i,hi,rfl⟩:=Z18.mp hv
       have hi':=List.mem_range.mp hi
       obtain ⟨_,_,_,_,_,_,_,_,_,z⟩:=hf i _ (Z3 hi')
       exact z
     refine kat_kind (fs:=(List.range its.length).map f) (T:=.type "int") (kat_list (by simp) fun i v hv=>?_) (by simp; grind) (fun v hv=>?_) (by decide) hQ
     · obtain ⟨b,o,xs,n,h1,h2,h3,h4,h5,_⟩:=hf i v hv
       have hi:i < its.length:=(Z9.mp hv).1
       exact ⟨b,o,xs,n,f i,h1,h2,h3,h4,h5,by simp [hi]⟩
     · obtain ⟨m,t,rfl⟩:=hall v hv
       exact .now
   · obtain ⟨v,hv⟩:∃ v,its[i]?=some v:=⟨_,Z3 hi⟩
     obtain ⟨v',hv'⟩:∃ v,its[j]?=some v:=⟨_,Z3 hj⟩
     obtain ⟨b,o,xs,n,m,ms,rfl,h1,h2,h3,h4,h5⟩:=one i v hv
     obtain ⟨b',o',xs',n',m',ms',rfl,h1',h2',h3',h4',h5'⟩:=one j v' hv'
     unfold kas_ask
     rw [Z5,Z5,hv,hv']
     refine kat_lt h1 h3 h1' h3' (lex_run 0 h4 h4' ?_ ?_)
     · rw [<- h4.length,<- h4'.length]; simp
     · have:C (HT.lexLt (ks.getD i []) (ks.getD j [])) s':=hC
       rwa [h5,h5'] at this
 · intro p p1 p2
   obtain ⟨e,he⟩:=sortedAll_at s.heap its (p.map fun i=>its.getD i Value.none).toArray
   refine ⟨.ref (s.heap.objs.size+1),_,I.laid (t':=s.toks) (fun b o hb=>sortedAll_old hb) (Nat.le_succ _) (show ObjOk X.prog X.w _ _ _ (.lst (p.map fun i=>ys.getD i .non)) from ⟨?_,p.map fun i=>its.getD i Value.none,e,?_,he⟩),rfl,q p (by rw [hlen]; exact p1) (fun i j hij hj=>p2 i j hij (by grind)) _ (I.hok.fresh (Nat.le_succ _))⟩
   · have:=p1.length_eq
     simp at this
     simp [this,sizeLine_eq]; lia
   · have all:∀ l:List Nat,(∀ i ∈ l,i < ys.length)->Vals (l.map fun i=>ys.getD i .non) (l.map fun i=>its.getD i Value.none):=by
       intro l
       induction l with
       | nil=>intro _; exact .nil
       | cons i l ih=>
         intro hl
         obtain ⟨y,hy⟩:∃ y,ys[i]?=some y:=⟨_,Z3 (hl i (by simp))⟩
         obtain ⟨u,hu,ru⟩:=r'.get hy
         refine .cons ?_ (ih fun j hj=>hl j (by simp [hj]))
         dsimp only
         rw [Z5,Z5,hy,hu]
         exact ru
     exact all p fun i hi=>by have:=p1.mem_iff.mp hi; rw [List.mem_range] at this; lia
end Srt
namespace Srt
open PySem PySem.W PyProof.Rows L2 Mir
noncomputable def rSortI (K:PySem.W.Frag) (xs:List V) (H:Hp) (Q:VK):Prop:=∃ a ns,xs=[.ref a]/\SqL K H a (ns.map V.int)/\ns.length < 64 /\
 ∀ ms:List Int,ms.Perm ns->ms.Pairwise (·<=·)->∀ l,H l=none->Q (.ref l) (upd H l (.lst (ms.map V.int)))
theorem vals_ints {ns:List Int} {its:List Value} (h:IntsAre its ns):Vals (ns.map V.int) its:=by
 induction h with
 | nil=>exact .nil
 | cons _ t _ ih=>exact .cons ⟨t,rfl⟩ ih
theorem call_sortI {X:Cx}:CallR X (.builtin "sorted") (rSortI X.K):=by
 intro pins s σ H xs us Q I r h
 obtain ⟨a,ns,rfl,hq,h64,q⟩:=h
 obtain ⟨u,rfl,rx⟩:=vals1 r
 cases rx
 obtain ⟨its,r',pl,hz⟩:=I.list hq
 have hlen:=r'.length
 rw [Z2] at hlen
 refine sorted_ints pl.isList (ints_vals r') (by lia) fun out ms m1 m2 m3=>?_
 obtain ⟨e,he⟩:=sortedAll_at s.heap its out
 have hl2:=m2.length_eq
 exact ⟨.ref (s.heap.objs.size+1),_,I.laid (t':=s.toks) (fun b o hb=>sortedAll_old hb) (Nat.le_succ _) (show ObjOk X.prog X.w _ _ _ (.lst (ms.map V.int)) from ⟨by rw [Z2,sizeLine_eq]; lia,out.toList,e,vals_ints m1,he⟩),rfl,q ms m2 m3 _ (I.hok.fresh (Nat.le_succ _))⟩
noncomputable def rSortX (K:PySem.W.Frag) (xs:List V) (H:Hp) (Q:VK):Prop:=rSort K xs H Q∨rSortI K xs H Q
theorem call_sortX {X:Cx} {K:PySem.W.Frag} (kt:KT K) (hK:X.K=K:=by rfl):CallR X (.builtin "sorted") (rSortX K):=by
 subst hK
 intro pins s σ H xs us Q I r h
 rcases h with h | h
 · exact call_sort pins s σ H xs us Q I r h
 · exact call_sortI pins s σ H xs us Q I r h
noncomputable def tupI (k:List Int):D:=.tup (k.map D.int)
noncomputable def keysD:List D->Option (List (List Int))
 | []=>some []
 | .tup l::r=>(intsD l).bind fun k=>if k=[] then none else (keysD r).bind fun ks=>some (k::ks)
 | _=>none
theorem keysD_map:∀ {l:List D} {ks:List (List Int)},keysD l=some ks->l=ks.map tupI/\∀ k ∈ ks,k ≠ []
 | [],ks,h=>by cases h; exact ⟨rfl,by simp⟩
 | .tup l::r,ks,h=>by
   unfold keysD at h
   simp only [Z0] at h
   obtain ⟨k,h1,h2⟩:=h
   split at h2
   · cases h2
   · simp only [Z0] at h2
     obtain ⟨ks',h3,h4⟩:=h2
     cases h4
     obtain ⟨e,f⟩:=keysD_map h3
     refine ⟨by rw [Z6,<- e,tupI,<- intsD_map h1],fun k' hk=>?_⟩
     rcases Z19.mp hk with rfl | hk
     · assumption
     · exact f k' hk
 | .non::r,ks,h=>by cases h
 | .bl _::r,ks,h=>by cases h
 | .int _::r,ks,h=>by cases h
 | .str _::r,ks,h=>by cases h
 | .lst _::r,ks,h=>by cases h
theorem keysD_of:∀ (ks:List (List Int)),(∀ k ∈ ks,k ≠ [])->keysD (ks.map tupI)=some ks
 | [],_=>rfl
 | k::ks,h=>by
   show keysD (.tup (k.map D.int)::ks.map tupI)=_
   unfold keysD
   rw [intsD_of,Z1,if_neg (h k (by simp)),keysD_of ks fun k' hk=>h k' (by simp [hk])]
   rfl
noncomputable abbrev lexLe (a b:List Int):Bool:=!HT.lexLt b a
noncomputable def sortK (ks:List (List Int)):List (List Int):=ks.mergeSort lexLe
noncomputable def sortI (ns:List Int):List Int:=ns.mergeSort fun a b=>decide (a<=b)
noncomputable def sortD:List D->Option D
 | [.lst l]=>match intsD l with
   | some ns=>if ns.length < 64 then some (.lst ((sortI ns).map D.int)) else none
   | none=>(keysD l).bind fun ks=>if ks.length < 64 then some (.lst ((sortK ks).map tupI)) else none
 | [.tup l]=>(keysD l).bind fun ks=>if ks.length < 64 then some (.lst ((sortK ks).map tupI)) else none
 | _=>none
theorem lexLe_trans (a b c:List Int) (h:lexLe a b=true) (k:lexLe b c=true):lexLe a c=true:=by
 unfold lexLe at *
 have h1:HT.lexLt b a=false:=by simpa using h
 have k1:HT.lexLt c b=false:=by simpa using k
 cases e:HT.lexLt c a with
 | false=>rfl
 | true=>
   rcases lex_neg c b a e with z | z
   · rw [k1] at z; cases z
   · rw [h1] at z; cases z
theorem lexLe_total (a b:List Int):(lexLe a b || lexLe b a)=true:=by
 unfold lexLe
 cases e:HT.lexLt b a with
 | false=>rfl
 | true=>
   cases e2:HT.lexLt a b with
   | false=>rfl
   | true=>
     have:=lex_trans a b a e2 e
     rw [lex_irrefl] at this; cases this
theorem sortK_perm (ks:List (List Int)):(sortK ks).Perm ks:=List.mergeSort_perm _ _
theorem sortK_rise (ks:List (List Int)):(sortK ks).Pairwise fun a b=>lexLe a b=true:=List.pairwise_mergeSort lexLe_trans lexLe_total _
theorem sortK_eq {ks ls:List (List Int)} (p:ls.Perm ks) (r:ls.Pairwise fun a b=>lexLe a b=true):ls=sortK ks:=by
 refine List.Perm.eq_of_pairwise (le:=fun a b=>lexLe a b=true) (fun a b _ _ h k=>?_) r (sortK_rise ks) (p.trans (sortK_perm ks).symm)
 unfold lexLe at h k
 exact lex_total a b (by simpa using k) (by simpa using h)
theorem sortI_perm (ks:List Int):(sortI ks).Perm ks:=List.mergeSort_perm _ _
theorem sortI_rise (ks:List Int):(sortI ks).Pairwise (·<=·):=by
 have:=List.pairwise_mergeSort (le:=fun (a b:Int)=>decide (a<=b)) (fun a b c h k=>by simp at *; exact Int.le_trans h k) (fun a b=>by simp; lia) ks
 exact this.imp fun h=>by simpa using h
theorem sortI_eq {ks ls:List Int} (p:ls.Perm ks) (r:ls.Pairwise (·<=·)):ls=sortI ks:=
 List.Perm.eq_of_pairwise (le:=fun (a b:Int)=>a<=b) (fun a b _ _ h k=>Int.le_antisymm h k) r (sortI_rise ks) (p.trans (sortI_perm ks).symm)
theorem getD_pairwise {ks:List (List Int)} {q:List Nat} (hq:q.length=ks.length) (h:Rises ks q):(q.map fun i=>ks.getD i []).Pairwise fun a b=>lexLe a b=true:=by
 rw [List.pairwise_iff_getElem]
 intro i j hi hj hij
 simp only [Z2] at hi hj
 have:=h i j (by exact (Z38 hij)) (by exact Z15 hj (Nat.le_of_eq hq))
 rw [Z5 (l:=q),Z5 (l:=q),Z3 hi,Z3 hj] at this
 simp only [Option.getD_some] at this
 simp only [List.getElem_map,lexLe,this]
 rfl
theorem getD_perm {ks:List (List Int)} {q:List Nat} (hq:q.Perm (List.range ks.length)):(q.map fun i=>ks.getD i []).Perm ks:=by
 have h1:=hq.map fun i=>ks.getD i []
 have h2:((List.range ks.length).map fun i=>ks.getD i [])=ks:=by
   apply List.ext_getElem?
   intro i
   rw [Z21]
   by_cases hi:i < ks.length
   · simp [hi]
   · simp [hi]
 rwa [h2] at h1
theorem sort_keys {K:PySem.W.Frag} {H:Hp} {ok:Addr->Prop} {p:Addr} {xs:List V} {ks:List (List Int)} {Q:VK} (sq0:SqL K H p xs∨SqT K H p xs) (rp:RepPL K H ok (ks.map tupI) xs) (hne:∀ k ∈ ks,k ≠ []) (h64:ks.length < 64)
   (k:∀ v H',Same H H'->RepP K H' (fun a=>ok a∨H a=none) (.lst ((sortK ks).map tupI)) v->Q v H'):rSort K [.ref p] H Q:=by
 have hln:=rp.length
 rw [Z2] at hln
 have each:∀ (i:Nat) (y:V),xs[i]?=some y->∃ b n ns,y=.ref b/\ks[i]?=some (n::ns)/\SqT K H b ((n::ns).map V.int)/\RepP K H ok (tupI (n::ns)) y:=by
   intro i y hy
   have hi:i < ks.length:=by rw [<- hln]; exact (Z9.mp hy).1
   have hk:ks[i]?=some ks[i]:=Z3 hi
   obtain ⟨y',hy',ry⟩:=rp.get (i:=i) (d:=tupI ks[i]) (by rw [Z21,hk]; rfl)
   rw [hy] at hy'; cases hy'
   have nk:=hne _ (List.getElem_mem hi)
   generalize ks[i]=kk at ry nk hk
   have ry':=ry
   unfold tupI at ry
   rw [RepP] at ry
   obtain ⟨b,zs,rfl,sq,rz⟩:=ry
   rw [repPL_ints rz] at sq
   cases kk with
   | nil=>exact absurd rfl nk
   | cons n ns=>exact ⟨b,n,ns,rfl,hk,sq,ry'⟩
 refine ⟨p,xs,ks,rfl,sq0,by exact Nat.lt_of_le_of_lt (Nat.le_of_eq hln) h64,⟨hln.symm,fun i y hy=>let ⟨b,n,ns,a1,a2,a3,_⟩:=each i y hy; ⟨b,n,ns,a1,a2,a3⟩⟩,fun q q1 q2 l hl=>?_⟩
 have s:=new_same (o:=.lst (q.map fun i=>xs.getD i .non)) hl
 refine k _ _ s ?_
 rw [hln] at q1
 have ql:q.length=ks.length:=by have:=q1.length_eq; simpa using this
 rw [<- sortK_eq (getD_perm q1) (getD_pairwise ql q2),RepP]
 refine ⟨l,_,rfl,upd_same,.inr hl,RepPL.same (ok:=fun a=>ok a∨H a=none) ?_ s⟩
 have all:∀ q:List Nat,(∀ i ∈ q,i < ks.length)->RepPL K H (fun a=>ok a∨H a=none) ((q.map fun i=>ks.getD i []).map tupI) (q.map fun i=>xs.getD i .non):=by
   intro q
   induction q with
   | nil=>intro _; exact .nil
   | cons i q ih=>
     intro hq
     have hi:i < ks.length:=hq i (by simp)
     obtain ⟨b,n,ns,a1,a2,a3,a4⟩:=each i xs[i] (Z3 (by omega))
     refine .cons ?_ (ih fun j hj=>hq j (by simp [hj]))
     dsimp only
     rw [Z5,Z5,a2,Z3 (by omega)]
     exact a4.mono fun a xs o _=>.inl o
 exact all q fun i hi=>by have:=q1.mem_iff.mp hi; simpa using this
theorem cb_sort {K:PySem.W.Frag}:CbA K (rSortX K) sortD:=by
 intro H ok vs ds u Q h g k
 cases ds with
 | cons y3 y4=>
   cases y3 with
   | lst l=>
     cases y4 with
     | nil=>
       obtain ⟨v,rfl,h1⟩:=h.one_inv
       obtain ⟨p,xs,rfl,hp,rp⟩:=h1.lst_inv
       unfold sortD at g
       simp only at g
       cases e:intsD l with
       | some ns=>
         rw [e] at g
         simp only at g
         split at g
         · cases g
           rw [intsD_map e] at rp
           refine .inr ⟨p,ns,rfl,.inl (.inl (by rw [<- repPL_ints rp]; exact hp)),by assumption,fun ms m1 m2 l hl=>?_⟩
           have s:=new_same (o:=.lst (ms.map V.int)) hl
           refine k _ _ s ?_
           rw [<- sortI_eq m1 m2,RepP]
           refine ⟨l,_,rfl,upd_same,.inr hl,?_⟩
           have all:∀ ms:List Int,RepPL K (upd H l (.lst (ms.map V.int))) (fun a=>ok a∨H a=none) (ms.map D.int) (ms.map V.int):=by
             intro ms
             generalize upd H l (.lst (ms.map V.int))=H'
             induction ms with
             | nil=>exact .nil
             | cons m ms ih=>exact .cons (by rw [RepP]) ih
           exact all ms
         · cases g
       | none=>
         rw [e] at g
         simp only [Z0] at g
         obtain ⟨ks,e2,g⟩:=g
         split at g
         · rename_i h64
           cases g
           obtain ⟨el,hne⟩:=keysD_map e2
           subst el
           exact .inl (sort_keys (.inl (.inl (.inl hp))) rp hne h64 k)
         · cases g
     | _=>cases g
   | tup l=>
     cases y4 with
     | nil=>
       obtain ⟨v,rfl,h1⟩:=h.one_inv
       obtain ⟨p,xs,rfl,hp,rp⟩:=h1.tup_inv
       unfold sortD at g
       simp only [Z0] at g
       obtain ⟨ks,e2,g⟩:=g
       split at g
       · rename_i h64
         cases g
         obtain ⟨el,hne⟩:=keysD_map e2
         subst el
         exact .inl (sort_keys (.inr hp) rp hne h64 k)
       · cases g
     | _=>cases g
   | _=>cases g
 | _=>cases g
end Srt
namespace Mir
open PySem L2
noncomputable def kill:List Nat->En->En
 | [],ρ=>ρ
 | k::ks,ρ=>kill ks (ρ.set k none)
noncomputable def mKill (ks:List Nat) (f:MS):MS:=fun ρ=>(f ρ).bind fun x=>some (x.1,kill ks x.2)
section
variable {C:Cn} {md:List Md} {A W:Addr->Prop} {ρ:En} {σ:L2.St} {H:Hp}
theorem look_none {ρ:En} {i j:Nat} {s:S} (h:look (ρ.set i none) j=some s):look ρ j=some s:=by
 by_cases e:i=j
 · subst e
   by_cases hl:i < ρ.length
   · rw [look_set_eq hl] at h; cases h
   · rw [List.set_eq_of_length_le (by lia)] at h; exact h
 · rwa [look_set_ne e] at h
theorem R.none1 (r:R C md A W ρ σ H) (i:Nat):R C md A W (ρ.set i none) σ H:=
 ⟨by rw [Z32]; exact r.len,r.wa,r.ak,r.base,r.wf,r.ma,r.fo,fun j s h=>r.slot j s (look_none h),fun j k s s' a n m1 m2 e1 e2=>r.inj j k s s' a n m1 m2 (look_none e1) (look_none e2)⟩
theorem R.kill:∀ (ks:List Nat) {ρ:En},R C md A W ρ σ H->R C md A W (Mir.kill ks ρ) σ H
 | [],ρ,r=>r
 | k::ks,ρ,r=>R.kill ks (r.none1 k)
theorem ls_kill {t:TS} {f:MS} {ks:List Nat} (h:LS C md t f):LS C md t (mKill ks f):=by
 intro A W ρ σ H D fl ρ' r e k
 unfold mKill at e
 simp only [Z0] at e
 obtain ⟨⟨fl1,ρ1⟩,e1,e2⟩:=e
 cases e2
 refine h A W ρ σ H D fl1 ρ1 r e1 ?_
 dsimp only at k
 cases fl1 with
 | nx=>exact fun A' W' σ' H' g r' f'=>k A' W' σ' H' g (r'.kill ks) f'
 | brk=>exact fun A' W' σ' H' g r' f'=>k A' W' σ' H' g (r'.kill ks) f'
 | ct=>exact fun A' W' σ' H' g r' f'=>k A' W' σ' H' g (r'.kill ks) f'
 | ret s=>exact fun A' W' σ' v H' g r' f' z=>k A' W' σ' v H' g (r'.kill ks) f' z
end
end Mir
namespace Mir
open PySem PySem.Spec PyProof.Rows L2
noncomputable def keyOf:List D->Option (List Key)
 | []=>some []
 | .int i::r=>(keyOf r).map (.inl i::·)
 | .str x::r=>(keyOf r).map (.inr x::·)
 | _=>none
noncomputable def valD {κ:Type} [DecidableEq κ]:List (κ × D)->κ->Option D
 | [],_=>none
 | (k',d)::r,k=>if k'=k then some d else valD r k
noncomputable def putD {κ:Type} [DecidableEq κ] (kvs:List (κ × D)) (k:κ) (d:D):List (κ × D):=if (valD kvs k).isSome=true then kvs.map (fun kv=>if kv.1=k then (kv.1,d) else kv) else kvs++[(k,d)]
noncomputable def dcS:Option S->Option (List (List Key × D))
 | some (.dc kvs)=>some kvs
 | _=>none
theorem dcS_some {o:Option S} {kvs:List (List Key × D)} (h:dcS o=some kvs):o=some (.dc kvs):=by
 cases o with
 | some y2=>
   cases y2 with
   | dc l=>
     cases h; rfl
   | _=>cases h
 | _=>cases h
noncomputable def tupS:D->Option (List D)
 | .tup l=>some l
 | _=>none
theorem tupS_some {d:D} {l:List D} (h:tupS d=some l):d=.tup l:=by
 cases d with
 | tup l=>
   cases h; rfl
 | _=>cases h
section
variable {K:PySem.W.Frag} {H:Hp} {ok:Addr->Prop}
theorem keyOf_rep:∀ {l:List D} {k:List Key} {xs:List V},keyOf l=some k->RepPL K H ok l xs->xs=k.map kV
 | [],k,xs,e,r=>by cases e; rw [r.nil_inv]; rfl
 | .int i::l,k,xs,e,r=>by
   replace e:(keyOf l).map (Sum.inl i::·)=some k:=e
   cases e1:keyOf l with
   | none=>rw [e1] at e; cases e
   | some k'=>
     rw [e1] at e; cases e
     obtain ⟨x,t,rfl,h1,h2⟩:=r.cons_inv
     rw [RepP] at h1
     rw [keyOf_rep e1 h2,h1]; rfl
 | .str i::l,k,xs,e,r=>by
   replace e:(keyOf l).map (Sum.inr i::·)=some k:=e
   cases e1:keyOf l with
   | none=>rw [e1] at e; cases e
   | some k'=>
     rw [e1] at e; cases e
     obtain ⟨x,t,rfl,h1,h2⟩:=r.cons_inv
     rw [RepP] at h1
     rw [keyOf_rep e1 h2,h1]; rfl
 | .non::l,k,xs,e,r=>by cases e
 | .bl _::l,k,xs,e,r=>by cases e
 | .tup _::l,k,xs,e,r=>by cases e
 | .lst _::l,k,xs,e,r=>by cases e
section
variable {κ:Type} [DecidableEq κ]
theorem RepKV.cons_inv {k:κ} {d:D} {r:List (κ × D)} {ws:List (κ × V)} (h:RepKV K H ok ((k,d)::r) ws):∃ v t,ws=(k,v)::t/\RepP K H ok d v/\RepKV K H ok r t:=by
 obtain ⟨h1,h2⟩:=h
 cases ws with
 | nil=>simp at h1
 | cons w t=>
   rw [Z6,Z6] at h1 h2
   injection h1 with a1 a2
   obtain ⟨x,y,e,p1,p2⟩:=h2.cons_inv
   injection e with e1 e2
   obtain ⟨wk,wv⟩:=w
   dsimp only at a1 e1
   subst a1; subst e1
   exact ⟨wv,t,rfl,p1,a2,by rw [e2]; exact p2⟩
theorem RepKV.nil_inv {ws:List (κ × V)} (h:RepKV K H ok [] ws):ws=[]:=by
 have:=h.1
 cases ws with
 | nil=>rfl
 | cons w t=>simp at this
theorem RepKV.cons {k:κ} {d:D} {v:V} {r:List (κ × D)} {ws:List (κ × V)} (h:RepP K H ok d v) (t:RepKV K H ok r ws):RepKV K H ok ((k,d)::r) ((k,v)::ws):=
 ⟨by rw [Z6,Z6,t.1],.cons h t.2⟩
theorem RepKV.nil:RepKV (κ:=κ) K H ok [] []:=⟨rfl,.nil⟩
theorem RepKV.length {kvs:List (κ × D)} {ws:List (κ × V)} (h:RepKV K H ok kvs ws):ws.length=kvs.length:=by
 have:=congrArg List.length h.1
 simpa using this
theorem valD_rep:∀ {kvs:List (κ × D)} {ws:List (κ × V)} (k:κ),RepKV K H ok kvs ws->(∀ d,valD kvs k=some d->∃ v,valV ws k=some v/\RepP K H ok d v)/\(valD kvs k=none->valV ws k=none)
 | [],ws,k,h=>by rw [h.nil_inv]; exact ⟨fun d e=>(by cases e),fun _=>rfl⟩
 | (k',d)::r,ws,k,h=>by
   obtain ⟨v,t,rfl,h1,h2⟩:=h.cons_inv
   unfold valD
   by_cases e:k'=k
   · rw [if_pos e,valV_pos e]
     exact ⟨fun d' e'=>by cases e'; exact ⟨v,rfl,h1⟩,fun e'=>by cases e'⟩
   · rw [if_neg e,valV_neg e]
     exact valD_rep k h2
theorem RepKV.map {k:κ} {d:D} {v:V} (hv:RepP K H ok d v):∀ {kvs:List (κ × D)} {ws:List (κ × V)},RepKV K H ok kvs ws ->
   RepKV K H ok (kvs.map fun kv=>if kv.1=k then (kv.1,d) else kv) (ws.map fun kv=>if kv.1=k then (kv.1,v) else kv)
 | [],ws,h=>by rw [h.nil_inv]; exact .nil
 | (k',d')::r,ws,h=>by
   obtain ⟨v',t,rfl,h1,h2⟩:=h.cons_inv
   rw [Z6,Z6]
   by_cases e:k'=k
   · simp only [if_pos e]; exact .cons hv (RepKV.map hv h2)
   · simp only [if_neg e]; exact .cons h1 (RepKV.map hv h2)
theorem RepKV.snoc {k:κ} {d:D} {v:V} (hv:RepP K H ok d v):∀ {kvs:List (κ × D)} {ws:List (κ × V)},RepKV K H ok kvs ws->RepKV K H ok (kvs++[(k,d)]) (ws++[(k,v)])
 | [],ws,h=>by rw [h.nil_inv]; exact .cons hv .nil
 | (k',d')::r,ws,h=>by
   obtain ⟨v',t,rfl,h1,h2⟩:=h.cons_inv
   exact .cons h1 (RepKV.snoc hv h2)
theorem RepKV.put {k:κ} {d:D} {v:V} {kvs:List (κ × D)} {ws:List (κ × V)} (h:RepKV K H ok kvs ws) (hv:RepP K H ok d v):RepKV K H ok (putD kvs k d) (putK ws k v):=by
 obtain ⟨a1,a2⟩:=valD_rep k h
 unfold putD putK
 have e:(ws.any fun kv=>decide (kv.1=k))=(valD kvs k).isSome:=by
   rw [valV_any]
   cases e:valD kvs k with
   | none=>rw [a2 e]; rfl
   | some d'=>obtain ⟨v',e',_⟩:=a1 d' e; rw [e']; rfl
 rw [e]
 split
 · exact RepKV.map hv h
 · exact RepKV.snoc hv h
end
end
section
variable {C:Cn} {md:List Md} {fx:Nat->Prop}
theorem R.dict {A W:Addr->Prop} {ρ:En} {σ:L2.St} {H:Hp} {i:Nat} {kvs:List (List Key × D)} {w:V} (r:R C md A W ρ σ H) (e:look ρ i=some (.dc kvs)) (ew:σ[i]?=some (some w)) :
   ∃ a ws,w=.ref a/\H a=some (.dT ws)/\RepKV C.K H (fun b=>¬ A b) kvs ws:=by
 obtain ⟨v,ev,c⟩:=r.slot i _ e
 rw [ew] at ev; cases ev
 cases em:mode md i with
 | pl=>rw [em] at c; obtain ⟨a,ws,z,c1,c2,c3⟩:=c; exact ⟨a,ws,z,c1,c3⟩
 | ow=>rw [em] at c; obtain ⟨a,ws,z,c1,c2,c3,c4⟩:=c; exact ⟨a,ws,z,c1,c4⟩
 | lk=>rw [em] at c; obtain ⟨a,ws,z,c1,c2,c3,c4⟩:=c; exact ⟨a,ws,z,c1,c4⟩
 | io=>rw [em] at c; obtain ⟨a,ws,z,c1,c2,c3,c4⟩:=c; exact ⟨a,ws,z,c1,c4⟩
theorem op_ixXA {K:PySem.W.Frag}:OpA K (rIxX K) ixD:=fun H ok x y d e u Q h1 h2 g k=>.inl (op_ix H ok x y d e u Q h1 h2 g k)
noncomputable def mDGet (i:Nat) (f:ME):ME:=fun ρ=>(dcS (look ρ i)).bind fun _=>(f ρ).bind fun x=>(res x.2 x.1).bind fun d=>(tupS d).bind fun l=>(keyOf l).bind fun k=>(dcS (look x.2 i)).bind fun kvs=>(valD kvs k).bind fun u=>some (.val u,x.2)
theorem le_dget {i:Nat} {t:TE} {f:ME} (h:LE C md t f):LE C md (tOp (rIxX C.K) (tVar i) t) (mDGet i f):=by
 intro A W ρ σ H Q o ρ' r e k
 unfold mDGet at e
 simp only [Z0] at e
 obtain ⟨kvs0,e0,⟨o1,ρ1⟩,e1,d,e2,l,e3,key,e4,kvs,e5,u,e6,e7⟩:=e
 cases e7
 cases tupS_some e3
 obtain ⟨v,ev,_⟩:=r.slot i _ (dcS_some e0)
 refine ⟨v,ev,h A W ρ σ H _ o1 _ r e1 fun v1 H1 x1 r1 p1=>.inr (.inl ?_)⟩
 obtain ⟨a,ws,rfl,c1,c2⟩:=r1.dict (dcS_some e5) ev
 obtain ⟨b,xs,rfl,q1,q2⟩:=(p1.get r1 e2).tup_inv
 rw [keyOf_rep e4 q2] at q1
 obtain ⟨v',w1,w2⟩:=(valD_rep key c2).1 u e6
 exact ⟨a,b,ws,key,v',rfl,rfl,c1,q1,w1,k v' H1 x1 r1 w2⟩
theorem le_ixSX {i:Nat} {t:TE} {f:ME} (hm:mode md i=.pl) (h:LE C md t f):LE C md (tOp (rIxX C.K) (tVar i) t) (mIxS i f):=by
 intro A W ρ σ H Q o ρ' r e k
 unfold mIxS at e
 simp only [Z0] at e
 obtain ⟨ns0,e0,⟨o1,ρ1⟩,e1,d,e2,j,e3,ns,e4,n,e5,e6⟩:=e
 cases e6
 cases asI_some e3
 obtain ⟨v,ev,_⟩:=r.slot i _ (scrS_some e0)
 refine ⟨v,ev,h A W ρ σ H _ o1 _ r e1 fun v1 H1 x1 r1 p1=>.inl ?_⟩
 obtain ⟨v',ev',c⟩:=r1.slot i _ (scrS_some e4)
 rw [ev] at ev'; cases ev'
 rw [hm] at c
 obtain ⟨a,rfl,c⟩:=c
 obtain rfl:=(p1.get r1 e2).int_inv
 exact ⟨_,_,.inl c.sq,atI_mapI e5,k _ H1 x1 r1 (show RepP _ _ _ _ _ from repP_int)⟩
noncomputable def mCallIx (m:List S->Option S) (fa:MA) (f:ME):ME:=fun ρ=>(fa ρ).bind fun x=>(resA x.2 x.1).bind fun ss=>(m ss).bind fun s=>(dcS (some s)).bind fun kvs=>(f x.2).bind fun y=>(res y.2 y.1).bind fun d=>(tupS d).bind fun l=>(keyOf l).bind fun k=>
 (valD kvs k).bind fun u=>(immO (some u)).bind fun u=>some (.val u,y.2)
theorem le_callIx {t:TA} {u:TE} {m:List S->Option S} {fa:MA} {f:ME} {E:XK} (ha:LA C md t fa) (h:LE C md u f):LE C md (tOp (rIxX C.K) (tCall (spP C.K m) [] E t) u) (mCallIx m fa f):=by
 intro A W ρ σ H Q o ρ' r e k
 unfold mCallIx at e
 simp only [Z0] at e
 obtain ⟨⟨os,ρ1⟩,e1,ss,e2,s,e3,kvs,e4,⟨o2,ρ2⟩,e5,d,e6,l,e7,key,e8,u0,e9,u1,e10,e11⟩:=e
 cases e11
 cases tupS_some e7
 have es:=dcS_some e4
 cases es
 obtain ⟨z1,z2⟩:=immO_some e10
 cases z1
 refine ha A W ρ σ H _ os ρ1 r e1 fun vs H1 x1 r1 p1=>?_
 refine ⟨ss,_,by rw [Z35]; exact p1.argsA r1 e2,e3,fun v H2 s2 n=>?_⟩
 obtain ⟨a,ws,rfl,n1,n2,n3,n4⟩:=n
 have r2:=r1.same s2
 refine h A W ρ1 σ H2 _ o2 ρ2 r2 e5 fun v3 H3 x3 r3 p3=>.inr (.inl ?_)
 obtain ⟨b,xs,rfl,q1,q2⟩:=(p3.get r3 e6).tup_inv
 rw [keyOf_rep e8 q2] at q1
 have na:¬ A a:=r1.fresh n1
 have hH3:H3 a=some (.dT ws):=x3 a _ (fun w=>na (r2.wa a w)) n2
 obtain ⟨v',w1,w2⟩:=(valD_rep key ⟨n3,n4⟩).1 u0 e9
 exact ⟨a,b,ws,key,v',rfl,rfl,hH3,q1,w1,k v' H3 ((x1.trans (Same.ext s2)).trans x3) r3 (RepP.ofImm z2 (Rep.stayT (x3.stayT r2.wk) z2 w2.rep))⟩
end
end Mir
namespace L2
open PySem PySem.Spec PyProof.Rows
section
variable {prog:Program} {w:World} {A:Around} {E:Value->Shared->Prop} {s:Shared}
theorem call_range_rev {r:Addr} {lo hi:Int} {t u v:Tok} {Q:Value->Shared->Prop} (hr:IsRange s.heap r lo hi 1 t u v) (h1:-(2 ^ 62)<=lo) (h2:lo < 2 ^ 62) (h3:-(2 ^ 62)<=hi) (h4:hi < 2 ^ 62)
   (h:Q (.ref s.heap.objs.size) { s with heap:=s.heap.push { cls:=.type "range_iterator",data:=.fields #[rawInt (lo+(Builtin.Range.rangeSize lo hi 1 - 1) * 1),rawInt (Builtin.Range.rangeSize lo hi 1),rawInt (-1)] } }) :
   wpAny (model prog w) A (call (.builtin "range.__reversed__") [.ref r]) Q E s:=by
 have hT:s.TypeIs (.ref r) "range":=⟨_,hr,rfl⟩
 refine wpAny_call_entry F.slot_range_reversed hT F.entry_range_reversed ?_ (F.args_range_reversed_1 _)
 unfold Builtin.«range.__reversed__»
 refine Z55 (wpAny_of_eq (a:=Value.ref r) rfl ?_)
 have e:Builtin.Range.rangeSize lo hi 1=if lo < hi then hi - lo else 0:=rangeSize_one lo hi
 have en:-(2 ^ 63)<=Builtin.Range.rangeSize lo hi 1/\Builtin.Range.rangeSize lo hi 1 < 2 ^ 63:=by rw [e]; split <;> lia
 unfold Builtin.Range.rangeFields
 refine Z55 (Z55 (wpAny_field hr rfl (x:=.int lo t) rfl ?_))
 refine Z55 (wpAny_of_eq (a:=some lo) rfl ?_)
 refine Z55 (wpAny_field hr rfl (x:=.int hi u) rfl ?_)
 refine Z55 (wpAny_of_eq (a:=some hi) rfl ?_)
 refine Z55 (wpAny_field hr rfl (x:=.int 1 v) rfl ?_)
 refine Z55 (wpAny_of_eq (a:=some 1) rfl ?_)
 refine Z56 ?_
 dsimp only
 have fit:∀ i:Int,-(2 ^ 63)<=i->i < 2 ^ 63->Builtin.Range.rangeFitsLong i=true:=fun i a b=>by
   unfold Builtin.Range.rangeFitsLong; simp only [Z25,decide_eq_true_eq]; exact ⟨a,b⟩
 have sm:(Builtin.Range.rangeFitsLong lo && Builtin.Range.rangeFitsLong hi && Builtin.Range.rangeFitsLong 1 && Builtin.Range.rangeFitsLong (-1) && Builtin.Range.rangeFitsLong (lo - 1) && Builtin.Range.rangeFitsLong (Builtin.Range.rangeSize lo hi 1))=true:=by
   rw [fit lo (by lia) (by lia),fit hi (by lia) (by lia),fit 1 (by decide) (by decide),fit (-1) (by decide) (by decide),fit (lo - 1) (by lia) (by lia),fit _ en.1 en.2]; rfl
 simp only [sm,Bool.not_true,Z47,if_false,if_true]
 exact Z55 (wpAny_newObj_type (Z56 ⟨_,rfl,h⟩))
theorem code_rev_range {r:Addr} {lo hi:Int} {t u v:Tok} {Q1:Value->Shared->Prop} (hr:IsRange s.heap r lo hi 1 t u v) (h1:-(2 ^ 62)<=lo) (h2:lo < 2 ^ 62) (h3:-(2 ^ 62)<=hi) (h4:hi < 2 ^ 62)
   (h:Q1 (.ref s.heap.objs.size) { s with heap:=s.heap.push { cls:=.type "range_iterator",data:=.fields #[rawInt (lo+(Builtin.Range.rangeSize lo hi 1 - 1) * 1),rawInt (Builtin.Range.rangeSize lo hi 1),rawInt (-1)] } }) :
   codeAny (model prog w) A (.call (.builtin "reversed.__new__") ⟨[.type "reversed",.ref r],[]⟩) (wants Q1 E) s:=by
 have hT:s.TypeIs (.ref r) "range":=⟨_,hr,rfl⟩
 apply codeAny_of_tree
 show wpAny _ A.in1 (checkBuiltinCall "reversed.__new__" ⟨[.type "reversed",.ref r],[]⟩ >>= fun _=>again (.builtin "reversed.__new__" ⟨[.type "reversed",.ref r],[]⟩)) _ _ s
 apply Z55; apply wpAny_of_eq (F.newCall_reversed_1 _); apply Z56
 refine ⟨plainId_quiet F.plain_reversed_new _,codeAny_builtin F.entry_reversed_new ?_⟩
 rw [Around.under_plainId F.plain_reversed_new _]
 unfold Builtin.«reversed.__new__»
 apply Z55; apply wpAny_of_eq (newClass_reversed _)
 (try dsimp only)
 apply Z55; apply wpAny_of_eq (a:=()) (by first | rfl | kernel_rfl)
 apply Z55; apply wpAny_of_eq (a:=()) (by first | rfl | kernel_rfl)
 (try dsimp only)
 apply Z55; apply wpAny_specialOf hT F.slot_range_reversed.lookup
 (try dsimp only)
 apply Z55; apply wpAny_of_eq (F.slot_range_reversed.bind _)
 (try dsimp only)
 have no:¬ ((Value.builtin "range.__reversed__" == Value.none)=true):=Z28
 first
   | rw [if_neg no]
   | (show wpAny _ _ (if (Value.builtin "range.__reversed__" == Value.none)=true then _ else _) _ _ _; rw [if_neg no])
 apply Z55; apply wpAny_rule
 refine Z55 (m:=runValue (.call (.builtin "range.__reversed__") ⟨[.ref r],[]⟩)) (show wpAny _ _ (call (.builtin "range.__reversed__") [.ref r]) _ _ _ from call_range_rev hr h1 h2 h3 h4 ?_)
 first
   | exact Z56 h
   | exact Z55 (Z56 (Z56 h))
theorem sub_ri_reversed:isSubtype (.type "range_iterator") (.type "reversed")=pure false:=by rw [isSubtype_type]; kernel_rfl
theorem call_rev_range {r:Addr} {lo hi:Int} {t u v:Tok} {Q:Value->Shared->Prop} (hr:IsRange s.heap r lo hi 1 t u v) (h1:-(2 ^ 62)<=lo) (h2:lo < 2 ^ 62) (h3:-(2 ^ 62)<=hi) (h4:hi < 2 ^ 62)
   (h:Q (.ref s.heap.objs.size) { s with heap:=s.heap.push { cls:=.type "range_iterator",data:=.fields #[rawInt (lo+(Builtin.Range.rangeSize lo hi 1 - 1) * 1),rawInt (Builtin.Range.rangeSize lo hi 1),rawInt (-1)] } }) :
   wpAny (model prog w) A (call (.type "reversed") [.ref r]) Q E s:=by
 refine callType_other (U:="range_iterator") (Q₁:=fun o s1=>o=.ref s.heap.objs.size/\s1={ s with heap:=s.heap.push { cls:=.type "range_iterator",data:=.fields #[rawInt (lo+(Builtin.Range.rangeSize lo hi 1 - 1) * 1),rawInt (Builtin.Range.rangeSize lo hi 1),rawInt (-1)] } })
   (by decide +kernel) F.create_reversed ⟨_,_,F.mro_reversed⟩ F.made_reversed sub_ri_reversed (F.typeCall_reversed_1 _) (code_rev_range hr h1 h2 h3 h4 ⟨rfl,rfl⟩) ?_
 rintro o s1 ⟨rfl,rfl⟩
 exact ⟨⟨_,Z20 _ rfl,rfl⟩,h⟩
end
noncomputable def Itd (hi:Int) (n:Nat):It:=⟨fun i _=>i < n,fun i H x H'=>H'=H/\x=.int (hi - 1 - i),fun i _=>n<=i⟩
theorem turn_down {P:Program} {w:World} {K:PySem.W.Frag} {tg:Expr} (it:Addr) (hi:Int) (n:Nat):Turn P w K tg (Itd hi n) [it] it (fun i h=>IsRangeIter h it (hi - 1+(i:Nat) * (-1)) ((n:Int) - (i:Nat)) (-1)) where
 mem:=by simp
 obj:=fun i h st b hb=>by
   have e:b=it:=by simpa using hb
   subst e
   exact ⟨_,st,fun v z=>by
     have z':Data.fields _=Data.cell v:=z
     cases z'⟩
 keep:=fun i h h' st k=>k it (by simp) _ st
 item:=by
   intro X hP hw hK hc i pins s σ H E I hf st hg
   subst hP hw hK
   obtain ⟨f0,f1,f2,f3,f4,f5⟩:=hf it (by simp)
   have W:=Walks.range (prog:=X.prog) (w:=X.w) (I.ok.hd hc) it (hi - 1) (-1) n
   refine W.item i s _ _ hg st fun v h' tk hv st' kk=>?_
   obtain ⟨t,rfl⟩:=hv
   have I1:Inv X pins σ H { s with heap:=h',toks:=tk }:=I.turned (fun b o hb e=>kk b o (by simpa using hb) e) f0 f1 f3 f4 f5
   refine ⟨_,rfl,go_of (s:={ s with heap:=h',toks:=tk }) (n:="range_iterator") st' rfl rfl (by decide) ⟨.int (hi - 1 - i),H,I1,⟨t,?_⟩,⟨rfl,rfl⟩,st',fun b hb=>(hf b hb).1⟩⟩
   congr 1
   grind
 done:=by
   intro X hP hw hK hc i pins s σ H E I hf st hg
   subst hP hw hK
   obtain ⟨f0,f1,f2,f3,f4,f5⟩:=hf it (by simp)
   exact wpAny_pyNext_range_end (I.ok.hd hc) st (by have:n<=i:=hg; lia) fun h' eb=>⟨rfl,I.turned (t':=s.toks) (fun b o hb e=>eb b o hb e) f0 f1 f3 f4 f5⟩
 self:=fun _ _ _ _ _ st h=>wpAny_pyIter_rangeiter st h
section
variable {X:Cx} {tg:Expr}
noncomputable def tRng1 (ta:TA):TE:=fun σ H Q=>ta σ H fun vs H1=>∃ j:Int,vs=[.int j]/\∀ p,H1 p=none->Q (.ref p) (upd H1 p (.rng 0 j))
theorem rng_new {pins:List (Addr × Obj)} {σ:St} {H:Hp} {s:Shared} {Q:VK} {lo hi:Int} {t u v:Tok} {tk:Nat} (I:Inv X pins σ H s) (q:∀ p,H p=none->Q (.ref p) (upd H p (.rng lo hi))) :
   EP X pins σ Q (.ref s.heap.objs.size) { s with heap:=s.heap.push { cls:=.type "range",data:=.fields #[.int lo t,.int hi u,.int 1 v] },toks:=tk }:=
 ⟨.ref s.heap.objs.size,_,I.laid (o:=.rng lo hi) (fun _ _ q=>Z7 _ q) (Z10 _) ⟨t,u,v,Z20 _ rfl⟩,rfl,q _ (I.hok.fresh (Z10 _))⟩
theorem pe_range1 {a:Expr} {ta:TA} {p pos:Pos} (hg:Gl X "range") (hm:X.mg "range"=none) (ha:PA X [a] ta) (hs:starEach [a] X.env=[(false,eval a X.env)]:=by rfl):PE X (.Call (.Name "range" p) [a] [] pos) (tRng1 ta):=by
 intro pins s σ H Q I h
 refine Call_ (ld_blt I hg hm boot_range (PyProof.Rows.callWith_type1 (thn (ha pos pins s σ H _ I h) fun us s1 ⟨vs,H1,I1,r1,q1⟩=>?_) hs rfl))
 obtain ⟨j,e,q⟩:=q1
 subst e
 cases r1 with
 | cons r rr=>
   cases rr
   obtain ⟨t,rfl⟩:=r
   exact call_range_1 (rng_new I1 q)
noncomputable def iRev (ta:TA):TI:=fun σ H R=>ta σ H fun vs H1=>∃ p lo hi,vs=[.ref p]/\H1 p=some (.rng lo hi)/\(-(2 ^ 62)<=lo/\lo < 2 ^ 62/\-(2 ^ 62)<=hi/\hi < 2 ^ 62)/\R (Itd (lo+(hi - lo).toNat) (hi - lo).toNat) H1
theorem pi_rev {a:Expr} {ta:TA} {p pos:Pos} (hg:Gl X "reversed") (hm:X.mg "reversed"=none) (ha:PA X [a] ta) (hs:starEach [a] X.env=[(false,eval a X.env)]:=by rfl):PI X tg (.Call (.Name "reversed" p) [a] [] pos) (iRev ta):=by
 intro pins s σ H R I h
 refine Call_ (ld_blt I hg hm boot_reversed (PyProof.Rows.callWith_type1 (thn (ha pos pins s σ H _ I h) fun us s1 ⟨vs,H1,I1,r1,q1⟩=>?_) hs rfl))
 obtain ⟨r,lo,hi,e,hr,⟨q1,q2,q3,q4⟩,q⟩:=q1
 subst e
 cases r1 with
 | cons rr rs=>
   cases rs
   cases rr
   obtain ⟨t,u,v,hr⟩:=(show ObjOk X.prog X.w H1 s1.heap r (.rng lo hi) from I1.hok r _ hr)
   refine call_rev_range hr q1 q2 q3 q4 ?_
   have en:(((hi - lo).toNat:Nat):Int)=Builtin.Range.rangeSize lo hi 1:=by rw [rangeSize_one]; split <;> grind
   have st:IsRangeIter (s1.heap.push { cls:=.type "range_iterator",data:=.fields #[rawInt (lo+(Builtin.Range.rangeSize lo hi 1 - 1) * 1),rawInt (Builtin.Range.rangeSize lo hi 1),rawInt (-1)] }) s1.heap.objs.size (lo+(((hi - lo).toNat:Nat):Int) - 1+((0:Nat):Int) * (-1)) ((((hi - lo).toNat:Nat):Int) - ((0:Nat):Int)) (-1):=by
     have e1:lo+(((hi - lo).toNat:Nat):Int) - 1+((0:Nat):Int) * (-1)=lo+(Builtin.Range.rangeSize lo hi 1 - 1) * 1:=by rw [<- en]; lia
     have e2:(((hi - lo).toNat:Nat):Int) - ((0:Nat):Int)=Builtin.Range.rangeSize lo hi 1:=by rw [<- en]; lia
     rw [e1,e2]
     exact Z20 _ rfl
   refine wpAny_pyIter_rangeiter st ?_
   refine ⟨s1.heap.objs.size,[s1.heap.objs.size],_,_,H1,rfl,I1.kept (t':=s1.toks) fun b o e=>Z7 _ e,turn_down _ (lo+(((hi - lo).toNat:Nat):Int)) (hi - lo).toNat,st,fun b hb=>?_,q⟩
   have e:b=s1.heap.objs.size:=by simpa using hb
   subst e
   exact I1.fpOk (Z10 _) (I1.hok.fresh (Z10 _))
end
end L2
namespace Mir
open PySem PySem.Spec PyProof.Rows L2
section
variable {C:Cn} {md:List Md} {fx:Nat->Prop}
theorem lg_subX {x:Nat} {ti:TE} {fi:ME} (hm:mode md x=.ow∨mode md x=.io) (hi:LE C md ti fi):LG C md fx (gSub (tVar x) ti rSetX) (mgSub md x fi):=by
 intro A W ρ σ H v d ρ' Q r p e k
 unfold mgSub at e
 simp -iota only [Z0] at e
 obtain ⟨s0,e0,⟨o,ρ1⟩,e1,i,e2,s,e3,e4⟩:=e
 cases e4
 obtain ⟨l,kk,j,f1,rfl,f2,rfl⟩:=setD_some e3
 obtain ⟨w,hw,_⟩:=r.slot x s0 e0
 refine ⟨w,hw,?_⟩
 refine hi A W ρ σ H _ o ρ1 r e1 fun v1 H1 x1 r1 p1=>.inl ?_
 obtain ⟨w',hw',h1⟩:=r1.slot x _ f1
 rw [hw] at hw'; cases hw'
 obtain ⟨a,xs,rfl,g1,g2⟩:∃ a xs,w=.ref a/\H1 a=some (.lst xs)/\RepPL C.K H1 (fun b=>¬ A b) l xs:=by
   rcases hm with hm | hm <;> (rw [hm] at h1; obtain ⟨a,xs,q1,q2,q3,q4,q5⟩:=h1; exact ⟨a,xs,q1,q2,q5⟩)
 obtain rfl:=(p1.get r1 e2).int_inv
 refine ⟨a,xs,kk,j,rfl,rfl,g1,by rw [g2.length]; exact f2,?_⟩
 obtain ⟨H2,e5,b2,h2⟩:=My.wr_ex H1 a (.lst (xs.set j v))
 rw [e5]
 have pv:=r.stayP x1 p
 obtain ⟨x2,r2⟩:=r1.write hm f1 rfl rfl hw b2 (.inl ⟨_,h2⟩) (s':=.d (.lst (l.set j d))) fun ok okq oa aa wa st c=>by
   obtain ⟨a',xs',q1,q2,q3,q4,q5⟩:=c
   cases q1
   rw [g1] at q2; cases q2
   refine ⟨a,_,rfl,h2,aa,oa,?_⟩
   have:=(q5.set j pv)
   exact r1.stayPL (fun c o nc h=>b2 c o (fun z=>nc (by rw [z]; exact wa)) h) this
 exact k σ H2 (x1.trans x2) r2 (Fix.refl _ _)
noncomputable def mgDPut (md:List Md) (x:Nat) (fa:MA):MG:=fun d ρ=>(dcS (look ρ x)).bind fun _=>(fa ρ).bind fun y=>(stos md y.2 y.1).bind fun ds=>(keyOf ds).bind fun k=>(dcS (look y.2 x)).bind fun kvs=>
 if ds.length<=sizeLine/\kvs.length < sizeLine then some (y.2.set x (some (.dc (putD kvs k d)))) else none
theorem lg_dput {x:Nat} {t:TA} {fa:MA} (hm:mode md x=.ow∨mode md x=.io) (h:LA C md t fa):LG C md fx (gSub (tVar x) (tTup t) rSetX) (mgDPut md x fa):=by
 intro A W ρ σ H v d ρ' Q r p e k
 unfold mgDPut at e
 simp -iota only [Z0] at e
 obtain ⟨kvs0,e0,⟨os,ρ1⟩,e1,ds,e2,key,e3,kvs,e4,e5⟩:=e
 split at e5
 · rename_i hz
   cases e5
   obtain ⟨w,hw,_⟩:=r.slot x _ (dcS_some e0)
   refine ⟨w,hw,?_⟩
   refine h A W ρ σ H _ os ρ1 r e1 fun vs H1 x1 r1 p1=>?_
   have q:=p1.stos r1 e2
   refine ⟨by rw [q.length]; exact hz.1,fun pa hp=>.inr (.inl ?_)⟩
   have s:=new_same (o:=.tup vs) hp
   have r2:=r1.same s
   obtain ⟨a,ws,rfl,c1,c2⟩:=r2.dict (dcS_some e4) hw
   have ek:=keyOf_rep e3 q
   subst ek
   refine ⟨a,pa,ws,key,rfl,rfl,c1,upd_same,by rw [c2.length]; exact hz.2,?_⟩
   have pv:RepP C.K (upd H1 pa (.tup (key.map kV))) (fun b=>¬ A b) d v:=(r.stayP x1 p).same s
   generalize upd H1 pa (.tup (key.map kV))=H2 at *
   obtain ⟨H3,e6,b3,h3⟩:=My.wr_ex H2 a (.dT (putK ws key v))
   rw [e6]
   obtain ⟨x2,r3⟩:=r2.write hm (dcS_some e4) rfl rfl hw b3 (.inr (.inl ⟨_,h3⟩)) (s':=.dc (putD kvs key d)) fun ok okq oa aa wa st c=>by
     obtain ⟨a',ws',q1,q2,q3,q4,q5⟩:=c
     cases q1
     rw [c1] at q2; cases q2
     have pt:=RepKV.put (k:=key) q5 pv
     exact ⟨a,_,rfl,h3,aa,oa,pt.1,r2.stayPL (fun c o nc h=>b3 c o (fun z=>nc (by rw [z]; exact wa)) h) pt.2⟩
   exact k σ H3 ((x1.trans (Same.ext s)).trans x2) r3 (Fix.refl _ _)
 · cases e5
noncomputable def mNever:MS:=fun _=>none
theorem ls_never {t:TS}:LS C md t mNever:=fun _ _ _ _ _ _ _ _ _ e _=>by cases e
noncomputable def mnDNew:MN:=fun ρ=>some (.dc [],ρ)
theorem ln_dnew:LN C md tDNewX mnDNew:=by
 intro A W ρ σ H Q s ρ' r e k
 cases e
 refine .inl ?_
 intro p hp
 exact k p H _ (Ext.refl _ _) r hp (new_same hp) ⟨[],upd_same,.nil⟩
theorem R.anon {A W:Addr->Prop} {ρ:En} {σ:L2.St} {H:Hp} {p:Addr} {o:HO} (r:R C md A W ρ σ H) (hp:H p=none) (mo:MutO (some o)):R C md (fun b=>A b∨b=p) W ρ σ (upd H p o):=by
 have s1:=new_same (o:=o) hp
 have hn:∀ b,(A b∨b=p)->A b∨H b=none:=fun b h=>h.imp id fun e=>by rw [e]; exact hp
 exact {
   len:=r.len
   wa:=fun b h=>.inl (r.wa b h)
   ak:=fun b h=>by
     rcases h with h | h
     · exact (r.ak b h).imp (fun ⟨xs,e⟩=>⟨xs,s1 _ _ e⟩) (fun z=>z.imp (fun ⟨xs,e⟩=>⟨xs,s1 _ _ e⟩) (fun ⟨xs,e⟩=>⟨xs,s1 _ _ e⟩))
     · rw [h,upd_same]; exact mo
   base:=fun b o h1 h2=>s1 _ _ (r.base b o h1 h2)
   wf:=r.wf
   ma:=fun b h=>.inl (r.ma b h)
   fo:=fun hf b xs h n=>.inl (r.fo hf b xs h n)
   slot:=fun j t e=>by
     obtain ⟨w,e1,h1⟩:=r.slot j t e
     refine ⟨w,e1,?_⟩
     cases em:mode md j with
     | pl=>
       rw [em] at h1
       cases t with
       | scr ns=>
         obtain ⟨a,z,h1⟩:=h1; exact ⟨a,z,h1.same s1⟩
       | dc kvs=>
         obtain ⟨c,ws,z,h1,h2,h3,h4⟩:=h1
         refine ⟨c,ws,z,s1 _ _ h1,fun w=>?_,h3,RepPL.stay (My.stayT_same s1) (fun b xs o z=>⟨s1 _ _ z,fun w=>?_⟩) h4⟩
         · rcases hn c w with y | y
           · exact h2 y
           · rw [y] at h1; cases h1
         · rcases hn b w with y | y
           · exact o y
           · rw [y] at z; cases z
       | d x=>
         refine RepP.stay (My.stayT_same s1) (fun b xs o z=>⟨s1 _ _ z,fun w=>?_⟩) h1
         rcases hn b w with y | y
         · exact o y
         · rw [y] at z; cases z
       | _=>cases h1
     | ow=>rw [em] at h1; exact Cell.grow s1 (fun b h=>.inl h) hn (fun b _ h=>h) h1
     | lk=>rw [em] at h1; exact Cell.grow s1 (fun b h=>.inl h) hn (fun b _ h=>h) h1
     | io=>rw [em] at h1; exact Cell.grow s1 (fun b h=>.inl h) hn (fun b _ h=>h) h1
   inj:=r.inj }
theorem R.adopt {A W:Addr->Prop} {ρ0 ρ:En} {σ:L2.St} {H0 H H3:Hp} {p:Addr} {i:Nat} {kvs:List (List Key × D)} {ws:List (List Key × V)} (r0:R C md A W ρ0 σ H0) (hp:H0 p=none) (r:R C md (fun b=>A b∨b=p) W ρ σ H) (hd:H p=some (.dT []))
   (hlk:∀ j,mode md j ≠ .lk) (hm:mode md i=.ow) (b3:But p H H3) (h3:H3 p=some (.dT ws)) (c:RepKV C.K H (fun b=>¬ (A b∨b=p)) kvs ws) :
   R C md (fun b=>A b∨b=p) (fun b=>W b∨b=p) (ρ.set i (some (.dc kvs))) (σ.set i (some (.ref p))) H3:=by
 have nw:¬ W p:=fun w=>r0.fresh hp (r0.wa p w)
 have h00:C.H0 p=none:=r0.h0 hp
 have ex:Ext (fun b=>b=p) H H3:=fun c o n h=>b3 c o n h
 have k1:∀ a,a=p->MutO (H a):=fun a e=>by rw [e]; exact .inr (.inl ⟨_,hd⟩)
 have stPL:∀ {d:List D} {v:List V},RepPL C.K H (fun b=>¬ (A b∨b=p)) d v->RepPL C.K H3 (fun b=>¬ (A b∨b=p)) d v:=fun h=>h.stay (ex.stayT k1) fun a xs o z=>⟨ex a _ (fun w=>o (.inr w)) z,o⟩
 have stP:∀ {d:D} {v:V},RepP C.K H (fun b=>¬ (A b∨b=p)) d v->RepP C.K H3 (fun b=>¬ (A b∨b=p)) d v:=fun h=>h.stay (ex.stayT k1) fun a xs o z=>⟨ex a _ (fun w=>o (.inr w)) z,o⟩
 have hσ:∀ j s a,mode md j ≠ .pl->look ρ j=some s->isM s=true->σ[j]?=some (some (.ref a))->a ≠ p:=fun j s a mj ej ij lj z=>by
   obtain ⟨w,e1,h1⟩:=r.slot j s ej
   rw [lj] at e1; cases e1
   subst z
   cases em:mode md j with
   | pl=>exact mj em
   | lk=>exact hlk j em
   | ow=>rw [em] at h1; exact nw (Cell.at ij h1).2.2.1
   | io=>rw [em] at h1; exact nw (Cell.at ij h1).2.2.1
 have cell:∀ {ok ok' okq:Addr->Prop} {t:S} {v:V},(∀ a,isM t=true->v=.ref a->a ≠ p)->(∀ a,a ≠ p->ok a->ok' a)->Cell C.K (fun b=>A b∨b=p) H ok okq t v->Cell C.K (fun b=>A b∨b=p) H3 ok' okq t v:=fun {ok ok' okq t v} nv hok h=>by
   cases t with
   | d y13=>
     cases y13 with
     | lst l=>
       obtain ⟨a,xs,e,g1,g2,g3,g4⟩:=h
       exact ⟨a,xs,e,b3 a _ (nv a rfl e) g1,g2,hok a (nv a rfl e) g3,stPL g4⟩
     | non=>
       exact stP h
     | bl y14=>
       exact stP h
     | int y15=>
       exact stP h
     | str y16=>
       exact stP h
     | tup y17=>
       exact stP h
   | pot ns i r m=>
     obtain ⟨a,q,e,g1,g2,g3,g4,g5,g6⟩:=h
     exact ⟨a,q,e,b3 a _ (nv a rfl e) g1,b3 q _ (fun z=>g5 (.inr z)) g2,g3,hok a (nv a rfl e) g4,g5,g6⟩
   | dc kvs=>
     obtain ⟨a,ws,e,g1,g2,g3,g4,g5⟩:=h
     exact ⟨a,ws,e,b3 a _ (nv a rfl e) g1,g2,hok a (nv a rfl e) g3,g4,stPL g5⟩
   | dk kvs=>
     obtain ⟨a,ws,e,g1,g2,g3,g4,g5⟩:=h
     exact ⟨a,ws,e,b3 a _ (nv a rfl e) g1,g2,hok a (nv a rfl e) g3,g4,stPL g5⟩
   | scr y18=>
     exact h.elim
 exact {
   len:=by rw [Z32,Z32]; exact r.len
   wa:=fun b h=>h.imp (fun w=>by have:=r.wa b w; rcases this with z | z; exact z; exact absurd (by rw [<- z]; exact w) nw) id
   ak:=fun b h=>by
     by_cases hb:b=p
     · rw [hb]; exact .inr (.inl ⟨_,h3⟩)
     · exact (r.ak b h).imp (fun ⟨xs,e⟩=>⟨xs,b3 _ _ hb e⟩) (fun z=>z.imp (fun ⟨xs,e⟩=>⟨xs,b3 _ _ hb e⟩) (fun ⟨xs,e⟩=>⟨xs,b3 _ _ hb e⟩))
   base:=fun b o h1 h2=>b3 b o (fun z=>by rw [z,h00] at h1; cases h1) (r.base b o h1 h2)
   wf:=fun b h=>by
     rcases h with h | h
     · exact r.wf b h
     · rw [h]; exact .inl h00
   ma:=fun b h=>r.ma b h
   fo:=fun hf b xs h n=>r.fo hf b xs h n
   slot:=fun j t e=>by
     by_cases hij:i=j
     · subst hij
       have hl:=look_lt e
       rw [Z32] at hl
       rw [look_set_eq hl] at e
       cases e
       refine ⟨.ref p,set_get_eq (by rw [r.len]; exact hl),?_⟩
       rw [hm]
       exact ⟨p,ws,rfl,h3,.inr rfl,⟨.inr rfl,h00⟩,c.1,stPL c.2⟩
     · rw [look_set_ne hij] at e
       obtain ⟨w,e1,h1⟩:=r.slot j t e
       refine ⟨w,by rw [set_get hij]; exact e1,?_⟩
       have nv:mode md j ≠ .pl->∀ a,isM t=true->w=.ref a->a ≠ p:=fun mj a it z=>hσ j t a mj e it (by rw [e1,z])
       cases em:mode md j with
       | pl=>
         rw [em] at h1
         cases t with
         | scr ns=>
           obtain ⟨a,z,h1⟩:=h1; exact ⟨a,z,h1.ext ex k1⟩
         | dc kvs=>
           obtain ⟨a,ws,z,g1,g2,g3,g4⟩:=h1; exact ⟨a,ws,z,b3 a _ (fun y=>g2 (.inr y)) g1,g2,g3,stPL g4⟩
         | d x=>
           exact stP h1
         | _=>first | (cases h1; done) | (cases e3'; done) | (cases e2; done) | (cases e6; done) | contradiction
       | ow=>rw [em] at h1; exact cell (nv (by rw [em]; simp)) (fun a _ o=>⟨.inl o.1,o.2⟩) h1
       | lk=>rw [em] at h1; exact cell (nv (by rw [em]; simp)) (fun a na o z=>by rcases z with z | z; exact o z; exact na z) h1
       | io=>rw [em] at h1; exact cell (nv (by rw [em]; simp)) (fun a _ o=>⟨.inl o.1,o.2⟩) h1
   inj:=fun j k t t' b hjk m1 m2 e1 e2 i1 i2 l1 l2=>by
     by_cases n1:i=j
     · subst n1
       have hl:=look_lt e1
       rw [Z32] at hl
       rw [set_get_eq (by rw [r.len]; exact hl)] at l1
       cases l1
       rw [look_set_ne hjk] at e2
       rw [set_get hjk] at l2
       exact hσ k t' _ m2 e2 i2 l2 rfl
     · by_cases n2:i=k
       · subst n2
         have hl:=look_lt e2
         rw [Z32] at hl
         rw [set_get_eq (by rw [r.len]; exact hl)] at l2
         cases l2
         rw [look_set_ne n1] at e1
         rw [set_get n1] at l1
         exact hσ j t _ m1 e1 i1 l1 rfl
       · rw [look_set_ne n1] at e1
         rw [look_set_ne n2] at e2
         rw [set_get n1] at l1
         rw [set_get n2] at l2
         exact r.inj j k t t' b hjk m1 m2 e1 e2 i1 i2 l1 l2 }
noncomputable def noLk:List Md->Bool
 | []=>true
 | .lk::_=>false
 | _::r=>noLk r
theorem noLk_at:∀ {md:List Md} (j:Nat),noLk md=true->mode md j ≠ .lk
 | [],j,_=>by cases j <;> simp -iota [mode]
 | m::md,0,h=>by
   cases m <;> first | (simp -iota [noLk] at h; done) | simp -iota [mode]
 | m::md,j+1,h=>by
   have:noLk md=true:=by cases m <;> first | (simp -iota [noLk] at h; done) | exact h
   exact noLk_at (md:=md) j this
noncomputable def mAsgD1 (md:List Md) (i:Nat) (fa:MA) (fv:ME):MS:=fun ρ=>(fa ρ).bind fun y=>(stos md y.2 y.1).bind fun ds=>(keyOf ds).bind fun k=>(fv y.2).bind fun z=>(sto md z.2 z.1).bind fun d=>
 if ds.length<=sizeLine then some (.nx,z.2.set i (some (.dc [(k,d)]))) else none
theorem ls_asgD1 {i:Nat} {t:TA} {tv:TE} {fa:MA} {fv:ME} (hm:mode md i=.ow) (hl:noLk md=true) (h:LA C md t fa) (hv:LE C md tv fv):LS C md (tAsg (tDOne (tTup t) tv) (gName i)) (mAsgD1 md i fa fv):=by
 intro A W ρ σ H D fl ρ' r e k
 unfold mAsgD1 at e
 simp -iota only [Z0] at e
 obtain ⟨⟨os,ρ1⟩,e1,ds,e2,key,e3,⟨o,ρ2⟩,e4,d,e5,e6⟩:=e
 split at e6
 · rename_i hz
   cases e6
   intro p hp
   have ra:=r.anon (o:=.dT []) hp (.inr (.inl ⟨_,rfl⟩))
   have s0:=new_same (o:=.dT []) hp
   refine h _ W ρ σ _ _ os ρ1 ra e1 fun vs H1 x1 r1 p1=>?_
   have q:=p1.stos r1 e2
   refine ⟨by rw [q.length]; exact hz,fun pa hpa=>?_⟩
   have s1:=new_same (o:=.tup vs) hpa
   have ek:=keyOf_rep e3 q
   have nw:¬ W p:=fun w=>r.fresh hp (r.wa p w)
   have d1:(upd H1 pa (.tup vs)) p=some (.dT []):=s1 _ _ (x1 p _ nw upd_same)
   have d2:(upd H1 pa (.tup vs)) pa=some (.tup vs):=upd_same
   have r1':=r1.same s1
   generalize upd H1 pa (.tup vs)=H2 at *
   refine hv _ W ρ1 σ H2 _ o ρ2 r1' e4 fun v H3 x3 r3 p3=>?_
   have d3:H3 p=some (.dT []):=x3 p _ nw d1
   have pv:=p3.sto r3 e5
   have pk:H3 pa=some (.tup (key.map kV)):=by
     rw [<- ek]
     refine x3 pa _ (fun w=>?_) d2
     rcases r1'.wk pa w with ⟨xs,z⟩ | ⟨xs,z⟩ | ⟨xs,z⟩ <;> (rw [d2] at z; cases z)
   refine ⟨.ref pa,v,pa,key,rfl,rfl,d3,pk,?_⟩
   obtain ⟨H4,e7,b4,h4⟩:=My.wr_ex H3 p (.dT [(key,v)])
   rw [e7]
   have rf:=R.adopt r hp r3 d3 (fun j=>noLk_at j hl) hm b4 h4 (kvs:=[(key,d)]) (.cons pv .nil)
   refine k _ _ _ H4 ⟨fun a h=>h.imp id fun e=>by rw [e]; exact hp,fun a h=>h.imp id fun e=>by rw [e]; exact hp,fun b u n hb=>?_⟩ rf fun j fj=>set_get (fun z=>?_)
   · have hbp:b ≠ p:=fun z=>by rw [z,hp] at hb; cases hb
     exact b4 b u hbp (x3 b u n (s1 b u (x1 b u n (s0 b u hb))))
   · rcases fj with fj | fj <;> (rw [<- z,hm] at fj; cases fj)
 · cases e6
noncomputable def mRetDV (i:Nat):MS:=fun ρ=>(dcS (look ρ i)).bind fun kvs=>if D.immL (kvs.map (·.2))=true then some (.ret (.dc kvs),ρ) else none
theorem ls_retDV {i:Nat} (hm:mode md i=.ow):LS C md (tRet (tVar i)) (mRetDV i):=by
 intro A W ρ σ H D fl ρ' r e k
 unfold mRetDV at e
 simp -iota only [Z0] at e
 obtain ⟨kvs,e1,e2⟩:=e
 split at e2
 · rename_i hi
   cases e2
   obtain ⟨v,ev,c⟩:=r.slot i _ (dcS_some e1)
   refine ⟨v,ev,k A W σ v H (Gr.refl _ _ _) r (Fix.refl _ _) (.inl ?_)⟩
   rw [hm] at c
   obtain ⟨a,ws,z,c1,c2,c3,c4,c5⟩:=c
   exact ⟨a,ws,z,c3.2,c1,c4,RepPL.ofImm hi c5.repL⟩
 · cases e2
theorem R.setPD {A W:Addr->Prop} {ρ:En} {σ:L2.St} {H:Hp} (r:R C md A W ρ σ H) {i:Nat} (hm:mode md i=.pl) {kvs:List (List Key × D)} {v:V} (h:SRep C.K H (fun b=>¬ A b) (.dc kvs) v):R C md A W (ρ.set i (some (.dc kvs))) (σ.set i (some v)) H where
 len:=by rw [Z32,Z32]; exact r.len
 wa:=r.wa
 ak:=r.ak
 base:=r.base
 wf:=r.wf
 ma:=r.ma
 fo:=r.fo
 slot:=fun j s e=>by
   by_cases hij:i=j
   · subst hij
     have hl:=look_lt e
     rw [Z32] at hl
     rw [look_set_eq hl] at e
     cases e
     refine ⟨v,set_get_eq (by rw [r.len]; exact hl),?_⟩
     rw [hm]
     exact h
   · rw [look_set_ne hij] at e
     obtain ⟨w,e1,h1⟩:=r.slot j s e
     exact ⟨w,by rw [set_get hij]; exact e1,h1⟩
 inj:=fun j k s s' a hjk m1 m2 e1 e2 i1 i2 l1 l2=>by
   have n1:i ≠ j:=fun z=>m1 (by rw [<- z]; exact hm)
   have n2:i ≠ k:=fun z=>m2 (by rw [<- z]; exact hm)
   rw [look_set_ne n1] at e1
   rw [look_set_ne n2] at e2
   rw [set_get n1] at l1
   rw [set_get n2] at l2
   exact r.inj j k s s' a hjk m1 m2 e1 e2 i1 i2 l1 l2
noncomputable def mAsgDc (m:List S->Option S) (f:MA) (i:Nat):MS:=fun ρ=>(f ρ).bind fun x=>(resA x.2 x.1).bind fun ss=>(m ss).bind fun s=>(dcS (some s)).bind fun kvs=>some (.nx,x.2.set i (some (.dc kvs)))
theorem ls_asgDc {i:Nat} {t:TA} {f:MA} {m:List S->Option S} {E:XK} (hm:mode md i=.pl) (h:LA C md t f):LS C md (tAsg (tCall (spP C.K m) [] E t) (gName i)) (mAsgDc m f i):=by
 intro A W ρ σ H D fl ρ' r e k
 unfold mAsgDc at e
 simp -iota only [Z0] at e
 obtain ⟨⟨os,ρ1⟩,e1,ss,e2,s,e3,kvs,e4,e5⟩:=e
 cases e5
 cases dcS_some e4
 refine h A W ρ σ H _ os ρ1 r e1 fun vs H1 x1 r1 p1=>?_
 rw [Z35]
 refine ⟨ss,_,p1.argsA r1 e2,e3,fun v H2 s2 n=>?_⟩
 obtain ⟨a,ws,rfl,n1,n2,n3,n4⟩:=n
 have r2:=r1.same s2
 refine k A W _ H2 (Gr.ofExt (x1.trans (Same.ext s2))) (r2.setPD hm ⟨a,ws,rfl,n2,r1.fresh n1,n3,n4.mono fun b _ o _=>r1.fresh o.1⟩) fun j fj=>set_get (fun z=>?_)
 rcases fj with fj | fj <;> (rw [<- z,hm] at fj; cases fj)
noncomputable def dwnD (lo:Int) (n:Nat):List D:=(List.range n).map fun k=>D.int (lo+n - 1 - (k:Nat))
theorem it_dwn (A W:Addr->Prop) (lo:Int) (n:Nat) (H:Hp):ItAt C A W (Itd (lo+(n:Nat)) n) (dwnD lo n) H:=by
 intro A' W' H' g i
 refine ⟨fun d e=>?_,fun h=>?_⟩
 · unfold dwnD at e
   rw [Z21,Option.map_eq_some_iff] at e
   obtain ⟨k,e1,rfl⟩:=e
   obtain ⟨h1,h2⟩:=Z9.mp e1
   rw [List.length_range] at h1
   rw [List.getElem_range] at h2
   subst h2
   refine ⟨h1,fun x H'' y=>it_of ⟨y.1,?_⟩⟩
   rw [y.2]
   exact repP_int
 · simp -iota [dwnD] at h
   exact h
noncomputable def mDwn1 (f:MA):MI:=fun ρ=>(f ρ).bind fun x=>(ress x.2 x.1).bind fun ds=>match ds with
 | [.int j]=>if -(2 ^ 62)<=j/\j < 2 ^ 62 then some (dwnD 0 j.toNat,x.2) else none
 | _=>none
theorem li_dwn1 {t:TA} {f:MA} (h:LA C md t f):LI C md none (iRev (tCons (tRng1 t) tNil)) (mDwn1 f):=by
 intro A W ρ σ H Q ds ρ' r e k
 unfold mDwn1 at e
 simp -iota only [Z0] at e
 obtain ⟨⟨os,ρ1⟩,e1,xs,e2,e3⟩:=e
 cases xs with
 | cons y17 y18=>
   cases y17 with
   | int j=>
     cases y18 with
     | nil=>
       dsimp only at e3
       split at e3
       · rename_i hj
         cases e3
         refine h A W ρ σ H _ os _ r e1 fun vs H1 x1 r1 p1=>?_
         obtain ⟨v,rfl,pv⟩:=(p1.get r1 e2).one_inv
         obtain rfl:=pv.int_inv
         refine ⟨j,rfl,fun p hp=>?_⟩
         have s:=new_same (o:=.rng 0 j) hp
         refine ⟨p,0,j,rfl,upd_same,⟨by decide,by decide,hj.1,hj.2⟩,k _ _ (x1.trans (Same.ext s)) (r1.same s) fun W2 _ _=>?_⟩
         rw [Int.sub_zero]
         exact it_dwn _ _ _ _ _
       · cases e3
     | _=>cases e3
   | _=>cases e3
 | _=>cases e3
end
variable {C:Cn} {md:List Md}
noncomputable def ownL (m:Md) (s:Option S):Option D:=match m,s with
 | .ow,some (.d (.lst l))=>if D.immL l=true then some (.lst l) else none
 | _,s=>immO (unD s)
noncomputable def stoN (md:List Md) (ρ:En):Op->Option D
 | .val d=>immO (some d)
 | .var i=>ownL (mode md i) (look ρ i)
end Mir
namespace L2
open PySem PySem.Spec PyProof.Rows HT
open AutoSeq1 (wpAny_loadPart')
open MeetsSeq MeetsSeq2 MeetsSeq3 SeqAt
theorem ints_drop_nil {items:Array Value} {i:Nat} (h:IntsAre (items.toList.drop i) []) (hi:i<=items.size):items[((i:Nat):Int).toNat]?=none/\items.size=i:=by
 have:items.toList.drop i=[]:=by cases h':items.toList.drop i with | nil=>rfl | cons a l=>rw [h'] at h; cases h
 have hl:items.toList.length<=i:=List.drop_eq_nil_iff.mp this
 have:items.size<=i:=by simpa using hl
 exact ⟨by simp; exact this,by lia⟩
theorem ints_drop_cons {items:Array Value} {i:Nat} {x:Int} {ns:List Int} (h:IntsAre (items.toList.drop i) (x::ns)):∃ t,items[((i:Nat):Int).toNat]?=some (.int x t)/\i < items.size/\IntsAre (items.toList.drop (i+1)) ns:=by
 have hlt:i < items.toList.length:=by
   rcases Nat.lt_or_ge i items.toList.length with h' | h'
   · exact h'
   · rw [List.drop_of_length_le h'] at h; cases h
 rw [List.drop_eq_getElem_cons hlt] at h
 generalize hv:items.toList[i]=v at h
 cases h with
 | cons a t h'=>
   refine ⟨t,?_,by simpa using hlt,h'⟩
   have:items.toList[i]?=some (.int x t):=by rw [Z3 hlt,hv]
   simpa using this
theorem lt_loop (l b:Addr) (items items2:Array Value) (n n2:Nat) (dd dd2:Option Addr) (sl sl2:Array (Option Value)) :
   ∀ (ns ms:List Int) (i:Nat),i<=items.size->i<=items2.size->IntsAre (items.toList.drop i) ns->IntsAre (items2.toList.drop i) ms ->
     Meets (Builtin.«list.__eq__.loop» ⟨[.ref l,.ref b,rawInt i,rawInt 0],[]⟩)
       (fun A R s=>s.heap.get? l=some { cls:=.type "list",dict:=dd,data:=.seq items n,slots:=sl }/\s.heap.get? b=some { cls:=.type "list",dict:=dd2,data:=.seq items2 n2,slots:=sl2 } /\
         R (.ok (.ret (.bool (lexLt ns ms)))) s):=by
 intro ns
 induction ns with
 | nil=>
   intro ms i h1 h2 hi hj prog w A R s h
   obtain ⟨hp,g,d,tk,os⟩:=s; obtain ⟨hl,hb,h⟩:=h
   obtain ⟨e1,s1⟩:=ints_drop_nil hi h1
   wp_walk using wpAny_loadPart' hl,wpAny_loadPart' hb
   rw [e1]
   wp_walk using wpAny_loadPart' hl,wpAny_loadPart' hb
   cases ms with
   | nil=>
     obtain ⟨e2,s2⟩:=ints_drop_nil hj h2
     show R (.ok (.ret (.bool (decide (items.size < items2.size))))) _
     rw [decide_eq_false (by grind)]
     exact h
   | cons y ms=>
     obtain ⟨t,e2,s2,_⟩:=ints_drop_cons hj
     show R (.ok (.ret (.bool (decide (items.size < items2.size))))) _
     rw [decide_eq_true (by exact Nat.lt_of_le_of_lt (Nat.le_of_eq s1) s2)]
     exact h
 | cons x ns ih=>
   intro ms i h1 h2 hi hj prog w A R s h
   obtain ⟨hp,g,d,tk,os⟩:=s; obtain ⟨hl,hb,h⟩:=h
   obtain ⟨t,e1,s1,hi'⟩:=ints_drop_cons hi
   cases ms with
   | nil=>
     obtain ⟨e2,s2⟩:=ints_drop_nil hj h2
     wp_walk using wpAny_loadPart' hl,wpAny_loadPart' hb
     rw [e1,e2]
     wp_walk using wpAny_loadPart' hl,wpAny_loadPart' hb
     show R (.ok (.ret (.bool (decide (items.size < items2.size))))) _
     rw [decide_eq_false (by lia)]
     exact h
   | cons y ms=>
     obtain ⟨u,e2,s2,hj'⟩:=ints_drop_cons hj
     wp_walk using wpAny_loadPart' hl,wpAny_loadPart' hb
     rw [e1,e2]
     have hc:((i:Int)+1)=((i+1:Nat):Int):=by push_cast; rfl
     rw [lexLt_cons] at h
     obtain ⟨e,he,hiff⟩:=eqAt_int A.in1 ⟨hp,g,d,tk,os⟩ x t y u
     refine Z55 (he prog w _ _ ?_)
     cases e with
     | true=>
       rw [if_pos (hiff.mp rfl)] at h
       wp_walk
       rw [hc]
       exact ⟨plainId_quiet plain_eq_loop _,codeAny_builtin entry_eq_loop (by
         rw [Around.under_plainId plain_eq_loop _]
         exact ih ms (i+1) (by exact Nat.succ_le_of_lt s1) (by exact Nat.succ_le_of_lt s2) hi' hj' prog w A R _ ⟨hl,hb,h⟩)⟩
     | false=>
       rw [if_neg (fun q=>absurd (hiff.mpr q) Z28)] at h
       wp_walk using wpAny_loadPart' hl,wpAny_loadPart' hb
       rw [e1,e2]
       have hri:=rcLt_int A.in1 ⟨hp,g,d,tk,os⟩ x t y u prog w
       wp_walk using hri
       simpa using h
theorem list_ltM (l b:Addr) (items items2:Array Value) (n n2:Nat) (dd dd2:Option Addr) (sl sl2:Array (Option Value)) {ns ms:List Int} (hi:IntsAre items.toList ns) (hj:IntsAre items2.toList ms) :
   Meets (Builtin.«list.__lt__» ⟨[.ref l,.ref b],[]⟩)
     (fun A R s=>s.heap.get? l=some { cls:=.type "list",dict:=dd,data:=.seq items n,slots:=sl }/\s.heap.get? b=some { cls:=.type "list",dict:=dd2,data:=.seq items2 n2,slots:=sl2 } /\
       R (.ok (.ret (.bool (lexLt ns ms)))) s):=by
 intro prog w A R s h
 obtain ⟨hp,g,d,tk,os⟩:=s; obtain ⟨hl,hb,h⟩:=h
 have f3:=AutoSeq1.sub_list_list
 wp_walk using wpAny_loadPart' hl,wpAny_loadPart' hb
 exact ⟨plainId_quiet plain_eq_loop _,codeAny_builtin entry_eq_loop (by
   rw [Around.under_plainId plain_eq_loop _]
   exact lt_loop l b items items2 n n2 dd dd2 sl sl2 ns ms 0 (Z30 _) (Z30 _) hi hj prog w A R _ ⟨hl,hb,h⟩)⟩
section
variable {prog:Program} {w:World} {A:Around} {E:Value->Shared->Prop} {s:Shared}
theorem lt_lists {l b:Addr} {items items2:Array Value} {ns ms:List Int} {Q:Value->Shared->Prop} (hl:s.heap.IsList l items) (hb:s.heap.IsList b items2) (hi:IntsAre items.toList ns) (hj:IntsAre items2.toList ms)
   (hu:A.units < cLine) (h:Q (.bool (lexLt ns ms)) s):wpAny (model prog w) A (compareOp .Lt (.ref l) (.ref b)) Q E s:=by
 obtain ⟨⟨cls,dd,data,sl⟩,ho,hc,n,hd⟩:=id hl
 obtain ⟨⟨cls2,dd2,data2,sl2⟩,ho2,hc2,n2,hd2⟩:=id hb
 simp only at hc hd hc2 hd2
 subst hc hd hc2 hd2
 exact richCompare_meets_room (op:=.Lt) ⟨_,ho,rfl⟩ ⟨_,ho2,rfl⟩ PySem.F.slot_list_lt PySem.F.entry_list_lt (PySem.F.args_list_lt_2 _ _) (list_ltM l b items items2 n n2 dd dd2 sl sl2 hi hj)
   ⟨ho,ho2,show Value.bool (lexLt ns ms) ≠ Value.notImplemented/\Q (.bool (lexLt ns ms)) s from ⟨(fun x=>nomatch x),h⟩⟩ hu
end
end L2
namespace L2
open PySem PySem.Spec PyProof.Rows HT
section
variable {X:Cx}
noncomputable def rLtL (K:PySem.W.Frag):R2:=fun x y H Q=>∃ a b ns ms,x=.ref a/\y=.ref b/\H a=some (.lst (ns.map V.int))/\H b=some (.lst (ms.map V.int))/\Q (.bl (HT.lexLt ns ms)) H
theorem op_ltL (hu:X.A.units < cLine):OpR X (compareOp .Lt) (rLtL X.K):=by
 intro pins s σ H x y v u Q I rx ry h
 obtain ⟨a,b,ns,ms,rfl,rfl,ha,hb,q⟩:=h
 cases rx
 cases ry
 obtain ⟨its,r1,p1,_⟩:=I.list (.inl (.inl ha))
 obtain ⟨its2,r2,p2,_⟩:=I.list (.inl (.inl hb))
 have i1:IntsAre its.toArray.toList ns:=intsAre_of r1
 have i2:IntsAre its2.toArray.toList ms:=intsAre_of r2
 exact lt_lists p1.isList p2.isList i1 i2 hu ⟨.bl (HT.lexLt ns ms),H,I,rfl,q⟩
noncomputable def rLtX (K:PySem.W.Frag):R2:=fun x y H Q=>rCmpA (fun i j=>decide (i < j)) ltC x y H Q∨rLtL K x y H Q
theorem op_ltX {K:PySem.W.Frag} {n:Nat} (kt:KT K) (hu:X.A.units+n < cLine) (hK:X.K=K:=by rfl):OpR X (compareOp .Lt) (rLtX K):=by
 subst hK
 intro pins s σ H x y v u Q I rx ry h
 rcases h with h | h
 · exact op_ltA pins s σ H x y v u Q I rx ry h
 · exact op_ltL (by lia) pins s σ H x y v u Q I rx ry h
end
end L2
namespace Mir
open PySem PySem.Spec PyProof.Rows L2
section
variable {C:Cn} {md:List Md}
noncomputable def mExtend (i:Nat) (f:MA):ME:=fun ρ=>(lstS (look ρ i)).bind fun _=>(f ρ).bind fun x=>(ress x.2 x.1).bind fun ds=>(lstS (look x.2 i)).bind fun l=>match ds with
 | [.lst zs]=>if l.length+zs.length<=sizeLine then some (.val .non,x.2.set i (some (.d (.lst (l++zs))))) else none
 | _=>none
end
section
variable {K:PySem.W.Frag}
noncomputable def CDivM (j:Int):Prop:=0 < j/\j < 1099511627776
noncomputable def rDivmod (xs:List V) (H:Hp) (Q:VK):Prop:=∃ i j,xs=[.int i,.int j]/\CDivM j/\∀ p,H p=none->Q (.ref p) (upd H p (.tup [.int (i / j),.int (i % j)]))
theorem cdivm_log {j:Int} (h:CDivM j):j.natAbs.log2 < 9000:=by
 obtain ⟨h1,h2⟩:=h
 have h3:j.natAbs < 2 ^ 40:=by omega
 exact Nat.lt_trans ((Nat.log2_lt (by omega)).mpr h3) (by decide)
theorem call_divmodX {X:Cx}:CallR X (.builtin "divmod") rDivmod:=by
 intro pins s σ H xs us Q I r h
 obtain ⟨i,j,rfl,hc,q⟩:=h
 have lg:=cdivm_log hc
 obtain ⟨h1,h2⟩:=hc
 obtain ⟨u,w',rfl,⟨t,rfl⟩,⟨t',rfl⟩⟩:=vals2 r
 refine divmod_int (Ne.symm (Int.ne_of_lt h1)) ?_ (.inl (PyProof.noPylong_of_log2 lg))
 have hn:H s.heap.objs.size=none:=I.hok.fresh (Z10 _)
 rw [Int.fdiv_eq_ediv_of_nonneg i (Int.le_of_lt h1),Int.fmod_eq_emod_of_nonneg i (Int.le_of_lt h1)]
 exact ⟨.ref s.heap.objs.size,_,I.laid (o:=.tup [.int (i / j),.int (i % j)]) (fun b o e=>Z7 _ e) (Z10 _) ⟨(by decide:2<=sizeLine),[.int (i / j) s.toks,.int (i % j) (s.toks+1)],.cons ⟨_,rfl⟩ (.cons ⟨_,rfl⟩ .nil),_,Z20 s.heap rfl,rfl,0,rfl⟩,rfl,q _ hn⟩
noncomputable def divmodD:List D->Option D
 | [.int i,.int j]=>if 0 < j/\j < 1099511627776 then some (.tup [.int (i / j),.int (i % j)]) else none
 | _=>none
theorem cb_divmod:CbA K rDivmod divmodD:=by
 intro H ok vs ds u Q h g k
 cases ds with
 | cons y13 y14=>
   cases y13 with
   | int i=>
     cases y14 with
     | cons y15 y16=>
       cases y15 with
       | int j=>
         cases y16 with
         | nil=>
           replace g:(if 0 < j/\j < 1099511627776 then some (D.tup [.int (i / j),.int (i % j)]) else none)=some u:=g
           split at g
           · cases g
             rename_i hj
             obtain ⟨v,w,rfl,h1,h2⟩:=h.two_inv
             obtain rfl:=h1.int_inv; obtain rfl:=h2.int_inv
             refine ⟨i,j,rfl,hj,fun p hp=>?_⟩
             refine k _ _ (new_same hp) ?_
             rw [RepP]
             exact ⟨p,_,rfl,upd_same,.cons repP_int (.cons repP_int .nil)⟩
           · cases g
         | _=>cases g
       | _=>cases g
     | _=>cases g
   | _=>cases g
 | _=>cases g
end
theorem fn_never {P:Program} {w:World} {K:PySem.W.Frag} {mg:Str->Option Value} {base:Heap} {CX:CXT} {k:Nat} {f:Addr} {fd:FuncData} {ps:List Str}:FnOk P w K mg base CX k f fd ps (spP K fun _=>none):=
 ⟨fun _ _ _ _ h=>(by obtain ⟨_,_,_,e,_⟩:=h; cases e),fun _ _ _ _ _ _ _ _ _ _ _ _ _ h=>(by obtain ⟨_,_,_,e,_⟩:=h; cases e)⟩
section
variable {C:Cn} {md:List Md}
theorem on_add {K:PySem.W.Frag}:OpN K (rAddX K) addD:=by
 intro H ok x y d e u Q h1 h2 g k
 cases d with
 | int i=>
   cases e with
   | int j=>
     cases g
   | bl j=>
     cases g
   | _=>cases g
 | str i=>
   cases e with
   | str j=>
     replace g:(if i.length+j.length<=sizeLine then some (D.str (i++j)) else none)=some (.lst u):=g
     split at g <;> cases g
   | _=>cases g
 | tup y17=>
   cases y17 with
   | cons a l=>
     cases e with
     | tup m=>
       replace g:(if l.length+1+m.length<=sizeLine then some (D.tup (a::l++m)) else none)=some (.lst u):=g
       split at g <;> cases g
     | _=>cases g
   | _=>cases g
 | lst l=>
   cases e with
   | lst m=>
     obtain ⟨p,xs,rfl,hp,rp⟩:=h1.lst_inv
     obtain ⟨q,ys,rfl,hq,rq⟩:=h2.lst_inv
     replace g:(if l.length+m.length<=sizeLine then some (D.lst (l++m)) else none)=some (.lst u):=g
     split at g
     · cases g
       rename_i hz
       have L1:=rp.length; have L2:=rq.length
       exact .inr ⟨p,q,xs,ys,rfl,rfl,.inl hp,.inl hq,by grind,fun t ht=>k t _ ht (rp.append rq)⟩
     · cases g
   | _=>cases g
 | _=>cases g
end
section
variable {K:PySem.W.Frag}
theorem op_ltDA:OpA K (rLtX K) ltD:=fun H ok x y d e u Q h1 h2 g k=>.inl (op_cmp H ok x y d e u Q h1 h2 g k)
end
end Mir
namespace Mir
open PySem PySem.W PyProof.Rows L2
def wfl (a : List Char) : List String := if a.isEmpty then [] else [String.ofList a.reverse]
def wds : Nat → List Char → List Char → List String
  | _, [], a => wfl a
  | 0, c :: r, a => if c == '<' then wfl a ++ wds 1 r ['<'] else if c == '\'' then wfl a ++ wds 2 r ['\''] else if c == ' ' then wfl a ++ wds 0 r [] else if ['(', ')', '{', '}', '[', ']', ';'].elem c then wfl a ++ String.ofList [c] :: wds 0 r [] else wds 0 r (c :: a)
  | m + 1, c :: r, a => if (m == 0 && c == '>') || (m == 1 && c == '\'') then wfl a ++ wds 0 r [] else wds (m + 1) r (c :: a)
def nd (k : String) (a : List Lean.Syntax) : Lean.Syntax := .node .none k.toName a.toArray
def ta (k : String) (a : List Lean.Syntax) : Lean.Syntax := nd ("Lean.Parser.Tactic." ++ k) a
def tm (k : String) (a : List Lean.Syntax) : Lean.Syntax := nd ("Lean.Parser.Term." ++ k) a
def at_ (s : String) : Lean.Syntax := .atom .none s
def idn (s : Lean.Name) : Lean.Syntax := (Lean.mkIdent s).raw
def sep (s : String) : List Lean.Syntax → List Lean.Syntax
  | [] => []
  | [x] => [x]
  | x :: r => x :: at_ s :: sep s r
def sq (a : List Lean.Syntax) : Lean.Syntax := ta "tacticSeq" [ta "tacticSeq1Indented" [nd "null" (sep ";" a)]]
def wk (s : String) : Lean.Syntax := nd "PyProof.Rows.tacticWalk_at_" [at_ "walk_at", nd "str" [at_ s.quote]]
def asm : Lean.Syntax := ta "assumption" [at_ "assumption"]
def t0 (s : String) : Lean.Syntax := ta s [at_ s, ta "optConfig" [nd "null" []]]
def rfn (s : String) (t : Lean.Syntax) : Lean.Syntax := ta s [at_ s, t]
def wr (t : Lean.Syntax) : Lean.Syntax := ta "withReducible" [at_ "with_reducible", sq [t]]
def par (a : List Lean.Syntax) : Lean.Syntax := ta "paren" [at_ "(", sq a, at_ ")"]
def byT (t : Lean.Syntax) : Lean.Syntax := tm "byTactic" [at_ "by", sq [t]]
def hol : Lean.Syntax := tm "hole" [at_ "_"]
def lmb (k : Nat) (t : Lean.Syntax) : Lean.Syntax := tm "fun" [at_ "fun", tm "basicFun" [nd "null" (List.replicate k hol), nd "null" [], at_ "=>", t]]
def one : List Lean.Syntax → Lean.Syntax
  | [x] => x
  | x :: r => tm "app" [x, nd "null" r]
  | [] => .missing
def nar (n : String) (t : Lean.Syntax) : Lean.Syntax := tm "namedArgument" [at_ "(", idn n.toName, at_ ":=", t, at_ ")"]
def pts (f : String → Lean.Name) : Nat → List String → List Lean.Syntax → List Lean.Syntax × List String
  | 0, ws, a => (a.reverse, ws)
  | _, [], a => (a.reverse, [])
  | k + 1, w :: ws, a =>
    if [")", "]", "}", ";"].elem w then (a.reverse, ws)
    else if w == "(" || w == "[" || w == "{" || w.endsWith "=" then
      let x := pts f k ws []
      pts f k x.2 ((if w == "(" then one x.1 else if w == "[" then x.1.foldr (fun y r => one [idn `List.cons, y, r]) (idn `List.nil) else if w == "{" then tm "anonymousCtor" [at_ "⟨", nd "null" (sep "," x.1), at_ "⟩"] else nar (String.ofList (w.toList.take (w.length - 1))) (one x.1)) :: a)
    else
      let r := idn `rfl
      let t := match w.toList with
        | ['_'] => hol
        | ['!'] => byT asm
        | ['%'] => byT (t0 "decide")
        | ['\\'] => lmb 2 r
        | ['|'] => lmb 1 r
        | ['$'] => lmb 1 hol
        | ['~'] => lmb 1 (one [idn `Z14, r])
        | '<' :: c => byT (wk (String.ofList c))
        | '\'' :: c => nd "str" [at_ (String.ofList c).quote]
        | ['?', '_'] => tm "syntheticHole" [at_ "?", at_ "_"]
        | '?' :: c => tm "syntheticHole" [at_ "?", idn (f (String.ofList c))]
        | '.' :: c => tm "dotIdent" [at_ ".", idn (String.ofList c).toName]
        | l => if l.all Char.isDigit then nd "num" [at_ w] else idn w.toName
      pts f k ws (t :: a)
def hw (f : String → Lean.Name) : List String → Lean.Syntax
  | ["rfl"] => ta "tacticRfl" [at_ "rfl"]
  | ["%"] => t0 "decide"
  | ["!"] => asm
  | ["I"] => ta "intro" [at_ "intro", nd "null" (["C", "s2", "H2", "fp"].map fun x => idn (f x))]
  | l => wk (" ".intercalate l)
def sim (k : String) (s : List String) (l : List Lean.Syntax) : Lean.Syntax := ta k [at_ k, ta "optConfig" [nd "null" []], nd "null" [], nd "null" [at_ "only"], nd "null" [at_ "[", nd "null" (sep "," (s.map fun x => ta "simpLemma" [nd "null" [], nd "null" [], idn x.toName])), at_ "]"], nd "null" l]
def stp (f : String → Lean.Name) : Nat → List String → List Lean.Syntax → List Lean.Syntax
  | 0, _, a => a.reverse
  | _, [], a => a.reverse
  | k + 1, w :: ws, a =>
    let s := ws.takeWhile (· != ";")
    let h := " ".intercalate s
    let u := ws.drop (s.length + 1)
    let cs := s.drop 1
    let c := if cs == ["I"] then "case'" else "case"
    if w == "W" then stp f k u (wk h :: a)
    else if w == "N" then stp f k u (ta "repeat'" [at_ "repeat'", sq [wk h]] :: a)
    else if w == "n" then stp f k u (ta "tacticRepeat_" [at_ "repeat", sq [wk h]] :: a)
    else if w == "C" then stp f k u (ta c [at_ c, nd "null" [ta "caseArg" [nd "Lean.binderIdent" [idn (f (s.headD ""))], nd "null" []]], at_ "=>", sq [hw f cs]] :: a)
    else if w == "S" then stp f k u (wr asm :: a)
    else if w == "s" then stp f k u (asm :: a)
    else if w == "D" then stp f k u (t0 "decide" :: a)
    else if w == "L" then stp f k u (t0 "lia" :: a)
    else if w == "O" then stp f k u (t0 "omega" :: a)
    else if w == "i" then stp f k u (ta "intro" [at_ w, nd "null" [hol]] :: a)
    else if w == "H" then stp f k u (ta "cases" [at_ w, nd "null" [ta "elimTarget" [nd "null" [], idn (f "h")]], nd "null" [], nd "null" []] :: ta "intro" [at_ w, nd "null" [idn (f "h")]] :: a)
    else if w == "K" then stp f k u (ta "done" [at_ w] :: a)
    else if w == "V" then stp f k u (ta "withUnfoldingAll" [at_ w, sq [ta "tacticRfl" [at_ w]]] :: a)
    else if w == "Y" then stp f k u (ta "tacticTry_" [at_ w, sq [wk h]] :: a)
    else if w == "U" then stp f k u (ta "unfold" [at_ w, nd "null" [idn h.toName], nd "null" []] :: a)
    else if w == "M" then stp f k u (sim "simp" s [] :: a)
    else if w == "d" then stp f k u (sim "dsimp" s [] :: a)
    else if w == "m" then stp f k u (sim "simp" s [ta "location" [at_ "at", ta "locationWildcard" [at_ "*"]]] :: a)
    else
      let x := pts f 1000 ws []
      let t := one x.1
      stp f k x.2 ((if w == "G" then wr (rfn "show" t) else if w == "R" then rfn "refine'" t else if w == "E" then rfn "exact" t else if w == "q" then wr (rfn "exact" t) else if w == "Q" then wr (rfn "refine'" t) else wr (rfn "apply" t)) :: a)
def foc (a : List Lean.Syntax) : Lean.Syntax := ta "focus" [at_ "focus", sq [par a]]
def row (f : String → Lean.Name) (s : String) : Lean.Syntax :=
  match wds 0 s.toList [] with
  | "T" :: ws =>
    let x := pts f 1000 ws []
    foc (wr (rfn "show" (one [idn `Eq, nar "α" (one x.1), hol, hol])) :: stp f 100 x.2 [])
  | "F" :: ws => foc (stp f 100 ws [])
  | ws => par (stp f 100 ws [])
def rep (c : Char) (n : Nat) (s : List Char) : List Char := s.flatMap fun x => if x == c then (toString n).toList else [x]
def tab (nm t : String) : Lean.MacroM (Lean.TSyntax `tactic) := do
  let sc ← Lean.MonadQuotation.getCurrMacroScope
  let m ← Lean.MonadQuotation.getContext
  let f := fun (s : String) => Lean.addMacroScope m (Lean.Name.mkSimple s) sc
  match (t.splitOn "\n").filterMap (fun e => match e.splitOn "\t" with | a :: k :: r => if a == nm then some (k.toNat!, r) else none | _ => none) with
  | [] => Lean.Macro.throwUnsupported
  | l => return ⟨ta "first" [at_ "first", nd "null" ((l.flatMap fun x => if x.1 == 0 then x.2 else x.2.flatMap fun s => (List.range x.1).map fun n => String.ofList (rep '^' (n % 12) (rep '&' (n / 12) (rep '@' n s.toList)))).map fun r => nd "group" [at_ "|", sq [row f r]])]⟩
noncomputable def setN (ns:List Int):Nat:=(firstMet (fun i=>ns.getD i 0) ns.length).length
noncomputable def rSetL (K:PySem.W.Frag) (xs:List V) (H:Hp) (Q:VK):Prop:=∃ a ns,xs=[.ref a]/\SqL K H a (ns.map V.int)/\ns.length < 1000 /\
 ∀ l S,H l=none->Q (.ref l) (upd H l (.set S (setN ns)))
end Mir
namespace My
open PySem
theorem bl0 {us:List Value} (hl:us.length=0):us=[]:=List.length_eq_zero_iff.mp hl
theorem blS {us:List Value} {n:Nat} (hl:us.length=n+1):∃ a vs,us=a::vs/\vs.length=n:=by
 cases us with
 | nil=>cases hl
 | cons a us=>exact ⟨a,us,rfl,Nat.succ.inj hl⟩
end My
namespace Mir
open PySem PySem.Spec PyProof.Rows L2
noncomputable def BitOk (i:Int):Prop:=i.natAbs.log2 < 1000000
instance {i:Int}:Decidable (BitOk i):=by unfold BitOk; infer_instance
theorem BitOk.bits {i:Int} (h:BitOk i):Builtin.Int.intBits i<=2 ^ 20:=by
 unfold BitOk at h
 unfold Builtin.Int.intBits
 have e:(2:Nat) ^ 20=1048576:=by decide
 split <;> lia
noncomputable def rMulY:R2:=fun x y H Q=>match x,y with
 | .int i,.int j=>(BitOk i/\BitOk j)/\Q (.int (i * j)) H
 | _,_=>False
noncomputable def rDivY:R2:=fun x y H Q=>match x,y with
 | .int i,.int j=>(j ≠ 0/\j.natAbs.log2 < 9000)/\Q (.int (i.fdiv j)) H
 | _,_=>False
section
variable {X:Cx}
theorem op_mulYR:OpR X (binaryOp .Mult) rMulY:=by
 intro pins s σ H x y v u Q I rx ry h
 match x,y,h with
 | .int i,.int j,⟨⟨h1,h2⟩,q⟩=>
   obtain ⟨t,rfl⟩:=rx
   obtain ⟨t',rfl⟩:=ry
   exact mul_int ⟨.int _,H,I.tok _,⟨_,rfl⟩,q⟩ (IntMulOk.of_bits h1.bits h2.bits)
theorem op_divYR:OpR X (binaryOp .FloorDiv) rDivY:=by
 intro pins s σ H x y v u Q I rx ry h
 match x,y,h with
 | .int i,.int j,⟨⟨h1,h2⟩,q⟩=>
   obtain ⟨t,rfl⟩:=rx
   obtain ⟨t',rfl⟩:=ry
   exact floordiv_int h1 ⟨.int _,H,I.tok _,⟨_,rfl⟩,q⟩ (.inl (PyProof.noPylong_of_log2 h2))
end
noncomputable def mulY:D->D->Option D
 | .int i,.int j=>if BitOk i/\BitOk j then some (.int (i * j)) else none
 | _,_=>none
noncomputable def divY:D->D->Option D
 | .int i,.int j=>if j ≠ 0/\j.natAbs.log2 < 9000 then some (.int (i.fdiv j)) else none
 | _,_=>none
section
variable {K:PySem.W.Frag}
theorem op_mulY:OpA K rMulY mulY:=by
 intro H ok x y d e u Q h1 h2 g k
 cases d with
 | int i=>
   cases e with
   | int j=>
     obtain rfl:=h1.int_inv; obtain rfl:=h2.int_inv
     replace g:(if BitOk i/\BitOk j then some (D.int (i * j)) else none)=some u:=g
     split at g
     · rename_i hz; cases g; exact ⟨hz,k _ H (Same.refl _) repP_int⟩
     · cases g
   | _=>cases g
 | _=>cases g
theorem op_divY:OpA K rDivY divY:=by
 intro H ok x y d e u Q h1 h2 g k
 cases d with
 | int i=>
   cases e with
   | int j=>
     obtain rfl:=h1.int_inv; obtain rfl:=h2.int_inv
     replace g:(if j ≠ 0/\j.natAbs.log2 < 9000 then some (D.int (i.fdiv j)) else none)=some u:=g
     split at g
     · rename_i hz; cases g; exact ⟨hz,k _ H (Same.refl _) repP_int⟩
     · cases g
   | _=>cases g
 | _=>cases g
end
noncomputable def stepN (lo hi c:Int):Nat:=(if lo < hi then (hi - lo - 1) / c+1 else 0).toNat
noncomputable def Itc (lo c:Int) (n:Nat):It:=⟨fun i _=>i < n,fun i H x H'=>H'=H/\x=.int (lo+(i:Nat) * c),fun i _=>n<=i⟩
theorem turn_step {P:Program} {w:World} {K:PySem.W.Frag} {tg:Expr} (it:Addr) (lo c:Int) (n:Nat):Turn P w K tg (Itc lo c n) [it] it (fun i h=>IsRangeIter h it (lo+(i:Nat) * c) ((n:Int) - (i:Nat)) c) where
 mem:=by simp
 obj:=fun i h st b hb=>by
   obtain rfl:b=it:=by simpa using hb
   exact ⟨_,st,fun v z=>by cases (show Data.fields _=Data.cell v from z)⟩
 keep:=fun i h h' st k=>k it (by simp) _ st
 item:=by
   intro X hP hw hK hc i pins s σ H E I hf st hg
   subst hP hw hK
   obtain ⟨f0,f1,f2,f3,f4,f5⟩:=hf it (by simp)
   refine (Walks.range (prog:=X.prog) (w:=X.w) (I.ok.hd hc) it lo c n).item i s _ _ hg st fun v h' tk hv st' kk=>?_
   obtain ⟨t,rfl⟩:=hv
   have I1:Inv X pins σ H { s with heap:=h',toks:=tk }:=I.turned (fun b o hb e=>kk b o (by simpa using hb) e) f0 f1 f3 f4 f5
   exact ⟨_,rfl,go_of (s:={ s with heap:=h',toks:=tk }) (n:="range_iterator") st' rfl rfl (by decide) ⟨.int (lo+(i:Nat) * c),H,I1,⟨t,rfl⟩,⟨rfl,rfl⟩,st',fun b hb=>(hf b hb).1⟩⟩
 done:=by
   intro X hP hw hK hc i pins s σ H E I hf st hg
   subst hP hw hK
   obtain ⟨f0,f1,f2,f3,f4,f5⟩:=hf it (by simp)
   have hle:n<=i:=hg
   exact wpAny_pyNext_range_end (I.ok.hd hc) st (by lia) fun h' eb=>⟨rfl,I.turned (t':=s.toks) (fun b o hb e=>eb b o hb e) f0 f1 f3 f4 f5⟩
 self:=fun _ _ _ _ _ st h=>wpAny_pyIter_rangeiter st h
noncomputable def StepOk (i j c:Int):Prop:=0<=i/\i < 1000000/\0<=j/\j < 1000000/\0 < c/\c < 1000
instance {i j c:Int}:Decidable (StepOk i j c):=by unfold StepOk; infer_instance
noncomputable def StepDn (i j c:Int):Prop:=-1000000 < i/\i < 1000000/\-1000000 < j/\j < 1000000/\c < 0/\-1000 < c
instance {i j c:Int}:Decidable (StepDn i j c):=by unfold StepDn; infer_instance
noncomputable def stepM (lo hi c:Int):Nat:=(if hi < lo then (lo - hi - 1) / (-c)+1 else 0).toNat
noncomputable def RngOk (i j c:Int) (n:Nat):Prop:=c ≠ 0/\c.natAbs < 1000/\(n:Int)=Builtin.Range.rangeSize i j c/\Builtin.Range.small i j c=true
noncomputable def iRng3 (ta:TA):TI:=fun σ H R=>ta σ H fun vs H1=>∃ (i j c:Int) (n:Nat),vs=[.int i,.int j,.int c]/\RngOk i j c n/\R (Itc i c n) H1
theorem stepM_ok {i j c:Int} (h:StepDn i j c):RngOk i j c (stepM i j c):=by
 obtain ⟨h1,h2,h3,h4,h5,h6⟩:=h
 have hz:(stepM i j c:Int)=Builtin.Range.rangeSize i j c:=by
   unfold stepM Builtin.Range.rangeSize
   rw [if_neg (show ¬ c > 0 by omega)]
   by_cases g:j < i
   · have:0<=(i - j - 1) / (-c):=Int.ediv_nonneg (by omega) (by omega)
     rw [if_pos g]
     omega
   · rw [if_neg g]; rfl
 have hb:Builtin.Range.rangeSize i j c<=2000000:=by
   unfold Builtin.Range.rangeSize
   rw [if_neg (show ¬ c > 0 by omega)]
   by_cases g:j < i
   · have:(i - j - 1) / (-c)<=i - j - 1:=Int.ediv_le_self _ (by omega)
     rw [if_pos g]
     omega
   · rw [if_neg g]; decide
 refine ⟨by omega,by omega,hz,?_⟩
 unfold Builtin.Range.small
 simp only [Builtin.Range.rangeFitsLong,Z25,Bool.or_eq_true,decide_eq_true_eq,beq_iff_eq,if_neg (show ¬ c > 0 by omega)]
 omega
theorem step_size {i j c:Int} (h:StepOk i j c):(stepN i j c:Int)=Builtin.Range.rangeSize i j c:=by
 unfold stepN Builtin.Range.rangeSize
 rw [if_pos h.2.2.2.2.1]
 obtain ⟨h1,h2,h3,h4,h5,h6⟩:=h
 split
 · have:0<=(j - i - 1) / c:=Int.ediv_nonneg (by lia) (by exact (Int.le_of_lt h5))
   grind
 · rfl
theorem step_small {i j c:Int} (h:StepOk i j c):Builtin.Range.small i j c=true:=by
 have hs:=step_size h
 obtain ⟨h1,h2,h3,h4,h5,h6⟩:=h
 have hb:Builtin.Range.rangeSize i j c<=1000000:=by
   unfold Builtin.Range.rangeSize
   rw [if_pos h5]
   split
   · have:(j - i - 1) / c<=j - i - 1:=Int.ediv_le_self _ (by omega)
     lia
   · exact Int.le_trans h1 (Int.le_of_lt h2)
 unfold Builtin.Range.small
 simp -iota only [Builtin.Range.rangeFitsLong,Z25,Bool.or_eq_true,decide_eq_true_eq,beq_iff_eq,if_pos h5]
 lia
section
variable {X:Cx} {tg:Expr}
theorem pi_range3 {a b d:Expr} {ta:TA} {p pos:Pos} (hg:Gl X "range") (hm:X.mg "range"=none) (ha:PA X [a,b,d] ta) (hs:starEach [a,b,d] X.env=[(false,eval a X.env),(false,eval b X.env),(false,eval d X.env)]:=by rfl) (hs2:starEach [b,d] X.env=[(false,eval b X.env),(false,eval d X.env)]:=by rfl) :
   PI X tg (.Call (.Name "range" p) [a,b,d] [] pos) (iRng3 ta):=by
 intro pins s σ H R I h
 refine Call_ (ld_blt I hg hm boot_range (PyProof.Rows.callWith_type1 (thn (ha pos pins s σ H _ I h) fun us s1 ⟨vs,H1,I1,r1,q1⟩=>?_) (by rw [hs,hs2]) (by rw [hs2]; rfl)))
 obtain ⟨i,j,c,n,rfl,⟨hc0,hc1,hc2,hc3⟩,q⟩:=q1
 cases r1 with
 | cons r rr=>
 cases rr with
 | cons r' rr=>
 cases rr with
 | cons r'' rr=>
 cases rr
 obtain ⟨t,rfl⟩:=r
 obtain ⟨t',rfl⟩:=r'
 obtain ⟨t'',rfl⟩:=r''
 refine call_range_3 hc0 ?_ (.inl (PyProof.noPylong_small (Nat.lt_trans hc1 (by decide))))
 refine wpAny_pyIter_range (IsRange.new ..) hc3 ?_
 have I2:Inv X pins σ H1 { s1 with heap:=s1.heap.push { cls:=.type "range",data:=.fields #[.int i t,.int j t',.int c t''] },toks:=s1.toks }:=I1.kept fun b o e=>Z7 _ e
 refine ⟨(s1.heap.push { cls:=.type "range",data:=.fields #[.int i t,.int j t',.int c t''] }).objs.size,[(s1.heap.push { cls:=.type "range",data:=.fields #[.int i t,.int j t',.int c t''] }).objs.size],_,_,H1,rfl,
   I2.kept (t':=s1.toks) fun b o e=>Z7 _ e,turn_step _ i c n,?_,fun b hb=>?_,q⟩
 · show IsRangeIter _ _ (i+((0:Nat):Int) * c) ((n:Int) - ((0:Nat):Int)) c
   rw [show i+((0:Nat):Int) * c=i by simp,show (n:Int) - ((0:Nat):Int)=Builtin.Range.rangeSize i j c by rw [<- hc2]; lia]
   exact Z20 _ rfl
 · obtain rfl:b=(s1.heap.push { cls:=.type "range",data:=.fields #[.int i t,.int j t',.int c t''] }).objs.size:=by simpa using hb
   exact I2.fpOk (Z10 _) (I2.hok.fresh (Z10 _))
end
noncomputable def stepD (lo c:Int) (n:Nat):List D:=(List.range n).map fun k=>D.int (lo+(k:Nat) * c)
noncomputable def mRng3 (f:MA):MI:=fun ρ=>(f ρ).bind fun x=>(ress x.2 x.1).bind fun ds=>match ds with
 | [.int i,.int j,.int c]=>if StepOk i j c then some (stepD i c (stepN i j c),x.2) else if StepDn i j c then some (stepD i c (stepM i j c),x.2) else none
 | _=>none
section
variable {C:Cn} {md:List Md}
theorem it_step (A W:Addr->Prop) (lo c:Int) (n:Nat) (H:Hp):ItAt C A W (Itc lo c n) (stepD lo c n) H:=by
 intro A' W' H' g i
 refine ⟨fun d e=>?_,fun h=>?_⟩
 · unfold stepD at e
   rw [Z21,Option.map_eq_some_iff] at e
   obtain ⟨k,e1,rfl⟩:=e
   obtain ⟨h1,h2⟩:=Z9.mp e1
   rw [List.length_range] at h1
   rw [List.getElem_range] at h2
   subst h2
   refine ⟨h1,fun x H'' y=>it_of ⟨y.1,?_⟩⟩
   rw [y.2]
   exact repP_int
 · simp -iota [stepD] at h
   exact h
theorem li_rng3 {t:TA} {f:MA} (h:LA C md t f):LI C md none (iRng3 t) (mRng3 f):=by
 intro A W ρ σ H Q ds ρ' r e k
 unfold mRng3 at e
 simp -iota only [Z0] at e
 obtain ⟨⟨os,ρ1⟩,e1,xs,e2,e3⟩:=e
 cases xs with
 | cons y7 y8=>
   cases y7 with
   | int i=>
     cases y8 with
     | cons y9 y10=>
       cases y9 with
       | int j=>
         cases y10 with
         | cons y11 y12=>
           cases y11 with
           | int c=>
             cases y12 with
             | nil=>
               dsimp only at e3
               have fin:∀ n,RngOk i j c n->(stepD i c n,ρ1)=(ds,ρ')->iRng3 t σ H Q:=fun n hj e4=>by
                 cases e4
                 refine h A W ρ σ H _ os _ r e1 fun vs H1 x1 r1 p1=>?_
                 obtain ⟨v1,w1,rfl,pv1,q1⟩:=p1.get r1 e2
                 obtain ⟨v2,w2,rfl,pv2,q2⟩:=q1
                 obtain ⟨v3,w3,rfl,pv3,q3⟩:=q2
                 obtain rfl:w3=[]:=q3
                 obtain rfl:=pv1.int_inv
                 obtain rfl:=pv2.int_inv
                 obtain rfl:=pv3.int_inv
                 exact ⟨i,j,c,n,rfl,hj,k _ H1 x1 r1 fun W2 _ _=>it_step _ _ _ _ _ _⟩
               split at e3
               · rename_i hj
                 have hc:=hj.2.2.2.2
                 exact fin _ ⟨by omega,by omega,step_size hj,step_small hj⟩ (Z27 e3)
               · split at e3
                 · rename_i hj
                   exact fin _ (stepM_ok hj) (Z27 e3)
                 · cases e3
             | _=>cases e3
           | _=>cases e3
         | _=>cases e3
       | _=>cases e3
     | _=>cases e3
   | _=>cases e3
 | _=>cases e3
end
end Mir
namespace L2
open PySem PySem.Spec PyProof.Rows
noncomputable def CX1 (P:Program) (w:World):CXT:=fun outer H s E e s'=>∃ (x C t:Addr) (B:Heap) (H':Hp),e=.ref x/\s'.os=s.os/\AllBare s'.gens/\Un (frs outer) [] H H' s.heap s'.heap/\HOk P w H' s'.heap /\
 Heap.FlyingW B outer x (.ref C) (.ref t) s'.heap/\(∀ b o,s'.heap.get? b=some o->H' b ≠ none->B.get? b=some o)/\(∀ b o,s.heap.get? b=some o->H b=none->b ∉ frs outer->B.get? b=some o) /\
 (∀ b o,s.heap.get? b=some o->b ∉ frs outer->∃ o',B.get? b=some o')/\(∀ b o,s.heap.get? b=some o->b ≠ x)/\H' x=none/\E (.ref C) none H'
theorem HOk.part {P:Program} {w:World} {H:Hp} {h h':Heap} (x:HOk P w H h) (k:∀ b u,H b ≠ none->h.get? b=some u->h'.get? b=some u):HOk P w H h':=fun a o e=>
 (x a o e).stay (fun b u hb q=>k b u (by rcases hb with rfl | hb <;> simp [*]) q) (fun _ q=>q) fun _ _ q=>q
theorem HOk.there {P:Program} {w:World} {H:Hp} {h:Heap} (x:HOk P w H h) {a:Addr} (e:H a ≠ none):∃ o,h.get? a=some o:=by
 cases q:H a with
 | none=>exact absurd q e
 | some u=>
   have z:=x a u q
   clear q e
   induction u with
   | lst xs=>obtain ⟨_,_,_,_,e⟩:=z; exact ⟨_,e⟩
   | tup xs=>obtain ⟨_,_,_,ob,e,_⟩:=z; exact ⟨_,e⟩
   | dK kvs=>obtain ⟨_,_,_,_,o,_,_,e,_⟩:=z; exact ⟨_,e⟩
   | dT kvs=>obtain ⟨_,_,_,_,o,_,_,e,_⟩:=z; exact ⟨_,e⟩
   | set S n=>obtain ⟨o,_,_,_,e,_⟩:=z; exact ⟨_,e⟩
   | ins C dx fs=>obtain ⟨_,_,_,e,_⟩:=z; exact ⟨_,e⟩
   | own y=>exact z
   | xd fs=>obtain ⟨_,⟨_,_,_,e,_⟩,_⟩:=z; exact ⟨_,e⟩
   | rng lo hi=>obtain ⟨_,_,_,e⟩:=z; exact ⟨_,e⟩
   | frz ob u=>obtain ⟨e,_⟩:=z; exact ⟨_,e⟩
   | tbl ps=>exact ⟨_,(show h.get? a=some _ from z)⟩
   | met f y=>exact ⟨_,(show h.get? a=some _ from z)⟩
   | ext φ=>obtain ⟨_,e,_⟩:=z; exact e
noncomputable def tRaise (C:Addr) (E:XK) (t:TA):TS:=fun _ σ H=>t σ H fun vs H1=>vs.length<=sizeLine/\E (.ref C) none H1
section
variable {P:Program} {w:World} {K:PySem.W.Frag} {mg:Str->Option Value} {base:Heap} {N:List Str} {qual:Str} {scope:Scope} {f:Addr} {cd:Value} {A:Around} {outer:List Env} {s₀:Shared} {H₀:Hp} {E:XK}
theorem cx1_leaves {pins:List (Addr × Obj)} {σ:St} {H:Hp} {s:Shared} {e C:Addr} {h':Heap} {us:List Value} (I:Inv (cxOf (CX1 P w) P w K mg base N qual scope f cd A outer s₀ H₀ E) pins σ H s)
   (hx:Heap.MadeExcOf s.heap h' e (.ref C) us) (q:E (.ref C) none H):(cxOf (CX1 P w) P w K mg base N qual scope f cd A outer s₀ H₀ E).xe (.ref e) { s with heap:=h' }:=by
 have hstk:(cxOf (CX1 P w) P w K mg base N qual scope f cd A outer s₀ H₀ E).stack=envOfC qual scope s₀.heap.objs.size f cd::outer:=rfl
 have hin:∀ env ∈ (cxOf (CX1 P w) P w K mg base N qual scope f cd A outer s₀ H₀ E).stack,∀ b,env.frame=some b->b ∈ frs (cxOf (CX1 P w) P w K mg base N qual scope f cd A outer s₀ H₀ E).stack:=fun env he b hb=>List.mem_filterMap.mpr ⟨env,he,hb⟩
 have hsub:∀ b o,s₀.heap.get? b=some o->b ∉ frs outer->b ∉ frs (cxOf (CX1 P w) P w K mg base N qual scope f cd A outer s₀ H₀ E).stack:=fun b o q n hm=>by
   rcases Z19.mp (I.stkSub b hm) with z | z
   · have:=Z13 q
     have h2:b=s₀.heap.objs.size:=z
     rw [h2] at this
     exact absurd this (Z33 _)
   · exact n z
 have noEx:∀ b:Addr,b ∉ (cxOf (CX1 P w) P w K mg base N qual scope f cd A outer s₀ H₀ E).ex:=fun b z=>absurd (show b ∈ ([]:List Addr) from z) (by simp)
 show wpAny _ _ (leaving _ _) _ _ _
 refine wpAny_leaves_madeW (base:=PySem.W.hideAll s.heap (frs (cxOf (CX1 P w) P w K mg base N qual scope f cd A outer s₀ H₀ E).stack)) (outer:=outer) I.ok.frames rfl (fun b o q=>PySem.W.of_hideAll _ q) (PySem.W.funFrames_hide I.stack hin) hx fun h'' t x1 x2 x3 x4=>?_
 have kept:∀ b o,s.heap.get? b=some o->b ∉ frs (cxOf (CX1 P w) P w K mg base N qual scope f cd A outer s₀ H₀ E).stack->(PySem.W.hideAll s.heap (frs (cxOf (CX1 P w) P w K mg base N qual scope f cd A outer s₀ H₀ E).stack)).get? b=some o:=fun b o q n=>PySem.W.hideAll_get _ q n
 have frame:∀ b o,s.heap.get? b=some o->b ∈ frs (cxOf (CX1 P w) P w K mg base N qual scope f cd A outer s₀ H₀ E).stack->∃ sl,h''.get? b=some { o with slots:=sl }:=fun b o q n=>by
   obtain ⟨_,o2,e2,nf⟩:=I.stack.mem n
   rw [q] at e2
   cases e2
   exact x4 b o (hx.keeps b o q) nf
 have trk:∀ b,H b ≠ none->b ∉ frs (cxOf (CX1 P w) P w K mg base N qual scope f cd A outer s₀ H₀ E).stack:=fun b n hm=>n (I.stkFree b hm)
 have un:Un (frs outer) [] H₀ H s₀.heap h'':=by
   refine ⟨fun b o q n hb _=>?_,fun b o q n hb _=>?_,fun b o q n _=>I.base.free b o q n (noEx b),fun b o q _=>?_,I.base.tups,I.base.frzs,I.base.tbls⟩
   · exact x1.1 b o (kept b o (I.base.keep b o q n hb (noEx b)) (hsub b o q hb))
   · obtain ⟨sl,e1⟩:=I.base.slot b o q n hb (noEx b)
     obtain ⟨sl2,e2⟩:=frame b _ e1 (by show b ∈ frs (envOfC qual scope s₀.heap.objs.size f cd::outer); unfold frs; rw [List.filterMap_cons]; exact Z8 _ hb)
     exact ⟨sl2,e2⟩
   · obtain ⟨o',e1⟩:=I.base.there b o q (noEx b)
     by_cases hm:b ∈ frs (cxOf (CX1 P w) P w K mg base N qual scope f cd A outer s₀ H₀ E).stack
     · obtain ⟨sl,e2⟩:=frame b o' e1 hm
       exact ⟨_,e2⟩
     · exact ⟨o',x1.1 b o' (kept b o' e1 hm)⟩
 have hok:HOk P w H h'':=I.hok.part fun b u n q=>x1.1 b u (kept b u q (trk b n))
 refine ⟨e,C,t,_,H,rfl,I.os,I.bare,un,hok,x1,fun b o q n=>?_,fun b o q n hb=>?_,fun b o q hb=>?_,fun b o q z=>?_,?_,q⟩
 · obtain ⟨o',e1⟩:=I.hok.there n
   have e2:=kept b o' e1 (trk b n)
   have e3:=x1.1 b o' e2
   have q':h''.get? b=some o:=q
   rw [q'] at e3
   cases e3
   exact e2
 · exact kept b o (I.base.keep b o q n hb (noEx b)) (hsub b o q hb)
 · obtain ⟨o',e1⟩:=I.base.there b o q (noEx b)
   exact ⟨o',kept b o' e1 (hsub b o q hb)⟩
 · obtain ⟨o',e1⟩:=I.base.there b o q (noEx b)
   rw [z,hx.new] at e1
   cases e1
 · cases qe:H e with
   | none=>rfl
   | some u=>
     obtain ⟨o',e1⟩:=I.hok.there (a:=e) (by rw [qe]; simp)
     rw [hx.new] at e1
     cases e1
theorem ps_raise {x:Str} {C:Addr} {B nid initId Bn newId inN:String} {bm bmN:List Value} {e₀:Expr} {rest:List Expr} {np cpos pos:Pos} {t:TA} (O:OwnCls x C bm newId mg base) (Fn:ExcBaseFacts Bn newId inN bmN) (hBn:bm.contains (.type Bn)=true) (FB:ExcBaseFacts B nid initId bm)
   (hg:Gl (cxOf (CX1 P w) P w K mg base N qual scope f cd A outer s₀ H₀ E) x) (ha:PA (cxOf (CX1 P w) P w K mg base N qual scope f cd A outer s₀ H₀ E) (e₀::rest) t) (hdb:(x == ("__debug__":Str))=false:=by decide)
   (he:starEach (e₀::rest) (cxOf (CX1 P w) P w K mg base N qual scope f cd A outer s₀ H₀ E).env=(false,eval e₀ (cxOf (CX1 P w) P w K mg base N qual scope f cd A outer s₀ H₀ E).env)::starEach rest (cxOf (CX1 P w) P w K mg base N qual scope f cd A outer s₀ H₀ E).env:=by rfl)
   (hpl:(backTo cpos (starEach rest (cxOf (CX1 P w) P w K mg base N qual scope f cd A outer s₀ H₀ E).env)).any (·.1)=false:=by rfl) :
   PS (cxOf (CX1 P w) P w K mg base N qual scope f cd A outer s₀ H₀ E) (.Raise (some (.Call (.Name x np) (e₀::rest) [] cpos)) none pos) (tRaise C E t):=by
 intro pins s σ H D I h
 obtain ⟨tl,Nn,nm,q,bs,hdct,sn,sub,ab,col,dd,k0,k1,k2,k3,k5,mN,hC,hN,hni,T⟩:=O.obj
 refine wpAny_Raise_call_subU (C:=C) (nm:=nm) (q:=q) (N:=Nn) (bs:=bs) (bm:=tl) (hdct:=hdct) (sn:=sn) (sub:=sub) (ab:=ab) (col:=col) (dd:=dd) (k0:=k0) (k1:=k1) (k2:=k2) (k3:=k3) (k5:=k5)
   Fn hBn FB (mN:=mN) (T.hasType FB.hasBase) (I.ok.hd rfl) (by rw [he]; show (false || (backTo cpos (starEach rest _)).any (·.1))=false; rw [hpl]; rfl) hni (ld_glob I hg O.bound ⟨rfl,?_⟩ hdb)
 have h1:=ha cpos pins s σ H _ I h
 rw [he] at h1 ⊢
 refine Calls.evalArgs_plain (Z57 h1 (fun us s₂ h₂=>?_) fun _ _ y=>y)
 obtain ⟨vs,H2,I2,r,hl,q2⟩:=h₂
 exact ⟨rfl,by rw [<- r.length]; exact hl,I2.bk _ _ hC,hN.keeps I2.bk,T.keeps I2.bk,fun h' e hx=>cx1_leaves I2 hx q2⟩
end
end L2
namespace PySem.W
open PySem PySem.Spec PySem.Calls PyProof.Rows PySem.Builtin PySem.Builtin.ObjectAttr PySem.Builtin.Getset_descriptor
noncomputable def ExcAt (x C:Addr) (h:Heap):Prop:=∃ ox,h.get? x=some ox/\ox.cls=.ref C
theorem ExcAt.type {M:Model} {h:Heap} {x C:Addr} (I:ExcAt x C h):Looks M h (typeOf (.ref x)) (.ref C):=by
 obtain ⟨o,h1,h2⟩:=I
 exact h2 ▸ (Looks.ld h1).andThen .now
end PySem.W
namespace L2
open PySem PySem.Spec PyProof.Rows
noncomputable def Cx.inx (X:Cx) (x:Addr) (oe:Obj):Cx:={ X with A:=X.A.mark (some (.ref x)),calm:=false,pn:=(x,oe)::X.pn,xe:=fun _ _=>False }
section
variable {X:Cx} {pins:List (Addr × Obj)} {σ:St} {H H':Hp} {s:Shared}
theorem Cx.Ok.inx (ok:X.Ok) (x:Addr) (oe:Obj):(X.inx x oe).Ok:=
 ⟨ok.mod,ok.kind,ok.glob,ok.blt,ok.above,ok.inj,ok.has,ok.cab,(fun z=>by cases (show false=true from z)),ok.frames,ok.stk,ok.exf,ok.bs,ok.bsz,ok.noex,ok.exfs,ok.funs,ok.frf⟩
theorem Inv.inx (I:Inv X ((x,oe)::pins) σ H s):Inv (X.inx x oe) pins σ H s:=
 ⟨I.ok.inx x oe,I.os,I.bare,I.base,I.loc,I.cell,I.free,I.freeC,(fun p hp=>I.pin p (by
   rcases Z11.mp hp with z | z
   · rcases Z19.mp z with z | z
     · exact Z36 _ (by rw [z]; exact Z16)
     · exact Z37 _ z
   · exact Z36 _ (Z8 _ z))),I.hok,I.len⟩
theorem Inv.outx (ok:X.Ok) (I:Inv (X.inx x oe) pins σ H s):Inv X pins σ H s:=
 ⟨ok,I.os,I.bare,I.base,I.loc,I.cell,I.free,I.freeC,(fun p hp=>I.pin p (by
   rcases Z11.mp hp with z | z
   · exact Z37 _ (Z8 _ z)
   · exact Z36 _ z)),I.hok,I.len⟩
end
end L2
namespace Mir
open PySem PySem.Spec PyProof.Rows L2
noncomputable def mRaise:MS:=fun ρ=>some (.ret (.scr []),ρ)
noncomputable def spX (K:PySem.W.Frag) (m mR:List S->Option S) (c:Addr):Sp:=fun vs H Q E=>spP K m vs H Q E∨∃ ss,SL K H (fun _=>True) ss vs/\mR ss=some (.scr [])/\∀ H',Same H H'->E (.ref c) none H'
section
variable {C:Cn} {md:List Md}
theorem ls_raise {E:XK} {c:Addr} {v:V} (hM:∀ a,¬ C.M a) (h:∀ H',Same C.H0 H'->E (.ref c) none H'):LS C md (tRaise c E (tCons (tC v) tNil)) mRaise:=by
 intro A W ρ σ H D fl ρ' r e k
 exact ⟨(show 1<=sizeLine by decide),h H fun b o q=>r.base b o q (hM b)⟩
theorem fix_set {σ:L2.St} {i:Nat} {x:Option V} (hm:mode md i=.pl):Fix (held md) σ (σ.set i x):=fun j fj=>set_get (fun z=>by
 subst z
 rcases fj with h | h <;> (rw [hm] at h; cases h))
end
section
variable {P:Program} {w:World} {K:PySem.W.Frag} {mg:Str->Option Value} {base:Heap}
theorem fn_pureX {x qual:Str} {st:Stmt} {f c:Addr} {fd:FuncData} {N ps:List Str} {k n np:Nat} {md:List Md} {mb mbR:MS} {m mR:List S->Option S} (F:Fun K x qual st f fd) (S0:FnScope N ps (defScope st)) (hn:N.length=n) (hp:ps.length=np) (hm:m=mFn n np mb) (hmR:mR=mFn n np mbR) (hle:Nat.ble np n=true) (hmd:allPl np md=true)
   (hb:Body P w K mg base qual st f N k md mb)
   (hbR:∀ (cdv:Value) (A:Around) (outer:List Env) (s:Shared) (H:Hp) (E:XK),Room k (A.deeper (envOfC qual (defScope st) s.heap.objs.size f cdv)) ->
     ∃ t,PSs (cxOf (CX1 P w) P w K mg base N qual (defScope st) f cdv A outer s H E) (defBody st) t/\∀ C:Cn,C.K=K->(∀ a,¬ C.M a)->(∀ H',Same C.H0 H'->E (.ref c) none H')->LS C md t mbR) :
   FnOk P w K mg base (CX1 P w) (k+1) f fd ps (spX K m mR c):=by
 subst hn hp hm hmR
 obtain ⟨oc,od,kV,doc,pm,an,cdv,ct,osl,rfl,lk,hcd⟩:=F.ex
 have hple:=Z14 hle
 refine fn_of lk hcd S0 (fun vs H Q E h=>?_) (fun A outer s H vs Q E hr h=>?_)
 · rcases h with ⟨ss,r,h1,h2,_⟩ | ⟨ss,h1,h2,_⟩
   · unfold mFn at h2
     split at h2
     · rw [h1.length]; assumption
     · cases h2
   · unfold mFn at h2
     split at h2
     · rw [h1.length]; assumption
     · cases h2
 · rcases h with ⟨ss,r,h1,h2,q⟩ | ⟨ss,h1,h2,q⟩
   · obtain ⟨t,ht,hl⟩:=hb cdv A outer s H E hr
     refine ⟨t,PSs.nox (X:=cxOf (CX1 P w) P w K mg base N qual (defScope st) f cdv A outer s H E) ht,?_⟩
     unfold mFn at h2
     split at h2
     · rename_i hlen
       have R0:=R.start (N:=N) (md:=md) h1 (by lia) (fun i hi=>modes_pl hmd i (by exact Z15 hi (Nat.le_of_eq hlen)))
       have same:∀ {A' W':Addr->Prop} {ρ':En} {σ':L2.St} {H':Hp},R ⟨K,H,fun _=>False,fun _=>False,false⟩ md A' W' ρ' σ' H'->Same H H':=fun r b o e=>r.base b o e (fun z=>z)
       rcases retOf_some h2 with ⟨ρ',e⟩ | ⟨ρ',e,rfl⟩
       · exact hl ⟨K,H,fun _=>False,fun _=>False,false⟩ rfl _ _ _ _ _ _ _ ρ' R0 e fun A' W' σ' v H' g r' f' z=>q v H' (same r') (by rcases z with z | z; exact z; cases z.1)
       · exact hl ⟨K,H,fun _=>False,fun _=>False,false⟩ rfl _ _ _ _ _ _ _ ρ' R0 e fun A' W' σ' H' g r' f'=>q .non H' (same r') (show RepP _ _ _ _ _ from repP_non)
     · cases h2
   · obtain ⟨t,ht,hl⟩:=hbR cdv A outer s H E hr
     refine ⟨t,ht,?_⟩
     unfold mFn at h2
     split at h2
     · rename_i hlen
       have R0:=R.start (N:=N) (md:=md) h1 (by omega) (fun i hi=>modes_pl hmd i (by exact Z15 hi (Nat.le_of_eq hlen)))
       rcases retOf_some h2 with ⟨ρ',e⟩ | ⟨ρ',e,z⟩
       · exact hl ⟨K,H,fun _=>False,fun _=>False,false⟩ rfl (fun _ z=>z) q _ _ _ _ _ _ _ ρ' R0 e fun A' W' σ' v H' g r' f' z=>by
           rcases z with z | ⟨z,_⟩
           · exact z.elim
           · cases z
       · cases z
     · cases h2
end
end Mir
namespace L2
open PySem PySem.Spec PyProof.Rows
theorem own_of {K:PySem.W.Frag} {h₀:Heap} {mg:Str->Option Value} {x:Str} {C:Addr} {bmB:List Value} {newId:String} (X:K.In h₀) (G:h₀.Ns mainGlobals mg) (e:PySem.W.nsIn K mainGlobals x=some (some (.ref C))) (q:PySem.W.excIn K C bmB newId=true):OwnCls x C bmB newId mg h₀:=by
 refine ⟨PySem.W.mg_of X G e,?_⟩
 unfold PySem.W.excIn at q
 split at q
 · rename_i dd cd sl ho
   split at q
   · rename_i C' bm k0 k1 k2 k3 n k5 hm hs
     simp only [Z25,beq_iff_eq,Bool.not_eq_true'] at q
     obtain ⟨⟨⟨⟨⟨rfl,rfl⟩,hdel⟩,ht⟩,hok⟩,hni⟩:=q
     obtain ⟨nm,bs,mro,ns,qn,hd,sn,sub,ab,col,del⟩:=cd
     dsimp only at hm hdel hok hni
     subst hm hdel
     have hsl:sl=#[k0,k1,k2,k3,some (.builtin n),k5]:=by
       obtain ⟨l⟩:=sl
       simp only at hs
       rw [hs]
     subst hsl
     exact ⟨bm,ns,nm,qn,bs,hd,sn,sub,ab,col,dd,k0,k1,k2,k3,k5,_,X _ _ ho,.of_isNs (PySem.W.isNs_of_in X hok),PySem.W.nsMap_none_of_in X hok hni,PySem.W.tail_of_in X ht⟩
   · cases q
 · cases q
theorem PS.nox {X:Cx} {st:Stmt} {t:TS} (h:PS X.nox st t):PS X st t:=fun pins s σ H D I hw=>
 Z57 (h pins s σ H D (I.wish _) hw) (fun _ _ q=>q.unwish) fun _ _ z=>False.elim z
noncomputable abbrev bmVE:List Value:=[.type "ValueError",.type "Exception",.type "BaseException",.type "object"]
noncomputable abbrev FnX (P:Program) (w:World) (K:PySem.W.Frag) (mg:Str->Option Value) (base:Heap) (x:Str) (k:Nat) (ps:List Str) (sp:Sp):Prop:=∃ f fd,FnOk P w K mg base (CX1 P w) k f fd ps sp/\mg x=some (.ref f)/\PySem.W.keepIn K (.ref f)=true/\Binds K fd ps []
namespace HT2
open HT PySem.Builtin
section
variable {prog:Program} {w:World} {A:Around} {E:Value->Shared->Prop} {s:Shared}
theorem getItem_tuple_whole {t sl:Addr} {items:Array Value} {vl vu:Value} {lo hi:Option Int} {Q:Value->Shared->Prop} (ht:IsTup s.heap t items) (hs:s.heap.IsSliceOf sl vl vu .none) (pl:IsPart vl lo) (pu:IsPart vu hi)
   (hw:HT.sIx items.size 0 lo=0/\HT.sIx items.size items.size hi=items.size) (h:Q (.ref t) s):wpAny (model prog w) A (getItem (.ref t) (.ref sl)) Q E s:=by
 obtain ⟨os,hos,hcs,hds⟩:=id hs
 have hTs:s.TypeIs (.ref sl) "slice":=⟨os,hos,hcs⟩
 unfold getItem
 try with_reducible refine wpAny_holding ?_
 first | refine Z55 (Z56 ?_) | skip
 refine Z55 (wpAny_sequenceKey ht.typeIs (by decide) ?_)
 refine Z55 (wpAny_callSpecial?_slot (name:=Str.ofString "__getitem__") ht.typeIs PyProof.Rows.slot_tuple_getitem
   (wpAny_call_entry PyProof.Rows.slot_tuple_getitem ht.typeIs entry_tuple_getitem ?_ (args_tuple_getitem _ _)))
 show wpAny _ _ (Builtin.Tuple.tupleItemsOf (.ref t) >>= _) _ _ s
 refine Z55 (tupleItemsOf_ ht ?_)
 refine Z55 (wpAny_typeOf hTs ?_)
 rw [if_pos (by decide)]
 refine Z55 (sliceApplied_gen hs pl pu ?_)
 have hyes:((((HT.sIx items.size 0 lo:Nat):Int) == 0 && (1:Int) == 1 && (HT.sIx items.size items.size hi - HT.sIx items.size 0 lo) == items.size)=true):=by
   rw [hw.1,hw.2]; simp
 show wpAny _ _ (if (((HT.sIx items.size 0 lo:Nat):Int) == 0 && (1:Int) == 1 && (HT.sIx items.size items.size hi - HT.sIx items.size 0 lo) == items.size)=true then _ else _) _ _ s
 rw [if_pos hyes]
 have hT:=ht.typeIs
 unfold Builtin.Tuple.tupleIsExact
 refine Z55 (Z55 (wpAny_typeOf hT (Z56 ?_)))
 rw [if_pos (by decide)]
 exact Z55 (wpAny_rule (Z56 ⟨_,rfl,Z56 h⟩))
end
end HT2
section
variable {X:Cx}
noncomputable def rSlW (K:PySem.W.Frag):V->Option Int->Option Int->Hp->VK->Prop:=fun x lo hi H Q=>∃ a xs,x=.ref a/\SqT K H a xs/\(HT.sIx xs.length 0 lo=0/\HT.sIx xs.length xs.length hi=xs.length)/\Q (.ref a) H
theorem sl_tupW:SlR X (rSlW X.K):=by
 intro pins s σ H x v vl vu lo hi sl Q I rx hs pl pu h
 obtain ⟨a,xs,rfl,hx,hw,q⟩:=h
 cases rx
 obtain ⟨its,r,ht,hz⟩:=I.tuple hx
 have hlen:its.toArray.size=xs.length:=by rw [Z4]; exact r.length.symm
 refine ⟨"tuple",_,PyProof.Rows.slot_tuple_getitem.lookup,ht.typeIs,?_⟩
 exact HT2.getItem_tuple_whole ht hs pl pu (by rw [hlen]; exact hw) ⟨.ref a,H,I,rfl,q⟩
noncomputable def rSlZ (K:PySem.W.Frag):V->Option Int->Option Int->Hp->VK->Prop:=fun x lo hi H Q=>rSlX K x lo hi H Q∨rSlW K x lo hi H Q
theorem sl_all {K:PySem.W.Frag} (kt:KT K) (hK:X.K=K:=by rfl):SlR X (rSlZ K):=by
 subst hK
 exact (sl_any kt).or sl_tupW
end
end L2
namespace Mir
open PySem PySem.Spec PyProof.Rows L2
noncomputable def slZ (d:D) (lo hi:Option Int):Option D:=match d with
 | .tup l=>if HT.sIx l.length 0 lo=0/\HT.sIx l.length l.length hi=l.length then some (.tup l) else some (.tup (cutD l lo hi))
 | d=>slD d lo hi
section
variable {K:PySem.W.Frag} {C:Cn} {md:List Md}
theorem slZ_run {H:Hp} {ok:Addr->Prop} {x:V} {d u:D} {lo hi:Option Int} {Q:VK} (h:RepT K H ok d x) (g:slZ d lo hi=some u) (k:∀ v H',Same H H'->RepP K H' (fun a=>ok a∨H a=none) u v->Q v H'):rSlZ K x lo hi H Q:=by
 cases d with
 | tup l=>
   replace g:(if HT.sIx l.length 0 lo=0/\HT.sIx l.length l.length hi=l.length then some (D.tup l) else some (.tup (cutD l lo hi)))=some u:=g
   by_cases c:HT.sIx l.length 0 lo=0/\HT.sIx l.length l.length hi=l.length
   · rw [if_pos c] at g
     cases g
     obtain ⟨a,xs,rfl,ht,rp⟩:=h.tup_inv
     refine .inr ⟨a,xs,rfl,ht,by rw [rp.length]; exact c,k _ H (Same.refl _) ?_⟩
     rw [RepP]
     exact ⟨a,xs,rfl,ht,rp.mono fun _ _ o _=>.inl o⟩
   · rw [if_neg c] at g
     exact .inl (sl_run h (show slD (.tup l) lo hi=some u by show (if _ then _ else _)=_; rw [if_neg c]; exact g) k)
 | lst l=>
   exact .inl (sl_run h g k)
 | str l=>
   exact .inl (sl_run h g k)
 | int y5=>
   exact .inl (sl_run h g k)
 | bl y6=>
   exact .inl (sl_run h g k)
 | non=>
   exact .inl (sl_run h g k)
noncomputable def mSlZ (f:ME) (lo hi:MO):ME:=fun ρ=>(f ρ).bind fun x=>(lo x.2).bind fun y=>(hi y.2).bind fun z=>(res z.2 x.1).bind fun d=>(slZ d y.1 z.1).bind fun u=>some (.val u,z.2)
theorem le_slZ {t:TE} {tl th:TO} {f:ME} {lo hi:MO} (h:LE C md t f) (hl:LO C md tl lo) (hh:LO C md th hi):LE C md (tSl (rSlZ C.K) t tl th) (mSlZ f lo hi):=by
 intro A W ρ σ H Q o ρ' r e k
 unfold mSlZ at e
 simp only [Z0] at e
 obtain ⟨⟨o1,ρ1⟩,e1,⟨b,ρ2⟩,e2,⟨c,ρ3⟩,e3,d,e4,u,e5,e6⟩:=e
 cases e6
 refine h A W ρ σ H _ o1 ρ1 r e1 fun v1 H1 x1 r1 p1=>?_
 refine hl A W ρ1 σ H1 _ b ρ2 r1 e2 fun H2 x2 r2=>?_
 refine hh A W ρ2 σ H2 _ c _ r2 e3 fun H3 x3 r3=>?_
 refine slZ_run (((p1.stay r1 x2).stay r2 x3).get r3 e4) e5 fun v H' s q=>?_
 obtain ⟨z1,z2,z3⟩:=fin ((x1.trans x2).trans x3) r3 s q
 exact k v H' z1 z2 z3
theorem Ev.slZ {f:ME} {lo hi:MO} {ρ ρ1 ρ2 ρ3:En} {x:Op} {a b:Option Int} {d u:D} (h1:f ρ=some (x,ρ1)) (h2:lo ρ1=some (a,ρ2)) (h3:hi ρ2=some (b,ρ3)) (h4:res ρ3 x=some d) (h5:Mir.slZ d a b=some u):mSlZ f lo hi ρ=some (.val u,ρ3):=by
 unfold mSlZ
 simp only [h1,h2,h3,h4,h5,Z1]
end
mutual
def fit:D->Bool
 | .int i=>decide (i.natAbs.log2 < 1920)
 | .str x=>x.cps.toList.all fun c=>decide (c < 16 ^ 8)
 | .tup l=>fits l
 | .lst l=>fits l
 | _=>true
def fits:List D->Bool
 | []=>true
 | d::ds=>fit d && fits ds
end
end Mir
namespace L2
open PySem PySem.Spec PyProof.Rows
noncomputable def rFind:V->List V->Hp->VK->Prop:=fun x vs H Q=>∃ z y,x=.str z/\vs=[.str y]/\Q (.int (Txt.find z y)) H
theorem mt_find {X:Cx}:MtR X "str.find" rFind:=by
 intro pins s σ H x xs v us Q I rx rxs h
 obtain ⟨z,y,rfl,rfl,q⟩:=h
 obtain ⟨t,rfl⟩:=rx
 obtain ⟨u,rfl,⟨t2,rfl⟩⟩:=vals1 rxs
 exact SC.find ⟨.int (Txt.find z y),H,I.tok _,⟨_,rfl⟩,q⟩
noncomputable def occ1 (z y:Str):Option Nat:=(Builtin.Str.occurrences z y 0 z.length 1).head?
noncomputable def rIndex:V->List V->Hp->VK->Prop:=fun x vs H Q=>∃ z y i,x=.str z/\vs=[.str y]/\occ1 z y=some i/\Q (.int i) H
theorem mt_index {X:Cx}:MtR X "str.index" rIndex:=by
 intro pins s σ H x xs v us Q I rx rxs h
 obtain ⟨z,y,i,rfl,rfl,e,q⟩:=h
 obtain ⟨t,rfl⟩:=rx
 obtain ⟨u,rfl,⟨t2,rfl⟩⟩:=vals1 rxs
 unfold occ1 at e
 cases ho:Builtin.Str.occurrences z y 0 z.length 1 with
 | nil=>rw [ho] at e; cases e
 | cons j r=>
   rw [ho] at e
   cases e
   exact SC.index ho ⟨.int i,H,I.tok _,⟨_,rfl⟩,q⟩
end L2
namespace Mir
open PySem PySem.Spec PyProof.Rows L2
noncomputable def findD:D->D->Option D
 | .str z,.str y=>some (.int (Txt.find z y))
 | _,_=>none
noncomputable def indexD:D->D->Option D
 | .str z,.str y=>(occ1 z y).map fun i=>.int i
 | _,_=>none
noncomputable def mMeth (f2:D->D->Option D) (fa fb:ME):ME:=fun ρ=>(fa ρ).bind fun x=>(res x.2 x.1).bind fun d=>(fb x.2).bind fun y=>(res y.2 y.1).bind fun c=>(f2 d c).bind fun n=>some (.val n,y.2)
noncomputable def mFind:ME->ME->ME:=mMeth findD
noncomputable def mIndex:ME->ME->ME:=mMeth indexD
section
variable {C:Cn} {md:List Md}
theorem le_find {ta tb:TE} {fa fb:ME} (ha:LE C md ta fa) (hb:LE C md tb fb):LE C md (tBM C.K "str" rFind ta (tCons tb tNil)) (mFind fa fb):=by
 intro A W ρ σ H Q o ρ' r e k
 unfold mFind mMeth at e
 simp only [Z0] at e
 obtain ⟨⟨o1,ρ1⟩,e1,d,e2,⟨o2,ρ2⟩,e3,c,e4,n,e5,e6⟩:=e
 cases e6
 cases d with
 | str z=>
   cases c with
   | str y=>
     cases e5
     refine ha A W ρ σ H _ o1 ρ1 r e1 fun v1 H1 x1 r1 p1=>?_
     obtain rfl:=(p1.get r1 e2).str_inv
     refine ⟨rfl,?_⟩
     refine hb A W ρ1 σ H1 _ o2 ρ2 r1 e3 fun v2 H2 x2 r2 p2=>?_
     obtain rfl:=(p2.get r2 e4).str_inv
     exact ⟨z,y,rfl,rfl,k _ H2 (x1.trans x2) r2 (show RepP _ _ _ _ _ from repP_int)⟩
   | _=>cases e5
 | _=>cases e5
theorem le_index {ta tb:TE} {fa fb:ME} (ha:LE C md ta fa) (hb:LE C md tb fb):LE C md (tBM C.K "str" rIndex ta (tCons tb tNil)) (mIndex fa fb):=by
 intro A W ρ σ H Q o ρ' r e k
 unfold mIndex mMeth at e
 simp only [Z0] at e
 obtain ⟨⟨o1,ρ1⟩,e1,d,e2,⟨o2,ρ2⟩,e3,c,e4,n,e5,e6⟩:=e
 cases e6
 cases d with
 | str z=>
   cases c with
   | str y=>
     replace e5:(occ1 z y).map (fun i=>D.int i)=some n:=e5
     cases eo:occ1 z y with
     | none=>rw [eo] at e5; cases e5
     | some i=>
       rw [eo] at e5
       cases e5
       refine ha A W ρ σ H _ o1 ρ1 r e1 fun v1 H1 x1 r1 p1=>?_
       obtain rfl:=(p1.get r1 e2).str_inv
       refine ⟨rfl,?_⟩
       refine hb A W ρ1 σ H1 _ o2 ρ2 r1 e3 fun v2 H2 x2 r2 p2=>?_
       obtain rfl:=(p2.get r2 e4).str_inv
       exact ⟨z,y,i,rfl,rfl,eo,k _ H2 (x1.trans x2) r2 (show RepP _ _ _ _ _ from repP_int)⟩
   | _=>cases e5
 | _=>cases e5
end
section
variable {C:Cn} {md:List Md} {A W:Addr->Prop} {ρ:En} {σ:L2.St} {H:Hp}
theorem Ev.meth {f2:D->D->Option D} {fa fb:ME} {ρ ρ1 ρ2:En} {o1 o2:Op} {d c n:D} (h1:fa ρ=some (o1,ρ1)) (h2:res ρ1 o1=some d) (h3:fb ρ1=some (o2,ρ2)) (h4:res ρ2 o2=some c) (h5:f2 d c=some n):mMeth f2 fa fb ρ=some (.val n,ρ2):=by
 unfold mMeth
 simp only [h1,h2,h3,h4,h5,Z1]
end
theorem Ev.find {fa fb:ME} {ρ ρ1 ρ2:En} {o1 o2:Op} {d c n:D} (h1:fa ρ=some (o1,ρ1)) (h2:res ρ1 o1=some d) (h3:fb ρ1=some (o2,ρ2)) (h4:res ρ2 o2=some c) (h5:findD d c=some n):mFind fa fb ρ=some (.val n,ρ2):=Ev.meth h1 h2 h3 h4 h5
theorem Ev.index {fa fb:ME} {ρ ρ1 ρ2:En} {o1 o2:Op} {d c n:D} (h1:fa ρ=some (o1,ρ1)) (h2:res ρ1 o1=some d) (h3:fb ρ1=some (o2,ρ2)) (h4:res ρ2 o2=some c) (h5:indexD d c=some n):mIndex fa fb ρ=some (.val n,ρ2):=Ev.meth h1 h2 h3 h4 h5
end Mir
namespace L2
open PySem PySem.Spec PyProof.Rows
structure AskN (K:PySem.W.Frag) (mg:Str->Option Value) (nH:Str) (c:Addr):Prop where
 mH:mg nH=some (.ref c)
 hit:PySem.W.exmOne K (.ref c) (.ref c)=some true
section
variable {X:Cx} {pins:List (Addr × Obj)} {σ:St} {H H':Hp} {s:Shared}
theorem cx1_caughtN {E:XK} {e:Value} {s':Shared} {D:Ends} {cx:Str} {Cc:Addr} {b₀:Stmt} {suite:List Stmt} {np hpos:Pos} (hst:X.stack=X.env::X.outer) (hfr:X.env.frame=some X.env.locals) (I:Inv X pins σ H s) (c:CX1 X.prog X.w X.stack H s E e s')
   (hg:Gl X cx) (hm:X.mg cx=some (.ref Cc))
   (hE:∀ C H',E (.ref C) none H'->PySem.W.exmOne X.K (.ref C) (.ref Cc)=some true/\∀ x oe s5,Inv (X.inx x oe) pins σ H' s5 ->
     wpAny (model X.prog X.w) (X.A.mark (some (.ref x))) (execs (b₀::suite) X.env) (SP (X.inx x oe) pins { nx:=D.nx,rt:=fun _ _=>False }) (fun _ _=>False) s5)
   (hdb:(cx == ("__debug__":Str))=false:=by decide) :
   wpAny (model X.prog X.w) X.A (noteFrame e X.env) (fun _ s₂=>wpAny (model X.prog X.w) X.A (setFlight e none) (fun _ s₃=>wpAny (model X.prog X.w) X.A (handleBy e X.env [.ExceptHandler (some (.Name cx np)) none (b₀::suite) hpos]) (SP X pins D) X.xe s₃) X.xe s₂) X.xe s':=by
 obtain ⟨x,C,t,B,H',rfl,os,bare,un,hok,fl,tB,pB,thB,nx,hx,q⟩:=c
 obtain ⟨hex,hh⟩:=hE C H' q
 have fl':Heap.FlyingW B (X.env::X.outer) x (.ref C) (.ref t) s'.heap:=hst ▸ fl
 have inv:∀ h5:Heap,B.StaysIn h5->s'.heap.UpToSlots h5->Inv X pins σ H' { s' with heap:=h5 }:=fun h5 k1 k2=>by
   have slot:∀ b o,s.heap.get? b=some o->H b=none->b ∈ frs X.stack->∃ sl,h5.get? b=some { o with slots:=sl }:=fun b o q n hb=>by
     obtain ⟨sl,e1⟩:=un.slot b o q n hb (by simp)
     obtain ⟨_,o2,e2,nf⟩:=I.stack.mem hb
     rw [q] at e2
     cases e2
     obtain ⟨sl2,e3⟩:=k2 b _ e1 nf
     exact ⟨sl2,e3⟩
   refine I.call' (s':={ s' with heap:=h5 }) (ch:=[]) os ⟨fun b o q n hb _=>k1 b o (pB b o q n hb),fun b o q n hb _=>slot b o q n hb,fun b o q n _=>un.free b o q n (by simp),fun b o q _=>?_,un.tups,un.frzs,un.tbls⟩ (hok.part fun b u n q=>k1 b u (tB b u q n)) bare (fun b z=>absurd z (by simp))
   by_cases hb:b ∈ frs X.stack
   · obtain ⟨sl,e1⟩:=slot b o q (I.stkFree b hb) hb
     exact ⟨_,e1⟩
   · obtain ⟨o',e1⟩:=thB b o q hb
     exact ⟨o',k1 b o' e1⟩
 have hfr2:X.A.frames=some (X.env::X.outer):=by rw [I.ok.frames,hst]
 have pinned:∀ (h5:Heap) (oe:Obj) (vs:Array Value),Inv X pins σ H' { s' with heap:=h5 }->h5.get? x=some oe->oe.data=.fields vs->Inv (X.inx x oe) pins σ H' { s' with heap:=h5 }:=fun h5 oe vs J he hd=>by
   have nf:∀ b ∈ frs X.stack,b ≠ x:=fun b hb z=>by
     obtain ⟨_,o2,e2,nf⟩:=J.stack.mem hb
     have he':({ s' with heap:=h5 }:Shared).heap.get? x=some oe:=he
     rw [z,he'] at e2
     cases e2
     exact nf vs hd
   refine Inv.inx (J.pins_of fun p hp=>?_)
   rcases Z19.mp hp with rfl | hp
   · refine ⟨he,hx,fun z=>?_,fun z=>?_,fun v z=>by rw [hd] at z; cases z⟩
     · exact nf X.env.locals (by rw [hst]; unfold frs; rw [List.filterMap_cons,hfr]; exact Z16) z.symm
     · exact nf x (by rw [hst]; unfold frs; rw [List.filterMap_cons,hfr]; exact Z8 _ z) rfl
   · exact J.pin p (Z36 _ hp)
 refine wpAny_looks_onW hfr2 hfr fl' fun h4 held4 sm4=>?_
 refine wpAny_landsW held4 fun h5 fl5 sm5=>?_
 have I5:=inv h5 fl5.1 (sm4.trans sm5)
 obtain ⟨oe5,vs5,he5,hc5,hd5,_⟩:=fl5.first
 have J5:=pinned h5 oe5 vs5 I5 he5 hd5
 refine wpAny_handleBy_cons (codeAny_handlers_test ?_) (by intro q; cases q)
 refine ld_glob J5 hg hm ?_ hdb
 refine (PySem.W.exm_one (K:=X.K) I5.kIn (PySem.W.ExcAt.type ⟨oe5,he5,hc5⟩) hex).here ?_
 rw [if_pos rfl]
 refine codeAny_handlers_suite ?_
 refine lands_againW fl5 fun h6 fl6 sm6=>?_
 have I6:=inv h6 fl6.1 ((sm4.trans sm5).trans sm6)
 obtain ⟨oe6,vs6,he6,hc6,hd6,_⟩:=fl6.first
 have J6:=pinned h6 oe6 vs6 I6 he6 hd6
 refine Z57 (hh x oe6 _ J6) (fun f s8 h8=>?_) (fun _ _ z=>z.elim)
 cases f with
 | next=>
   obtain ⟨σ8,H8,I8,q8⟩:=h8
   exact ⟨σ8,H8,I8.outx I.ok,q8⟩
 | ret v=>
   obtain ⟨_,_,_,_,_,z⟩:=h8
   exact z.elim
 | brk=>
   obtain ⟨_,_,_,z⟩:=h8
   exact z.elim
 | cont=>
   obtain ⟨_,_,_,z⟩:=h8
   exact z.elim
noncomputable def tTryN (c:Addr) (j:Nat) (sp:Sp) (t:TA):TS:=fun D σ H=>t σ H fun vs H1=>sp vs H1 (fun _ H2=>D.nx σ H2)
 fun cls _ H2=>cls=.ref c/\∃ n:Int,σ[j]?=some (some (.int n))/\D.nx (σ.set j (some (.int (n+1)))) H2
theorem ps_tryN {c:Addr} {nH y fx:Str} {j k:Nat} {ps:List Str} {sp:Sp} {a:Expr} {as:List Expr} {t:TA} {np hpos py pf pc pa pe p1 p3 p4 pos:Pos} {p2:Nat}
   (G:FnX X.prog X.w X.K X.mg X.base fx k ps sp) (Q:AskN X.K X.mg nH c) (hr:Room k X.A) (ha:PA X.nox (a::as) t) (hN:X.N.Nodup) (hst:X.stack=X.env::X.outer:=by rfl) (hfr:X.env.frame=some X.env.locals:=by rfl) (hgf:Gl X fx:=by rfl)
   (hj:X.N[j]?=some y:=by rfl) (lj:X.env.scope.names.lookup y=some .local:=by rfl) (gH:Gl X nH:=by rfl)
   (dH:(nH == ("__debug__":Str))=false:=by decide) (df:(fx == ("__debug__":Str))=false:=by decide) (dy:(y == ("__debug__":Str))=false:=by decide) (cy:(y == ("__classdict__":Str))=false:=by decide)
   (he:starEach (a::as) X.env=(false,eval a X.env)::starEach as X.env:=by rfl) (hpl:(backTo pc (starEach as X.env)).any (·.1)=false:=by rfl)
   (hs:swapsWith (.Call (.Name fx pf) (a::as) [] pc) none pe.line X.env=pure false:=by rfl) (hs2:swapsWith (.BinOp (.Name y p1) .Add (.Constant (.int 1) p2 p3) p4) (some (.Name y py)) pa.line X.env=pure false:=by rfl) :
   PS X (.Try [.Expr (.Call (.Name fx pf) (a::as) [] pc) pe] [.ExceptHandler (some (.Name nH np)) none [.Assign [.Name y py] (.BinOp (.Name y p1) .Add (.Constant (.int 1) p2 p3) p4) pa] hpos] [] [] pos) (tTryN c j sp t):=by
 obtain ⟨f,fd,F,hmf,hkf,hb⟩:=G
 intro pins s σ H D I h
 refine wpAny_Try_except ?_
 refine wpAny_execs_cons (wpAny_Expr_any ?_ I.quiet hs)
 refine wpAny_Call_Name_kw (ld_glob I hgf hmf ?_ df)
 refine PySem.W.callWith_K (h₀:=X.base) I.ok.mod.kin hkf (Z57 (ha pc pins s σ H _ (I.wish _) h) (fun us s1 ⟨vs,H1,I1,r,q⟩=>⟨I1.unwish.kIn,?_⟩) fun _ _ z=>z.elim) he hpl
 have J1:=I1.unwish
 have hlen:us.length=ps.length:=by rw [<- r.length]; exact F.len _ _ _ _ q
 refine wpAny_call (codeAny_mono (F.run X.A X.stack s1 H1 ⟨us,[]⟩ us vs _ _ hr J1.env0 (by have:=hb s1 us J1.kIn (by rw [Z35]; exact hlen); rw [Z35] at this; exact this) r q) fun r s' hq=>?_)
 cases r with
 | error e=>
   unfold CR at hq
   dsimp only at hq
   refine cx1_caughtN hst hfr J1 hq gH Q.mH (fun C H' ⟨e1,n,en,e3⟩=>?_) dH
   cases e1
   refine ⟨Q.hit,fun x oe s5 I5=>?_⟩
   refine pss_one (ps_set (X:=X.inx x oe) (i:=j) hN hj (.inl lj) (pe_op op_add (pe_var hj (.inl lj) dy cy) pe_int) hs2 (.inr lj)) pins s5 _ H' _ I5 ?_
   exact ⟨.int n,en,n,1,rfl,rfl,e3⟩
 | ok fl=>
   cases fl with
   | ret u=>
     obtain ⟨v,H2,I2,rv,q2⟩:=J1.after hq
     exact wpAny_execs_nil (wpAny_execs_nil ⟨_,H2,I2,q2⟩)
   | next=>exact False.elim hq
   | brk=>exact False.elim hq
   | cont=>exact False.elim hq
end
end L2
namespace Mir
open PySem PySem.Spec PyProof.Rows L2
noncomputable def mTryN (m mR:List S->Option S) (f:MA) (j:Nat):MS:=fun ρ=>(f ρ).bind fun x=>(resA x.2 x.1).bind fun ss=>match mR ss,look x.2 j with
 | some (.scr []),some (.d (.int n))=>some (.nx,x.2.set j (some (.d (.int (n+1)))))
 | _,_=>none
theorem ls_tryN {C:Cn} {md:List Md} {t:TA} {f:MA} {m mR:List S->Option S} {c:Addr} {j:Nat} (h:LA C md t f) (mj:mode md j=.pl):LS C md (tTryN c j (spX C.K m mR c) t) (mTryN m mR f j):=by
 intro A W ρ σ H D fl ρ' r e k
 unfold mTryN at e
 simp only [Z0] at e
 obtain ⟨⟨os,ρ1⟩,e1,ss,e2,e3⟩:=e
 refine h A W ρ σ H _ os _ r e1 fun vs H1 x1 r1 p1=>?_
 have sl:=p1.argsA r1 e2
 split at e3
 · rename_i n hR hl
   cases e3
   refine .inr ⟨ss,sl,hR,fun H2 s2=>⟨rfl,n,?_,?_⟩⟩
   · obtain ⟨v,ev,sv⟩:=r1.slot j _ hl
     rw [mj] at sv
     rw [ev,sv.top.int_inv]
   · exact k A W _ _ (Gr.ofExt (x1.trans (Same.ext s2))) ((r1.same s2).setP mj (d:=.int (n+1)) (v:=.int (n+1)) repP_int) (fix_set mj)
 · cases e3
theorem Ev.tryN {m mR:List S->Option S} {f:MA} {j:Nat} {n n':Int} {ρ ρ1 ρ2:En} {os:List Op} {ss:List S} (h1:f ρ=some (os,ρ1)) (h2:resA ρ1 os=some ss) (h3:mR ss=some (.scr [])) (h4:look ρ1 j=some (.d (.int n))) (h5:n+1=n') (h6:ρ1.set j (some (.d (.int n')))=ρ2):mTryN m mR f j ρ=some (.nx,ρ2):=by
 unfold mTryN
 subst h5 h6
 simp only [h1,h2,h3,h4,Z1]
noncomputable def dkS:Option S->Option (List (Key × D))
 | some (.dk kvs)=>some kvs
 | _=>none
theorem dkS_some {o:Option S} {kvs:List (Key × D)} (h:dkS o=some kvs):o=some (.dk kvs):=by
 cases o with
 | some y2=>
   cases y2 with
   | dk l=>cases h; rfl
   | _=>cases h
 | _=>cases h
section
variable {C:Cn} {md:List Md} {fx:Nat->Prop}
theorem R.dictK {A W:Addr->Prop} {ρ:En} {σ:L2.St} {H:Hp} {i:Nat} {kvs:List (Key × D)} {w:V} (r:R C md A W ρ σ H) (e:look ρ i=some (.dk kvs)) (ew:σ[i]?=some (some w)) :
   ∃ a ws,w=.ref a/\H a=some (.dK ws)/\RepKV C.K H (fun b=>¬ A b) kvs ws:=by
 obtain ⟨v,ev,c⟩:=r.slot i _ e
 rw [ew] at ev; cases ev
 cases em:mode md i with
 | pl=>rw [em] at c; exact c.elim
 | ow=>rw [em] at c; obtain ⟨a,ws,z,c1,c2,c3,c4⟩:=c; exact ⟨a,ws,z,c1,c4⟩
 | lk=>rw [em] at c; obtain ⟨a,ws,z,c1,c2,c3,c4⟩:=c; exact ⟨a,ws,z,c1,c4⟩
 | io=>rw [em] at c; obtain ⟨a,ws,z,c1,c2,c3,c4⟩:=c; exact ⟨a,ws,z,c1,c4⟩
noncomputable def mnKNew:MN:=fun ρ=>some (.dk [],ρ)
theorem ln_knew:LN C md tDNewX mnKNew:=by
 intro A W ρ σ H Q s ρ' r e k
 cases e
 refine .inr ?_
 intro p hp
 exact k p H _ (Ext.refl _ _) r hp (new_same hp) ⟨[],upd_same,rfl,.nil⟩
noncomputable def mKGet (i:Nat) (f:ME):ME:=fun ρ=>(dkS (look ρ i)).bind fun _=>(f ρ).bind fun x=>(res x.2 x.1).bind fun d=>(asI d).bind fun n=>(dkS (look x.2 i)).bind fun kvs=>(valD kvs (.inl n)).bind fun u=>some (.val u,x.2)
theorem le_kget {i:Nat} {t:TE} {f:ME} (h:LE C md t f):LE C md (tOp (rIxX C.K) (tVar i) t) (mKGet i f):=by
 intro A W ρ σ H Q o ρ' r e k
 unfold mKGet at e
 simp only [Z0] at e
 obtain ⟨kvs0,e0,⟨o1,ρ1⟩,e1,d,e2,n,e3,kvs,e5,u,e6,e7⟩:=e
 cases e7
 cases asI_some e3
 obtain ⟨v,ev,_⟩:=r.slot i _ (dkS_some e0)
 refine ⟨v,ev,h A W ρ σ H _ o1 _ r e1 fun v1 H1 x1 r1 p1=>.inr (.inr ?_)⟩
 obtain ⟨a,ws,rfl,c1,c2⟩:=r1.dictK (dkS_some e5) ev
 obtain rfl:=(p1.get r1 e2).int_inv
 obtain ⟨v',w1,w2⟩:=(valD_rep (Sum.inl n) c2).1 u e6
 exact ⟨a,ws,n,v',rfl,rfl,c1,w1,k v' H1 x1 r1 w2⟩
noncomputable def mgKPut (x:Nat) (f:ME):MG:=fun d ρ=>(dkS (look ρ x)).bind fun _=>(f ρ).bind fun y=>(res y.2 y.1).bind fun kd=>(asI kd).bind fun n=>(dkS (look y.2 x)).bind fun kvs=>
 if kvs.length < sizeLine then some (y.2.set x (some (.dk (putD kvs (.inl n) d)))) else none
theorem lg_kput {x:Nat} {t:TE} {f:ME} (hm:mode md x=.ow∨mode md x=.io) (h:LE C md t f):LG C md fx (gSub (tVar x) t rSetX) (mgKPut x f):=by
 intro A W ρ σ H v d ρ' Q r p e k
 unfold mgKPut at e
 simp only [Z0] at e
 obtain ⟨kvs0,e0,⟨o,ρ1⟩,e1,kd,e2,n,e3,kvs,e5,e6⟩:=e
 split at e6
 · rename_i hz
   cases e6
   cases asI_some e3
   obtain ⟨w,hw,_⟩:=r.slot x _ (dkS_some e0)
   refine ⟨w,hw,?_⟩
   refine h A W ρ σ H _ o ρ1 r e1 fun v1 H1 x1 r1 p1=>.inr (.inr ?_)
   obtain rfl:=(p1.get r1 e2).int_inv
   obtain ⟨a,ws,rfl,c1,c2⟩:=r1.dictK (dkS_some e5) hw
   refine ⟨a,n,ws,rfl,rfl,c1,by rw [c2.length]; exact hz,?_⟩
   have pv:RepP C.K H1 (fun b=>¬ A b) d v:=r.stayP x1 p
   obtain ⟨H3,e7,b3,h3⟩:=My.wr_ex H1 a (.dK (putK ws (.inl n) v))
   rw [e7]
   obtain ⟨x2,r3⟩:=r1.write hm (dkS_some e5) rfl rfl hw b3 (.inr (.inr ⟨_,h3⟩)) (s':=.dk (putD kvs (.inl n) d)) fun ok okq oa aa wa st c=>by
     obtain ⟨a',ws',q1,q2,q3,q4,q5⟩:=c
     cases q1
     rw [c1] at q2; cases q2
     have pt:=RepKV.put (k:=(Sum.inl n:Key)) q5 pv
     exact ⟨a,_,rfl,h3,aa,oa,pt.1,r1.stayPL (fun c o nc h=>b3 c o (fun z=>nc (by rw [z]; exact wa)) h) pt.2⟩
   exact k σ H3 (x1.trans x2) r3 (Fix.refl _ _)
 · cases e6
end
theorem Ev.knew {ρ:En}:mnKNew ρ=some (.dk [],ρ):=rfl
theorem Ev.kget {i:Nat} {f:ME} {x:Op} {n:Int} {kvs0 kvs:List (Key × D)} {u:D} {ρ ρ1:En} (h0:look ρ i=some (.dk kvs0)) (h1:f ρ=some (x,ρ1)) (h2:res ρ1 x=some (.int n)) (h4:look ρ1 i=some (.dk kvs)) (h5:valD kvs (.inl n)=some u):mKGet i f ρ=some (.val u,ρ1):=by
 unfold mKGet
 simp only [h0,h1,h2,h4,h5,dkS,asI,Z1]
theorem Ev.gKPut {x:Nat} {f:ME} {d:D} {o:Op} {n:Int} {kvs0 kvs:List (Key × D)} {ρ ρ1:En} (h0:look ρ x=some (.dk kvs0)) (h1:f ρ=some (o,ρ1)) (h2:res ρ1 o=some (.int n)) (h4:look ρ1 x=some (.dk kvs)) (h5:kvs.length < 1000000) {ρ2:En} (h6:ρ1.set x (some (.dk (putD kvs (.inl n) d)))=ρ2) :
   mgKPut x f d ρ=some ρ2:=by
 unfold mgKPut
 have:kvs.length < sizeLine:=Z15 h5 (by decide)
 subst h6
 simp only [h0,h1,h2,h4,dkS,asI,Z1,this,if_true]
noncomputable def spM1 (K:PySem.W.Frag) (m:List S->Option (S × S)):Sp:=fun vs H Q _=>∃ p d0 v0 l r l1,vs=[v0,.ref p]/\D.imm d0=true/\Rep K H d0 v0/\IoAt K H p p (.d (.lst l))/\m [.d d0,.d (.lst l)]=some (r,.d (.lst l1)) /\
 ∀ v H',But p H H'->IoAt K H' p p (.d (.lst l1))->NewR K H H' r v->Q v H'
noncomputable def ret1:Option (Fl × En)->Option (S × S)
 | some (.ret s,ρ)=>((look ρ 1).bind okIo).map fun s0=>(s,s0)
 | _=>none
noncomputable def mFnM1 (n:Nat) (mb:MS) (ss:List S):Option (S × S):=if ss.length=2 then ret1 (mb (entry n ss)) else none
noncomputable def mCallM1 (md:List Md) (i:Nat) (m:List S->Option (S × S)) (f:ME):ME:=fun ρ=>(f ρ).bind fun x=>(sto md x.2 x.1).bind fun d0=>(immO (some d0)).bind fun d0=>((look x.2 i).bind okIo).bind fun s0=>(m [.d d0,s0]).bind fun y=>
 (immO (unD (some y.1))).bind fun d=>(okIo2 s0 y.2).bind fun s1=>match s0 with
   | .d (.lst _)=>some (.val d,x.2.set i (some s1))
   | _=>none
section
variable {K:PySem.W.Frag}
theorem R.startM1 {md:List Md} {N:List Str} {d0:D} {l:List D} {v0:V} {H:Hp} {p:Addr} (im:D.imm d0=true) (h:Rep K H d0 v0) (io:IoAt K H p p (.d (.lst l))) (hN:2<=N.length) (hm0:mode md 0=.pl) (hm1:mode md 1=.io) :
   R ⟨K,H,fun a=>a=p,fun _=>False,false⟩ md (fun a=>a=p) (fun a=>a=p) (entry N.length [.d d0,.d (.lst l)]) (L2.start N [v0,.ref p]) H where
 len:=by simp [L2.start,entry]
 wa:=fun _ h=>h
 ak:=fun a e=>by obtain ⟨_,xs,z,_⟩:=io; exact .inl ⟨xs,(congrArg H e).trans z⟩
 base:=fun _ _ h _=>h
 wf:=fun _ h=>.inr h
 ma:=fun _ h=>h
 fo:=fun hf=>by cases hf
 slot:=fun i s e=>by
   unfold entry at e
   rw [look_entry] at e
   match i,e with
   | 0,e=>
     simp at e; subst e
     refine ⟨v0,start_get rfl,?_⟩
     rw [hm0]
     exact RepP.ofImm im h
   | 1,e=>
     simp at e; subst e
     refine ⟨.ref p,start_get rfl,?_⟩
     rw [hm1]
     obtain ⟨im,xs,z,z2⟩:=io
     exact ⟨p,xs,rfl,z,rfl,⟨rfl,rfl⟩,RepPL.ofImm im z2⟩
   | i+2,e=>simp at e
 inj:=fun i j s s' a hne m1 m2 e1 e2 i1 i2 l1 l2=>by
   unfold entry at e1 e2
   rw [look_entry] at e1 e2
   have z:∀ i s,([.d d0,.d (.lst l)]:List S)[i]?=some s->mode md i ≠ .pl->i=1:=fun i s e m=>by
     match i,e with
     | 0,_=>exact absurd hm0 m
     | 1,_=>rfl
     | i+2,e=>simp at e
   exact hne ((z i s e1 m1).trans (z j s' e2 m2).symm)
end
section
variable {P:Program} {w:World} {K:PySem.W.Frag} {mg:Str->Option Value} {base:Heap}
theorem fn_io1 {x qual:Str} {st:Stmt} {f:Addr} {fd:FuncData} {N ps:List Str} {n k:Nat} {md:List Md} {mb:MS} {m:List S->Option (S × S)} (F:Fun K x qual st f fd) (S0:FnScope N ps (defScope st)) (hn:N.length=n) (hp:ps.length=2) (hm:m=mFnM1 n mb) (hle:Nat.ble 2 n=true) (hm0:mode md 0=.pl) (hm1:mode md 1=.io)
   (hb:BodyF false P w K mg base qual st f N k md mb):FnOk P w K mg base CX0 (k+1) f fd ps (spM1 K m):=by
 subst hn hm
 refine F.ok S0 (fun vs H Q E h=>?_) (fun cdv A outer s H vs Q E hr h=>?_)
 · obtain ⟨p,d0,v0,l,r,l1,rfl,_⟩:=h
   rw [hp]; rfl
 · obtain ⟨p,d0,v0,l,r,l1,rfl,im,h1,io,h2,kq⟩:=h
   obtain ⟨t,ht,hl⟩:=hb cdv A outer s H E hr
   refine ⟨t,ht,?_⟩
   unfold mFnM1 at h2
   replace h2:ret1 (mb (entry N.length [.d d0,.d (.lst l)]))=some (r,.d (.lst l1)):=h2
   have R0:=R.startM1 (N:=N) (md:=md) im h1 io (Z14 hle) hm0 hm1
   unfold ret1 at h2
   split at h2
   · rename_i s0 ρ' e3
     simp only [Option.map_eq_some_iff,Z0,Prod.mk.injEq] at h2
     obtain ⟨s1,⟨s1',e1,e2⟩,rfl,rfl⟩:=h2
     obtain ⟨rfl,is1,im1⟩:=okIo_some e2
     refine hl ⟨K,H,fun a=>a=p,fun _=>False,false⟩ rfl rfl _ _ _ _ _ _ _ ρ' R0 e3 fun A' W' σ' v H' g r' f' z=>kq v H' (fun b o nb e=>r'.base b o e nb) ?_ ?_
     · obtain ⟨v,ev,c⟩:=r'.slot 1 _ e1
       rw [f' 1 (.inr hm1),start_get (i:=1) (v:=.ref p) rfl] at ev
       cases ev
       rw [hm1] at c
       obtain ⟨a,xs,z,g1,g2,g3,g4⟩:=c
       cases z
       exact ⟨im1 l1 rfl,xs,g1,g4.repL⟩
     · rcases z with z | ⟨z,_⟩
       · exact z
       · cases z
   · cases h2
end
section
variable {C:Cn} {md:List Md}
theorem le_callM1 {i:Nat} {t:TE} {f:ME} {m:List S->Option (S × S)} {E:XK} (hm:mode md i=.ow∨mode md i=.io) (h:LE C md t f):LE C md (tCall (spM1 C.K m) [] E (tCons t (tCons (tVar i) tNil))) (mCallM1 md i m f):=by
 intro A W ρ σ H Q o ρ' r e k
 unfold mCallM1 at e
 simp only [Z0] at e
 obtain ⟨⟨o1,ρ1⟩,e1,dd,e2,d0,e2',s0,⟨s0',e3,e3'⟩,⟨y1,y2⟩,e4,d,e5,s1,e6,e7⟩:=e
 obtain ⟨rfl,is0,im0⟩:=okIo_some e3'
 obtain ⟨rfl,is1,im1,kd⟩:=okIo2_some e6
 obtain ⟨z1,z2⟩:=immO_some e2'
 cases z1
 obtain ⟨z3,z4⟩:=immO_some e5
 cases unD_some z3
 cases s0 with
 | d y19=>
   cases y19 with
   | lst l=>
     cases e7
     refine h A W ρ σ H _ o1 _ r e1 fun v0 H1 x1 r1 p1=>?_
     obtain ⟨w,ew,c1⟩:=r1.slot i _ e3
     refine ⟨w,ew,?_⟩
     show spM1 C.K m ([v0,w]++[]) H1 Q E
     rw [Z35]
     dsimp only at e2 e3 e4 e6 is1 im1 kd k
     obtain ⟨p,xs,rfl,h1,h4⟩:∃ p xs,w=.ref p/\H1 p=some (.lst xs)/\RepPL C.K H1 (fun b=>¬ A b) l xs:=by
       rcases hm with hm | hm
       · rw [hm] at c1; obtain ⟨p,xs,a1,a2,a3,a4,a5⟩:=c1; exact ⟨p,xs,a1,a2,a5⟩
       · rw [hm] at c1; obtain ⟨p,xs,a1,a2,a3,a4,a5⟩:=c1; exact ⟨p,xs,a1,a2,a5⟩
     cases s1 with
     | d y20=>
       cases y20 with
       | lst l1=>
         have q0:Rep C.K H1 dd v0:=(p1.sto r1 e2).rep
         refine ⟨p,dd,v0,l,_,l1,rfl,z2,q0,⟨im0 l rfl,xs,h1,h4.repL⟩,e4,fun v H2 b2 io2 n=>?_⟩
         obtain ⟨im2,xs2,g1,g2⟩:=io2
         obtain ⟨x2,r2⟩:=r1.write hm e3 is0 is1 ew b2 (.inl ⟨xs2,g1⟩) (s':=.d (.lst l1)) fun ok okq oa aa wa st c=>by
           exact ⟨p,xs2,rfl,g1,aa,oa,RepPL.ofImm im2 g2⟩
         exact k v H2 (x1.trans x2) r2 (show RepP _ _ _ _ _ from RepP.ofImm z4 (NewR.repP n).rep)
       | _=>first | (cases is1; done) | contradiction
     | _=>first | (cases is1; done) | (cases e6; done) | contradiction
   | _=>cases e7
 | _=>cases e7
end
theorem Ev.callM1 {md:List Md} {i:Nat} {m:List S->Option (S × S)} {f:ME} {ρ ρ1 ρ2:En} {o:Op} {d0 d:D} {l l1:List D} (h1:f ρ=some (o,ρ1)) (h2:sto md ρ1 o=some d0) (h3:D.imm d0=true) (h4:look ρ1 i=some (.d (.lst l))) (h5:D.immL l=true) (h6:m [.d d0,.d (.lst l)]=some (.d d,.d (.lst l1))) (h7:D.imm d=true) (h8:D.immL l1=true) (h9:ρ1.set i (some (.d (.lst l1)))=ρ2) :
   mCallM1 md i m f ρ=some (.val d,ρ2):=by
 unfold mCallM1
 subst h9
 simp only [h1,h2,h3,h4,h5,h6,h7,h8,immO,okIo,okIo2,unD,Z1,if_true]
theorem Ev.fnM1 {n:Nat} {mb:MS} {d0:D} {l l1:List D} {r:S} {ρ ρ':En} (h0:entry n [.d d0,.d (.lst l)]=ρ) (h1:mb ρ=some (.ret r,ρ')) (h2:look ρ' 1=some (.d (.lst l1))) (h3:D.immL l1=true):mFnM1 n mb [.d d0,.d (.lst l)]=some (r,.d (.lst l1)):=by
 unfold mFnM1
 subst h0
 show ret1 (mb (entry n [.d d0,.d (.lst l)]))=_
 rw [h1]
 show ((look ρ' 1).bind okIo).map (fun s0=>(r,s0))=_
 rw [h2]
 simp only [okIo,Z1,h3,if_true,Option.map_some]
end Mir
namespace Mir
open PySem L2
theorem sz_lt {n:Nat} (h:n < 1000000):n < sizeLine:=Z15 h (by decide)
theorem imm_int (i:Int):immO (some (.int i))=some (.int i):=rfl
theorem imm_bl (i:Bool):immO (some (.bl i))=some (.bl i):=rfl
theorem imm_str (i:Str):immO (some (.str i))=some (.str i):=rfl
theorem imm_tup {l:List D} (h:D.immL l=true):immO (some (.tup l))=some (.tup l):=by simp only [immO,D.imm,h,if_true]
theorem immL_map {α:Type} {f:α->D} (h:∀ a,D.imm (f a)=true):∀ l:List α,D.immL (l.map f)=true
 | []=>rfl
 | a::l=>by rw [Z6,D.immL,h a,immL_map h l]; rfl
theorem immS_l {l:List D} (h:D.immL l=true):immS (.d (.lst l))=some (.d (.lst l)):=by unfold immS; first | rw [if_pos h] | simp [h]
theorem modI {i j:Int} (h:0 < j):modD (.int i) (.int j)=some (.int (i % j)):=if_pos h
theorem addS {x y:Str} (h:x.length+y.length < 1000000):addD (.str x) (.str y)=some (.str (x++y)):=if_pos (Z38 (sz_lt h))
theorem atI_len {α:Type} {l:List α} {i:Int} (h:0<=i/\i < l.length):atI l i=l[i.toNat]?:=by
 unfold atI ixN
 rw [if_pos h.1,if_pos h.2]; rfl
theorem atI_ints {l:List Int} {i:Int} (h:0<=i/\i < l.length):atI (l.map D.int) i=some (.int (l.getD i.toNat 0)):=by
 rw [atI_len (by rw [Z2]; exact h),Z21,Z5]
 have:i.toNat < l.length:=by lia
 rw [Z3 this]; rfl
theorem setD_ok {v:D} {l:List D} {k:Int} (h:0<=k/\k < l.length):setD (.int k) v (some (.d (.lst l)))=some (.d (.lst (l.set k.toNat v))):=by
 show (ixN l.length k).map _=_
 unfold ixN
 rw [if_pos h.1,if_pos h.2]; rfl
theorem beqI (a b:Int):(a == b)=decide (a=b):=by
 by_cases h:a=b
 · subst h; simp
 · simp [h]
theorem eqI (neg:Bool) (i j:Int):eqD 4 neg (.int i) (.int j)=some (.bl (if neg then !decide (i=j) else decide (i=j))):=by
 unfold eqD
 rw [if_pos (by simp [D.depth])]
 simp only [D.e1,D.e2,D.e3,D.e4,D.e5,beqI]
theorem eqII (i j:Int):eqD 4 false (.int i) (.int j)=some (.bl (decide (i=j))):=by rw [eqI]; rfl
theorem neII (i j:Int):eqD 4 true (.int i) (.int j)=some (.bl (!decide (i=j))):=by rw [eqI]; rfl
theorem eqSS (i j:Str):eqD 4 false (.str i) (.str j)=some (.bl (decide (i=j))):=by
 unfold eqD
 rw [if_pos (by simp [D.depth])]
 simp [D.e1,D.e2,D.e3,D.e4,D.e5]
 by_cases h:i=j
 · subst h; simp
 · simp [h]
theorem neSS (i j:Str):eqD 4 true (.str i) (.str j)=some (.bl (!decide (i=j))):=by
 have:=eqSS i j
 unfold eqD at this ⊢
 rw [if_pos (by simp [D.depth])] at this ⊢
 simp only [Z47,if_false,Option.some.injEq,D.bl.injEq] at this
 simp [this]
theorem depthL_map {α:Type} {f:α->D} {n:Nat} (h:∀ a,D.depth (f a)<=n):∀ l:List α,D.depthL (l.map f)<=n
 | []=>Z30 _
 | a::l=>by
   rw [Z6,D.depthL]
   have:=h a
   have:=depthL_map h l
   grind
theorem ne_nil {l:List D} (h:D.depthL l<=3):eqD 4 true (.lst l) (.lst [])=some (.bl (!l.isEmpty)):=by
 unfold eqD
 rw [if_pos (by rw [D.depth]; lia)]
 cases l <;> rfl
theorem eq_nil {l:List D} (h:D.depthL l<=3):eqD 4 false (.lst l) (.lst [])=some (.bl l.isEmpty):=by
 unfold eqD
 rw [if_pos (by rw [D.depth]; omega)]
 cases l <;> rfl
theorem for_step {g:MG} {f:MS} {d:D} {ds:List D} {ρ ρ1 ρ2:En} (hg:g d ρ=some ρ1) (hf:f ρ1=some (.nx,ρ2)):forM g f (d::ds) ρ=forM g f ds ρ2:=by
 simp only [forM,hg,Z1,hf]
theorem for_inv {α β:Type} {g:MG} {f:MS} {e:α->D} {env:β->En} {l:List α} (P:List α->β->Prop) (hs:∀ pre a post b,l=pre++a::post->P pre b->∃ b',P (pre++[a]) b'/\∃ ρ1,g (e a) (env b)=some ρ1/\f ρ1=some (.nx,env b')) (b:β) (hb:P [] b) :
   ∃ b',P l b'/\forM g f (l.map e) (env b)=some (.nx,env b'):=by
 suffices H:∀ (r pre:List α) (b:β),l=pre++r->P pre b->∃ b',P (pre++r) b'/\forM g f (r.map e) (env b)=some (.nx,env b') by
   obtain ⟨b',h1,h2⟩:=H l [] b rfl hb
   exact ⟨b',by simpa using h1,h2⟩
 intro r
 induction r with
 | nil=>intro pre b _ h; exact ⟨b,by simpa using h,rfl⟩
 | cons a r ih=>
   intro pre b hm h
   obtain ⟨b1,h1,ρ1,h2,h3⟩:=hs pre a r b hm h
   obtain ⟨b',h4,h5⟩:=ih (pre++[a]) b1 (by rw [hm]; simp) h1
   exact ⟨b',by simpa using h4,by rw [Z6,for_step h2 h3]; exact h5⟩
noncomputable def ups (lo:Int) (n:Nat):List Int:=(List.range n).map fun (k:Nat)=>lo+(k:Int)
theorem rng_ups (lo:Int) (n:Nat):rngD lo n=(ups lo n).map D.int:=by
 unfold rngD ups
 rw [Z31]
 rfl
theorem ups_len (lo:Int) (n:Nat):(ups lo n).length=n:=by simp [ups]
theorem ups_succ (lo:Int) (n:Nat):ups lo (n+1)=ups lo n++[lo+n]:=by simp [ups,List.range_succ]
theorem ups_split {lo:Int} {n:Nat} {pre post:List Int} {a:Int} (h:ups lo n=pre++a::post):a=lo+pre.length/\pre.length < n/\pre=ups lo pre.length:=by
 have hl:=congrArg List.length h
 rw [ups_len,Z17,Z58] at hl
 have ha:(ups lo n)[pre.length]?=some a:=by rw [h]; simp
 have hp:pre.length < n:=by lia
 refine ⟨?_,hp,?_⟩
 · unfold ups at ha
   rw [Z21,List.getElem?_range hp] at ha
   simpa using ha.symm
 · have e:pre=(ups lo n).take pre.length:=by rw [h]; simp
   rw [e]
   unfold ups
   rw [List.length_take,Z2,List.length_range,<- List.map_take,List.take_range]
   all_goals rw [Nat.min_eq_left (by omega)]
theorem nd_t {p:Prop} [Decidable p] (h:¬ p):(!decide p)=true:=by simp [h]
theorem nd_f {p:Prop} [Decidable p] (h:p):(!decide p)=false:=by simp [h]
theorem addII (i j:Int):addD (.int i) (.int j)=some (.int (i+j)):=rfl
theorem subII (i j:Int):subD (.int i) (.int j)=some (.int (i - j)):=rfl
theorem ltI (i j:Int):ltD (.int i) (.int j)=some (.bl (decide (i < j))):=rfl
theorem leI (i j:Int):leD (.int i) (.int j)=some (.bl (decide (i<=j))):=rfl
theorem gtI (i j:Int):gtD (.int i) (.int j)=some (.bl (decide (j < i))):=rfl
theorem geI (i j:Int):geD (.int i) (.int j)=some (.bl (decide (j<=i))):=rfl
theorem ixL_ints {l:List Int} {i:Int} (h:0<=i/\i < l.length):ixD (.lst (l.map D.int)) (.int i)=some (.int (l.getD i.toNat 0)):=atI_ints h
theorem tupL (l:List D):tupX [.lst l]=some (.tup l):=rfl
theorem lenL (l:List D):lenD [.lst l]=some (.int l.length):=rfl
theorem lenT (l:List D):lenD [.tup l]=some (.int l.length):=rfl
theorem lenZ {z:Str} (h:z.length < 1000000):lenD [.str z]=some (.int z.length):=if_pos (Z38 (sz_lt h))
theorem negI (i:Int):negD (.int i)=some (.int (-i)):=rfl
theorem intB (b:Bool):intD [.bl b]=some (.int (if b=true then 1 else 0)):=rfl
@[reducible] noncomputable def pairD (p:Int × Int):D:=.tup [.int p.1,.int p.2]
noncomputable def pLe (p q:Int × Int):Bool:=Srt.lexLe [p.1,p.2] [q.1,q.2]
theorem pLe_iff (p q:Int × Int):pLe p q=true ↔ p.1 < q.1∨(p.1=q.1/\p.2<=q.2):=by
 unfold pLe Srt.lexLe
 simp only [HT.lexLt_cons,HT.lexLt_nil_nil]
 by_cases h1:q.1=p.1
 · simp only [if_pos h1]
   by_cases h2:q.2=p.2
   · simp [h2,h1]
   · simp only [if_neg h2,h1]; simp; try omega
 · simp only [if_neg h1]; simp; lia
theorem sort_pairs {l:List (Int × Int)} (h:l.length < 64):∃ q:List (Int × Int),q.Perm l/\q.Pairwise (fun a b=>pLe a b=true)/\Srt.sortD [.lst (l.map pairD)]=some (.lst (q.map pairD)):=by
 cases l with
 | nil=>exact ⟨[],List.Perm.refl _,.nil,by unfold Srt.sortD; simp [intsD,Srt.sortI]⟩
 | cons a l=>
   have e1:intsD ((a::l).map pairD)=none:=rfl
   have e0:(a::l).map pairD=((a::l).map fun p=>[p.1,p.2]).map Srt.tupI:=by rw [Z31]; rfl
   have e2:Srt.keysD ((a::l).map pairD)=some ((a::l).map fun p=>[p.1,p.2]):=by
     rw [e0]
     exact Srt.keysD_of _ (by intro k hk; obtain ⟨p,_,rfl⟩:=Z18.mp hk; simp)
   generalize a::l=l at *
   refine ⟨(Srt.sortK (l.map fun p=>[p.1,p.2])).map fun k=>(k.getD 0 0,k.getD 1 0),?_,?_,?_⟩
   · have:=(Srt.sortK_perm (l.map fun p=>[p.1,p.2])).map fun k=>(k.getD 0 0,k.getD 1 0)
     rwa [Z31,show (((fun k:List Int=>(k.getD 0 0,k.getD 1 0)) ∘ fun p:Int × Int=>[p.1,p.2]))=id from rfl,List.map_id] at this
   · rw [List.pairwise_map]
     refine (List.pairwise_iff_forall_sublist.mpr ?_)
     intro a b hab
     have hr:=List.pairwise_iff_forall_sublist.mp (Srt.sortK_rise (l.map fun p=>[p.1,p.2])) hab
     have ma:=(Srt.sortK_perm _).mem_iff.mp (hab.subset (by simp:a ∈ [a,b]))
     have mb:=(Srt.sortK_perm _).mem_iff.mp (hab.subset (by simp:b ∈ [a,b]))
     obtain ⟨p,_,rfl⟩:=Z18.mp ma
     obtain ⟨q,_,rfl⟩:=Z18.mp mb
     exact hr
   · unfold Srt.sortD
     simp only [e1,e2,Z1,Z2,if_pos h,Option.some.injEq,D.lst.injEq,Z31]
     apply List.map_congr_left
     intro k hk
     obtain ⟨p,_,rfl⟩:=Z18.mp ((Srt.sortK_perm _).mem_iff.mp hk)
     rfl
end Mir
namespace Ev
open PySem L2 Mir
noncomputable def pick {α:Type} (b:Bool) (x y:α):α:=if b=true then x else y
theorem pick_t {α:Type} {b:Bool} {x y r:α} (h:b=true) (k:x=r):pick b x y=r:=by rw [h]; exact k
theorem pick_f {α:Type} {b:Bool} {x y r:α} (h:b=false) (k:y=r):pick b x y=r:=by rw [h]; exact k
variable {ρ ρ1 ρ2 ρ3 ρ4:En} {md:List Md}
theorem top {α:Type} {x:Option (α × En)} {a:α} (h:x=some (a,ρ1)) (k:ρ1=ρ2):x=some (a,ρ2):=by rw [h,k]
theorem turn {g:MG} {f:MS} {d:D} (h1:g d ρ=some ρ1) (h2:f ρ1=some (.nx,ρ2)) (h3:ρ2=ρ3):∃ ρ1,g d ρ=some ρ1/\f ρ1=some (.nx,ρ3):=⟨ρ1,h1,by rw [h2,h3]⟩
theorem fn {n np:Nat} {mb:MS} {ss:List S} {s s':S} (h1:(if ss.length=np then retOf (mb (entry n ss)) else none)=retOf (mb ρ)) (h2:mb ρ=some (.ret s,ρ1)) (h3:s=s'):mFn n np mb ss=some s':=by
 unfold mFn; rw [h1,h2,h3]; rfl
theorem fnM {n np:Nat} {mb:MS} {ss:List S} {s s' s0 s0' s0'':S} (h1:(if ss.length=np then retM (mb (entry n ss)) else none)=retM (mb ρ)) (h2:mb ρ=some (.ret s,ρ1)) (h3:look ρ1 0=some s0) (h4:okIo s0=some s0') (h5:s=s') (h6:s0'=s0''):mFnF false n np mb ss=some (s',s0''):=by
 unfold mFnF mFnM; rw [if_neg (by simp),h1,h2,<- h5,<- h6]; show ((look ρ1 0).bind okIo).map _=_; rw [h3,Z1,h4]; rfl
theorem var {i:Nat} {s:S} (h:look ρ i=some s):mVar i ρ=some (.var i,ρ):=by unfold mVar; rw [h]
theorem c {d:D}:mC d ρ=some (.val d,ρ):=rfl
theorem op {g:D->D->Option D} {fa fb:ME} {x y:Op} {d e u:D} (h1:fa ρ=some (x,ρ1)) (h2:fb ρ1=some (y,ρ2)) (h3:res ρ2 x=some d) (h4:res ρ2 y=some e) (h5:g d e=some u):mOp g fa fb ρ=some (.val u,ρ2):=by
 unfold mOp; simp -iota only [h1,h2,h3,h4,h5,Z1]
theorem un {g:D->Option D} {fa:ME} {x:Op} {d u:D} (h1:fa ρ=some (x,ρ1)) (h3:res ρ1 x=some d) (h5:g d=some u):mUn g fa ρ=some (.val u,ρ1):=by
 unfold mUn; simp -iota only [h1,h3,h5,Z1]
theorem nil:mNil ρ=some ([],ρ):=rfl
theorem cons {fa:ME} {fr:MA} {x:Op} {xs:List Op} (h1:fa ρ=some (x,ρ1)) (h2:fr ρ1=some (xs,ρ2)):mCons fa fr ρ=some (x::xs,ρ2):=by
 unfold mCons; simp -iota only [h1,h2,Z1]
theorem ress0:ress ρ []=some []:=rfl
theorem ress1 {o:Op} {os:List Op} {d:D} {ds:List D} (h1:res ρ o=some d) (h2:ress ρ os=some ds):ress ρ (o::os)=some (d::ds):=by
 unfold ress; simp -iota only [h1,h2,Z1]
theorem stos0:stos md ρ []=some []:=rfl
theorem stos1 {o:Op} {os:List Op} {d:D} {ds:List D} (h1:sto md ρ o=some d) (h2:stos md ρ os=some ds):stos md ρ (o::os)=some (d::ds):=by
 unfold stos; simp -iota only [h1,h2,Z1]
theorem resA0:resA ρ []=some []:=rfl
theorem resA1 {o:Op} {os:List Op} {d:S} {ds:List S} (h1:argS (resS ρ o)=some d) (h2:resA ρ os=some ds):resA ρ (o::os)=some (d::ds):=by
 unfold resA; simp -iota only [h1,h2,Z1]
theorem cb {g:List D->Option D} {fa:MA} {os:List Op} {ds:List D} {u:D} (h1:fa ρ=some (os,ρ1)) (h2:ress ρ1 os=some ds) (h3:g ds=some u):mCB g fa ρ=some (.val u,ρ1):=by
 unfold mCB; simp -iota only [h1,h2,h3,Z1]
theorem tup {fa:MA} {os:List Op} {ds:List D} (h1:fa ρ=some (os,ρ1)) (h2:stos md ρ1 os=some ds) (h3:ds.length < 1000000):mTup md fa ρ=some (.val (.tup ds),ρ1):=by
 unfold mTup; simp -iota only [h1,h2,Z1,if_pos (Z38 (sz_lt h3))]
theorem lst {fa:MA} {os:List Op} {ds:List D} (h1:fa ρ=some (os,ρ1)) (h2:stos md ρ1 os=some ds) (h3:ds.length < 1000000):mLst md fa ρ=some (.val (.lst ds),ρ1):=by
 unfold mLst; simp -iota only [h1,h2,Z1,if_pos (Z38 (sz_lt h3))]
theorem nlst {fa:MA} {os:List Op} {ds:List D} (h1:fa ρ=some (os,ρ1)) (h2:stos md ρ1 os=some ds) (h3:ds.length < 1000000):mnLst md fa ρ=some (.d (.lst ds),ρ1):=by
 unfold mnLst; simp -iota only [h1,h2,Z1,if_pos (Z38 (sz_lt h3))]
theorem isi {k:String} {fa:ME} {x:Op} {d:D} (h1:fa ρ=some (x,ρ1)) (h2:res ρ1 x=some d):mIsi k fa ρ=some (.val (.bl (isiT (kindD d) k)),ρ1):=by
 unfold mIsi; simp -iota only [h1,h2,Z1]
theorem callA {m:List S->Option S} {f:MA} {os:List Op} {ss:List S} {d:D} (h1:f ρ=some (os,ρ1)) (h2:resA ρ1 os=some ss) (h3:m ss=some (.d d)):mCallA m f ρ=some (.val d,ρ1):=by
 unfold mCallA; (simp -iota only [h1,h2,h3,Z1,unD]; exact rfl)
theorem ncallA {m:List S->Option S} {f:MA} {os:List Op} {ss:List S} {s s':S} (h1:f ρ=some (os,ρ1)) (h2:resA ρ1 os=some ss) (h3:m ss=some s) (h4:immS s=some s'):mnCallA m f ρ=some (s',ρ1):=by
 unfold mnCallA; simp -iota only [h1,h2,h3,h4,Z1]
theorem callM {i:Nat} {m:List S->Option (S × S)} {f:MA} {os:List Op} {ds:List D} {d:D} {s s0 s0' s1 s1':S} (h0:look ρ i=some s) (h1:f ρ=some (os,ρ1)) (h2:stos md ρ1 os=some ds) (h3:look ρ1 i=some s0) (h4:okIo s0=some s0')
   (h5:m (s0'::ds.map S.d)=some (.d d,s1)) (h6:okIo2 s0' s1=some s1') (h7:ρ1.set i (some s1')=ρ2):mCallM md i m f ρ=some (.val d,ρ2):=by
 unfold mCallM; (simp -iota only [h0,h1,h2,h3,h4,h5,h6,h7,Z1,unD]; exact rfl)
theorem append {i:Nat} {f:MA} {os:List Op} {d:D} {l0 l:List D} (h0:look ρ i=some (.d (.lst l0))) (h1:f ρ=some (os,ρ1)) (h2:stos md ρ1 os=some [d]) (h3:look ρ1 i=some (.d (.lst l))) (h4:l.length < 1000000) (h5:ρ1.set i (some (.d (.lst (l++[d]))))=ρ2) :
   mAppend md i f ρ=some (.val .non,ρ2):=by
 unfold mAppend; rw [h0]; show ((f ρ).bind _)=_; rw [h1,Z1,h2,Z1,h3]; show (if _ then _ else _)=_; rw [if_pos (sz_lt h4),h5]
theorem pop {i:Nat} {l:List D} {d:D} (h0:look ρ i=some (.d (.lst l))) (h1:l[l.length - 1]?=some d) (h2:ρ.set i (some (.d (.lst l.dropLast)))=ρ1):mPop i ρ=some (.val d,ρ1):=by
 unfold mPop; (simp -iota only [h0,h1,lstS,Option.bind_some,h2]; dsimp only; simp -iota only [h0,h1,lstS,Option.bind_some,h2])
theorem ifE {c:MT} {fa fb:ME} {b:Bool} {r:Option (Op × En)} (h1:c ρ=some (b,ρ1)) (h3:pick b (fa ρ1) (fb ρ1)=r):mIf c fa fb ρ=r:=by
 unfold mIf; simp -iota only [h1,Z1]; exact h3
theorem chain {g g':D->D->Option D} {fa fb fc:ME} {x y:Op} {d e:D} {b:Bool} {r:Option (Op × En)} (h1:fa ρ=some (x,ρ1)) (h2:fb ρ1=some (y,ρ2)) (h3:res ρ2 x=some d) (h4:res ρ2 y=some e) (h5:g d e=some (.bl b))
   (h6:pick b (mOp g' (fun _=>some (y,ρ2)) fc ρ2) (some (.val (.bl false),ρ2))=r):mChain g g' fa fb fc ρ=r:=by
 unfold mChain; simp -iota only [h1,h2,h3,h4,h5,asB,Z1]
 rw [<- h6]; unfold pick mOp; rfl
theorem oNo:moNo ρ=some (none,ρ):=rfl
theorem oPart {f:ME} {x:Op} {i:Int} (h1:f ρ=some (x,ρ1)) (h2:res ρ1 x=some (.int i)):moPart f ρ=some (some i,ρ1):=by
 unfold moPart; (simp -iota only [h1,h2,asI,Z1]; exact rfl)
theorem join {z:Str} {f:MA} {os:List Op} {ds:List D} {u:D} (h1:f ρ=some (os,ρ1)) (h2:ress ρ1 os=some ds) (h3:joinD z ds=some u):mJoin z f ρ=some (.val u,ρ1):=by
 unfold mJoin; simp -iota only [h1,h2,h3,Z1]
theorem lenS {i:Nat} {ns:List Int} (h:look ρ i=some (.scr ns)):mLenS i ρ=some (.val (.int ns.length),ρ):=by
 unfold mLenS; (simp -iota only [h,scrS,Z1]; exact rfl)
theorem ixS {i:Nat} {f:ME} {x:Op} {j n:Int} {ns0 ns:List Int} (h0:look ρ i=some (.scr ns0)) (h1:f ρ=some (x,ρ1)) (h2:res ρ1 x=some (.int j)) (h3:look ρ1 i=some (.scr ns)) (h4:atI ns j=some n):mIxS i f ρ=some (.val (.int n),ρ1):=by
 unfold mIxS; (simp -iota only [h0,h1,h2,h3,h4,scrS,asI,Option.bind_some]; dsimp only; simp -iota only [h0,h1,h2,h3,h4,scrS,asI,Option.bind_some])
theorem tb {fa:ME} {x:Op} {b:Bool} (h1:fa ρ=some (x,ρ1)) (h2:res ρ1 x=some (.bl b)):mB fa ρ=some (b,ρ1):=by
 unfold mB; (simp -iota only [h1,h2,asB,Z1]; exact rfl)
theorem and {fa fb:MT} {b:Bool} {r:Option (Bool × En)} (h1:fa ρ=some (b,ρ1)) (h3:pick b (fb ρ1) (some (false,ρ1))=r):mAnd fa fb ρ=r:=by
 unfold mAnd; simp -iota only [h1,Z1]; exact h3
theorem or {fa fb:MT} {b:Bool} {r:Option (Bool × En)} (h1:fa ρ=some (b,ρ1)) (h3:pick b (some (true,ρ1)) (fb ρ1)=r):mOr fa fb ρ=r:=by
 unfold mOr; simp -iota only [h1,Z1]; exact h3
theorem not {fa:MT} {b:Bool} (h1:fa ρ=some (b,ρ1)):mNot fa ρ=some (!b,ρ1):=by
 unfold mNot; simp -iota only [h1,Z1]
theorem yes:mYes ρ=some (true,ρ):=rfl
theorem tru {f:ME} {x:Op} {d:D} {b:Bool} (h1:f ρ=some (x,ρ1)) (h2:res ρ1 x=some d) (h3:truD d=some b):mTru f ρ=some (b,ρ1):=by
 unfold mTru; simp -iota only [h1,h2,h3,Z1]
noncomputable def c3 (g' g'':D->D->Option D) (y:Op) (fc fd:ME):MT:=fun ρ=>(fc ρ).bind fun z=>(res z.2 y).bind fun e=>(res z.2 z.1).bind fun h=>(g' e h).bind fun u=>(asB u).bind fun b=>
 if b=true then (fd z.2).bind fun w=>(res w.2 z.1).bind fun h=>(res w.2 w.1).bind fun k=>(g'' h k).bind fun u=>(asB u).bind fun b=>some (b,w.2) else some (false,z.2)
theorem chain3 {g g' g'':D->D->Option D} {fa fb fc fd:ME} {x y:Op} {d e:D} {b:Bool} {r:Option (Bool × En)} (h1:fa ρ=some (x,ρ1)) (h2:fb ρ1=some (y,ρ2)) (h3:res ρ2 x=some d) (h4:res ρ2 y=some e) (h5:g d e=some (.bl b))
   (h6:pick b (c3 g' g'' y fc fd ρ2) (some (false,ρ2))=r):mChain3 g g' g'' fa fb fc fd ρ=r:=by
 unfold mChain3; simp -iota only [h1,h2,h3,h4,h5,Z1,show asB (.bl b)=some b from rfl]
 rw [<- h6]; rfl
theorem c3r {g' g'':D->D->Option D} {y z:Op} {fc fd:ME} {e h:D} {b:Bool} {r:Option (Bool × En)} (h1:fc ρ=some (z,ρ1)) (h2:res ρ1 y=some e) (h3:res ρ1 z=some h) (h4:g' e h=some (.bl b))
   (h5:pick b (mB (mOp g'' (fun _=>some (z,ρ1)) fd) ρ1) (some (false,ρ1))=r):c3 g' g'' y fc fd ρ=r:=by
 unfold c3; simp -iota only [h1,h2,h3,h4,Z1,show asB (.bl b)=some b from rfl]
 rw [<- h5]
 unfold pick mB mOp
 cases b with
 | false=>rfl
 | true=>
   simp -iota only [if_true,Z1]
   cases fd ρ1 with
   | none=>rfl
   | some w=>
     simp -iota only [Z1]
     cases res w.2 z with
     | none=>rfl
     | some a1=>
       simp -iota only [Z1]
       cases res w.2 w.1 with
       | none=>rfl
       | some a2=>
         simp -iota only [Z1]
         cases g'' a1 a2 <;> rfl
theorem next:mNext ρ=some (.nx,ρ):=rfl
noncomputable def after (fl:Fl) (x y:Option (Fl × En)):Option (Fl × En):=match fl with
 | .nx=>x
 | _=>y
theorem seqA {f g:MS} {fl:Fl} {r:Option (Fl × En)} (h1:f ρ=some (fl,ρ1)) (h2:after fl (g ρ1) (some (fl,ρ1))=r):mSeq f g ρ=r:=by
 unfold mSeq; simp -iota only [h1,Z1]
 cases fl <;> exact h2
theorem afterN {x y r:Option (Fl × En)} (h:x=r):after .nx x y=r:=h
theorem afterR {s:S} {x y r:Option (Fl × En)} (h:y=r):after (.ret s) x y=r:=h
theorem kil {ks:List Nat} {f:MS} {fl:Fl} (h1:f ρ=some (fl,ρ1)) (h2:kill ks ρ1=ρ2):mKill ks f ρ=some (fl,ρ2):=by
 unfold mKill; simp -iota only [h1,Z1,h2]
theorem drop {f:ME} {x:Op} (h1:f ρ=some (x,ρ1)):mDrop f ρ=some (.nx,ρ1):=by
 unfold mDrop; simp -iota only [h1,Z1]
theorem asg {f:ME} {g:MG} {x:Op} {d:D} (h1:f ρ=some (x,ρ1)) (h2:sto md ρ1 x=some d) (h3:g d ρ1=some ρ2):mAsg md f g ρ=some (.nx,ρ2):=by
 unfold mAsg; simp -iota only [h1,h2,h3,Z1]
theorem asgN {f:MN} {i:Nat} {s:S} (h1:f ρ=some (s,ρ1)) (h2:ρ1.set i (some s)=ρ2):mAsgN f i ρ=some (.nx,ρ2):=by
 unfold mAsgN; simp -iota only [h1,h2,Z1]
theorem ifS {c:MT} {f g:MS} {b:Bool} {r:Option (Fl × En)} (h1:c ρ=some (b,ρ1)) (h2:pick b (f ρ1) (g ρ1)=r):mIfS c f g ρ=r:=by
 unfold mIfS; simp -iota only [h1,Z1]; exact h2
theorem ret {f:ME} {x:Op} {d d':D} (h1:f ρ=some (x,ρ1)) (h2:res ρ1 x=some d) (h3:immO (some d)=some d'):mRet f ρ=some (.ret (.d d'),ρ1):=by
 unfold mRet; simp -iota only [h1,h2,h3,Z1]
theorem retNew {f:MN} {s s':S} (h1:f ρ=some (s,ρ1)) (h2:immS s=some s'):mRetNew f ρ=some (.ret s',ρ1):=by
 unfold mRetNew; simp -iota only [h1,h2,Z1]
theorem retV {i:Nat} {s s':S} (h1:look ρ i=some s) (h2:immS s=some s'):mRetV i ρ=some (.ret s',ρ):=by
 unfold mRetV; simp -iota only [h1,h2,Z1]
theorem aug {i:Nat} {g:Int->Int->Int} {f:ME} {x:Op} {a b:Int} (h0:look ρ i=some (.d (.int a))) (h1:f ρ=some (x,ρ1)) (h2:res ρ1 x=some (.int b)) (h3:ρ1.set i (some (.d (.int (g a b))))=ρ2):mAug i g f ρ=some (.nx,ρ2):=by
 unfold mAug; simp only [h0,h1,h2,h3,unD,asI,Z1]
theorem forS {fi:MI} {fg:MG} {fb:MS} {l:List D} {r:Option (Fl × En)} (h1:fi ρ=some (l,ρ1)) (h2:forM fg fb l ρ1=r):mFor fi fg fb ρ=r:=by
 unfold mFor; simp -iota only [h1,Z1]; exact h2
theorem forL {j:Nat} {fg:MG} {fb:MS} {l l2:List D} {fl:Fl} (h0:look ρ j=some (.d (.lst l))) (h1:forM fg fb l ρ=some (fl,ρ1)) (h2:look ρ1 j=some (.d (.lst l2))):mForL j fg fb ρ=some (fl,ρ1):=by
 unfold mForL; simp only [h0,h1,h2,lstS,Z1]
theorem rng1 {f:MA} {os:List Op} {j:Int} (h1:f ρ=some (os,ρ1)) (h2:ress ρ1 os=some [.int j]) (h3:j < 4611686018427387904/\-4611686018427387904<=j):mRng1 f ρ=some ((ups 0 j.toNat).map D.int,ρ1):=by
 unfold mRng1; rw [h1,Z1,h2,Z1]; show (if _ then _ else _)=_
 rw [if_pos ⟨by have:=h3.2; omega,by have:=h3.1; omega⟩,rng_ups]
theorem rng2 {f:MA} {os:List Op} {i j:Int} (h1:f ρ=some (os,ρ1)) (h2:ress ρ1 os=some [.int i,.int j]) (h3:(j < 4611686018427387904/\-4611686018427387904<=j)/\(i < 4611686018427387904/\-4611686018427387904<=i)):mRng2 f ρ=some ((ups i (j - i).toNat).map D.int,ρ1):=by
 unfold mRng2; rw [h1,Z1,h2,Z1]; show (if _ then _ else _)=_
 have:=h3.1.1; have:=h3.1.2; have:=h3.2.1; have:=h3.2.2
 rw [if_pos ⟨by omega,by omega,by omega,by omega⟩,rng_ups]
theorem seqI {f:ME} {x:Op} {d:D} {l:List D} (h1:f ρ=some (x,ρ1)) (h2:sto md ρ1 x=some d) (h3:seqD d=some l):mSeqI md f ρ=some (l,ρ1):=by
 unfold mSeqI; simp -iota only [h1,h2,h3,Z1]
theorem nop {g:D->D->Option D} {fa fb:ME} {x y:Op} {d e:D} {l:List D} (h1:fa ρ=some (x,ρ1)) (h2:fb ρ1=some (y,ρ2)) (h3:res ρ2 x=some d) (h4:res ρ2 y=some e) (h5:g d e=some (.lst l)):mnOp g fa fb ρ=some (.d (.lst l),ρ2):=by
 unfold mnOp; (simp -iota only [h1,h2,h3,h4,h5,Z1]; exact rfl)
theorem gName {i:Nat} {d:D} (h:ρ.set i (some (.d d))=ρ1):mgName i d ρ=some ρ1:=by unfold mgName; rw [h]
theorem gTup {n:Nat} {g:MGs} {l:List D} (h:l.length=n) (k:g l ρ=some ρ1):mgTup n g (.tup l) ρ=some ρ1:=by unfold mgTup; simp only [if_pos h]; exact k
theorem gNil:mgNil [] ρ=some ρ:=rfl
theorem gCons {f:MG} {g:MGs} {d:D} {ds:List D} (h:f d ρ=some ρ1) (k:g ds ρ1=some ρ2):mgCons f g (d::ds) ρ=some ρ2:=by unfold mgCons; simp only [h,Z1]; exact k
theorem gSub {x:Nat} {fi:ME} {d i:D} {y:Op} {s0 s:S} {o:Option S} (h0:look ρ x=some s0) (h1:fi ρ=some (y,ρ1)) (h2:res ρ1 y=some i) (h3:look ρ1 x=o) (h4:setD i d o=some s) (h5:ρ1.set x (some s)=ρ2):mgSub md x fi d ρ=some ρ2:=by
 unfold mgSub; simp -iota only [h0,h1,h2,h3,h4,h5,Z1]
end Ev
namespace Ev
open PySem L2 Mir
variable {ρ ρ1 ρ2 ρ3 ρ4:En} {md:List Md}
theorem dget {i:Nat} {f:ME} {x:Op} {l:List D} {k:List Key} {kvs0 kvs:List (List Key × D)} {u:D} (h0:look ρ i=some (.dc kvs0)) (h1:f ρ=some (x,ρ1)) (h2:res ρ1 x=some (.tup l)) (h3:keyOf l=some k) (h4:look ρ1 i=some (.dc kvs)) (h5:valD kvs k=some u):mDGet i f ρ=some (.val u,ρ1):=by
 unfold mDGet; (simp -iota only [h0,h1,h2,h3,h4,h5,dcS,tupS,Option.bind_some]; dsimp only; simp -iota only [h0,h1,h2,h3,h4,h5,dcS,tupS,Option.bind_some])
theorem callIx {m:List S->Option S} {fa:MA} {f:ME} {os:List Op} {ss:List S} {kvs:List (List Key × D)} {x:Op} {l:List D} {k:List Key} {u u':D} (h1:fa ρ=some (os,ρ1)) (h2:resA ρ1 os=some ss) (h3:m ss=some (.dc kvs)) (h4:f ρ1=some (x,ρ2)) (h5:res ρ2 x=some (.tup l)) (h6:keyOf l=some k) (h7:valD kvs k=some u) (h8:immO (some u)=some u') :
   mCallIx m fa f ρ=some (.val u',ρ2):=by
 unfold mCallIx; (simp -iota only [h1,h2,h3,h4,h5,h6,h7,h8,dcS,tupS,Option.bind_some]; dsimp only; simp -iota only [h1,h2,h3,h4,h5,h6,h7,h8,dcS,tupS,Option.bind_some])
theorem gDPut {x:Nat} {fa:MA} {d:D} {os:List Op} {ds:List D} {k:List Key} {kvs0 kvs:List (List Key × D)} (h0:look ρ x=some (.dc kvs0)) (h1:fa ρ=some (os,ρ1)) (h2:stos md ρ1 os=some ds) (h3:keyOf ds=some k) (h4:look ρ1 x=some (.dc kvs)) (h5:ds.length < 1000000) (h6:kvs.length < 1000000) (h7:ρ1.set x (some (.dc (putD kvs k d)))=ρ2) :
   mgDPut md x fa d ρ=some ρ2:=by
 unfold mgDPut; (simp -iota only [h0,h1,h2,h3,h4,dcS,Option.bind_some]; dsimp only; simp -iota only [h0,h1,h2,h3,h4,dcS,Option.bind_some])
 rw [if_pos ⟨Z38 (sz_lt h5),sz_lt h6⟩,h7]
theorem asgD1 {i:Nat} {fa:MA} {fv:ME} {os:List Op} {ds:List D} {k:List Key} {x:Op} {d:D} (h1:fa ρ=some (os,ρ1)) (h2:stos md ρ1 os=some ds) (h3:keyOf ds=some k) (h4:fv ρ1=some (x,ρ2)) (h5:sto md ρ2 x=some d) (h6:ds.length < 1000000) (h7:ρ2.set i (some (.dc [(k,d)]))=ρ3) :
   mAsgD1 md i fa fv ρ=some (.nx,ρ3):=by
 unfold mAsgD1; simp -iota only [h1,h2,h3,h4,h5,Z1]
 rw [if_pos (Z38 (sz_lt h6)),h7]
theorem retDV {i:Nat} {kvs:List (List Key × D)} (h1:look ρ i=some (.dc kvs)) (h2:D.immL (kvs.map (·.2))=true):mRetDV i ρ=some (.ret (.dc kvs),ρ):=by
 unfold mRetDV; (simp -iota only [h1,dcS,Option.bind_some,if_pos h2]; dsimp only; simp -iota only [h1,dcS,Option.bind_some,if_pos h2])
theorem asgDc {m:List S->Option S} {f:MA} {i:Nat} {os:List Op} {ss:List S} {kvs:List (List Key × D)} (h1:f ρ=some (os,ρ1)) (h2:resA ρ1 os=some ss) (h3:m ss=some (.dc kvs)) (h4:ρ1.set i (some (.dc kvs))=ρ2):mAsgDc m f i ρ=some (.nx,ρ2):=by
 unfold mAsgDc; (simp -iota only [h1,h2,h3,h4,dcS,Option.bind_some]; dsimp only; simp -iota only [h1,h2,h3,h4,dcS,Option.bind_some])
theorem ndnew:mnDNew ρ=some (.dc [],ρ):=rfl
noncomputable def downs (lo:Int) (n:Nat):List Int:=(List.range n).map fun (k:Nat)=>lo+n - 1 - (k:Int)
theorem dwn_downs (lo:Int) (n:Nat):dwnD lo n=(downs lo n).map D.int:=by
 unfold dwnD downs
 rw [Z31]
 rfl
theorem dwn1 {f:MA} {os:List Op} {j:Int} (h1:f ρ=some (os,ρ1)) (h2:ress ρ1 os=some [.int j]) (h3:j < 4611686018427387904/\-4611686018427387904<=j):mDwn1 f ρ=some ((downs 0 j.toNat).map D.int,ρ1):=by
 unfold mDwn1; rw [h1,Z1,h2,Z1]; show (if _ then _ else _)=_
 rw [if_pos ⟨by have:=h3.2; omega,by have:=h3.1; omega⟩,dwn_downs]
theorem rng3 {f:MA} {os:List Op} {i j c:Int} (h1:f ρ=some (os,ρ1)) (h2:ress ρ1 os=some [.int i,.int j,.int c]) (h3:StepOk i j c):mRng3 f ρ=some (stepD i c (stepN i j c),ρ1):=by
 unfold mRng3; rw [h1,Z1,h2,Z1]; show (if _ then _ else _)=_
 rw [if_pos h3]
theorem rng3d {f:MA} {os:List Op} {i j c:Int} (h1:f ρ=some (os,ρ1)) (h2:ress ρ1 os=some [.int i,.int j,.int c]) (h3:StepDn i j c):mRng3 f ρ=some (stepD i c (stepM i j c),ρ1):=by
 unfold mRng3; rw [h1,Z1,h2,Z1]; show (if _ then _ else _)=_
 rw [if_neg (fun z=>absurd z.2.2.2.2.1 (Int.not_lt.mpr (Int.le_of_lt h3.2.2.2.2.1)))]; exact if_pos h3
theorem downs_split {lo:Int} {n:Nat} {pre post:List Int} {a:Int} (h:downs lo n=pre++a::post):a=lo+n - 1 - pre.length/\pre.length < n:=by
 have hl:=congrArg List.length h
 rw [Z17,Z58] at hl
 simp -iota only [downs,Z2,List.length_range] at hl
 have hp:pre.length < n:=by omega
 have ha:(downs lo n)[pre.length]?=some a:=by rw [h]; simp
 unfold downs at ha
 rw [Z21,List.getElem?_range hp] at ha
 exact ⟨by simpa using ha.symm,hp⟩
theorem comp {nt:Nat} {ix kp:List Nat} {fi:MI} {lp:List D->MB} {l:List D} {ρi ρI:En} {as:List D} (h1:fi ρ=some (l,ρ1)) (h2:inEn nt ix ρ1=ρi) (h3:lp l ρi []=some (ρI,as)) (h4:wb kp nt ix ρI ρ1=ρ2):mComp nt ix kp fi lp ρ=some (.val (.lst as),ρ2):=by
 unfold mComp; simp -iota only [h1,h2,h3,h4,Z1]
theorem emit {f:ME} {x:Op} {d:D} {as:List D} (h1:f ρ=some (x,ρ1)) (h2:sto md ρ1 x=some d) (h3:as.length < 1000000):mEmit md f ρ as=some (ρ1,as++[d]):=by
 unfold mEmit; simp -iota only [h1,h2,Z1,if_pos (sz_lt h3)]
noncomputable def LpTurn (g:MG) (ft:MT) (fb:MB) (d:D) (ρ:En) (as:List D) (ρ':En) (as':List D):Prop:=∃ ρ1 ρ2 b,g d ρ=some ρ1/\ft ρ1=some (b,ρ2)/\((b=true/\fb ρ2 as=some (ρ',as'))∨(b=false/\ρ'=ρ2/\as'=as))
theorem lp_cons {g:MG} {ft:MT} {fb:MB} {d:D} {ds:List D} {ρ':En} {as as':List D} (h:LpTurn g ft fb d ρ as ρ' as'):lpM g ft fb (d::ds) ρ as=lpM g ft fb ds ρ' as':=by
 obtain ⟨r1,r2,b,h1,h2,h3⟩:=h
 show ((g d ρ).bind fun r1=>(ft r1).bind fun y=>if y.1=true then (fb y.2 as).bind fun z=>lpM g ft fb ds z.1 z.2 else lpM g ft fb ds y.2 as)=_
 simp -iota only [h1,h2,Z1]
 rcases h3 with ⟨rfl,h3⟩ | ⟨rfl,rfl,rfl⟩
 · simp -iota only [if_true,h3,Z1]
 · simp -iota only [Z47,if_false]
theorem lp_inv {α β:Type} {g:MG} {ft:MT} {fb:MB} {e:α->D} {env:β->En} {l:List α} (P:List α->β->List D->Prop) (hs:∀ pre a post b as,l=pre++a::post->P pre b as->∃ b' as',P (pre++[a]) b' as'/\LpTurn g ft fb (e a) (env b) as (env b') as') (b:β) (as:List D) (hb:P [] b as) :
   ∃ b' as',P l b' as'/\lpM g ft fb (l.map e) (env b) as=some (env b',as'):=by
 suffices H:∀ (r pre:List α) (b:β) (as:List D),l=pre++r->P pre b as->∃ b' as',P (pre++r) b' as'/\lpM g ft fb (r.map e) (env b) as=some (env b',as') by
   obtain ⟨b',as',h1,h2⟩:=H l [] b as rfl hb
   exact ⟨b',as',by simpa using h1,h2⟩
 intro r
 induction r with
 | nil=>intro pre b as _ h; exact ⟨b,as,by simpa using h,rfl⟩
 | cons a r ih=>
   intro pre b as hm h
   obtain ⟨b1,as1,h1,h2⟩:=hs pre a r b as hm h
   obtain ⟨b',as',h4,h5⟩:=ih (pre++[a]) b1 as1 (by rw [hm]; simp) h1
   exact ⟨b',as',by simpa using h4,by rw [Z6,lp_cons h2]; exact h5⟩
theorem turnT {g:MG} {ft:MT} {fb:MB} {d:D} {as as':List D} (h1:g d ρ=some ρ1) (h2:ft ρ1=some (true,ρ2)) (h3:fb ρ2 as=some (ρ3,as')) (h4:ρ3=ρ4):LpTurn g ft fb d ρ as ρ4 as':=⟨ρ1,ρ2,true,h1,h2,.inl ⟨rfl,by rw [<- h4]; exact h3⟩⟩
theorem lp_map2 {α:Type} {md:List Md} {f:ME} {e1 e2 h:α->D} {r:En} {l:List α} (hf:∀ a ∈ l,∃ o,f (some (.d (e1 a))::some (.d (e2 a))::r)=some (o,some (.d (e1 a))::some (.d (e2 a))::r)/\sto md (some (.d (e1 a))::some (.d (e2 a))::r) o=some (h a)) (hl:l.length < 1000000) (x y:Option S) :
   ∃ x' y',lpM (mgTup 2 (mgCons (mgName 0) (mgCons (mgName 1) mgNil))) mYes (mEmit md f) (l.map fun a=>.tup [e1 a,e2 a]) (x::y::r) []=some (x'::y'::r,l.map h):=by
 obtain ⟨b,as,⟨p1,_⟩,p2⟩:=lp_inv (g:=mgTup 2 (mgCons (mgName 0) (mgCons (mgName 1) mgNil))) (ft:=mYes) (fb:=mEmit md f) (e:=fun a=>.tup [e1 a,e2 a]) (env:=fun b:Option S × Option S=>b.1::b.2::r) (l:=l) (fun pre _ as=>as=pre.map h/\pre.length<=l.length)
   (fun pre a post b as hsp hp=>by
     obtain ⟨o,h1,h2⟩:=hf a (by rw [hsp]; simp)
     have hlen:=congrArg List.length hsp
     simp at hlen
     exact ⟨(some (.d (e1 a)),some (.d (e2 a))),as++[h a],⟨by rw [hp.1]; simp,by simp; omega⟩,turnT (ρ1:=some (.d (e1 a))::some (.d (e2 a))::r) (ρ2:=some (.d (e1 a))::some (.d (e2 a))::r) rfl rfl (emit h1 h2 (by rw [hp.1,Z2]; omega)) rfl⟩) (x,y) [] ⟨rfl,Z30 _⟩
 exact ⟨b.1,b.2,by rw [<- p1]; exact p2⟩
end Ev
namespace Mir
open PySem L2
theorem valD_map (k j:List Key) (d:D):∀ kvs:List (List Key × D),valD (kvs.map fun kv=>if kv.1=k then (kv.1,d) else kv) j=if j=k then (valD kvs j).map (fun _=>d) else valD kvs j
 | []=>by simp -iota [valD]
 | (k',d')::r=>by
   rw [Z6]
   by_cases e:k'=k
   · simp -iota only [if_pos e,valD]
     by_cases e2:k'=j
     · rw [if_pos e2,if_pos e2,if_pos (by rw [<- e2,e])]; rfl
     · rw [if_neg e2,if_neg e2,valD_map k j d r]
   · simp -iota only [if_neg e,valD]
     by_cases e2:k'=j
     · rw [if_pos e2,if_pos e2,if_neg (by rw [<- e2]; exact e)]
     · rw [if_neg e2,if_neg e2,valD_map k j d r]
theorem valD_snoc (k j:List Key) (d:D):∀ kvs:List (List Key × D),valD kvs k=none->valD (kvs++[(k,d)]) j=if j=k then some d else valD kvs j
 | [],_=>by
   simp -iota only [List.nil_append,valD]
   by_cases e:k=j
   · rw [if_pos e,if_pos e.symm]
   · rw [if_neg e,if_neg (Ne.symm e)]
 | (k',d')::r,h=>by
   simp -iota only [Z51,valD] at h ⊢
   by_cases e:k'=k
   · rw [if_pos e] at h; cases h
   · rw [if_neg e] at h
     by_cases e2:k'=j
     · rw [if_pos e2,if_pos e2,if_neg (by rw [<- e2]; exact e)]
     · rw [if_neg e2,if_neg e2,valD_snoc k j d r h]
theorem valD_put (kvs:List (List Key × D)) (k j:List Key) (d:D):valD (putD kvs k d) j=if j=k then some d else valD kvs j:=by
 unfold putD
 split
 · rw [valD_map]
   by_cases e:j=k
   · subst e
     rw [if_pos rfl,if_pos rfl]
     obtain ⟨x,hx⟩:=Option.isSome_iff_exists.mp (by assumption)
     rw [hx]; rfl
   · rw [if_neg e,if_neg e]
 · exact valD_snoc k j d kvs (by rename_i h; cases e:valD kvs k with | none=>rfl | some x=>rw [e] at h; simp at h)
theorem putD_len (kvs:List (List Key × D)) (k:List Key) (d:D):(putD kvs k d).length<=kvs.length+1:=by
 unfold putD
 split
 · simp
 · simp
theorem putD_vals {P:D->Prop} {kvs:List (List Key × D)} {k:List Key} {d:D} (h:∀ kv ∈ kvs,P kv.2) (hd:P d):∀ kv ∈ putD kvs k d,P kv.2:=by
 intro kv hm
 unfold putD at hm
 split at hm
 · obtain ⟨kv',h1,rfl⟩:=Z18.mp hm
   split
   · exact hd
   · exact h _ h1
 · rcases Z11.mp hm with h1 | h1
   · exact h _ h1
   · have:kv=(k,d):=by simpa using h1
     rw [this]; exact hd
theorem immL_of {l:List D} (h:∀ d ∈ l,D.imm d=true):D.immL l=true:=by
 induction l with
 | nil=>rfl
 | cons a l ih=>rw [D.immL,h a (by simp),ih fun d hd=>h d (by simp -iota [hd])]; rfl
end Mir
namespace Mir
theorem wb_nil {nt:Nat} {ix:List Nat} {ρI ρ:En}:wb [] nt ix ρI ρ=ρ:=rfl
theorem wbk_id {nt:Nat} {ix:List Nat} {ρI:En}:∀ (r:En) (j:Nat),wbk [0] nt ix ρI (j+1) r=r
 | [],_=>rfl
 | x::r,j=>by
   rw [wbk,wbk_id r (j+1)]
   rfl
theorem wb0 {nt:Nat} {ix:List Nat} {ρI:En} {x:Option S} {r:En}:wb [0] nt ix ρI (x::r)=look ρI (nt+ix.idxOf 0)::r:=by
 show wbk [0] nt ix ρI 0 (x::r)=_
 rw [wbk,wbk_id r 0]
 rfl
theorem keyII (a b:Int):keyOf [.int a,.int b]=some [Sum.inl a,Sum.inl b]:=rfl
theorem sum_ints (l:List Int):sumD [.lst (l.map L2.D.int)]=some (.int l.sum):=by
 show (intsD (l.map L2.D.int)).map _=_
 rw [intsD_of]; rfl
theorem divmodI {i j:Int} (h:0 < j/\j < 1099511627776):divmodD [.int i,.int j]=some (.tup [.int (i / j),.int (i % j)]):=if_pos h
end Mir
namespace Mir
open PySem L2
noncomputable def md_x0:List Md:=[.pl,.pl,.pl,.pl]
noncomputable def lb_x0_0:MS:=mSeq (mAug 3 (fun i j=>i - j) (mOp ixD (mOp ixD (mVar 0) (mVar 2)) (mC (.int 1)))) (mAug 2 (fun i j=>i+j) (mC (.int 1)))
noncomputable def mb_x0:MS:=mSeq (mAsg md_x0 (mC (.int 0)) (mgName 2)) (mSeq (mKill [1] (mAsg md_x0 (mVar 1) (mgName 3))) (mSeq (mWhile 100000 (mB (mOp geD (mVar 3) (mOp ixD (mOp ixD (mVar 0) (mVar 2)) (mC (.int 1))))) lb_x0_0) (mRet (mTup md_x0 (mCons (mOp ixD (mOp ixD (mVar 0) (mVar 2)) (mC (.int 0))) (mCons (mVar 3) mNil))))))
noncomputable def m_x0:List S->Option S:=mFn 4 2 mb_x0
noncomputable def md_x1:List Md:=[.pl,.pl]
noncomputable def mb_x1:MS:=mSeq (mKill [0] (mAsg md_x1 (mFind (mC (.str ("abcdefghijklmnopqrstuvwxyz":Str))) (mVar 0)) (mgName 1))) (mRet (mIf (mB (mOp (eqD 4 false) (mOp modD (mVar 1) (mC (.int 2))) (mC (.int 0)))) (mOp ixD (mC (.str ("abcdefghijklmnopqrstuvwxyz":Str))) (mOp addD (mVar 1) (mC (.int 1)))) (mOp ixD (mC (.str ("abcdefghijklmnopqrstuvwxyz":Str))) (mOp subD (mVar 1) (mC (.int 1))))))
noncomputable def m_x1:List S->Option S:=mFn 2 1 mb_x1
noncomputable def md_x7:List Md:=[.pl,.pl,.pl,.pl,.pl,.pl]
noncomputable def lb_x7_0:MS:=mSeq (mKill [5] (mAsg md_x7 (mOp modD (mOp addD (mOp addD (mOp addD (mOp mulY (mVar 3) (mVar 3)) (mOp mulY (mC (.int 69069)) (mVar 3))) (mVar 5)) (mC (.int 1))) (mC (.int 2147483629))) (mgName 3))) (mAsg md_x7 (mOp addD (mOp mulY (mVar 4) (mC (.int 2147483629))) (mVar 3)) (mgName 4))
noncomputable def mb_x7:MS:=mSeq (mAsg md_x7 (mOp addD (mOp mulY (mC (.int 7)) (mVar 1)) (mC (.int 5))) (mgName 2)) (mSeq (mKill [0] (mIfS (mB (mOp ltD (mVar 1) (mLenS 0))) (mKill [0] (mAsg md_x7 (mIxS 0 (mVar 1)) (mgName 2))) (mNext))) (mSeq (mIfS (mB (mOp (eqD 4 false) (mOp modD (mVar 2) (mC (.int 3))) (mC (.int 0)))) (mRetNew (mnLst md_x7 (mCons (mOp divY (mVar 2) (mC (.int 3))) mNil))) (mNext)) (mSeq (mKill [1,2] (mAsg md_x7 (mOp addD (mOp modD (mVar 2) (mC (.int 2147483629))) (mOp mulY (mC (.int 40014)) (mOp addD (mVar 1) (mC (.int 1))))) (mgName 3))) (mSeq (mAsg md_x7 (mC (.int 0)) (mgName 4)) (mSeq (mKill [3,5] (mFor (mRng1 (mCons (mC (.int 9)) mNil)) (mgName 5) lb_x7_0)) (mRetNew (mnLst md_x7 (mCons (mVar 4) mNil))))))))
noncomputable def m_x7:List S->Option S:=mFn 6 2 mb_x7
noncomputable def md_x8:List Md:=[.io,.pl,.pl]
noncomputable def mb_x8:MS:=mSeq (mAsg md_x8 (mOp modD (mOp ixD (mVar 0) (mC (.int 0))) (mVar 1)) (mgName 2)) (mSeq (mKill [1] (mAsg md_x8 (mOp divY (mOp ixD (mVar 0) (mC (.int 0))) (mVar 1)) (mgSub md_x8 0 (mC (.int 0))))) (mRet (mVar 2)))
noncomputable def m_x8:List S->Option (S × S):=mFnF false 3 2 mb_x8
noncomputable def md_x9:List Md:=[.pl]
noncomputable def mb_x9:MS:=mRet (mAndV (mIsi "int" (mVar 0)) (mNotV (mIsi "bool" (mVar 0))))
noncomputable def m_x9:List S->Option S:=mFn 1 1 mb_x9
noncomputable def md_x10:List Md:=[.pl,.pl,.pl]
noncomputable def mb_x10:MS:=mSeq (mAsg md_x10 (mC (.str ("abcdefghijklmnopqrstuvwxyz":Str))) (mgName 1)) (mSeq (mKill [0] (mAsg md_x10 (mIndex (mVar 1) (mVar 0)) (mgName 2))) (mRet (mOp ixD (mVar 1) (mOp subD (mOp addD (mVar 2) (mC (.int 1))) (mOp mulY (mC (.int 2)) (mOp modD (mVar 2) (mC (.int 2))))))))
noncomputable def m_x10:List S->Option S:=mFn 3 1 mb_x10
noncomputable def md_x2:List Md:=[.pl,.pl,.pl,.pl,.ow,.pl]
noncomputable def lb_x2_0:MS:=mKill [5] (mIfS (mB (mOp (eqD 4 false) (mOp ixD (mVar 0) (mVar 5)) (mCallA m_x1 (mCons (mOp ixD (mVar 0) (mVar 2)) mNil)))) (mKill [5] (mDrop (mAppend md_x2 4 (mCons (mTup md_x2 (mCons (mVar 5) (mCons (mOp mulY (mDGet 1 (mTup md_x2 (mCons (mOp addD (mVar 2) (mC (.int 1))) (mCons (mVar 5) mNil)))) (mDGet 1 (mTup md_x2 (mCons (mOp addD (mVar 5) (mC (.int 1))) (mCons (mVar 3) mNil))))) mNil))) mNil)))) (mNext))
noncomputable def mb_x2:MS:=mSeq (mAsgN (mnLst md_x2 mNil) 4) (mSeq (mKill [0,1,2,3,5] (mFor (mRng2 (mCons (mOp addD (mVar 2) (mC (.int 1))) (mCons (mVar 3) mNil))) (mgName 5) lb_x2_0)) (mRetV 4))
noncomputable def m_x2:List S->Option S:=mFn 6 4 mb_x2
noncomputable def md_x11:List Md:=[.io,.pl,.ow,.ow,.pl,.pl]
noncomputable def lb_x11_0:MS:=mKill [5] (mIfS (mAnd (mB (mOp gtD (mVar 4) (mC (.int 0)))) (mOr (mB (mOp (eqD 4 false) (mVar 3) (mLst md_x11 mNil))) (mB (mOp ltD (mCallM md_x11 0 m_x8 (mCons (mC (.int 5)) mNil)) (mOp addD (mC (.int 2)) (mOp modD (mCB lenD (mCons (mVar 3) mNil)) (mC (.int 2)))))))) (mSeq (mKill [5] (mDrop (mAppend md_x11 3 (mCons (mVar 5) mNil)))) (mAsg md_x11 (mOp subD (mVar 4) (mC (.int 1))) (mgName 4))) (mKill [5] (mDrop (mAppend md_x11 2 (mCons (mTup md_x11 (mCons (mPop 3) (mCons (mVar 5) mNil))) mNil)))))
noncomputable def mb_x11:MS:=mSeq (mAsgN (mnLst md_x11 mNil) 2) (mSeq (mAsgN (mnLst md_x11 mNil) 3) (mSeq (mAsg md_x11 (mVar 1) (mgName 4)) (mSeq (mKill [1,3,4,5] (mFor (mRng1 (mCons (mOp mulY (mC (.int 2)) (mVar 1)) mNil)) (mgName 5) lb_x11_0)) (mRet (mCB tupX (mCons (mCB Srt.sortD (mCons (mVar 2) mNil)) mNil))))))
noncomputable def m_x11:List S->Option (S × S):=mFnF false 6 2 mb_x11
noncomputable def md_x12:List Md:=[.io,.pl,.pl,.ow,.pl,.pl]
noncomputable def lb_x12_0:MS:=mSeq (mAsg md_x12 (mOp ixD (mC (.str ("abcdefghijklmnopqrstuvwxyz":Str))) (mCallM md_x12 0 m_x8 (mCons (mOp mulY (mC (.int 2)) (mVar 2)) mNil))) (mgSub md_x12 3 (mVar 4))) (mKill [4,5] (mAsg md_x12 (mCallA m_x10 (mCons (mOp ixD (mVar 3) (mVar 4)) mNil)) (mgSub md_x12 3 (mVar 5))))
noncomputable def mb_x12:MS:=mSeq (mAsgN (mnOp mulX (mLst md_x12 (mCons (mC (.str ("":Str))) mNil)) (mOp mulY (mC (.int 2)) (mCB lenD (mCons (mVar 1) mNil)))) 3) (mSeq (mKill [1,2,4,5] (mFor (mSeqI md_x12 (mVar 1)) (mgTup 2 (mgCons (mgName 4) (mgCons (mgName 5) mgNil))) lb_x12_0)) (mRet (mJoin ("":Str) (mCons (mVar 3) mNil))))
noncomputable def m_x12:List S->Option (S × S):=mFnF false 6 3 mb_x12
noncomputable def md_x13:List Md:=[.pl,.pl,.ow,.pl,.pl,.pl,.pl,.ow,.pl]
noncomputable def lb_x13_0:MS:=mKill [8] (mIfS (mB (mOp gtD (mOp ixD (mVar 2) (mVar 8)) (mVar 8))) (mKill [8] (mDrop (mAppend md_x13 7 (mCons (mVar 8) mNil)))) (mKill [8] (mIfS (mOr (mB (mOp (eqD 4 false) (mVar 7) (mLst md_x13 mNil))) (mB (mOp (eqD 4 true) (mPop 7) (mOp ixD (mVar 2) (mVar 8))))) (mRet (mC (.bl false))) (mNext))))
noncomputable def lb_x13_1:MS:=mSeq (mIfS (mOr (mNot (mTru (mIsi "tuple" (mVar 4)))) (mOr (mB (mOp (eqD 4 true) (mCB lenD (mCons (mVar 4) mNil)) (mC (.int 2)))) (mOr (mNot (mTru (mCallA m_x9 (mCons (mOp ixD (mVar 4) (mC (.int 0))) mNil)))) (mNot (mTru (mCallA m_x9 (mCons (mOp ixD (mVar 4) (mC (.int 1))) mNil))))))) (mRet (mC (.bl false))) (mNext)) (mSeq (mKill [4] (mAsg md_x13 (mVar 4) (mgTup 2 (mgCons (mgName 5) (mgCons (mgName 6) mgNil))))) (mSeq (mKill [3] (mIfS (mOr (mNot (mChain3 ltD ltD ltD (mVar 3) (mVar 5) (mVar 6) (mCB lenD (mCons (mVar 0) mNil)))) (mOr (mB (mOp gtD (mOp ixD (mVar 2) (mVar 5)) (mUn negD (mC (.int 1))))) (mOr (mB (mOp gtD (mOp ixD (mVar 2) (mVar 6)) (mUn negD (mC (.int 1))))) (mB (mOp (eqD 4 true) (mOp ixD (mVar 0) (mVar 6)) (mCallA m_x10 (mCons (mOp ixD (mVar 0) (mVar 5)) mNil))))))) (mRet (mC (.bl false))) (mNext))) (mSeq (mAsg md_x13 (mVar 6) (mgSub md_x13 2 (mVar 5))) (mSeq (mKill [6] (mAsg md_x13 (mVar 5) (mgSub md_x13 2 (mVar 6)))) (mKill [5] (mAsg md_x13 (mVar 5) (mgName 3)))))))
noncomputable def mb_x13:MS:=mSeq (mIfS (mOr (mNot (mTru (mIsi "tuple" (mVar 1)))) (mB (mOp (eqD 4 true) (mOp mulY (mC (.int 2)) (mCB lenD (mCons (mVar 1) mNil))) (mCB lenD (mCons (mVar 0) mNil))))) (mRet (mC (.bl false))) (mNext)) (mSeq (mAsgN (mnOp mulX (mLst md_x13 (mCons (mUn negD (mC (.int 1))) mNil)) (mCB lenD (mCons (mVar 0) mNil))) 2) (mSeq (mAsg md_x13 (mUn negD (mC (.int 1))) (mgName 3)) (mSeq (mKill [1,3,4,5,6] (mFor (mSeqI md_x13 (mVar 1)) (mgName 4) lb_x13_1)) (mSeq (mAsgN (mnLst md_x13 mNil) 7) (mSeq (mKill [0,2,7,8] (mFor (mRng1 (mCons (mCB lenD (mCons (mVar 0) mNil)) mNil)) (mgName 8) lb_x13_0)) (mRet (mC (.bl true))))))))
noncomputable def m_x13:List S->Option S:=mFn 9 2 mb_x13
noncomputable def md_x14:List Md:=[.pl,.pl,.ow,.pl,.pl,.pl,.pl]
noncomputable def lb_x14_0:MS:=mKill [6] (mIfS (mB (mOp (eqD 4 false) (mOp ixD (mVar 0) (mVar 6)) (mCallA m_x10 (mCons (mOp ixD (mVar 0) (mOp subD (mOp addD (mVar 4) (mVar 3)) (mC (.int 1)))) mNil)))) (mKill [6] (mAsg md_x14 (mOp addD (mVar 5) (mOp mulY (mDGet 2 (mTup md_x14 (mCons (mVar 4) (mCons (mVar 6) mNil)))) (mDGet 2 (mTup md_x14 (mCons (mOp addD (mVar 6) (mC (.int 1))) (mCons (mOp subD (mOp addD (mVar 4) (mVar 3)) (mC (.int 1))) mNil)))))) (mgName 5))) (mNext))
noncomputable def lb_x14_1:MS:=mSeq (mAsg md_x14 (mCB intD (mCons (mOp (eqD 4 false) (mVar 3) (mC (.int 0))) mNil)) (mgName 5)) (mSeq (mKill [6] (mFor (mRng3 (mCons (mOp subD (mOp addD (mVar 4) (mVar 3)) (mC (.int 2))) (mCons (mOp subD (mVar 4) (mC (.int 1))) (mCons (mUn negD (mC (.int 2))) mNil)))) (mgName 6) lb_x14_0)) (mKill [4,5] (mAsg md_x14 (mVar 5) (mgDPut md_x14 2 (mCons (mVar 4) (mCons (mOp addD (mVar 4) (mVar 3)) mNil))))))
noncomputable def lb_x14_2:MS:=mKill [3,4,5,6] (mFor (mRng1 (mCons (mOp subD (mOp addD (mVar 1) (mC (.int 1))) (mVar 3)) mNil)) (mgName 4) lb_x14_1)
noncomputable def mb_x14:MS:=mSeq (mAsg md_x14 (mCB lenD (mCons (mVar 0) mNil)) (mgName 1)) (mSeq (mAsgN (mnDNew) 2) (mSeq (mKill [0,1,3,4,5,6] (mFor (mRng1 (mCons (mOp addD (mVar 1) (mC (.int 1))) mNil)) (mgName 3) lb_x14_2)) (mRetDV 2)))
noncomputable def m_x14:List S->Option S:=mFn 7 1 mb_x14
noncomputable def md_x15:List Md:=[.pl,.pl,.pl,.ow,.pl,.pl,.pl,.ow,.pl,.pl,.pl,.pl]
noncomputable def lb_x15_0:MS:=mKill [5] (mIfS (mB (mOp (eqD 4 false) (mOp ixD (mVar 0) (mVar 5)) (mCallA m_x10 (mCons (mOp ixD (mVar 0) (mVar 8)) mNil)))) (mKill [5] (mAsg md_x15 (mOp addD (mVar 6) (mOp mulY (mOp mulY (mDGet 1 (mTup md_x15 (mCons (mOp addD (mVar 8) (mC (.int 1))) (mCons (mVar 5) mNil)))) (mDGet 1 (mTup md_x15 (mCons (mOp addD (mVar 5) (mC (.int 1))) (mCons (mVar 9) mNil))))) (mVar 10))) (mgName 6))) (mNext))
noncomputable def lb_x15_1:MS:=mKill [11] (mAsg (md_x15.set 7 .lk) (mOp mulY (mVar 10) (mDGet 1 (mVar 11))) (mgName 10))
noncomputable def lb_x15_2:MS:=mSeq (mAsg md_x15 (mPop 7) (mgTup 2 (mgCons (mgName 8) (mgCons (mgName 9) mgNil)))) (mSeq (mAsg md_x15 (mC (.int 1)) (mgName 10)) (mSeq (mKill [11] (mForL 7 (mgName 11) lb_x15_1)) (mKill [5,8,9,10] (mIfS (mB (mOp ltD (mVar 8) (mVar 9))) (mSeq (mKill [5,10] (mFor (mRng3 (mCons (mOp addD (mVar 8) (mC (.int 1))) (mCons (mKGet 3 (mVar 8)) (mCons (mC (.int 2)) mNil)))) (mgName 5) lb_x15_0)) (mSeq (mKill [9] (mDrop (mAppend md_x15 7 (mCons (mTup md_x15 (mCons (mOp addD (mKGet 3 (mVar 8)) (mC (.int 1))) (mCons (mVar 9) mNil))) mNil)))) (mKill [8] (mDrop (mAppend md_x15 7 (mCons (mTup md_x15 (mCons (mOp addD (mVar 8) (mC (.int 1))) (mCons (mKGet 3 (mVar 8)) mNil))) mNil)))))) (mNext)))))
noncomputable def lb_x15_3:MS:=mKill [4,5] (mAsg md_x15 (mVar 5) (mgKPut 3 (mVar 4)))
noncomputable def mb_x15:MS:=mSeq (mAsgN (mnKNew) 3) (mSeq (mKill [2,4,5] (mFor (mSeqI md_x15 (mVar 2)) (mgTup 2 (mgCons (mgName 4) (mgCons (mgName 5) mgNil))) lb_x15_3)) (mSeq (mAsg md_x15 (mC (.int 0)) (mgName 6)) (mSeq (mAsgN (mnLst md_x15 (mCons (mTup md_x15 (mCons (mC (.int 0)) (mCons (mCB lenD (mCons (mVar 0) mNil)) mNil))) mNil)) 7) (mSeq (mKill [0,1,3,5,7,8,9,10,11] (mWhile 100000 (mB (mOp (eqD 4 true) (mVar 7) (mLst md_x15 mNil))) lb_x15_2)) (mRet (mVar 6))))))
noncomputable def m_x15:List S->Option S:=mFn 12 3 mb_x15
noncomputable def md_x18:List Md:=[.io,.pl,.pl]
noncomputable def mb_x18:MS:=mSeq (mIfS (mB (mOp (eqD 4 false) (mVar 1) (mC (.str ("":Str))))) (mRet (mVar 1)) (mNext)) (mSeq (mAsg md_x18 (mCallM md_x18 0 m_x8 (mCons (mCB lenD (mCons (mVar 1) mNil)) mNil)) (mgName 2)) (mRet (mOp addD (mOp addD (mSlZ (mVar 1) moNo (moPart (mVar 2))) (mOp ixD (mC (.str ("abcdefghijklmnopqrstuvwxyz":Str))) (mCallM md_x18 0 m_x8 (mCons (mC (.int 26)) mNil)))) (mSlZ (mVar 1) (moPart (mOp addD (mVar 2) (mC (.int 1)))) moNo))))
noncomputable def m_x18:List S->Option (S × S):=mFnF false 3 2 mb_x18
noncomputable def md_x3:List Md:=[.pl,.pl,.ow,.pl,.pl]
noncomputable def lb_x3_0:MS:=mKill [4] (mAsg md_x3 (mCB sumD (mCons (mComp 2 [] [] (mSeqI md_x3 (mCallA m_x2 (mCons (mVar 0) (mCons (mVar 2) (mCons (mVar 3) (mCons (mVar 4) mNil)))))) (lpM (mgTup 2 (mgCons (mgName 0) (mgCons (mgName 1) mgNil))) mYes (mEmit (mdIn md_x3 2 [] []) (mVar 1)))) mNil)) (mgDPut md_x3 2 (mCons (mVar 3) (mCons (mVar 4) mNil))))
noncomputable def lb_x3_1:MS:=mSeq (mAsg md_x3 (mC (.int 1)) (mgDPut md_x3 2 (mCons (mVar 3) (mCons (mVar 3) mNil)))) (mKill [3,4] (mFor (mRng2 (mCons (mOp addD (mVar 3) (mC (.int 1))) (mCons (mOp addD (mVar 1) (mC (.int 1))) mNil))) (mgName 4) lb_x3_0))
noncomputable def mb_x3:MS:=mSeq (mAsg md_x3 (mCB lenD (mCons (mVar 0) mNil)) (mgName 1)) (mSeq (mAsgD1 md_x3 2 (mCons (mVar 1) (mCons (mVar 1) mNil)) (mC (.int 1))) (mSeq (mKill [0,1,3,4] (mFor (mDwn1 (mCons (mVar 1) mNil)) (mgName 3) lb_x3_1)) (mRetDV 2)))
noncomputable def m_x3:List S->Option S:=mFn 5 1 mb_x3
noncomputable def md_x4:List Md:=[.pl]
noncomputable def mb_x4:MS:=mRet (mCallIx m_x3 (mCons (mVar 0) mNil) (mTup md_x4 (mCons (mC (.int 0)) (mCons (mCB lenD (mCons (mVar 0) mNil)) mNil))))
noncomputable def m_x4:List S->Option S:=mFn 1 1 mb_x4
noncomputable def md_x5:List Md:=[.pl,.pl,.pl,.pl,.pl,.pl,.pl,.pl,.pl,.pl]
noncomputable def mb_x5 (mr:List S->Option S):MS:=mSeq (mIfS (mB (mOp (eqD 4 false) (mVar 2) (mVar 3))) (mRetNew (mnLst md_x5 mNil)) (mNext)) (mSeq (mKill [4] (mAsg md_x5 (mCallA m_x0 (mCons (mCallA m_x2 (mCons (mVar 0) (mCons (mVar 1) (mCons (mVar 2) (mCons (mVar 3) mNil))))) (mCons (mVar 4) mNil))) (mgTup 2 (mgCons (mgName 5) (mgCons (mgName 6) mgNil))))) (mSeq (mKill [6] (mAsg md_x5 (mCB divmodD (mCons (mVar 6) (mCons (mDGet 1 (mTup md_x5 (mCons (mOp addD (mVar 5) (mC (.int 1))) (mCons (mVar 3) mNil)))) mNil))) (mgTup 2 (mgCons (mgName 7) (mgCons (mgName 8) mgNil))))) (mSeq (mKill [7] (mAsg md_x5 (mCallA mr (mCons (mVar 0) (mCons (mVar 1) (mCons (mOp addD (mVar 2) (mC (.int 1))) (mCons (mVar 5) (mCons (mVar 7) mNil)))))) (mgName 9))) (mRetNew (mnOp addD (mOp addD (mLst md_x5 (mCons (mTup md_x5 (mCons (mVar 2) (mCons (mVar 5) mNil))) mNil)) (mVar 9)) (mCallA mr (mCons (mVar 0) (mCons (mVar 1) (mCons (mOp addD (mVar 5) (mC (.int 1))) (mCons (mVar 3) (mCons (mVar 8) mNil)))))))))))
noncomputable def mr_x5:Nat->List S->Option S
 | 0=>fun _=>none
 | k+1=>mFn 10 5 (mb_x5 (mr_x5 k))
noncomputable def m_x5:List S->Option S:=mr_x5 45
noncomputable def md_x6:List Md:=[.pl,.pl,.pl,.pl]
noncomputable def mb_x6:MS:=mSeq (mAsgDc m_x3 (mCons (mVar 0) mNil) 2) (mSeq (mAsg md_x6 (mCB lenD (mCons (mVar 0) mNil)) (mgName 3)) (mSeq (mIfS (mNot (mB (mChain leD ltD (mC (.int 0)) (mVar 1) (mDGet 2 (mTup md_x6 (mCons (mC (.int 0)) (mCons (mVar 3) mNil))))))) (mNever) (mNext)) (mRet (mCB tupX (mCons (mCallA m_x5 (mCons (mVar 0) (mCons (mVar 2) (mCons (mC (.int 0)) (mCons (mVar 3) (mCons (mVar 1) mNil)))))) mNil)))))
noncomputable def m_x6:List S->Option S:=mFn 4 2 mb_x6
noncomputable def mbR_full_at:MS:=mSeq (mAsgDc m_x3 (mCons (mVar 0) mNil) 2) (mSeq (mAsg md_x6 (mCB lenD (mCons (mVar 0) mNil)) (mgName 3)) (mSeq (mIfS (mNot (mB (mChain leD ltD (mC (.int 0)) (mVar 1) (mDGet 2 (mTup md_x6 (mCons (mC (.int 0)) (mCons (mVar 3) mNil))))))) (mRaise) (mNext)) (mNever)))
noncomputable def mR_full_at:List S->Option S:=mFn 4 2 mbR_full_at
noncomputable def md_x17:List Md:=[.pl,.pl,.pl,.pl]
noncomputable def lb_x17_0:MS:=mKill [3] (mTryN m_x6 mR_full_at (mCons (mVar 0) (mCons (mVar 3) mNil)) 2)
noncomputable def mb_x17:MS:=mSeq (mAsg md_x17 (mC (.int 0)) (mgName 2)) (mSeq (mKill [0,1,3] (mFor (mSeqI md_x17 (mLst md_x17 (mCons (mVar 1) (mCons (mOp ixD (mLst md_x17 (mCons (mUn negD (mC (.int 1))) (mCons (mOp addD (mVar 1) (mOp powD (mC (.int 10)) (mC (.int 30)))) mNil))) (mOp modD (mVar 1) (mC (.int 2)))) mNil)))) (mgName 3) lb_x17_0)) (mRet (mOp (eqD 4 false) (mVar 2) (mC (.int 2)))))
noncomputable def m_x17:List S->Option S:=mFn 4 2 mb_x17
noncomputable def md_x16:List Md:=[.pl,.io,.pl,.pl,.pl,.pl,.pl]
noncomputable def lb_x16_0:MS:=mSeq (mAsg md_x16 (mCallA m_x6 (mCons (mVar 0) (mCons (mVar 5) mNil))) (mgName 6)) (mKill [5,6] (mIfS (mOr (mNot (mTru (mCallA m_x13 (mCons (mVar 0) (mCons (mVar 6) mNil))))) (mB (mOp (eqD 4 true) (mCallA m_x15 (mCons (mVar 0) (mCons (mVar 2) (mCons (mVar 6) mNil)))) (mVar 5)))) (mRet (mC (.bl false))) (mNext)))
noncomputable def mb_x16:MS:=mSeq (mAsgDc m_x14 (mCons (mVar 0) mNil) 2) (mSeq (mAsg md_x16 (mCallA m_x4 (mCons (mVar 0) mNil)) (mgName 3)) (mSeq (mIfS (mOr (mNot (mTru (mCallA m_x9 (mCons (mVar 3) mNil)))) (mOr (mB (mOp (eqD 4 true) (mVar 3) (mDGet 2 (mTup md_x16 (mCons (mC (.int 0)) (mCons (mCB lenD (mCons (mVar 0) mNil)) mNil)))))) (mB (mOp ltD (mVar 3) (mC (.int 1)))))) (mRet (mC (.bl false))) (mNext)) (mSeq (mAsg md_x16 (mLst md_x16 (mCons (mC (.int 0)) (mCons (mOp subD (mVar 3) (mC (.int 1))) (mCons (mCallM md_x16 1 m_x8 (mCons (mVar 3) mNil)) mNil)))) (mgName 4)) (mSeq (mKill [2,4,5,6] (mFor (mSeqI md_x16 (mVar 4)) (mgName 5) lb_x16_0)) (mRet (mCallA m_x17 (mCons (mVar 0) (mCons (mVar 3) mNil))))))))
noncomputable def m_x16:List S->Option (S × S):=mFnM1 7 mb_x16
noncomputable def md_x19:List Md:=[.io,.pl,.pl,.pl,.pl,.pl]
noncomputable def mb_x19:MS:=mSeq (mAsg md_x19 (mCallM md_x19 0 m_x8 (mCons (mOp addD (mCB lenD (mCons (mVar 1) mNil)) (mC (.int 1))) mNil)) (mgName 2)) (mSeq (mKill [1,2,3] (mIfS (mAnd (mB (mOp ltD (mCB lenD (mCons (mVar 1) mNil)) (mC (.int 40)))) (mB (mOp (eqD 4 false) (mOp modD (mCB lenD (mCons (mVar 1) mNil)) (mC (.int 2))) (mC (.int 0))))) (mSeq (mKill [1,2] (mAsg md_x19 (mOp addD (mOp addD (mSlZ (mVar 1) moNo (moPart (mVar 2))) (mOp ixD (mC (.str ("abcdefghijklmnopqrstuvwxyz":Str))) (mCallM md_x19 0 m_x8 (mCons (mC (.int 26)) mNil)))) (mSlZ (mVar 1) (moPart (mVar 2)) moNo)) (mgName 3))) (mKill [3] (mIfS (mOr (mB (mOp (eqD 4 true) (mCallA m_x4 (mCons (mVar 3) mNil)) (mC (.int 0)))) (mNot (mTru (mCallA m_x17 (mCons (mVar 3) (mCons (mC (.int 0)) mNil)))))) (mRet (mC (.bl false))) (mNext)))) (mNext))) (mSeq (mAsg md_x19 (mOp ixD (mLst md_x19 (mCons (mC (.str ("ab":Str))) (mCons (mC (.str ("abcd":Str))) mNil))) (mCallM md_x19 0 m_x8 (mCons (mC (.int 2)) mNil))) (mgName 4)) (mSeq (mKill [4] (mAsg md_x19 (mJoin ("":Str) (mCons (mComp 1 [4,0] [0] (mRng1 (mCons (mCallM md_x19 0 m_x8 (mCons (mC (.int 41)) mNil)) mNil)) (lpM (mgName 0) mYes (mEmit (mdIn md_x19 1 [4,0] [0]) (mOp ixD (mVar 1) (mCallM (mdIn md_x19 1 [4,0] [0]) 2 m_x8 (mCons (mCB lenD (mCons (mVar 1) mNil)) mNil)))))) mNil)) (mgName 5))) (mRet (mOp (eqD 4 false) (mCallA m_x4 (mCons (mVar 5) mNil)) (mCallIx m_x14 (mCons (mVar 5) mNil) (mTup md_x19 (mCons (mC (.int 0)) (mCons (mCB lenD (mCons (mVar 5) mNil)) mNil)))))))))
noncomputable def m_x19:List S->Option (S × S):=mFnF false 6 2 mb_x19
noncomputable def md_law:List Md:=[.pl,.pl,.ow,.pl,.pl,.pl]
noncomputable def lb_law_0:MS:=mSeq (mAsgN (mnCallA m_x7 (mCons (mVar 0) (mCons (mVar 1) mNil))) 2) (mSeq (mKill [1] (mAsg md_law (mCallM md_law 2 m_x11 (mCons (mCallM md_law 2 m_x8 (mCons (mOp ixD (mLst md_law (mCons (mC (.int 21)) (mCons (mC (.int 13)) mNil))) (mVar 1)) mNil)) mNil)) (mgName 3))) (mSeq (mKill [3] (mAsg md_law (mCallM md_law 2 m_x12 (mCons (mVar 3) (mCons (mOp ixD (mLst md_law (mCons (mC (.int 1)) (mCons (mC (.int 2)) (mCons (mC (.int 4)) (mCons (mC (.int 13)) mNil))))) (mCallM md_law 2 m_x8 (mCons (mC (.int 4)) mNil))) mNil))) (mgName 4))) (mSeq (mIfS (mNot (mTru (mCallM1 md_law 2 m_x16 (mVar 4)))) (mRet (mC (.bl false))) (mNext)) (mSeq (mAsg md_law (mCallM md_law 2 m_x18 (mCons (mVar 4) mNil)) (mgName 4)) (mSeq (mAsg md_law (mCallIx m_x14 (mCons (mVar 4) mNil) (mTup md_law (mCons (mC (.int 0)) (mCons (mCB lenD (mCons (mVar 4) mNil)) mNil)))) (mgName 5)) (mSeq (mKill [5] (mIfS (mOr (mB (mOp (eqD 4 true) (mCallA m_x4 (mCons (mVar 4) mNil)) (mVar 5))) (mAnd (mB (mOp (eqD 4 false) (mVar 5) (mC (.int 0)))) (mNot (mTru (mCallA m_x17 (mCons (mVar 4) (mCons (mC (.int 0)) mNil))))))) (mRet (mC (.bl false))) (mNext))) (mKill [2,4] (mIfS (mNot (mTru (mCallM md_law 2 m_x19 (mCons (mVar 4) mNil)))) (mRet (mC (.bl false))) (mNext)))))))))
noncomputable def mb_law:MS:=mSeq (mKill [0,1,2,3,4,5] (mFor (mRng1 (mCons (mC (.int 2)) mNil)) (mgName 1) lb_law_0)) (mRet (mC (.bl true)))
noncomputable def m_law:List S->Option S:=mFn 6 1 mb_law
noncomputable def cntF (M:Int->Int->Bool):Nat->Nat->Int->Int
 | 0,_,_=>1
 | _+1,0,_=>1
 | f+1,L+1,a=>cntF M f L (a+1)+((List.range L).map fun (t:Nat)=>if M a (a+1+(t:Int))=true then cntF M f t (a+1) * cntF M f (L - 1 - t) (a+1+t+1) else 0).sum
noncomputable def G (M:Int->Int->Bool) (a b:Int):Int:=cntF M (b - a).toNat (b - a).toNat a
noncomputable def PL (M:Int->Int->Bool) (a b:Int):List (Int × Int):=(-1,G M (a+1) b)::((ups (a+1) (b - (a+1)).toNat).filter (M a)).map fun p=>(p,G M (a+1) p * G M (p+1) b)
theorem sum_filter {c:Int->Bool} {f:Int->Int}:∀ l:List Int,((l.filter c).map f).sum=(l.map fun p=>if c p=true then f p else 0).sum
 | []=>rfl
 | a::l=>by
   rw [List.filter_cons,Z6,List.sum_cons,<- sum_filter l]
   split
   · rw [Z6,List.sum_cons]
   · simp
open PySem L2 Builtin.Str
noncomputable def sgn (c:Nat):Str:=⟨#[c]⟩
noncomputable def txt (cs:List Nat):Str:=⟨cs.toArray⟩
theorem txt_app (a b:List Nat):txt a++txt b=txt (a++b):=by
 show (⟨a.toArray++b.toArray⟩:Str)=_
 rw [List.append_toArray]; rfl
theorem txt_len (a:List Nat):(txt a).length=a.length:=by show a.toArray.size=_; simp
theorem sgn_inj {a b:Nat}:sgn a=sgn b ↔ a=b:=by
 constructor
 · intro h; injection h with h; simpa using h
 · rintro rfl; rfl
theorem st_no:(Str.ofString "")=txt []:=by decide +kernel
theorem lenTx {cs:List Nat} (h:cs.length < 1000000):lenD [.str (txt cs)]=some (.int cs.length):=by
 rw [<- txt_len cs]; exact lenZ (by rw [txt_len]; exact h)
theorem ixTx {cs:List Nat} {i:Int} (h:0<=i/\i < cs.length) (hl:cs.length < 1000000):ixD (.str (txt cs)) (.int i)=some (.str (sgn (cs.getD i.toNat 0))):=by
 show (if _ then _ else _)=_
 rw [if_pos (by rw [txt_len]; exact Z38 (sz_lt hl))]
 show (atI (txt cs).cps.toList i).map _=_
 rw [show (txt cs).cps.toList=cs by simp [txt],atI_len h,Z5,Z3 (by omega:i.toNat < cs.length)]
 rfl
theorem slTx {cs:List Nat} {a b:Nat} (hab:a<=b) (hb:b<=cs.length) (hl:cs.length < 1000000):slD (.str (txt cs)) (some (a:Int)) (some (b:Int))=some (.str (txt ((cs.drop a).take (b - a)))):=by
 show (if _ then _ else _)=_
 rw [if_pos (by rw [txt_len]; exact Z38 (sz_lt hl))]
 have h:=StrLaws.sliced_plain (txt cs) hab (by rw [txt_len]; exact hb)
 have e:(txt cs).cps.toList=cs:=by simp [txt]
 rw [e] at h
 unfold Txt.slice
 split
 · rename_i hc
   have hn:(strSliceIndices (some (a:Int)) (some (b:Int)) 1 (txt cs).length).length=cs.length:=by rw [txt_len] at hc ⊢; simpa using hc
   rw [StrLaws.strSliceIndices_plain hab (by rw [txt_len]; exact hb)] at hn
   simp at hn
   have h0:a=0:=by omega
   have h1:b=cs.length:=by omega
   subst h0 h1
   simp
 · rw [h]; rfl
theorem slTn {cs:List Nat} {a:Nat} (ha:a<=cs.length) (hl:cs.length < 1000000):slD (.str (txt cs)) (some (a:Int)) none=some (.str (txt (cs.drop a))):=by
 have h:=slTx ha (Z10 cs.length) hl
 rw [show (cs.drop a).take (cs.length - a)=cs.drop a from by rw [List.take_of_length_le]; simp] at h
 rw [<- h]
 show (if _ then _ else _)=if _ then _ else _
 have e:strSliceIndices (some (a:Int)) none 1 (txt cs).length=strSliceIndices (some (a:Int)) (some (cs.length:Int)) 1 (txt cs).length:=by
   rw [txt_len]
   unfold strSliceIndices
   have h1:¬ ((cs.length:Int) < 0):=by omega
   simp [h1]
 unfold Txt.slice
 rw [e]
local macro_rules | `(tactic| walk_at $s:str) => Mir.tab s.getString "dz\t0\tS\tL\tO\tm List.length_map List.length_set List.length_append List.length_cons List.length_nil List.length_replicate List.length_dropLast Mir.ups_len; W lz\tD\nlz\t0\tL\tO\nimm\t0\tS\tE Mir.immL_map | _\tE rfl\nbt\t0\tS\tq decide_eq_true <lo>\tq Mir.nd_t <lo>\tE rfl\tD\nlo\t0\ts\tL\tO\nbf\t0\tS\tq decide_eq_false <lo>\tq Mir.nd_f <lo>\tE rfl\tD\nnorm\t0\tF Y nd; Y nr; K\nnd\t0\td Mir.kill List.set_cons_zero List.set_cons_succ\nnr\t0\tE rfl\nnormI\t0\tF Y ni; Y nr; K\nni\t0\tM Mir.inEn List.replicate_succ List.replicate_zero List.map_cons List.map_nil Mir.look List.cons_append List.nil_append\nnormW\t0\tq Mir.wb_nil\tF Y nw; Y nr; K\nnw\t0\tM Mir.wb0 Mir.wb1 List.idxOf_cons beq_self_eq_true cond_true cond_false Nat.reduceBEq Nat.reduceAdd Nat.zero_add Nat.add_zero Mir.look\nopl\t0\tA Mir.addII\tA Mir.subII\tA Mir.ltI\tA Mir.leI\tA Mir.gtI\tA Mir.geI\tA Mir.eqII\tA Mir.neII\tA Mir.eqSS\tA Mir.neSS\tA Mir.eqBB\tA Mir.ltLL\tA Mir.lenL\tA Mir.lenT\tA Mir.tupL\tA Mir.listT\tA Mir.listL\tA Mir.negI\tA Mir.intB\tA Mir.intI\tA Mir.isNN\tA Mir.isNI\tA Mir.isNT\tA Mir.notNN\tA Mir.notNI\tA Mir.notNT\tA Mir.isYB\tA Mir.notYB\tS\tq Mir.ne_nil (Mir.depthL_map ~ _)\tq Mir.eq_nil (Mir.depthL_map ~ _)\tq Mir.divmodI <dz>\tq Mir.lenZ <dz>\tq Mir.mulI1 <dz>\tq Mir.mulI2 <dz>\tq Mir.modI <dz>\tq Mir.divI <dz>\tq Mir.addS <dz>\tq Mir.ixT_ints <dz>\tq Mir.ixL_ints <dz>\nev g0\t0\tA Ev.c\tA Ev.var\tA Ev.op\tG Eq (Ev.pick _ _ _) _; R Ev.pick_t <bt> ?_\tG Eq (Ev.pick _ _ _) _; R Ev.pick_f <bf> ?_\tA Ev.dget\tA Ev.comp\tA Ev.callIx\tA Ev.dIn\tA Ev.callX\tA Ev.cb\tA Ev.callA\tA Ev.callF\tA Ev.tup\tA Ev.lst\tA Ev.append\tA Ev.callM\tA Ev.isi\tA Ev.un\tA Ev.pop\tA Ev.reverse\tA Ev.extend\tA Ev.andV\tA Ev.orV\tA Ev.notV\tA Ev.ifE\tA Ev.chain\tA Ev.sl\tA Ev.join\tA Ev.lenS\tA Ev.ixS\tW ev const\tW evE\nev g1\t0\tA Ev.seqA\tA Ev.kil\tA Ev.asg\tA Ev.ifS\tA Ev.afterN\tA Ev.afterR\tA Ev.next\tG Eq (Ev.pick _ _ _) _; R Ev.pick_t <bt> ?_\tG Eq (Ev.pick _ _ _) _; R Ev.pick_f <bf> ?_\tA Ev.asgD1\tA Ev.retDV\tA Ev.asgDc\tA Ev.retT\tA Ev.drop\tA Ev.ret\tA Ev.forS\tA Ev.asgN\tA Ev.retNew\tA Ev.retV\tA Ev.par\tA Ev.aug\tA Ev.forL\tA Ev.afterB\tA Ev.afterC\tA Ev.brk\tA Ev.ct\tA Ev.retNone\tG Eq (Mir.forM _ _ _ _) _; S\tG Eq (Mir.forM _ _ _ _) _; s\tW evS\tS\nev g2\t0\tG Eq (Mir.res _ _) _; E rfl\tG Eq (Mir.sto _ _ _) _; E rfl\tG Eq (Mir.stoN _ _ _) _; E Ev.stoN_ow rfl rfl <imm>\tG Eq (Mir.stoN _ _ _) _; E rfl\tG Eq (Mir.immO _) _; E Mir.imm_int _\tG Eq (Mir.immO _) _; E Mir.imm_bl _\tG Eq (Mir.immO _) _; E Mir.imm_str _\tG Eq (Mir.immO _) _; E Mir.imm_non\tG Eq (Mir.immO _) _; E Mir.imm_tup <imm>\tW opl\tS\tq rfl\nev g3\t0\tA Ev.nil\tA Ev.cons\nev g4\t0\tA Ev.ress0\tA Ev.stos0\tA Ev.stosN0\tA Ev.ress1\tA Ev.stos1\tA Ev.stosN1\tG Eq (Mir.seqD _) _; E rfl\nev g5\t0\tG Eq (List.set _ _ _) _; W norm\tG Eq (Mir.kill _ _) _; W norm\tG Eq (Mir.inEn _ _ _) _; W normI\tG Eq (Mir.wb _ _ _ _ _) _; W normW\nev g6\t0\tA Ev.gName\tA Ev.gTup\tA Ev.gCons\tA Ev.gSub\tA Ev.gDPut\tA Ev.gNil\tW evG\nev g7\t0\tA Ev.tb\tA Ev.tru\tA Ev.and\tA Ev.or\tA Ev.not\tA Ev.yes\tG Eq (Ev.pick _ _ _) _; R Ev.pick_t <bt> ?_\tG Eq (Ev.pick _ _ _) _; R Ev.pick_f <bf> ?_\tA Ev.chain3\tA Ev.c3r\nev g8\t0\tA Ev.rng1\tA Ev.rng2\tA Ev.seqI\tA Ev.seqV\tA Ev.dwn1\tA Ev.enu\tA Ev.rng3\tW evI\nev g9\t0\tA Ev.ndnew\tA Ev.nlst\tA Ev.ncallA\tA Ev.ncomp\tA Ev.nstream\tA Ev.nop\tW evN\nev g10\t0\tG Eq (Mir.look _ _) _; E rfl\tG Eq (Mir.argS _) _; E rfl\tG Eq (Mir.setD _ _ _) _; E Mir.setD_ok <dz>\tG Eq (Mir.immS _) _; E Mir.immS_l <imm>\tq Mir.okIo_pot _\tq Mir.okIo2_pot _ _\tS\tW evC\nev g11\t0\tS\tA Ev.emit\tW evL\nev g12\t0\tS\tq Mir.keyII _ _\tq rfl\tE rfl\nev g13\t0\tA Ev.xargs\tA Ev.xop\tA Ev.xdc\nev g14\t0\tA Ev.resA0\tA Ev.resA1\nev g15\t0\tA Ev.oNo\tA Ev.oPart\nev g16\t0\tW ev msimp\tG Eq (Mir.mDraw _) _; E Mir.draw_pot <dz>\tW evM\nev g17\t0\tG Eq (Mir.truD _) _; E rfl\nev const\t0\tG Eq ($ _) _; q Ev.const\nev msimp\t0\tY em; S\nem\t0\tM List.map_cons List.map_nil\nev1\t0\tT Option (Prod Mir.Op Mir.En); W ev g0\tT Option (Prod Mir.Fl Mir.En); W ev g1\tT Option L2.D; W ev g2\tT Option (Prod (List Mir.Op) Mir.En); W ev g3\tT Option (List L2.D); W ev g4\tT Mir.En; W ev g5\tT Option Mir.En; W ev g6\tT Option (Prod Bool Mir.En); W ev g7\tT Option (Prod (List L2.D) Mir.En); W ev g8\tT Option (Prod Mir.S Mir.En); W ev g9\tT Option Mir.S; W ev g10\tT Option (Prod Mir.En (List L2.D)); W ev g11\tT Option (List L2.Key); W ev g12\tT Option (Prod (List Mir.S) Mir.En); W ev g13\tT Option (List Mir.S); W ev g14\tT Option (Prod (Option Int) Mir.En); W ev g15\tT Option (Prod Mir.S Mir.S); W ev g16\tT Option Bool; W ev g17\tF G LT.lt α= Nat) _ _; W dz\tF G Eq α= Nat) _ _; W ez\tF G And _ _; W dz\tS\tq rfl\nez\t0\tE rfl\tW dz\nev\t0\tn ev1"
open PySem PySem.Spec PyProof.Rows L2
noncomputable def LET:Str:="abcdefghijklmnopqrstuvwxyz"
theorem find_let:∀ x:Nat,x < 26->Txt.find LET (sgn (97+x))=(x:Int):=by decide +kernel
theorem occ_let:∀ x:Nat,x < 26->occ1 LET (sgn (97+x))=some x:=by decide +kernel
theorem let_txt:LET=txt ((List.range 26).map (97+·)):=by decide +kernel
open PySem PySem.Spec PyProof.Rows L2
noncomputable def fl (x:Nat):Nat:=if x % 2=0 then x+1 else x - 1
theorem let_ix {x:Nat} {i:Int} (hx:x < 26) (hi:i=(x:Int)):ixD (.str ("abcdefghijklmnopqrstuvwxyz":Str)) (.int i)=some (.str (sgn (97+x))):=by
 have e:("abcdefghijklmnopqrstuvwxyz":Str)=txt ((List.range 26).map (97+·)):=let_txt
 rw [e,hi]
 rw [ixTx ⟨by omega,by simp; omega⟩ (by simp)]
 simp [Z5,hx]
local macro_rules | `(tactic| walk_at $s:str) => Mir.tab s.getString "evE\t0\tA Ev.find\tA Ev.index"
theorem fellow_ok {x:Nat} (hx:x < 26):m_x1 [.d (.str (sgn (97+x)))]=some (.d (.str (sgn (97+fl x)))):=by
 have hf:findD (.str ("abcdefghijklmnopqrstuvwxyz":Str)) (.str (sgn (97+x)))=some (.int x):=by
   show some (D.int (Txt.find LET (sgn (97+x))))=_
   rw [find_let x hx]
 by_cases hp:(x:Int) % 2=0
 · have hi:ixD (.str ("abcdefghijklmnopqrstuvwxyz":Str)) (.int ((x:Int)+1))=some (.str (sgn (97+fl x))):=by
     rw [show fl x=x+1 by unfold fl; rw [if_pos (by omega)]]
     exact let_ix (by omega) (by omega)
   apply Ev.fn (ρ:=[some (.d (.str (sgn (97+x)))),none]) rfl
   unfold mb_x1
   walk_at "ev"
 · have hi:ixD (.str ("abcdefghijklmnopqrstuvwxyz":Str)) (.int ((x:Int) - 1))=some (.str (sgn (97+fl x))):=by
     rw [show fl x=x - 1 by unfold fl; rw [if_neg (by omega)]]
     exact let_ix (by omega) (by omega)
   apply Ev.fn (ρ:=[some (.d (.str (sgn (97+x)))),none]) rfl
   unfold mb_x1
   walk_at "ev"
theorem lfellow_ok {x:Nat} (hx:x < 26):m_x10 [.d (.str (sgn (97+x)))]=some (.d (.str (sgn (97+fl x)))):=by
 have hf:indexD (.str ("abcdefghijklmnopqrstuvwxyz":Str)) (.str (sgn (97+x)))=some (.int x):=by
   have e:indexD (.str LET) (.str (sgn (97+x)))=(occ1 LET (sgn (97+x))).map fun i=>D.int (i:Int):=rfl
   rw [occ_let x hx] at e
   exact e
 have h2:=Int.emod_two_eq (x:Int)
 have hm:mulY (.int 2) (.int ((x:Int) % 2))=some (.int (2 * ((x:Int) % 2))):=by
   rcases h2 with h2 | h2 <;> rw [h2] <;> rfl
 have hi:ixD (.str ("abcdefghijklmnopqrstuvwxyz":Str)) (.int ((x:Int)+1 - 2 * ((x:Int) % 2)))=some (.str (sgn (97+fl x))):=by
   by_cases hp:(x:Int) % 2=0
   · rw [show fl x=x+1 by unfold fl; rw [if_pos (by omega)]]
     exact let_ix (by omega) (by omega)
   · rw [show fl x=x - 1 by unfold fl; rw [if_neg (by omega)]]
     exact let_ix (by omega) (by omega)
 apply Ev.fn (ρ:=[some (.d (.str (sgn (97+x)))),none,none]) rfl
 unfold mb_x10
 walk_at "ev"
open PySem L2
noncomputable abbrev RS:=List Int × List (Int × Int)
noncomputable def glue (a j:Int) (p q:RS):RS:=(j::(p.1++a::q.1),(a,j)::(p.2++q.2))
noncomputable def fpF (M:Int->Int->Bool):Nat->Nat->Int->List RS
 | 0,_,_=>[([],[])]
 | _+1,0,_=>[([],[])]
 | f+1,L+1,a=>(List.range L).flatMap fun (t:Nat)=>if M a (a+1+(t:Int))=true then (fpF M f t (a+1)).flatMap fun p=>(fpF M f (L - 1 - t) (a+1+t+1)).map fun q=>glue a (a+1+t) p q else []
noncomputable def FP (M:Int->Int->Bool) (a b:Int):List RS:=fpF M (b - a).toNat (b - a).toNat a
theorem flatMap_congr' {α β:Type} {f g:α->List β}:∀ {l:List α},(∀ x ∈ l,f x=g x)->l.flatMap f=l.flatMap g
 | [],_=>rfl
 | a::l,h=>by
   rw [List.flatMap_cons,List.flatMap_cons,h a Z16,flatMap_congr' fun x hx=>h x (Z8 _ hx)]
theorem fpF_fuel (M:Int->Int->Bool):∀ (f L:Nat) (a:Int),L<=f->fpF M f L a=fpF M L L a:=by
 suffices H:∀ (n f g L:Nat) (a:Int),L<=n->L<=f->L<=g->fpF M f L a=fpF M g L a from fun f L a h=>H L f L L a (Z10 _) h (Z10 _)
 intro n
 induction n with
 | zero=>
   intro f g L a h _ _
   have:L=0:=by omega
   subst this
   cases f <;> cases g <;> rfl
 | succ n ih=>
   intro f g L a h h1 h2
   cases L with
   | zero=>cases f <;> cases g <;> rfl
   | succ L=>
     obtain ⟨f,rfl⟩:∃ f',f=f'+1:=⟨f - 1,by omega⟩
     obtain ⟨g,rfl⟩:∃ g',g=g'+1:=⟨g - 1,by omega⟩
     simp only [fpF]
     apply flatMap_congr'
     intro t ht
     have ht:=List.mem_range.mp ht
     rw [ih f g t _ (by omega) (by omega) (by omega),ih f g (L - 1 - t) _ (by omega) (by omega) (by omega)]
theorem FP_nil (M:Int->Int->Bool) {a b:Int} (h:b<=a):FP M a b=[([],[])]:=by
 unfold FP
 rw [show (b - a).toNat=0 by omega]
 rfl
noncomputable def FPj (M:Int->Int->Bool) (a b j:Int):List RS:=if M a j=true then (FP M (a+1) j).flatMap fun p=>(FP M (j+1) b).map fun q=>glue a j p q else []
theorem FP_step (M:Int->Int->Bool) {a b:Int} (h:a < b):FP M a b=(ups (a+1) (b - (a+1)).toNat).flatMap (FPj M a b):=by
 obtain ⟨L,hL⟩:∃ L,(b - a).toNat=L+1:=⟨(b - a).toNat - 1,by omega⟩
 unfold FP
 rw [hL,show (b - (a+1)).toNat=L by omega]
 simp only [fpF,ups,List.flatMap_map]
 apply flatMap_congr'
 intro t ht
 have ht:=List.mem_range.mp ht
 simp only [FPj,FP]
 rw [fpF_fuel M L t _ (by omega),fpF_fuel M L (L - 1 - t) _ (by omega),show (a+1+(t:Int) - (a+1)).toNat=t by omega,show (b - (a+1+(t:Int)+1)).toNat=L - 1 - t by omega]
noncomputable def FN (M:Int->Int->Bool) (a b:Int):Int:=(FP M a b).length
theorem FN_nil (M:Int->Int->Bool) {a b:Int} (h:b<=a):FN M a b=1:=by unfold FN; rw [FP_nil M h]; rfl
theorem len_pairs {α β γ:Type} (f:α->β->γ) (y:List β):∀ x:List α,(x.flatMap fun p=>y.map (f p)).length=x.length * y.length
 | []=>by simp
 | a::x=>by rw [List.flatMap_cons,Z17,Z2,len_pairs f y x,Z58,Nat.succ_mul,Nat.add_comm]
theorem FPj_len (M:Int->Int->Bool) (a b j:Int):((FPj M a b j).length:Int)=if M a j=true then FN M (a+1) j * FN M (j+1) b else 0:=by
 unfold FPj FN
 split
 · rw [len_pairs]; simp
 · rfl
theorem FN_step (M:Int->Int->Bool) {a b:Int} (h:a < b):FN M a b=((ups (a+1) (b - (a+1)).toNat).map fun j=>if M a j=true then FN M (a+1) j * FN M (j+1) b else 0).sum:=by
 unfold FN
 rw [FP_step M h]
 generalize ups (a+1) (b - (a+1)).toNat=l
 induction l with
 | nil=>rfl
 | cons x l ih=>
   rw [List.flatMap_cons,Z17,Z6,List.sum_cons,<- ih,Int.natCast_add,FPj_len]
   rfl
open PySem L2
theorem ups_in {lo:Int} {n:Nat} {j:Int}:j ∈ ups lo n ↔ lo<=j/\j < lo+n:=by
 unfold ups
 rw [Z18]
 constructor
 · rintro ⟨t,ht,rfl⟩
   have:=List.mem_range.mp ht
   omega
 · rintro ⟨h1,h2⟩
   exact ⟨(j - lo).toNat,List.mem_range.mpr (by omega),by omega⟩
theorem FN_nonneg (M:Int->Int->Bool) (a b:Int):0<=FN M a b:=by unfold FN; omega
theorem sum_le2 {f g:Int->Int}:∀ {l:List Int},(∀ x ∈ l,f x<=g x)->(l.map f).sum<=(l.map g).sum
 | [],_=>Z42 _
 | a::l,h=>by
   rw [Z6,Z6,List.sum_cons,List.sum_cons]
   have h1:=h a Z16
   have h2:=sum_le2 (l:=l) fun x hx=>h x (Z8 _ hx)
   omega
noncomputable def ctl (n:Nat):Int:=[1,0,1,0,2,0,5,0,14,0,42,0,132,0,429,0,1430,0,4862,0,16796,0,58786,0,208012,0,742900,0,2674440,0,9694845,0,35357670,0,129644790,0,477638700,0,1767263190,0,6564120420].getD n 0
theorem ctl_sum:∀ n:Nat,n<=40->1<=n->((List.range (n - 1)).map fun t=>ctl t * ctl (n - 2 - t)).sum<=ctl n:=by decide +kernel
theorem ctl_pos:∀ n:Nat,n<=40->0<=ctl n:=by decide +kernel
theorem ctl_most:∀ n:Nat,n<=40->ctl n<=6564120420:=by decide +kernel
theorem FN_ctl (M:Int->Int->Bool):∀ (n:Nat) {a b:Int},n<=40->b - a=n->FN M a b<=ctl n:=by
 intro n
 induction n using Nat.strongRecOn with
 | ind n ih=>
   intro a b h10 hn
   by_cases h:a < b
   · rw [FN_step M h]
     refine Int.le_trans (sum_le2 (g:=fun j=>ctl (j - (a+1)).toNat * ctl (b - (j+1)).toNat) fun j hj=>?_) ?_
     · have hj':=ups_in.mp hj
       have p1:=ctl_pos (j - (a+1)).toNat (by omega)
       have p2:=ctl_pos (b - (j+1)).toNat (by omega)
       split
       · exact Int.mul_le_mul (ih (j - (a+1)).toNat (by omega) (by omega) (by omega)) (ih (b - (j+1)).toNat (by omega) (by omega) (by omega)) (FN_nonneg _ _ _) p1
       · exact Int.mul_nonneg p1 p2
     · refine Int.le_trans (Int.le_of_eq ?_) (ctl_sum n h10 (by omega))
       unfold ups
       rw [Z31,show (b - (a+1)).toNat=n - 1 by omega]
       congr 1
       apply List.map_congr_left
       intro t ht
       have:=List.mem_range.mp ht
       simp only [Function.comp]
       rw [show (a+1+(t:Int) - (a+1)).toNat=t by omega,show (b - (a+1+(t:Int)+1)).toNat=n - 2 - t by omega]
   · rw [FN_nil M (by omega),show n=0 by omega]
     decide
theorem FN_bound (M:Int->Int->Bool) {a b:Int} (h:b - a<=40) (h':a<=b):0<=FN M a b/\FN M a b<=6564120420:=
 ⟨FN_nonneg _ _ _,Int.le_trans (FN_ctl M (b - a).toNat (by omega) (by omega)) (ctl_most _ (by omega))⟩
theorem FN_odd (M:Int->Int->Bool):∀ (n:Nat) {a b:Int},b - a=n->n % 2=1->FN M a b=0:=by
 intro n
 induction n using Nat.strongRecOn with
 | ind n ih=>
   intro a b hn ho
   rw [FN_step M (by omega)]
   have key:∀ l:List Int,(∀ j ∈ l,a+1<=j/\j < b)->(l.map fun j=>if M a j=true then FN M (a+1) j * FN M (j+1) b else 0).sum=0:=by
     intro l
     induction l with
     | nil=>intro _; rfl
     | cons j l ihl=>
       intro hl
       have hj:=hl j Z16
       rw [Z6,List.sum_cons,ihl fun x hx=>hl x (Z8 _ hx)]
       have z:(if M a j=true then FN M (a+1) j * FN M (j+1) b else 0)=0:=by
         split
         · by_cases hp:(j - (a+1)).toNat % 2=1
           · rw [ih (j - (a+1)).toNat (by omega) (a:=a+1) (b:=j) (by omega) hp,Int.zero_mul]
           · rw [ih (b - (j+1)).toNat (by omega) (a:=j+1) (b:=b) (by omega) (by omega),Int.mul_zero]
         · rfl
       rw [z]; rfl
   exact key _ fun j hj=>by have:=ups_in.mp hj; omega
open PySem L2
noncomputable def sm (l:List Int) (f:Int->Int):Int:=(l.map f).sum
theorem sm_nil (f:Int->Int):sm [] f=0:=rfl
theorem sm_cons (a:Int) (l:List Int) (f:Int->Int):sm (a::l) f=f a+sm l f:=by unfold sm; rw [Z6,List.sum_cons]
theorem sm_app (l m:List Int) (f:Int->Int):sm (l++m) f=sm l f+sm m f:=by unfold sm; rw [Z23,List.sum_append]
theorem sm_congr {l:List Int} {f g:Int->Int} (h:∀ x ∈ l,f x=g x):sm l f=sm l g:=by unfold sm; rw [List.map_congr_left h]
theorem sm_zero {l:List Int} {f:Int->Int} (h:∀ x ∈ l,f x=0):sm l f=0:=by
 induction l with
 | nil=>rfl
 | cons a l ih=>rw [sm_cons,h a Z16,ih fun x hx=>h x (Z8 _ hx)]; rfl
theorem sm_add (l:List Int) (f g:Int->Int):sm l (fun x=>f x+g x)=sm l f+sm l g:=by
 induction l with
 | nil=>rfl
 | cons a l ih=>rw [sm_cons,sm_cons,sm_cons,ih]; omega
theorem sm_left (c:Int) (l:List Int) (f:Int->Int):c * sm l f=sm l fun x=>c * f x:=by
 induction l with
 | nil=>rw [sm_nil,sm_nil,Int.mul_zero]
 | cons a l ih=>rw [sm_cons,sm_cons,Int.mul_add,ih]
theorem sm_right (c:Int) (l:List Int) (f:Int->Int):sm l f * c=sm l fun x=>f x * c:=by
 rw [Int.mul_comm,sm_left]; exact sm_congr fun x _=>Int.mul_comm _ _
theorem sm_swap (l m:List Int) (f:Int->Int->Int):(sm l fun x=>sm m fun y=>f x y)=sm m fun y=>sm l fun x=>f x y:=by
 induction l with
 | nil=>rw [sm_nil]; exact (sm_zero fun _ _=>rfl).symm
 | cons a l ih=>
   rw [sm_cons,ih,<- sm_add]
   exact sm_congr fun y _=>(sm_cons a l fun x=>f x y).symm
theorem ups_app (lo:Int) (m n:Nat):ups lo (m+n)=ups lo m++ups (lo+m) n:=by
 induction n with
 | zero=>simp [ups]
 | succ n ih=>rw [<- Nat.add_assoc,ups_succ,ih,ups_succ,List.append_assoc,show lo+((m+n:Nat):Int)=lo+m+n by omega]
theorem ups_cons (lo:Int) (n:Nat):ups lo (n+1)=lo::ups (lo+1) n:=by
 rw [Nat.add_comm,ups_app]
 simp [ups]
theorem sm_above {lo c:Int} {n:Nat} (h1:lo<=c) (h2:c < lo+n) (g:Int->Int):sm (ups (c+1) (lo+n - (c+1)).toNat) g=sm (ups lo n) fun q=>if c < q then g q else 0:=by
 have e:n=(c+1 - lo).toNat+(lo+n - (c+1)).toNat:=by omega
 conv=>rhs; rw [e,ups_app,sm_app,show lo+((c+1 - lo).toNat:Int)=c+1 by omega]
 rw [sm_zero (l:=ups lo _),Int.zero_add]
 · exact sm_congr fun q hq=>by rw [if_pos (by have:=ups_in.mp hq; omega)]
 · intro q hq
   rw [if_neg (by have:=ups_in.mp hq; omega)]
theorem sm_below {lo c:Int} {n:Nat} (h1:lo<=c) (h2:c<=lo+n) (g:Int->Int):sm (ups lo (c - lo).toNat) g=sm (ups lo n) fun q=>if q < c then g q else 0:=by
 have e:n=(c - lo).toNat+(lo+n - c).toNat:=by omega
 conv=>rhs; rw [e,ups_app,sm_app,show lo+((c - lo).toNat:Int)=c by omega]
 rw [sm_zero (l:=ups c _),Int.add_zero]
 · exact sm_congr fun q hq=>by rw [if_pos (by have:=ups_in.mp hq; omega)]
 · intro q hq
   rw [if_neg (by have:=ups_in.mp hq; omega)]
noncomputable def fmT (M:Int->Int->Bool) (a b j:Int):Int:=if M a j=true then FN M (a+1) j * FN M (j+1) b else 0
noncomputable def flT (M:Int->Int->Bool) (a b q:Int):Int:=if M q (b - 1)=true then FN M a q * FN M (q+1) (b - 1) else 0
theorem FN_first (M:Int->Int->Bool) {a b:Int} (h:a < b):FN M a b=sm (ups (a+1) (b - (a+1)).toNat) (fmT M a b):=FN_step M h
theorem FN_last (M:Int->Int->Bool):∀ (n:Nat) {a b:Int},b - a=n->a < b->FN M a b=sm (ups a (b - 1 - a).toNat) (flT M a b):=by
 intro n
 induction n using Nat.strongRecOn with
 | ind n ih=>
   intro a b hn h
   rw [FN_first M h]
   by_cases h2:b=a+1
   · subst h2
     rw [show (a+1 - (a+1)).toNat=0 by omega,show (a+1 - 1 - a).toNat=0 by omega]
     rfl
   · obtain ⟨m,hm⟩:∃ m:Nat,b=a+2+m:=⟨(b - (a+2)).toNat,by omega⟩
     rw [show (b - (a+1)).toNat=m+1 by omega,show (b - 1 - a).toNat=m+1 by omega,ups_succ,ups_cons,sm_app,sm_cons,sm_cons,sm_nil,Int.add_zero]
     have t0:fmT M a b (a+1+m)=flT M a b a:=by
       unfold fmT flT
       rw [show a+1+(m:Int)=b - 1 by omega,show b - 1+1=b by omega,FN_nil M (Z42 b),FN_nil M (Z42 a),Int.mul_one,Int.one_mul]
     rw [t0,Int.add_comm]
     congr 1
     have e1:sm (ups (a+1) m) (fmT M a b)=sm (ups (a+1) m) fun j=>sm (ups (a+1) m) fun q=>if j < q then (if M a j=true then FN M (a+1) j else 0) * (if M q (b - 1)=true then FN M (j+1) q * FN M (q+1) (b - 1) else 0) else 0:=by
       refine sm_congr fun j hj=>?_
       have hj:=ups_in.mp hj
       rw [<- sm_above (c:=j) (by omega) (by omega),<- sm_left,show (a+1+(m:Int) - (j+1)).toNat=(b - 1 - (j+1)).toNat by omega]
       have:=ih (b - (j+1)).toNat (by omega) (a:=j+1) (b:=b) (by omega) (by omega)
       unfold fmT
       split
       · rw [this]; rfl
       · rw [Int.zero_mul]
     have e2:sm (ups (a+1) m) (flT M a b)=sm (ups (a+1) m) fun q=>sm (ups (a+1) m) fun j=>if j < q then (if M a j=true then FN M (a+1) j else 0) * (if M q (b - 1)=true then FN M (j+1) q * FN M (q+1) (b - 1) else 0) else 0:=by
       refine sm_congr fun q hq=>?_
       have hq:=ups_in.mp hq
       rw [<- sm_below (c:=q) (by omega) (by omega)]
       unfold flT
       split
       · rename_i hm
         rw [FN_first M (show a < q by omega),sm_right,show (q - (a+1)).toNat=(q - (a+1)).toNat from rfl]
         refine sm_congr fun j _=>?_
         unfold fmT
         split
         · rw [Int.mul_assoc]
         · rw [Int.zero_mul,Int.zero_mul]
       · symm
         exact sm_zero fun j _=>Int.mul_zero _
     rw [e1,e2]
     exact sm_swap _ _ _
open PySem L2
theorem bit_of {x:Int} {n:Nat} (h:x.natAbs < 2 ^ n) (hn:n<=1000000):BitOk x:=by
 unfold BitOk
 by_cases e:x.natAbs=0
 · rw [e]; decide
 · exact Z15 ((Nat.log2_lt e).mpr h) hn
theorem bit_small {x:Int} (h:-1000000000000000000 < x/\x < 1000000000000000000):BitOk x:=bit_of (n:=60) (by omega) (by omega)
theorem log_of {x:Int} {n:Nat} (h:x.natAbs < 2 ^ n) (hn:n<=9000) (h0:x ≠ 0):x.natAbs.log2 < 9000:=Z15 ((Nat.log2_lt (by omega)).mpr h) hn
theorem mulYI {i j:Int} (h1:BitOk i) (h2:BitOk j):mulY (.int i) (.int j)=some (.int (i * j)):=if_pos ⟨h1,h2⟩
theorem divYI {i j:Int} (h1:0 < j) (h2:j.natAbs.log2 < 9000):divY (.int i) (.int j)=some (.int (i / j)):=by
 show (if _ then _ else _)=_
 rw [if_pos ⟨by omega,h2⟩,Int.fdiv_eq_ediv_of_nonneg _ (by omega)]
local macro_rules | `(tactic| walk_at "bits")=>`(tactic| first | assumption | exact bit_small (by omega))
local macro_rules | `(tactic| walk_at $s:str) => Mir.tab s.getString "opl\t0\tS\tq Mir.mulYI <bits> <bits>\tq Mir.max2I _ _\tq Mir.absI' _"
theorem take_ok (s:Int) {n:Int} (h:0 < n) (hb:n.natAbs.log2 < 9000):m_x8 [.d (.lst [.int s]),.d (.int n)]=some (.d (.int (s % n)),.d (.lst [.int (s / n)])):=by
 have dv:=divYI (i:=s) h hb
 have i0:ixD (.lst [.int s]) (.int 0)=some (.int s):=rfl
 apply Ev.fnM (ρ:=[some (.d (.lst [.int s])),some (.d (.int n)),none]) rfl
 unfold mb_x8
 walk_at "ev"
 · rfl
 · rfl
 · rfl
open PySem L2
local macro_rules | `(tactic| walk_at $s:str) => Mir.tab s.getString "opl\t0\tS\tq Mir.mulYI <bits> <bits>\tq Mir.absI' _"
theorem pow_le9 {k:Nat} (h:k<=9):(2147483629:Int) ^ k<=2147483629 ^ 9:=by
 have:k=0∨k=1∨k=2∨k=3∨k=4∨k=5∨k=6∨k=7∨k=8∨k=9:=by omega
 rcases this with rfl | rfl | rfl | rfl | rfl | rfl | rfl | rfl | rfl | rfl <;> decide +kernel
theorem nat_lt {x B:Int} {n:Nat} (h:-B < x/\x < B) (hB:B.natAbs < 2 ^ n):x.natAbs < 2 ^ n:=Nat.lt_trans (by omega) hB
theorem store_ok (ns:List Int) (hns:ns.length<=63) {k:Int} (h0:0<=k) (h1:k < 1000):∃ s,m_x7 [.scr ns,.d (.int k)]=some (.d (.lst [.int s])):=by
 have done:∀ (n:Int),(∃ s ρ',mSeq (mIfS (mB (mOp (eqD 4 false) (mOp modD (mVar 2) (mC (.int 3))) (mC (.int 0)))) (mRetNew (mnLst md_x7 (mCons (mOp divY (mVar 2) (mC (.int 3))) mNil))) (mNext)) (mSeq (mKill [1,2] (mAsg md_x7 (mOp addD (mOp modD (mVar 2) (mC (.int 2147483629))) (mOp mulY (mC (.int 40014)) (mOp addD (mVar 1) (mC (.int 1))))) (mgName 3))) (mSeq (mAsg md_x7 (mC (.int 0)) (mgName 4)) (mSeq (mKill [3,5] (mFor (mRng1 (mCons (mC (.int 9)) mNil)) (mgName 5) lb_x7_0)) (mRetNew (mnLst md_x7 (mCons (mVar 4) mNil)))))) [none,some (.d (.int k)),some (.d (.int n)),none,none,none]=some (.ret (.d (.lst [.int s])),ρ')):=by
   intro n
   by_cases w:n % 3=0
   · have dv:=divYI (i:=n) (j:=3) (by decide) (by decide)
     refine ⟨n / 3,?_⟩
     apply Exists.intro
     walk_at "ev"
   · have m0:=Int.emod_nonneg n (show (2147483629:Int) ≠ 0 by decide)
     have m1:=Int.emod_lt_of_pos n (show (0:Int) < 2147483629 by decide)
     obtain ⟨⟨mx,fd⟩,⟨a1,a2,a3,a4⟩,loop⟩:=for_inv (g:=mgName 5) (f:=lb_x7_0) (e:=D.int) (l:=ups 0 (9:Int).toNat) (env:=fun x:Int × Int=>[none,none,none,some (.d (.int x.1)),some (.d (.int x.2)),none])
       (fun pre x=>0<=x.1/\x.1 < 1000000000000/\0<=x.2/\x.2 < 2147483629 ^ pre.length)
       (fun pre a post x hsp hP=>by
         obtain ⟨mx,fd⟩:=x
         obtain ⟨q1,q2,q3,q4⟩:=hP
         obtain ⟨b1,b2,_⟩:=ups_split hsp
         dsimp only at q1 q2 q3 q4
         have hl:pre.length < 9:=b2
         have e0:=Int.emod_nonneg (mx * mx+69069 * mx+a+1) (show (2147483629:Int) ≠ 0 by decide)
         have e1:=Int.emod_lt_of_pos (mx * mx+69069 * mx+a+1) (show (0:Int) < 2147483629 by decide)
         generalize em:(mx * mx+69069 * mx+a+1) % 2147483629=mm at e0 e1
         have p1:=pow_le9 (k:=pre.length) (by omega)
         have bf:BitOk fd:=bit_of (n:=320) (nat_lt (B:=2147483629 ^ 9) ⟨by omega,by omega⟩ (by decide +kernel)) (by omega)
         refine ⟨(mm,fd * 2147483629+mm),⟨by dsimp only; omega,by dsimp only; omega,?_,?_⟩,?_⟩
         · dsimp only
           have:=Int.mul_nonneg q3 (show (0:Int)<=2147483629 by decide)
           omega
         · dsimp only
           have h2:(fd+1) * 2147483629<=2147483629 ^ pre.length * 2147483629:=Int.mul_le_mul_of_nonneg_right (by omega) (by decide)
           rw [show (pre++[a]).length=pre.length+1 by simp,Int.pow_succ]
           rw [Int.add_mul] at h2
           omega
         · apply Ev.turn
           walk_at "ev"
           unfold lb_x7_0
           walk_at "ev"
           rw [em]) (n % 2147483629+40014 * (k+1),0) ⟨by dsimp only; omega,by dsimp only; omega,by dsimp only; omega,by simp⟩
     refine ⟨fd,?_⟩
     apply Exists.intro
     walk_at "ev"
 by_cases w:k < (ns.length:Int)
 · obtain ⟨s,ρ',hd⟩:=done (ns.getD k.toNat 0)
   have ix:atI ns k=some (ns.getD k.toNat 0):=by
     rw [atI_len ⟨h0,w⟩,Z5,Z3 (by omega)]
     rfl
   refine ⟨s,?_⟩
   apply Ev.fn (ρ:=[some (.scr ns),some (.d (.int k)),none,none,none,none]) rfl
   · unfold mb_x7
     apply Ev.seqA
     · walk_at "ev"
     apply Ev.afterN
     apply Ev.seqA
     · walk_at "ev"
     apply Ev.afterN
     exact hd
   · rfl
 · obtain ⟨s,ρ',hd⟩:=done (7 * k+5)
   refine ⟨s,?_⟩
   apply Ev.fn (ρ:=[some (.scr ns),some (.d (.int k)),none,none,none,none]) rfl
   · unfold mb_x7
     apply Ev.seqA
     · walk_at "ev"
     apply Ev.afterN
     apply Ev.seqA
     · walk_at "ev"
     apply Ev.afterN
     exact hd
   · rfl
open PySem L2
noncomputable def tx9 (ls:List Nat):Str:=txt (ls.map (97+·))
noncomputable def lt9 (ls:List Nat) (i:Int):Nat:=ls.getD i.toNat 0
noncomputable def fe (ls:List Nat) (a j:Int):Bool:=decide (lt9 ls j=fl (lt9 ls a))
noncomputable def Ls (ls:List Nat):Prop:=∀ x ∈ ls,x < 26
theorem lt9_lt {ls:List Nat} (h:Ls ls) {i:Int} (hi:0<=i/\i < ls.length):lt9 ls i < 26:=by
 unfold lt9
 rw [Z5,Z3 (by omega)]
 exact h _ (List.getElem_mem _)
theorem ix9 {ls:List Nat} (hl:ls.length < 1000000) {i:Int} (hi:0<=i/\i < ls.length):ixD (.str (tx9 ls)) (.int i)=some (.str (sgn (97+lt9 ls i))):=by
 unfold tx9
 rw [ixTx (by simpa using hi) (by simpa using hl)]
 unfold lt9
 rw [Z5,Z21,Z5,Z3 (by omega)]
 rfl
theorem len9 {ls:List Nat} (hl:ls.length < 1000000):lenD [.str (tx9 ls)]=some (.int ls.length):=by
 unfold tx9
 rw [lenTx (by simpa using hl)]
 simp
noncomputable def GoodF (ls:List Nat) (kvs:List (List Key × D)) (lo n:Int):Prop:=∀ x y,lo<=x->x<=y->y<=n->valD kvs [.inl x,.inl y]=some (.int (FN (fe ls) x y))
noncomputable def QL (ls:List Nat) (a s:Int):List (Int × Int):=((ups (a+1) (s - (a+1)).toNat).filter (fe ls a)).map fun p=>(p,FN (fe ls) (a+1) p * FN (fe ls) (p+1) s)
local macro_rules | `(tactic| walk_at $s:str) => Mir.tab s.getString "opl\t0\tS\tq Mir.mulYI <bits> <bits>"
theorem fcounts_ok {ls:List Nat} (hls:Ls ls) (hl:ls.length<=40) {kvs:List (List Key × D)} {a s:Int} (ha:0<=a) (has:a < s) (hs:s<=ls.length) (hg:GoodF ls kvs (a+1) ls.length) :
   m_x2 [.d (.str (tx9 ls)),.dc kvs,.d (.int a),.d (.int s)]=some (.d (.lst ((QL ls a s).map pairD))):=by
 have ia:=ix9 (ls:=ls) (by omega) (i:=a) (by omega)
 have fa:=fellow_ok (lt9_lt hls (i:=a) (by omega))
 obtain ⟨l,⟨c1,c2⟩,loop⟩:=for_inv (g:=mgName 5) (f:=lb_x2_0) (e:=D.int) (l:=ups (a+1) (s - (a+1)).toNat) (env:=fun (l:List (Int × Int))=>[some (.d (.str (tx9 ls))),some (.dc kvs),some (.d (.int a)),some (.d (.int s)),some (.d (.lst (l.map pairD))),none])
   (fun pre l=>l=(pre.filter (fe ls a)).map (fun p=>(p,FN (fe ls) (a+1) p * FN (fe ls) (p+1) s))/\l.length<=pre.length)
   (fun pre p post l hsp hp=>by
     obtain ⟨hp1,hp2⟩:=hp
     obtain ⟨hp3,hp4,_⟩:=ups_split hsp
     have ip:=ix9 (ls:=ls) (by omega) (i:=p) (by omega)
     have g1:=hg (a+1) p (by omega) (by omega) (by omega)
     have g2:=hg (p+1) s (by omega) (by omega) (by omega)
     have b1:=FN_bound (fe ls) (a:=a+1) (b:=p) (by omega) (by omega)
     have b2:=FN_bound (fe ls) (a:=p+1) (b:=s) (by omega) (by omega)
     cases e:fe ls a p with
     | true=>
       have e':sgn (97+lt9 ls p)=sgn (97+fl (lt9 ls a)):=by rw [of_decide_eq_true e]
       refine ⟨l++[(p,FN (fe ls) (a+1) p * FN (fe ls) (p+1) s)],⟨by rw [hp1]; simp [List.filter_append,e],by simp; omega⟩,?_⟩
       apply Ev.turn
       walk_at "ev"
       unfold lb_x2_0
       walk_at "ev"
       simp
     | false=>
       have e':¬ sgn (97+lt9 ls p)=sgn (97+fl (lt9 ls a)):=fun z=>of_decide_eq_false e (by have:=sgn_inj.mp z; omega)
       refine ⟨l,⟨by rw [hp1]; simp [List.filter_append,e],by simp; omega⟩,?_⟩
       apply Ev.turn
       walk_at "ev"
       unfold lb_x2_0
       walk_at "ev") [] ⟨rfl,by simp⟩
 have e1:l=QL ls a s:=c1
 subst e1
 apply Ev.fn (ρ:=[some (.d (.str (tx9 ls))),some (.dc kvs),some (.d (.int a)),some (.d (.int s)),none,none]) rfl
 unfold mb_x2
 walk_at "ev"
open PySem L2
noncomputable def PlainF (kvs:List (List Key × D)):Prop:=∀ kv ∈ kvs,D.imm kv.2=true
theorem QL_sum (ls:List Nat) {a s:Int} (h:a < s):((QL ls a s).map (·.2)).sum=FN (fe ls) a s:=by
 rw [FN_step _ h]
 unfold QL
 rw [Z31]
 exact sum_filter (c:=fe ls a) (f:=fun p=>FN (fe ls) (a+1) p * FN (fe ls) (p+1) s) _
theorem sum_ql (ls:List Nat) {a s:Int} (h:a < s):sumD [.lst ((QL ls a s).map fun p=>D.int p.2)]=some (.int (FN (fe ls) a s)):=by
 rw [show ((QL ls a s).map fun p=>D.int p.2)=((QL ls a s).map (·.2)).map D.int by rw [Z31]; rfl,sum_ints,QL_sum ls h]
theorem QL_len (ls:List Nat) (a s:Int):(QL ls a s).length<=(s - (a+1)).toNat:=by
 have:=List.length_filter_le (fe ls a) (ups (a+1) (s - (a+1)).toNat)
 rw [ups_len] at this
 simp [QL]
 omega
theorem fc_inner {ls:List Nat} (hls:Ls ls) (hl:ls.length<=40) {kvs:List (List Key × D)} {a:Int} (ha:0<=a) (han:a < ls.length) (hg:GoodF ls kvs (a+1) ls.length) (h0:valD kvs [.inl a,.inl a]=some (.int 1)) (hp:PlainF kvs) (hk:kvs.length < 10000) :
   ∃ kvs',GoodF ls kvs' a ls.length/\PlainF kvs'/\kvs'.length<=kvs.length+41 /\
     forM (mgName 4) lb_x3_0 ((ups (a+1) ((ls.length:Int)+1 - (a+1)).toNat).map D.int) [some (.d (.str (tx9 ls))),some (.d (.int ls.length)),some (.dc kvs),some (.d (.int a)),none] =
       some (.nx,[some (.d (.str (tx9 ls))),some (.d (.int ls.length)),some (.dc kvs'),some (.d (.int a)),none]):=by
 obtain ⟨kvs',⟨c1,c2,c3,c4⟩,loop⟩:=for_inv (g:=mgName 4) (f:=lb_x3_0) (e:=D.int) (l:=ups (a+1) ((ls.length:Int)+1 - (a+1)).toNat) (env:=fun (kvs:List (List Key × D))=>[some (.d (.str (tx9 ls))),some (.d (.int ls.length)),some (.dc kvs),some (.d (.int a)),none])
   (fun pre k=>GoodF ls k (a+1) ls.length/\(∀ y,a<=y->y<=a+pre.length->valD k [.inl a,.inl y]=some (.int (FN (fe ls) a y)))/\PlainF k/\k.length<=kvs.length+pre.length)
   (fun pre s post k hsp hP=>by
     obtain ⟨p1,p2,p3,p4⟩:=hP
     obtain ⟨e1,e2,_⟩:=ups_split hsp
     have pk:=fcounts_ok hls hl (kvs:=k) (a:=a) (s:=s) ha (by omega) (by omega) p1
     have su:=sum_ql ls (a:=a) (s:=s) (by omega)
     have hpl:=QL_len ls a s
     obtain ⟨y1,y2,lp⟩:=Ev.lp_map2 (md:=mdIn md_x3 2 [] []) (f:=mVar 1) (e1:=fun p:Int × Int=>.int p.1) (e2:=fun p=>.int p.2) (h:=fun p=>.int p.2) (r:=[]) (l:=QL ls a s) (fun p _=>⟨_,rfl,rfl⟩) (by omega) none none
     refine ⟨putD k [.inl a,.inl s] (.int (FN (fe ls) a s)),⟨?_,?_,putD_vals (P:=fun d=>D.imm d=true) p3 rfl,by have:=putD_len k [.inl a,.inl s] (.int (FN (fe ls) a s)); simp; omega⟩,?_⟩
     · intro x y h1 h2 h3
       rw [valD_put,if_neg (by intro h; injection h with h _; injection h with h; omega)]
       exact p1 x y h1 h2 h3
     · intro y h1 h2
       rw [valD_put]
       by_cases e:y=s
       · subst e; rw [if_pos rfl]
       · rw [if_neg (by intro h; injection h with _ h; injection h with h _; injection h with h; exact e h)]
         exact p2 y h1 (by simp at h2; omega)
     · apply Ev.turn
       walk_at "ev"
       unfold lb_x3_0
       walk_at "ev") kvs ⟨hg,fun y h1 h2=>by
         have:y=a:=by simp at h2; omega
         subst this; rw [h0,FN_nil _ (Z42 _)],hp,by simp⟩
 rw [ups_len] at c2 c4
 refine ⟨kvs',?_,c3,by omega,loop⟩
 intro x y h1 h2 h3
 by_cases e:x=a
 · subst e; exact c2 y h2 (by omega)
 · exact c1 x y (by omega) h2 h3
theorem fc_ok {ls:List Nat} (hls:Ls ls) (hl:ls.length<=40):∃ kvs,GoodF ls kvs 0 ls.length/\m_x3 [.d (.str (tx9 ls))]=some (.dc kvs):=by
 have hlen:=len9 (ls:=ls) (by omega)
 obtain ⟨kvs,⟨c1,c2,c3⟩,loop⟩:=for_inv (g:=mgName 3) (f:=lb_x3_1) (e:=D.int) (l:=Ev.downs 0 (ls.length:Int).toNat) (env:=fun (kvs:List (List Key × D))=>[some (.d (.str (tx9 ls))),some (.d (.int ls.length)),some (.dc kvs),none,none])
   (fun pre k=>GoodF ls k (ls.length - pre.length) ls.length/\PlainF k/\k.length<=1+42 * pre.length)
   (fun pre a post k hsp hP=>by
     obtain ⟨p1,p2,p3⟩:=hP
     obtain ⟨e1,e2⟩:=Ev.downs_split hsp
     have ea:a+1=ls.length - pre.length:=by omega
     have hk':=putD_len k [.inl a,.inl a] (.int 1)
     obtain ⟨k',q1,q2,q3,q4⟩:=fc_inner hls hl (kvs:=putD k [.inl a,.inl a] (.int 1)) (a:=a) (by omega) (by omega) (by
         intro x y h1 h2 h3
         rw [valD_put,if_neg (by intro h; injection h with h _; injection h with h; omega)]
         exact p1 x y (by omega) h2 h3) (by rw [valD_put,if_pos rfl]) (putD_vals (P:=fun d=>D.imm d=true) p2 rfl) (by omega)
     refine ⟨k',⟨?_,q2,by simp; omega⟩,?_⟩
     · rw [show (ls.length:Int) - (pre++[a]).length=a by simp; omega]
       exact q1
     · apply Ev.turn
       walk_at "ev"
       unfold lb_x3_1
       walk_at "ev") [([.inl (ls.length:Int),.inl (ls.length:Int)],.int 1)] ⟨by
         intro x y h1 h2 h3
         simp at h1
         have:x=ls.length:=by omega
         have:y=ls.length:=by omega
         subst x y
         rw [FN_nil _ (Z42 _)]
         simp [valD],by intro kv h; simp at h; subst h; rfl,by simp⟩
 simp only [Ev.downs,Z2,List.length_range] at c1 c3
 rw [show (ls.length:Int) - (ls.length:Int).toNat=0 by omega] at c1
 refine ⟨kvs,c1,?_⟩
 have im:D.immL (kvs.map (·.2))=true:=immL_of fun d hd=>by
   obtain ⟨kv,h1,rfl⟩:=Z18.mp hd
   exact c2 kv h1
 apply Ev.fn (ρ:=[some (.d (.str (tx9 ls))),none,none,none,none]) rfl
 unfold mb_x3
 walk_at "ev"
theorem howmany_ok {ls:List Nat} (hls:Ls ls) (hl:ls.length<=40):m_x4 [.d (.str (tx9 ls))]=some (.d (.int (FN (fe ls) 0 ls.length))):=by
 obtain ⟨kvs,h1,h2⟩:=fc_ok hls hl
 have h3:=h1 0 ls.length (Z42 _) (by omega) (Z42 _)
 have hlen:=len9 (ls:=ls) (by omega)
 apply Ev.fn (ρ:=[some (.d (.str (tx9 ls)))]) rfl
 unfold mb_x4
 walk_at "ev"
open PySem L2
theorem while_inv {β:Type} {fc:MT} {fb:MS} {env:β->En} (P Q:β->Prop) (m:β->Nat)
   (hs:∀ b,P b->(Q b/\fc (env b)=some (false,env b))∨∃ b',fc (env b)=some (true,env b)/\fb (env b)=some (.nx,env b')/\P b'/\m b' < m b) :
   ∀ (n:Nat) (b:β),P b->m b < n->∃ b',P b'/\Q b'/\whM fc fb n (env b)=some (.nx,env b'):=by
 intro n
 induction n with
 | zero=>intro b _ h; omega
 | succ n ih=>
   intro b hb hm
   rcases hs b hb with ⟨q,h⟩ | ⟨b',h1,h2,h3,h4⟩
   · refine ⟨b,hb,q,?_⟩
     unfold whM
     simp only [h,Z1]
     simp
   · obtain ⟨c,c1,c2,c3⟩:=ih b' h3 (by omega)
     refine ⟨c,c1,c2,?_⟩
     unfold whM
     simp only [h1,Z1,h2]
     simpa using c3
theorem rep_flat (n:Nat) (d:D):(List.replicate n [d]).flatten=List.replicate n d:=by
 induction n with
 | zero=>rfl
 | succ n ih=>rw [Z22,Z39,ih,Z22]; rfl
theorem rep_ok {n:Int} {d:D} (h:0<=n/\n < 1000000):mulX (.lst [d]) (.int n)=some (.lst (List.replicate n.toNat d)):=by
 have hs:n.toNat < sizeLine:=sz_lt (by omega)
 have:-(2 ^ 63)<=n/\n < 2 ^ 63/\[d].length * n.toNat<=sizeLine:=⟨by omega,by omega,by simp; omega⟩
 show (if _ then _ else _)=_
 rw [if_pos this,rep_flat]
local macro_rules | `(tactic| walk_at $s:str) => Mir.tab s.getString "evS\t0\tF G Eq (Mir.mWhile _ _ _ _) _; S"
open PySem L2
theorem jx0 {a:D} {l:List D}:ixD (.tup (a::l)) (.int 0)=some a:=by
 show atI (a::l) 0=some a
 rw [atI_len (by simp)]; rfl
theorem jx1 {a b:D} {l:List D}:ixD (.tup (a::b::l)) (.int 1)=some b:=by
 show atI (a::b::l) 1=some b
 rw [atI_len (by simp; omega)]; rfl
theorem ix_pair {l:List (Int × Int)} {i:Nat} (h:i < l.length):ixD (.lst (l.map pairD)) (.int (i:Int))=some (pairD (l.getD i (0,0))):=by
 show atI (l.map pairD) i=_
 rw [atI_len (by simp; omega),Z21,Z5]
 simp [h]
local macro_rules | `(tactic| walk_at $s:str) => Mir.tab s.getString "opl\t0\tq Mir.jx0\tq Mir.jx1"
theorem at9 {l:List (Int × Int)} (hl:l.length < 1000) (hp:∀ q ∈ l,0<=q.2) {pre post:List (Int × Int)} {q:Int × Int} (e:l=pre++q::post) {k:Int} (h0:0<=k) (h1:k < q.2) :
   m_x0 [.d (.lst (l.map pairD)),.d (.int ((pre.map (·.2)).sum+k))]=some (.d (.tup [.int q.1,.int k])):=by
 have hlen:l.length=pre.length+1+post.length:=by rw [e]; simp; omega
 obtain ⟨i,⟨c1,c2⟩,c3,loop⟩:=while_inv (fc:=mB (mOp geD (mVar 3) (mOp ixD (mOp ixD (mVar 0) (mVar 2)) (mC (.int 1))))) (fb:=lb_x0_0) (env:=fun i:Nat=>[some (.d (.lst (l.map pairD))),none,some (.d (.int i)),some (.d (.int (((pre.drop i).map (·.2)).sum+k)))])
   (fun i=>i<=pre.length/\True) (fun i=>i=pre.length) (fun i=>pre.length - i)
   (fun i hi=>by
     obtain ⟨hi,_⟩:=hi
     have x:=ix_pair (l:=l) (i:=i) (by omega)
     by_cases hlt:i < pre.length
     · right
       have eg:l.getD i (0,0)=pre[i]:=by
         rw [e,Z5,List.getElem?_append_left hlt,Z3 hlt]; rfl
       rw [eg] at x
       have hs:((pre.drop i).map (·.2)).sum=pre[i].2+((pre.drop (i+1)).map (·.2)).sum:=by
         rw [List.drop_eq_getElem_cons hlt,Z6,List.sum_cons]
       have hpos:=hp pre[i] (by rw [e]; exact Z37 _ (List.getElem_mem hlt))
       have hge:0<=((pre.drop (i+1)).map (·.2)).sum:=by
         have key:∀ m:List (Int × Int),(∀ q ∈ m,0<=q.2)->0<=(m.map (·.2)).sum:=by
           intro m
           induction m with
           | nil=>intro _; simp
           | cons a m ih=>intro hm; rw [Z6,List.sum_cons]; have:=hm a (by simp); have:=ih fun q hq=>hm q (by simp [hq]); omega
         exact key _ fun q hq=>by have:=hp q (by rw [e]; exact Z37 _ (List.mem_of_mem_drop hq)); omega
       have hc:pre[i].2<=((pre.drop i).map (·.2)).sum+k:=by omega
       refine ⟨i+1,?_,?_,⟨by omega,trivial⟩,by omega⟩
       · rw [<- decide_eq_true hc]
         walk_at "ev"
       · apply Ev.top
         unfold lb_x0_0
         walk_at "ev"
         rw [hs,show pre[i].2+((pre.drop (i+1)).map (·.2)).sum+k - pre[i].2=((pre.drop (i+1)).map (·.2)).sum+k by omega]
         rfl
     · left
       have ei:i=pre.length:=by omega
       subst ei
       have eg:l.getD pre.length (0,0)=q:=by
         rw [e,Z5,List.getElem?_append_right (Z10 _)]; simp
       rw [eg] at x
       refine ⟨rfl,?_⟩
       have hc:¬ q.2<=((pre.drop pre.length).map (·.2)).sum+k:=by rw [List.drop_length]; simp; omega
       rw [<- decide_eq_false hc]
       walk_at "ev") 100000 0 ⟨Z30 _,trivial⟩ (by omega)
 subst c3
 have x:=ix_pair (l:=l) (i:=pre.length) (by omega)
 have eg:l.getD pre.length (0,0)=q:=by
   rw [e,Z5,List.getElem?_append_right (Z10 _)]; simp
 rw [eg] at x
 replace loop:mWhile 100000 (mB (mOp geD (mVar 3) (mOp ixD (mOp ixD (mVar 0) (mVar 2)) (mC (.int 1))))) lb_x0_0 [some (.d (.lst (l.map pairD))),none,some (.d (.int 0)),some (.d (.int ((pre.map (·.2)).sum+k)))]=some (.nx,[some (.d (.lst (l.map pairD))),none,some (.d (.int pre.length)),some (.d (.int (((pre.drop pre.length).map (·.2)).sum+k)))]):=loop
 rw [List.drop_length] at loop
 apply Ev.fn (ρ:=[some (.d (.lst (l.map pairD))),some (.d (.int ((pre.map (·.2)).sum+k))),none,none]) rfl
 unfold mb_x0
 walk_at "ev"
 simp
open PySem L2
theorem flatMap_at {α β:Type} {f:α->List β}:∀ {l:List α} {k:Nat} {x:β},(l.flatMap f)[k]?=some x->∃ (pre post:List α) (j:α) (k':Nat),l=pre++j::post/\k=(pre.map fun i=>(f i).length).sum+k'/\(f j)[k']?=some x
 | [],k,x,h=>by simp at h
 | a::l,k,x,h=>by
   rw [List.flatMap_cons] at h
   by_cases hk:k < (f a).length
   · rw [List.getElem?_append_left hk] at h
     exact ⟨[],l,a,k,rfl,by simp,h⟩
   · rw [List.getElem?_append_right (by omega)] at h
     obtain ⟨pre,post,j,k',e1,e2,e3⟩:=flatMap_at h
     exact ⟨a::pre,post,j,k',by rw [e1]; rfl,by rw [Z6,List.sum_cons]; omega,e3⟩
theorem pairs_at {α β γ:Type} {g:α->β->γ} {y:List β}:∀ {x:List α} {k:Nat} {z:γ},(x.flatMap fun p=>y.map (g p))[k]?=some z->∃ (k1 k2:Nat) (p:α) (q:β),x[k1]?=some p/\y[k2]?=some q/\k=k1 * y.length+k2/\z=g p q
 | [],k,z,h=>by simp at h
 | a::x,k,z,h=>by
   rw [List.flatMap_cons] at h
   by_cases hk:k < y.length
   · rw [List.getElem?_append_left (by simpa using hk),Z21,Z3 hk] at h
     cases h
     exact ⟨0,k,a,y[k],rfl,Z3 hk,by omega,rfl⟩
   · rw [List.getElem?_append_right (by simp; omega),Z2] at h
     obtain ⟨k1,k2,p,q,e1,e2,e3,e4⟩:=pairs_at h
     exact ⟨k1+1,k2,p,q,by simpa using e1,e2,by rw [Nat.succ_mul]; omega,e4⟩
theorem FP_hoops (M:Int->Int->Bool):∀ (n:Nat) {a b:Int},b - a=n->∀ p ∈ FP M a b,(p.2.length:Int)<=b - a:=by
 intro n
 induction n using Nat.strongRecOn with
 | ind n ih=>
   intro a b hn p hp
   by_cases h:a < b
   · rw [FP_step M h] at hp
     obtain ⟨j,hj,hp⟩:=List.mem_flatMap.mp hp
     have hj':=ups_in.mp hj
     unfold FPj at hp
     split at hp
     · obtain ⟨x,hx,hp⟩:=List.mem_flatMap.mp hp
       obtain ⟨y,hy,rfl⟩:=Z18.mp hp
       have h1:=ih (j - (a+1)).toNat (by omega) (a:=a+1) (b:=j) (by omega) x hx
       have h2:=ih (b - (j+1)).toNat (by omega) (a:=j+1) (b:=b) (by omega) y hy
       simp only [glue,Z58,Z17]
       omega
     · cases hp
   · rw [FP_nil M (by omega)] at hp
     obtain rfl:=Z12.mp hp
     simp
     omega
theorem QL_nonneg (ls:List Nat) (a s:Int):∀ q ∈ QL ls a s,0<=q.2:=by
 intro q hq
 unfold QL at hq
 obtain ⟨p,_,rfl⟩:=Z18.mp hq
 exact Int.mul_nonneg (FN_nonneg _ _ _) (FN_nonneg _ _ _)
theorem sum_cast (f:Int->Nat):∀ l:List Int,(((l.map f).sum:Nat):Int)=(l.map fun i=>(f i:Int)).sum
 | []=>rfl
 | a::l=>by rw [Z6,Z6,List.sum_cons,List.sum_cons,Int.natCast_add,sum_cast f l]
local macro_rules | `(tactic| walk_at $s:str) => Mir.tab s.getString "opl\t0\tS\tq Mir.jx0\tq Mir.jx1"
theorem fha_ok {ls:List Nat} (hls:Ls ls) (hl:ls.length<=40) {kvs:List (List Key × D)} (hg:GoodF ls kvs 0 ls.length):∀ (n:Nat) {a e:Int},e - a=n->0<=a->e<=ls.length->∀ {k:Nat} {x:RS},(FP (fe ls) a e)[k]?=some x ->
   ∀ f,n < f->mr_x5 f [.d (.str (tx9 ls)),.dc kvs,.d (.int a),.d (.int e),.d (.int k)]=some (.d (.lst (x.2.map pairD))):=by
 intro n
 induction n using Nat.strongRecOn with
 | ind n ih=>
   intro a e hn ha he k x hx f hf
   obtain ⟨f,rfl⟩:∃ f',f=f'+1:=⟨f - 1,by omega⟩
   by_cases h:a < e
   · rw [FP_step _ h] at hx
     obtain ⟨pre,post,j,k',e1,e2,e3⟩:=flatMap_at hx
     have hj':a+1<=j/\j < e:=by
       have:=ups_in.mp (show j ∈ ups (a+1) (e - (a+1)).toNat by rw [e1]; simp)
       omega
     unfold FPj at e3
     split at e3
     case isFalse=>simp at e3
     rename_i hm
     obtain ⟨k1,k2,p,q,g1,g2,g3,rfl⟩:=pairs_at e3
     have j1:=ih (j - (a+1)).toNat (by omega) (a:=a+1) (e:=j) (by omega) (by omega) (by omega) g1 f (by omega)
     have j2:=ih (e - (j+1)).toNat (by omega) (a:=j+1) (e:=e) (by omega) (by omega) (by omega) g2 f (by omega)
     have pk:=fcounts_ok hls (by omega) (kvs:=kvs) (a:=a) (s:=e) ha (by omega) he fun x y h1 h2 h3=>hg x y (by omega) h2 h3
     have hpl:=QL_len ls a e
     have gv:=hg (j+1) e (by omega) (by omega) he
     have b1:k1 < (FP (fe ls) (a+1) j).length:=(Z9.mp g1).1
     have b2:k2 < (FP (fe ls) (j+1) e).length:=(Z9.mp g2).1
     have l1:=FP_hoops (fe ls) (j - (a+1)).toNat (a:=a+1) (b:=j) (by omega) p (List.mem_of_getElem? g1)
     have l2:=FP_hoops (fe ls) (e - (j+1)).toNat (a:=j+1) (b:=e) (by omega) q (List.mem_of_getElem? g2)
     have fb:=FN_bound (fe ls) (a:=j+1) (b:=e) (by omega) (by omega)
     have hsp:QL ls a e=(pre.filter (fe ls a)).map (fun p=>(p,FN (fe ls) (a+1) p * FN (fe ls) (p+1) e))++(j,FN (fe ls) (a+1) j * FN (fe ls) (j+1) e)::(post.filter (fe ls a)).map (fun p=>(p,FN (fe ls) (a+1) p * FN (fe ls) (p+1) e)):=by
       unfold QL
       rw [e1,List.filter_append,List.filter_cons,if_pos hm,Z23,Z6]
     have hsum:(((pre.filter (fe ls a)).map (fun p=>(p,FN (fe ls) (a+1) p * FN (fe ls) (p+1) e))).map (·.2)).sum=(((pre.map fun i=>(FPj (fe ls) a e i).length).sum:Nat):Int):=by
       rw [sum_cast,Z31]
       refine (sum_filter (c:=fe ls a) (f:=fun p=>FN (fe ls) (a+1) p * FN (fe ls) (p+1) e) pre).trans ?_
       congr 1
       apply List.map_congr_left
       intro i _
       exact (FPj_len _ _ _ _).symm
     have hk':(k':Int)=(k1:Int) * FN (fe ls) (j+1) e+k2:=by
       rw [g3]; unfold FN; simp
     have hlt:(k':Int) < FN (fe ls) (a+1) j * FN (fe ls) (j+1) e:=by
       have:k' < (FPj (fe ls) a e j).length:=by
         unfold FPj
         rw [if_pos hm]
         exact (Z9.mp e3).1
       have z:=FPj_len (fe ls) a e j
       rw [if_pos hm] at z
       omega
     have at0:=at9 (l:=QL ls a e) (by omega) (QL_nonneg ls a e) hsp (k:=(k':Int)) (by omega) hlt
     rw [hsum,show (((pre.map fun i=>(FPj (fe ls) a e i).length).sum:Nat):Int)+(k':Int)=(k:Int) by omega] at at0
     have dv:divmodD [.int (k':Int),.int (FN (fe ls) (j+1) e)]=some (.tup [.int k1,.int k2]):=by
       have hpos:0 < FN (fe ls) (j+1) e:=by unfold FN; omega
       have hk2:(k2:Int) < FN (fe ls) (j+1) e:=by unfold FN; omega
       rw [divmodI ⟨by omega,by omega⟩,hk']
       have q1:((k1:Int) * FN (fe ls) (j+1) e+k2) / FN (fe ls) (j+1) e=k1:=by
         rw [Int.add_comm,Int.add_mul_ediv_right _ _ (by omega),Int.ediv_eq_zero_of_lt (by omega) hk2,Int.zero_add]
       have q2:((k1:Int) * FN (fe ls) (j+1) e+k2) % FN (fe ls) (j+1) e=k2:=by
         rw [Int.add_comm,Int.add_mul_emod_self_right,Int.emod_eq_of_lt (by omega) hk2]
       rw [q1,q2]
     have ne:¬ a=e:=by omega
     have ad1:addD (.lst [.tup [.int a,.int j]]) (.lst (p.2.map pairD))=some (.lst (((a,j)::p.2).map pairD)):=by
       show (if _ then _ else _)=_
       rw [if_pos (Z38 (sz_lt (by simp; omega)))]; rfl
     have ad2:addD (.lst (((a,j)::p.2).map pairD)) (.lst (q.2.map pairD))=some (.lst ((glue a j p q).2.map pairD)):=by
       show (if _ then _ else _)=_
       rw [if_pos (Z38 (sz_lt (by simp; omega))),<- Z23]; rfl
     show mFn 10 5 (mb_x5 (mr_x5 f)) _=_
     apply Ev.fn (ρ:=[some (.d (.str (tx9 ls))),some (.dc kvs),some (.d (.int a)),some (.d (.int e)),some (.d (.int k)),none,none,none,none,none]) rfl
     unfold mb_x5
     walk_at "ev"
   · rw [FP_nil _ (by omega)] at hx
     have ea:a=e:=by omega
     subst ea
     obtain rfl:k=0:=by
       have:=(Z9.mp hx).1
       simp at this
       exact this
     cases hx
     show mFn 10 5 (mb_x5 (mr_x5 f)) _=_
     apply Ev.fn (ρ:=[some (.d (.str (tx9 ls))),some (.dc kvs),some (.d (.int a)),some (.d (.int a)),some (.d (.int 0)),none,none,none,none,none]) rfl
     unfold mb_x5
     walk_at "ev"
     rfl
open PySem L2
theorem full_at_ok {ls:List Nat} (hls:Ls ls) (hl:ls.length<=40) {k:Nat} {x:RS} (hx:(FP (fe ls) 0 ls.length)[k]?=some x):m_x6 [.d (.str (tx9 ls)),.d (.int k)]=some (.d (.tup (x.2.map pairD))):=by
 obtain ⟨kvs,h1,h2⟩:=fc_ok hls (by omega)
 have h3:=h1 0 ls.length (Z42 _) (by omega) (Z42 _)
 have hlen:=len9 (ls:=ls) (by omega)
 have hk:(k:Int) < FN (fe ls) 0 ls.length:=by
   have:=(Z9.mp hx).1
   unfold FN; omega
 have hh:m_x5 [.d (.str (tx9 ls)),.dc kvs,.d (.int 0),.d (.int ls.length),.d (.int k)]=some (.d (.lst (x.2.map pairD))):=fha_ok hls hl h1 ls.length (by omega) (Z42 _) (Z42 _) hx 45 (by omega)
 have hc:0<=(k:Int)/\(k:Int) < FN (fe ls) 0 ls.length:=⟨by omega,hk⟩
 have c0:(0:Int)<=k:=by omega
 apply Ev.fn (ρ:=[some (.d (.str (tx9 ls))),some (.d (.int k)),none,none]) rfl
 unfold mb_x6
 walk_at "ev"
theorem full_at_no {ls:List Nat} (hls:Ls ls) (hl:ls.length<=40) {k:Int} (hk:k < 0∨FN (fe ls) 0 ls.length<=k):mR_full_at [.d (.str (tx9 ls)),.d (.int k)]=some (.scr []):=by
 obtain ⟨kvs,h1,h2⟩:=fc_ok hls (by omega)
 have h3:=h1 0 ls.length (Z42 _) (by omega) (Z42 _)
 have hlen:=len9 (ls:=ls) (by omega)
 rcases hk with hk | hk
 · have c0:¬ (0:Int)<=k:=by omega
   apply Ev.fn (ρ:=[some (.d (.str (tx9 ls))),some (.d (.int k)),none,none]) rfl
   unfold mbR_full_at mRaise
   walk_at "ev"
 · by_cases c0:(0:Int)<=k
   · have c1:¬ k < FN (fe ls) 0 ls.length:=by omega
     apply Ev.fn (ρ:=[some (.d (.str (tx9 ls))),some (.d (.int k)),none,none]) rfl
     unfold mbR_full_at mRaise
     walk_at "ev"
   · apply Ev.fn (ρ:=[some (.d (.str (tx9 ls))),some (.d (.int k)),none,none]) rfl
     unfold mbR_full_at mRaise
     walk_at "ev"
open PySem L2
theorem fl_fl {x:Nat} (h:x < 26):fl (fl x)=x:=by unfold fl; split <;> split <;> omega
theorem fe_rev {ls:List Nat} (hls:Ls ls) {q e:Int} (hq:0<=q/\q < ls.length) (he:0<=e/\e < ls.length):fe ls q e=decide (lt9 ls q=fl (lt9 ls e)):=by
 unfold fe
 have h1:=fl_fl (lt9_lt hls hq)
 have h2:=fl_fl (lt9_lt hls he)
 by_cases c:lt9 ls e=fl (lt9 ls q)
 · rw [decide_eq_true c,decide_eq_true (by rw [c,h1])]
 · rw [decide_eq_false c,decide_eq_false (fun z=>c (by rw [z,h2]))]
theorem sm_two (f:Int->Int):∀ (n m:Nat) (lo:Int),m<=n->(∀ x,lo<=x->x < lo+m->(lo+m - x) % 2=0->f x=0)->sm (ups lo m) f=((List.range ((m+1) / 2)).map fun (k:Nat)=>f (lo+m - 1+(k:Int) * -2)).sum:=by
 intro n
 induction n with
 | zero=>
   intro m lo hm _
   obtain rfl:m=0:=by omega
   rfl
 | succ n ih=>
   intro m lo hm hz
   match m,hm,hz with
   | 0,_,_=>rfl
   | 1,_,_=>simp [sm,ups]
   | m+2,hm,hz=>
     rw [ups_succ,ups_succ,sm_app,sm_app,sm_cons,sm_cons,sm_nil,ih m lo (by omega) fun x h1 h2 h3=>hz x h1 (by omega) (by omega),hz (lo+m) (by omega) (by omega) (by omega)]
     rw [show (m+2+1) / 2=(m+1) / 2+1 by omega,List.range_succ_eq_map,Z6,List.sum_cons,Z31]
     have e:((List.range ((m+1) / 2)).map fun (k:Nat)=>f (lo+m - 1+(k:Int) * -2))=(List.range ((m+1) / 2)).map ((fun (k:Nat)=>f (lo+((m+2:Nat):Int) - 1+(k:Int) * -2)) ∘ Nat.succ):=by
       apply List.map_congr_left
       intro k _
       simp only [Function.comp]
       congr 1
       omega
     rw [e,show lo+((m+1:Nat):Int)=lo+((m+2:Nat):Int) - 1+((0:Nat):Int) * -2 by omega]
     omega
theorem FN_dn (M:Int->Int->Bool) {a:Int} {z:Nat} (hz:1<=z):FN M a (a+z)=((List.range (z / 2)).map fun (k:Nat)=>flT M a (a+z) (a+z - 2+(k:Int) * -2)).sum:=by
 rw [FN_last M z (by omega) (by omega),show (a+(z:Int) - 1 - a).toNat=z - 1 by omega,sm_two _ (z - 1) (z - 1) a (Z10 _) ?_]
 · rw [show (z - 1+1) / 2=z / 2 by omega]
   congr 1
   apply List.map_congr_left
   intro k _
   rw [show a+((z - 1:Nat):Int) - 1=a+z - 2 by omega]
 · intro x h1 h2 h3
   unfold flT
   split
   · rw [FN_odd M (a+z - 1 - (x+1)).toNat (a:=x+1) (b:=a+z - 1) (by omega) (by omega),Int.mul_zero]
   · rfl
theorem stepM2 {i z:Int} (hz:0<=z):stepM (i+z - 2) (i - 1) (-2)=(z / 2).toNat:=by
 unfold stepM
 rw [show -(-2:Int)=2 by decide]
 split <;> omega
local macro_rules | `(tactic| walk_at $s:str) => Mir.tab s.getString "opl\t0\tS\tq Mir.jx0\tq Mir.jx1\tq Mir.mulYI <bits> <bits>\nevI\t0\tA Ev.rng3d"
noncomputable def HeldN (ls:List Nat) (kvs:List (List Key × D)) (x y:Int):Prop:=valD kvs [.inl x,.inl y]=some (.int (FN (fe ls) x y))
theorem tj_ok {ls:List Nat} (hls:Ls ls) (hl:ls.length<=40) {kvs:List (List Key × D)} {i z:Int} (hi:0<=i) (hz:0<=z) (hs:i+z<=ls.length) (hg:∀ x y:Int,0<=x->x<=y->y<=ls.length->y - x < z->HeldN ls kvs x y) {n:Int} (v0:Int) (hv:v0=if z=0 then 1 else 0) :
   forM (mgName 6) lb_x14_0 (stepD (i+z - 2) (-2) (stepM (i+z - 2) (i - 1) (-2))) [some (.d (.str (tx9 ls))),some (.d (.int n)),some (.dc kvs),some (.d (.int z)),some (.d (.int i)),some (.d (.int v0)),none] =
     some (.nx,[some (.d (.str (tx9 ls))),some (.d (.int n)),some (.dc kvs),some (.d (.int z)),some (.d (.int i)),some (.d (.int (FN (fe ls) i (i+z)))),none]):=by
 obtain ⟨zn,rfl⟩:=Int.eq_ofNat_of_zero_le hz
 rw [stepM2 hz]
 have hn2:((zn:Int) / 2).toNat=zn / 2:=by omega
 rw [hn2]
 obtain ⟨v,c1,loop⟩:=for_inv (α:=Nat) (g:=mgName 6) (f:=lb_x14_0) (e:=fun k=>D.int (i+zn - 2+(k:Nat) * (-2))) (l:=List.range (zn / 2)) (env:=fun (v:Int)=>[some (.d (.str (tx9 ls))),some (.d (.int n)),some (.dc kvs),some (.d (.int zn)),some (.d (.int i)),some (.d (.int v)),none])
   (fun pre v=>v=v0+(pre.map fun (k:Nat)=>flT (fe ls) i (i+zn) (i+zn - 2+(k:Int) * -2)).sum)
   (fun pre k post v hsp hp=>by
     have hk:k < zn / 2:=List.mem_range.mp (by rw [hsp]; simp)
     obtain ⟨j,hj⟩:∃ j:Int,j=i+zn - 2+(k:Int) * -2:=⟨_,rfl⟩
     have hj1:i<=j/\j<=i+zn - 2:=by omega
     have ij:=ix9 (ls:=ls) (by omega) (i:=j) (by omega)
     have il:=ix9 (ls:=ls) (by omega) (i:=i+zn - 1) (by omega)
     have fa:=lfellow_ok (lt9_lt hls (i:=i+zn - 1) (by omega))
     have g1:valD kvs [.inl i,.inl j]=some (.int (FN (fe ls) i j)):=hg i j hi (by omega) (by omega) (by omega)
     have g2:valD kvs [.inl (j+1),.inl (i+zn - 1)]=some (.int (FN (fe ls) (j+1) (i+zn - 1))):=hg (j+1) (i+zn - 1) (by omega) (by omega) (by omega) (by omega)
     have b1:=FN_bound (fe ls) (a:=i) (b:=j) (by omega) (by omega)
     have b2:=FN_bound (fe ls) (a:=j+1) (b:=i+zn - 1) (by omega) (by omega)
     have fr:=fe_rev hls (q:=j) (e:=i+zn - 1) (by omega) (by omega)
     rw [<- hj]
     cases e:fe ls j (i+zn - 1) with
     | true=>
       rw [e] at fr
       have e':sgn (97+lt9 ls j)=sgn (97+fl (lt9 ls (i+zn - 1))):=by rw [of_decide_eq_true fr.symm]
       refine ⟨v+FN (fe ls) i j * FN (fe ls) (j+1) (i+zn - 1),?_,?_⟩
       · rw [hp,Z23,List.sum_append,Z6,List.map_nil,List.sum_cons,List.sum_nil,<- hj]
         unfold flT
         rw [if_pos e]
         omega
       · apply Ev.turn
         walk_at "ev"
         unfold lb_x14_0
         walk_at "ev"
     | false=>
       rw [e] at fr
       have e':¬ sgn (97+lt9 ls j)=sgn (97+fl (lt9 ls (i+zn - 1))):=fun w=>of_decide_eq_false fr.symm (by have:=sgn_inj.mp w; omega)
       refine ⟨v,?_,?_⟩
       · rw [hp,Z23,List.sum_append,Z6,List.map_nil,List.sum_cons,List.sum_nil,<- hj]
         unfold flT
         rw [if_neg (by rw [e]; simp)]
         omega
       · apply Ev.turn
         walk_at "ev"
         unfold lb_x14_0
         walk_at "ev") v0 (by simp)
 have hf:v=FN (fe ls) i (i+zn):=by
   rw [c1,hv]
   by_cases h0:zn=0
   · subst h0
     rw [FN_nil _ (by omega)]
     rfl
   · rw [FN_dn (fe ls) (by omega),if_neg (by omega)]
     omega
 subst hf
 exact loop
open PySem L2
local macro_rules | `(tactic| walk_at $s:str) => Mir.tab s.getString "ev g8\t0\tA Ev.rng3d"
theorem eq0 (z:Int):eqD 4 false (.int z) (.int 0)=some (.bl (decide (z=0))):=eqII z 0
theorem int0 (b:Bool):intD [.bl b]=some (.int (if b=true then 1 else 0)):=by cases b <;> rfl
theorem ti_ok {ls:List Nat} (hls:Ls ls) (hl:ls.length<=40) {kvs:List (List Key × D)} {z:Int} (hz:0<=z) (hzn:z<=ls.length) (hk:kvs.length < 5000) (hp:PlainF kvs) (hg:∀ x y:Int,0<=x->x<=y->y<=ls.length->y - x < z->HeldN ls kvs x y) :
   ∃ kvs',(∀ x y:Int,0<=x->x<=y->y<=ls.length->y - x < z+1->HeldN ls kvs' x y)/\PlainF kvs'/\kvs'.length<=kvs.length+41 /\
     forM (mgName 4) lb_x14_1 ((ups 0 ((ls.length:Int)+1 - z).toNat).map D.int) [some (.d (.str (tx9 ls))),some (.d (.int ls.length)),some (.dc kvs),some (.d (.int z)),none,none,none] =
       some (.nx,[some (.d (.str (tx9 ls))),some (.d (.int ls.length)),some (.dc kvs'),some (.d (.int z)),none,none,none]):=by
 obtain ⟨kvs',⟨c1,c3,c2⟩,loop⟩:=for_inv (g:=mgName 4) (f:=lb_x14_1) (e:=D.int) (l:=ups 0 ((ls.length:Int)+1 - z).toNat) (env:=fun (k:List (List Key × D))=>[some (.d (.str (tx9 ls))),some (.d (.int ls.length)),some (.dc k),some (.d (.int z)),none,none,none])
   (fun pre k=>(∀ x y:Int,0<=x->x<=y->y<=ls.length->(y - x < z∨(y - x=z/\x < pre.length))->HeldN ls k x y)/\PlainF k/\k.length<=kvs.length+pre.length)
   (fun pre i post k hsp hp=>by
     obtain ⟨hp1,hp5,hp2⟩:=hp
     obtain ⟨hp3,hp4,_⟩:=ups_split hsp
     have hlen:=putD_len k [.inl i,.inl (i+z)] (.int (FN (fe ls) i (i+z)))
     refine ⟨putD k [.inl i,.inl (i+z)] (.int (FN (fe ls) i (i+z))),⟨?_,putD_vals (P:=fun d=>D.imm d=true) hp5 rfl,by simp; omega⟩,?_⟩
     · intro x y h1 h2 h3 h4
       unfold HeldN
       rw [valD_put]
       by_cases e:x=i/\y=i+z
       · obtain ⟨rfl,rfl⟩:=e
         rw [if_pos rfl]
       · rw [if_neg (by intro h; injection h with ha hb; injection ha with ha; injection hb with hb _; injection hb with hb; exact e ⟨ha,hb⟩)]
         refine hp1 x y h1 h2 h3 ?_
         simp at h4
         omega
     · have lj:=tj_ok hls hl (kvs:=k) (i:=i) (z:=z) (by omega) (by omega) (by omega) (fun x y h1 h2 h3 h4=>hp1 x y h1 h2 h3 (.inl h4)) (n:=ls.length) (if decide (z=0)=true then 1 else 0) (by simp)
       have e0:=eq0 z
       have i0:=int0 (decide (z=0))
       have st:StepDn (i+z - 2) (i - 1) (-2):=⟨by omega,by omega,by omega,by omega,by decide,by decide⟩
       have ng:negD (.int 2)=some (.int (-2)):=rfl
       apply Ev.turn
       walk_at "ev"
       unfold lb_x14_1
       walk_at "ev") kvs ⟨fun x y h1 h2 h3 h4=>hg x y h1 h2 h3 (by simp at h4; omega),hp,by simp⟩
 rw [ups_len] at c1 c2
 refine ⟨kvs',fun x y h1 h2 h3 h4=>c1 x y h1 h2 h3 (by omega),c3,by omega,loop⟩
theorem table_ok {ls:List Nat} (hls:Ls ls) (hl:ls.length<=40):∃ kvs,GoodF ls kvs 0 ls.length/\m_x14 [.d (.str (tx9 ls))]=some (.dc kvs):=by
 have hlen:=len9 (ls:=ls) (by omega)
 obtain ⟨kvs,⟨c1,c2,c3⟩,loop⟩:=for_inv (g:=mgName 3) (f:=lb_x14_2) (e:=D.int) (l:=ups 0 ((ls.length:Int)+1).toNat) (env:=fun (kvs:List (List Key × D))=>[some (.d (.str (tx9 ls))),some (.d (.int ls.length)),some (.dc kvs),none,none,none,none])
   (fun pre k=>(∀ x y:Int,0<=x->x<=y->y<=ls.length->y - x < pre.length->HeldN ls k x y)/\PlainF k/\k.length<=41 * pre.length)
   (fun pre z post k hsp hP=>by
     obtain ⟨p1,p2,p3⟩:=hP
     obtain ⟨e1,e2,_⟩:=ups_split hsp
     obtain ⟨k',q1,q2,q3,q4⟩:=ti_ok hls hl (kvs:=k) (z:=z) (by omega) (by omega) (by omega) p2 (fun x y h1 h2 h3 h4=>p1 x y h1 h2 h3 (by omega))
     refine ⟨k',⟨fun x y h1 h2 h3 h4=>q1 x y h1 h2 h3 (by simp at h4; omega),q2,by simp; omega⟩,?_⟩
     apply Ev.turn
     walk_at "ev"
     unfold lb_x14_2
     walk_at "ev") [] ⟨fun x y h1 h2 h3 h4=>by simp at h4; omega,(by intro kv h; cases h),by simp⟩
 rw [ups_len] at c1 c3
 refine ⟨kvs,fun x y h1 h2 h3=>c1 x y h1 h2 h3 (by omega),?_⟩
 have im:D.immL (kvs.map (·.2))=true:=immL_of fun d hd=>by
   obtain ⟨kv,h1,rfl⟩:=Z18.mp hd
   exact c2 kv h1
 apply Ev.fn (ρ:=[some (.d (.str (tx9 ls))),none,none,none,none,none,none]) rfl
 unfold mb_x14
 walk_at "ev"
open PySem L2
set_option genInjectivity true in
inductive Rk (M:Int->Int->Bool):Int->Int->List (Int × Int)->Int->Prop
 | nil (a:Int):Rk M a a [] 0
 | hoop {a j b:Int} {p q:List (Int × Int)} {k1 k2:Int}:a < j->j < b->M a j=true->Rk M (a+1) j p k1->Rk M (j+1) b q k2->Rk M a b ((a,j)::(p++q)) (sm (ups (a+1) (j - (a+1)).toNat) (fmT M a b)+k1 * FN M (j+1) b+k2)
theorem Rk.le {M:Int->Int->Bool} {a b k:Int} {sh:List (Int × Int)} (h:Rk M a b sh k):a<=b:=by
 induction h with
 | nil=>exact Z42 _
 | hoop h1 h2 _ _ _ _ _=>omega
theorem Rk.in2 {M:Int->Int->Bool} {a b k:Int} {sh:List (Int × Int)} (h:Rk M a b sh k):∀ p ∈ sh,a<=p.1/\p.1 < p.2/\p.2 < b/\M p.1 p.2=true:=by
 induction h with
 | nil=>intro p hp; cases hp
 | hoop h1 h2 hm h3 h4 i1 i2=>
   intro p hp
   have l1:=h3.le
   have l2:=h4.le
   rcases Z19.mp hp with rfl | hp
   · exact ⟨Z42 _,h1,h2,hm⟩
   · rcases Z11.mp hp with hp | hp
     · obtain ⟨z1,z2,z3,z4⟩:=i1 p hp; exact ⟨by omega,z2,by omega,z4⟩
     · obtain ⟨z1,z2,z3,z4⟩:=i2 p hp; exact ⟨by omega,z2,z3,z4⟩
theorem Rk.rise {M:Int->Int->Bool} {a b k:Int} {sh:List (Int × Int)} (h:Rk M a b sh k):sh.Pairwise fun x y=>x.1 < y.1:=by
 induction h with
 | nil=>exact .nil
 | @hoop a j b p q k1 k2 h1 h2 hm h3 h4 i1 i2=>
   have n1:=h3.in2
   have n2:=h4.in2
   refine .cons (fun x hx=>?_) (Z48.mpr ⟨i1,i2,fun x hx y hy=>?_⟩)
   · rcases Z11.mp hx with hx | hx
     · have:=n1 x hx; dsimp only; omega
     · have:=n2 x hx; dsimp only; omega
   · have z1:=n1 x hx; have z2:=n2 y hy; omega
theorem Rk.len {M:Int->Int->Bool} {a b k:Int} {sh:List (Int × Int)} (h:Rk M a b sh k):2 * (sh.length:Int)=b - a:=by
 induction h with
 | nil=>simp
 | hoop h1 h2 _ _ _ i1 i2=>simp; omega
theorem FP_rk (M:Int->Int->Bool):∀ (n:Nat) {a e:Int},e - a=n->∀ {k:Nat} {x:RS},(FP M a e)[k]?=some x->Rk M a e x.2 k:=by
 intro n
 induction n using Nat.strongRecOn with
 | ind n ih=>
   intro a e hn k x hx
   by_cases h:a < e
   · rw [FP_step _ h] at hx
     obtain ⟨pre,post,j,k',e1,e2,e3⟩:=flatMap_at hx
     obtain ⟨s1,s2,s3⟩:=ups_split e1
     unfold FPj at e3
     split at e3
     case isFalse=>simp at e3
     rename_i hm
     obtain ⟨k1,k2,p,q,g1,g2,g3,rfl⟩:=pairs_at e3
     have j1:=ih (j - (a+1)).toNat (by omega) (a:=a+1) (e:=j) (by omega) g1
     have j2:=ih (e - (j+1)).toNat (by omega) (a:=j+1) (e:=e) (by omega) g2
     have r:=Rk.hoop (show a < j by omega) (show j < e by omega) hm j1 j2
     have hk:(k:Int)=sm (ups (a+1) (j - (a+1)).toNat) (fmT M a e)+(k1:Int) * FN M (j+1) e+(k2:Int):=by
       have hsum:sm (ups (a+1) (j - (a+1)).toNat) (fmT M a e)=(((pre.map fun i=>(FPj M a e i).length).sum:Nat):Int):=by
         rw [sum_cast,show (j - (a+1)).toNat=pre.length by omega,<- s3]
         unfold sm
         congr 1
         apply List.map_congr_left
         intro i _
         exact (FPj_len M a e i).symm
       rw [hsum,e2,g3]
       unfold FN
       simp
       omega
     rw [hk]
     exact r
   · rw [FP_nil _ (by omega)] at hx
     have ea:a=e:=by omega
     subst ea
     obtain rfl:k=0:=by
       have:=(Z9.mp hx).1
       simp at this
       exact this
     cases hx
     exact .nil a
structure Pt where
 s:Int
 e:Int
 sh:List (Int × Int)
 k:Int
noncomputable def pwt (M:Int->Int->Bool):List Pt->Int
 | []=>1
 | p::r=>FN M p.s p.e * pwt M r
noncomputable def pvl (M:Int->Int->Bool):List Pt->Int
 | []=>0
 | p::r=>p.k * pwt M r+pvl M r
noncomputable def pms:List Pt->Nat
 | []=>0
 | p::r=>(2 * (p.e - p.s)+1).toNat+pms r
theorem pwt_bits (M:Int->Int->Bool):∀ {st:List Pt},(∀ p ∈ st,p.s<=p.e/\p.e - p.s<=40)->0<=pwt M st/\(pwt M st).natAbs < 2 ^ (33 * st.length+1)
 | [],_=>by unfold pwt; decide
 | p::r,h=>by
   have h1:=h p Z16
   obtain ⟨i1,i2⟩:=pwt_bits M (st:=r) fun q hq=>h q (Z8 _ hq)
   have b:=FN_bound M (a:=p.s) (b:=p.e) h1.2 h1.1
   refine ⟨Int.mul_nonneg b.1 i1,?_⟩
   show (FN M p.s p.e * pwt M r).natAbs < _
   rw [Int.natAbs_mul,Z58,show 33 * (r.length+1)+1=33+(33 * r.length+1) by omega,Nat.pow_add]
   have b2:(FN M p.s p.e).natAbs < 2 ^ 33:=by omega
   exact Nat.mul_lt_mul'' b2 i2
theorem pwt_ok {M:Int->Int->Bool} {st:List Pt} (h:∀ p ∈ st,p.s<=p.e/\p.e - p.s<=40) (hl:st.length<=1000):BitOk (pwt M st):=bit_of (pwt_bits M h).2 (by omega)
open PySem L2
@[reducible] noncomputable def ptD (p:Pt):D:=.tup [.int p.s,.int p.e]
@[reducible] noncomputable def kdD (p:Int × Int):Key × D:=(.inl p.1,.int p.2)
theorem valK_none {i:Int}:∀ {sh:List (Int × Int)},(∀ p ∈ sh,p.1 ≠ i)->valD (sh.map kdD) (.inl i:Key)=none
 | [],_=>rfl
 | p::sh,h=>by
   show (if (Sum.inl p.1:Key)=.inl i then _ else _)=_
   rw [if_neg (fun z=>h p Z16 (by injection z))]
   exact valK_none fun q hq=>h q (Z8 _ hq)
theorem valK_some {i j:Int}:∀ {sh:List (Int × Int)},sh.Pairwise (fun x y=>x.1 < y.1)->(i,j) ∈ sh->valD (sh.map kdD) (.inl i:Key)=some (.int j)
 | [],_,h=>by cases h
 | p::sh,hr,h=>by
   cases hr with
   | cons h1 h2=>
     show (if (Sum.inl p.1:Key)=.inl i then _ else _)=_
     rcases Z19.mp h with h | h
     · subst h
       rw [if_pos rfl]
     · have:=h1 _ h
       rw [if_neg (fun z=>by injection z with z; dsimp only at this; omega)]
       exact valK_some h2 h
local macro_rules | `(tactic| walk_at $s:str) => Mir.tab s.getString "evG\t0\tA Ev.gKPut"
theorem aheadrow_ok {c:S} {kvs:List (List Key × D)} {sh:List (Int × Int)} (hr:sh.Pairwise fun x y=>x.1 < y.1) (hl:sh.length < 1000) :
   forM (mgTup 2 (mgCons (mgName 4) (mgCons (mgName 5) mgNil))) lb_x15_3 (sh.map pairD) [some c,some (.dc kvs),some (.d (.tup (sh.map pairD))),some (.dk []),none,none,none,none,none,none,none,none] =
     some (.nx,[some c,some (.dc kvs),some (.d (.tup (sh.map pairD))),some (.dk (sh.map kdD)),none,none,none,none,none,none,none,none]):=by
 obtain ⟨_,rfl,loop⟩:=for_inv (g:=mgTup 2 (mgCons (mgName 4) (mgCons (mgName 5) mgNil))) (f:=lb_x15_3) (e:=pairD) (l:=sh) (env:=fun (k:List (Key × D))=>[some c,some (.dc kvs),some (.d (.tup (sh.map pairD))),some (.dk k),none,none,none,none,none,none,none,none])
   (fun pre k=>k=pre.map kdD)
   (fun pre p post k hsp hp=>by
     subst hp
     have hn:valD (pre.map kdD) (.inl p.1:Key)=none:=valK_none fun q hq=>by
       rw [hsp] at hr
       have:=(Z48.mp hr).2.2 q hq p Z16
       omega
     have hlen:sh.length=pre.length+1+post.length:=by rw [hsp]; simp; omega
     have hk:(pre.map kdD).length < 1000000:=by simp; omega
     have hpt:putD (pre.map kdD) (.inl p.1:Key) (.int p.2)=(pre++[p]).map kdD:=by
       unfold putD
       rw [hn]
       simp
     refine ⟨(pre++[p]).map kdD,rfl,?_⟩
     rw [<- hpt]
     apply Ev.turn
     walk_at "ev"
     unfold lb_x15_3
     walk_at "ev") [] rfl
 exact loop
local macro_rules | `(tactic| walk_at $s:str) => Mir.tab s.getString "opl\t0\tS\tq Mir.mulYI ! !"
theorem aheadwhole_ok {ls:List Nat} (hl:ls.length<=40) {c k3:S} {kvs:List (List Key × D)} (hg:GoodF ls kvs 0 ls.length) {r:List Pt} (hr:∀ p ∈ r,0<=p.s/\p.s<=p.e/\p.e<=ls.length) (hn:r.length<=1000) {fd s e:Int} :
   forM (mgName 11) lb_x15_1 (r.reverse.map ptD) [some c,some (.dc kvs),none,some k3,none,none,some (.d (.int fd)),some (.d (.lst (r.reverse.map ptD))),some (.d (.int s)),some (.d (.int e)),some (.d (.int 1)),none] =
     some (.nx,[some c,some (.dc kvs),none,some k3,none,none,some (.d (.int fd)),some (.d (.lst (r.reverse.map ptD))),some (.d (.int s)),some (.d (.int e)),some (.d (.int (pwt (fe ls) r))),none]):=by
 obtain ⟨w,hw,loop⟩:=for_inv (g:=mgName 11) (f:=lb_x15_1) (e:=ptD) (l:=r.reverse) (env:=fun (w:Int)=>[some c,some (.dc kvs),none,some k3,none,none,some (.d (.int fd)),some (.d (.lst (r.reverse.map ptD))),some (.d (.int s)),some (.d (.int e)),some (.d (.int w)),none])
   (fun pre w=>w=pwt (fe ls) pre.reverse)
   (fun pre p post w hsp hp=>by
     have hm:∀ q ∈ pre++p::post,q ∈ r:=fun q hq=>List.mem_reverse.mp (by rw [hsp]; exact hq)
     have hpr:=hr p (hm p (by simp))
     have g1:=hg p.s p.e hpr.1 hpr.2.1 hpr.2.2
     have hlen:r.length=pre.length+1+post.length:=by
       have:=congrArg List.length hsp
       simp at this
       omega
     have b1:BitOk w:=by
       rw [hp]
       exact pwt_ok (fun q hq=>by
         have:=hr q (hm q (Z37 _ (List.mem_reverse.mp hq)))
         omega) (by simp; omega)
     have b2:BitOk (FN (fe ls) p.s p.e):=by
       have:=FN_bound (fe ls) (a:=p.s) (b:=p.e) (by omega) (by omega)
       exact bit_small (by omega)
     refine ⟨w * FN (fe ls) p.s p.e,by rw [List.reverse_append,hp]; exact Int.mul_comm _ _,?_⟩
     apply Ev.turn
     walk_at "ev"
     unfold lb_x15_1
     walk_at "ev") 1 rfl
 rw [List.reverse_reverse] at hw
 subst hw
 exact loop
theorem sm_up (f:Int->Int):∀ (n:Nat) (lo:Int),(∀ x,lo<=x->x < lo+2 * (n:Int)->(x - lo) % 2=1->f x=0)->sm (ups lo (2 * n)) f=((List.range n).map fun (k:Nat)=>f (lo+(k:Int) * 2)).sum
 | 0,lo,_=>rfl
 | n+1,lo,h=>by
   rw [show 2 * (n+1)=2 * n+1+1 by omega,ups_succ,ups_succ,sm_app,sm_app,sm_cons,sm_cons,sm_nil,sm_up f n lo fun x h1 h2 h3=>h x h1 (by omega) h3,h (lo+((2 * n+1:Nat):Int)) (by omega) (by omega) (by omega),List.range_succ,Z23,List.sum_append]
   simp only [Z6,List.map_nil,List.sum_cons,List.sum_nil]
   rw [show lo+((2 * n:Nat):Int)=lo+(n:Int) * 2 by omega]
   omega
theorem stepN2 {a:Int} {n:Nat}:stepN (a+1) (a+1+2 * (n:Int)) 2=n:=by
 unfold stepN
 split <;> omega
theorem aheadpart_ok {ls:List Nat} (hls:Ls ls) (hl:ls.length<=40) {k3 p7:S} {kvs:List (List Key × D)} (hg:GoodF ls kvs 0 ls.length) {s e:Int} {n:Nat} (hs:0<=s) (hj:s+1+2 * (n:Int) < e) (he:e<=ls.length) {w fd:Int} (hw:BitOk w) :
   forM (mgName 5) lb_x15_0 (stepD (s+1) 2 (stepN (s+1) (s+1+2 * (n:Int)) 2)) [some (.d (.str (tx9 ls))),some (.dc kvs),none,some k3,none,none,some (.d (.int fd)),some p7,some (.d (.int s)),some (.d (.int e)),some (.d (.int w)),none] =
     some (.nx,[some (.d (.str (tx9 ls))),some (.dc kvs),none,some k3,none,none,some (.d (.int (fd+sm (ups (s+1) (2 * n)) (fmT (fe ls) s e) * w))),some p7,some (.d (.int s)),some (.d (.int e)),some (.d (.int w)),none]):=by
 rw [stepN2]
 have is:=ix9 (ls:=ls) (by omega) (i:=s) (by omega)
 have fa:=lfellow_ok (lt9_lt hls (i:=s) (by omega))
 obtain ⟨v,c1,loop⟩:=for_inv (α:=Nat) (g:=mgName 5) (f:=lb_x15_0) (e:=fun k=>D.int (s+1+(k:Nat) * 2)) (l:=List.range n) (env:=fun (v:Int)=>[some (.d (.str (tx9 ls))),some (.dc kvs),none,some k3,none,none,some (.d (.int v)),some p7,some (.d (.int s)),some (.d (.int e)),some (.d (.int w)),none])
   (fun pre v=>v=fd+(pre.map fun (k:Nat)=>fmT (fe ls) s e (s+1+(k:Int) * 2)).sum * w)
   (fun pre k post v hsp hp=>by
     have hk:k < n:=List.mem_range.mp (by rw [hsp]; simp)
     obtain ⟨j,hj⟩:∃ j:Int,j=s+1+(k:Int) * 2:=⟨_,rfl⟩
     have ij:=ix9 (ls:=ls) (by omega) (i:=j) (by omega)
     have g1:=hg (s+1) j (by omega) (by omega) (by omega)
     have g2:=hg (j+1) e (by omega) (by omega) (by omega)
     have b1:=FN_bound (fe ls) (a:=s+1) (b:=j) (by omega) (by omega)
     have b2:=FN_bound (fe ls) (a:=j+1) (b:=e) (by omega) (by omega)
     have c1:BitOk (FN (fe ls) (s+1) j):=bit_small (by omega)
     have c2:BitOk (FN (fe ls) (j+1) e):=bit_small (by omega)
     have c3:BitOk (FN (fe ls) (s+1) j * FN (fe ls) (j+1) e):=bit_of (n:=66) (by
       rw [Int.natAbs_mul,show (66:Nat)=33+33 from rfl,Nat.pow_add]
       exact Nat.mul_lt_mul'' (by omega) (by omega)) (by decide)
     rw [<- hj]
     cases e0:fe ls s j with
     | true=>
       have e':sgn (97+lt9 ls j)=sgn (97+fl (lt9 ls s)):=by rw [of_decide_eq_true e0]
       refine ⟨v+FN (fe ls) (s+1) j * FN (fe ls) (j+1) e * w,?_,?_⟩
       · rw [hp,Z23,List.sum_append,Z6,List.map_nil,List.sum_cons,List.sum_nil,<- hj,Int.add_mul]
         unfold fmT
         rw [if_pos e0,Int.add_zero]
         omega
       · apply Ev.turn
         walk_at "ev"
         unfold lb_x15_0
         walk_at "ev"
     | false=>
       have e':¬ sgn (97+lt9 ls j)=sgn (97+fl (lt9 ls s)):=fun w=>of_decide_eq_false e0 (by have:=sgn_inj.mp w; omega)
       refine ⟨v,?_,?_⟩
       · rw [hp,Z23,List.sum_append,Z6,List.map_nil,List.sum_cons,List.sum_nil,<- hj]
         unfold fmT
         rw [if_neg (by rw [e0]; simp),Int.add_zero,Int.add_zero]
       · apply Ev.turn
         walk_at "ev"
         unfold lb_x15_0
         walk_at "ev") fd (by simp)
 have hf:v=fd+sm (ups (s+1) (2 * n)) (fmT (fe ls) s e) * w:=by
   rw [c1,sm_up _ n (s+1) fun x h1 h2 h3=>?_]
   unfold fmT
   split
   · rw [FN_odd _ (x - (s+1)).toNat (a:=s+1) (b:=x) (by omega) (by omega),Int.zero_mul]
   · rfl
 subst hf
 exact loop
open PySem L2
local macro_rules | `(tactic| walk_at $s:str) => Mir.tab s.getString "evE\t0\tA Ev.kget\nevN\t0\tq Ev.knew"
theorem pms_len:∀ {st:List Pt},(∀ p ∈ st,p.s<=p.e)->st.length<=pms st
 | [],_=>Z10 0
 | p::r,h=>by
   have h1:=h p Z16
   have:=pms_len (st:=r) fun q hq=>h q (Z8 _ hq)
   show r.length+1<=(2 * (p.e - p.s)+1).toNat+pms r
   omega
structure AI (ls:List Nat) (sh:List (Int × Int)) (K:Int) (x:Int × List Pt):Prop where
 a:∀ p ∈ x.2,Rk (fe ls) p.s p.e p.sh p.k/\0<=p.s/\p.e<=ls.length/\∀ q ∈ p.sh,q ∈ sh
 b:x.1+pvl (fe ls) x.2=K
 c:pms x.2<=81
theorem depth_pt (p:Pt):D.depth (ptD p)<=3:=Z14 rfl
local macro_rules |`(tactic|walk_at "ev g8")=>`(tactic|with_reducible apply Ev.rng3)
theorem ahead_turn {ls:List Nat} (hls:Ls ls) (hl:ls.length<=40) {kvs:List (List Key × D)} (hg:GoodF ls kvs 0 ls.length) {sh:List (Int × Int)} (hr:sh.Pairwise fun x y=>x.1 < y.1) {K fd:Int} {p:Pt} {r:List Pt} (I:AI ls sh K (fd,p::r)) :
   ∃ x:Int × List Pt,AI ls sh K x/\pms x.2 < pms (p::r)/\lb_x15_2 [some (.d (.str (tx9 ls))),some (.dc kvs),none,some (.dk (sh.map kdD)),none,none,some (.d (.int fd)),some (.d (.lst ((p::r).reverse.map ptD))),none,none,none,none] =
     some (.nx,[some (.d (.str (tx9 ls))),some (.dc kvs),none,some (.dk (sh.map kdD)),none,none,some (.d (.int x.1)),some (.d (.lst (x.2.reverse.map ptD))),none,none,none,none]):=by
 obtain ⟨a,b,c⟩:=I
 dsimp only at a b c
 obtain ⟨rk,h1,h2,h3⟩:=a p Z16
 have ar:∀ q ∈ r,Rk (fe ls) q.s q.e q.sh q.k/\0<=q.s/\q.e<=ls.length/\∀ z ∈ q.sh,z ∈ sh:=fun q hq=>a q (Z8 _ hq)
 have rl:r.length<=81:=by
   have:=pms_len (st:=p::r) fun q hq=>(a q hq).1.le
   simp at this
   omega
 have wh:=aheadwhole_ok hl (c:=.d (.str (tx9 ls))) (k3:=.dk (sh.map kdD)) hg (r:=r) (fun q hq=>⟨(ar q hq).2.1,(ar q hq).1.le,(ar q hq).2.2.1⟩) (by omega) (fd:=fd) (s:=p.s) (e:=p.e)
 have wb:BitOk (pwt (fe ls) r):=pwt_ok (fun q hq=>by have h5:=(ar q hq).1.le; have:=(ar q hq).2; omega) (by omega)
 have hrv:(p::r).reverse.map ptD=r.reverse.map ptD++[ptD p]:=by simp
 rw [hrv]
 have hpop:(r.reverse.map ptD++[ptD p])[(r.reverse.map ptD++[ptD p]).length - 1]?=some (ptD p):=by simp
 have hdl:(r.reverse.map ptD++[ptD p]).dropLast=r.reverse.map ptD:=by simp
 obtain ⟨ps,pe,psh,pk⟩:=p
 dsimp only at rk h1 h2 h3 b c wh
 have pm:pms (⟨ps,pe,psh,pk⟩::r)=(2 * (pe - ps)+1).toNat+pms r:=rfl
 have pv:pvl (fe ls) (⟨ps,pe,psh,pk⟩::r)=pk * pwt (fe ls) r+pvl (fe ls) r:=rfl
 rw [pm] at c ⊢
 rw [pv] at b
 have rl2:(r.reverse.map ptD).length < 1000:=by simp; omega
 generalize hP:r.reverse.map ptD=P at *
 generalize hZ:P++[ptD ⟨ps,pe,psh,pk⟩]=Z at *
 subst hdl
 cases rk with
 | nil=>
   refine ⟨(fd,r),⟨ar,by dsimp only; omega,by dsimp only; omega⟩,by dsimp only; omega,?_⟩
   dsimp only
   rw [hP]
   apply Ev.top
   unfold lb_x15_2
   walk_at "ev"
 | @hoop _ j _ q1 q2 k1 k2 g1 g2 g3 g4 g5=>
   have ll:=g4.len
   have l4:=g4.le
   have l5:=g5.le
   have ej:j=ps+1+2 * (q1.length:Int):=by omega
   have vk:valD (sh.map kdD) (.inl ps:Key)=some (.int (ps+1+2 * (q1.length:Int))):=valK_some hr (by rw [<- ej]; exact h3 _ Z16)
   have pt:=aheadpart_ok hls hl (k3:=.dk (sh.map kdD)) (p7:=.d (.lst Z.dropLast)) hg (s:=ps) (e:=pe) (n:=q1.length) h1 (by omega) h2 (w:=pwt (fe ls) r) (fd:=fd) wb
   have st:StepOk (ps+1) (ps+1+2 * (q1.length:Int)) 2:=⟨by omega,by omega,by omega,by omega,by decide,by decide⟩
   refine ⟨(fd+sm (ups (ps+1) (2 * q1.length)) (fmT (fe ls) ps pe) * pwt (fe ls) r,⟨ps+1,j,q1,k1⟩::⟨j+1,pe,q2,k2⟩::r),⟨?_,?_,?_⟩,?_,?_⟩
   · intro q hq
     rcases Z19.mp hq with rfl | hq
     · exact ⟨g4,by dsimp only; omega,by dsimp only; omega,fun z hz=>h3 z (List.mem_cons_of_mem _ (List.mem_append_left _ hz))⟩
     · rcases Z19.mp hq with rfl | hq
       · exact ⟨g5,by dsimp only; omega,by dsimp only; omega,fun z hz=>h3 z (List.mem_cons_of_mem _ (List.mem_append_right _ hz))⟩
       · exact ar q hq
   · show fd+sm (ups (ps+1) (2 * q1.length)) (fmT (fe ls) ps pe) * pwt (fe ls) r+(k1 * (FN (fe ls) (j+1) pe * pwt (fe ls) r)+(k2 * pwt (fe ls) r+pvl (fe ls) r))=K
     rw [<- b,show (j - (ps+1)).toNat=2 * q1.length by omega,Int.add_mul,Int.add_mul,Int.mul_assoc k1]
     omega
   · show (2 * (j - (ps+1))+1).toNat+((2 * (pe - (j+1))+1).toNat+pms r)<=81
     omega
   · show (2 * (j - (ps+1))+1).toNat+((2 * (pe - (j+1))+1).toNat+pms r) < (2 * (pe - ps)+1).toNat+pms r
     omega
   · have hfin:(((⟨ps+1,j,q1,k1⟩::⟨j+1,pe,q2,k2⟩::r):List Pt)).reverse.map ptD=(Z.dropLast++[.tup [.int (ps+1+2 * (q1.length:Int)+1),.int pe]])++[.tup [.int (ps+1),.int (ps+1+2 * (q1.length:Int))]]:=by
       rw [<- hP,<- ej]
       simp
     dsimp only
     rw [hfin]
     apply Ev.top
     unfold lb_x15_2
     walk_at "ev"
theorem ahead_ok {ls:List Nat} (hls:Ls ls) (hl:ls.length<=40) {kvs:List (List Key × D)} (hg:GoodF ls kvs 0 ls.length) {sh:List (Int × Int)} {k:Int} (rk:Rk (fe ls) 0 ls.length sh k) :
   m_x15 [.d (.str (tx9 ls)),.dc kvs,.d (.tup (sh.map pairD))]=some (.d (.int k)):=by
 have hlen:=len9 (ls:=ls) (by omega)
 have hsl:=rk.len
 have row:=aheadrow_ok (c:=.d (.str (tx9 ls))) (kvs:=kvs) rk.rise (by omega)
 obtain ⟨⟨fd,st⟩,I,c3,loop⟩:=while_inv (fc:=mB (mOp (eqD 4 true) (mVar 7) (mLst md_x15 mNil))) (fb:=lb_x15_2) (env:=fun x:Int × List Pt=>[some (.d (.str (tx9 ls))),some (.dc kvs),none,some (.dk (sh.map kdD)),none,none,some (.d (.int x.1)),some (.d (.lst (x.2.reverse.map ptD))),none,none,none,none])
   (fun x=>AI ls sh k x) (fun x=>x.2=[]) (fun x=>pms x.2)
   (fun x I=>by
     obtain ⟨fd,st⟩:=x
     have hne:eqD 4 true (.lst (st.reverse.map ptD)) (.lst [])=some (.bl (!(st.reverse.map ptD).isEmpty)):=ne_nil (depthL_map depth_pt _)
     cases st with
     | nil=>
       left
       refine ⟨rfl,?_⟩
       have e0:(!(([]:List Pt).reverse.map ptD).isEmpty)=false:=rfl
       rw [e0] at hne
       dsimp only
       generalize (([]:List Pt).reverse.map ptD)=P at *
       walk_at "ev"
     | cons p r=>
       right
       obtain ⟨x,J,m,t⟩:=ahead_turn hls hl hg rk.rise I
       refine ⟨x,?_,t,J,m⟩
       have e0:(!((p::r).reverse.map ptD).isEmpty)=true:=by simp
       rw [e0] at hne
       dsimp only
       generalize ((p::r).reverse.map ptD)=P at *
       walk_at "ev") 100000 (0,[⟨0,ls.length,sh,k⟩]) ⟨fun p hp=>by
         obtain rfl:=Z12.mp hp
         exact ⟨rk,Z42 _,Z42 _,fun q hq=>hq⟩,by show 0+(k * 1+0)=k; omega,by show (2 * ((ls.length:Int) - 0)+1).toNat+0<=81; omega⟩ (by show (2 * ((ls.length:Int) - 0)+1).toNat+0 < _; omega)
 dsimp only at c3
 subst c3
 have hk:fd=k:=by have:=I.b; dsimp only at this; rw [<- this]; show fd=fd+0; omega
 subst hk
 replace loop:mWhile 100000 (mB (mOp (eqD 4 true) (mVar 7) (mLst md_x15 mNil))) lb_x15_2 [some (.d (.str (tx9 ls))),some (.dc kvs),none,some (.dk (sh.map kdD)),none,none,some (.d (.int 0)),some (.d (.lst [.tup [.int 0,.int ls.length]])),none,none,none,none]=some (.nx,[some (.d (.str (tx9 ls))),some (.dc kvs),none,some (.dk (sh.map kdD)),none,none,some (.d (.int fd)),some (.d (.lst [])),none,none,none,none]):=loop
 apply Ev.fn (ρ:=[some (.d (.str (tx9 ls))),some (.dc kvs),some (.d (.tup (sh.map pairD))),none,none,none,none,none,none,none,none,none]) rfl
 unfold mb_x15
 walk_at "ev"
open PySem L2
theorem Rk.apart {M:Int->Int->Bool} {a b k:Int} {sh:List (Int × Int)} (h:Rk M a b sh k):sh.Pairwise fun x y=>x.1 ≠ y.1/\x.1 ≠ y.2/\x.2 ≠ y.1/\x.2 ≠ y.2:=by
 induction h with
 | nil=>exact .nil
 | @hoop a j b p q k1 k2 h1 h2 hm h3 h4 i1 i2=>
   have n1:=h3.in2
   have n2:=h4.in2
   refine .cons (fun x hx=>?_) (Z48.mpr ⟨i1,i2,fun x hx y hy=>?_⟩)
   · rcases Z11.mp hx with hx | hx
     · have:=n1 x hx; dsimp only; omega
     · have:=n2 x hx; dsimp only; omega
   · have z1:=n1 x hx; have z2:=n2 y hy; omega
set_option genInjectivity true in
inductive RunF (g:MG) (f:MS):List D->En->En->Prop
 | nil (ρ:En):RunF g f [] ρ ρ
 | cons {d:D} {l:List D} {ρ ρ1 ρ2 ρ3:En}:g d ρ=some ρ1->f ρ1=some (.nx,ρ2)->RunF g f l ρ2 ρ3->RunF g f (d::l) ρ ρ3
theorem RunF.app {g:MG} {f:MS} {l m:List D} {ρ ρ1 ρ2:En} (h:RunF g f l ρ ρ1) (k:RunF g f m ρ1 ρ2):RunF g f (l++m) ρ ρ2:=by
 induction h with
 | nil=>exact k
 | cons h1 h2 _ ih=>exact .cons h1 h2 (ih k)
theorem RunF.run {g:MG} {f:MS} {l:List D} {ρ ρ1:En} (h:RunF g f l ρ ρ1):forM g f l ρ=some (.nx,ρ1):=by
 induction h with
 | nil=>rfl
 | cons h1 h2 _ ih=>
   unfold forM
   rw [h1,Z1,h2,Z1]
   exact ih
theorem RunF.one {g:MG} {f:MS} {d:D} {ρ ρ2:En} (h:∃ ρ1,g d ρ=some ρ1/\f ρ1=some (.nx,ρ2)):RunF g f [d] ρ ρ2:=by
 obtain ⟨ρ1,h1,h2⟩:=h
 exact .cons h1 h2 (.nil _)
theorem fitwalk {c:S} {row:List Int} {n:Int} (hn:(row.length:Int)=n) (hn2:n<=1000) {M:Int->Int->Bool} {a b k:Int} {sh:List (Int × Int)} (rk:Rk M a b sh k):0<=a->b<=n->(∀ q ∈ sh,row.getD q.1.toNat 0=q.2/\row.getD q.2.toNat 0=q.1)->∀ ws:List Int,ws.length<=a ->
   RunF (mgName 8) lb_x13_0 ((ups a (b - a).toNat).map D.int) [some c,none,some (.d (.lst (row.map D.int))),none,none,none,none,some (.d (.lst (ws.map D.int))),none] [some c,none,some (.d (.lst (row.map D.int))),none,none,none,none,some (.d (.lst (ws.map D.int))),none]:=by
 induction rk with
 | nil a=>
   intro _ _ _ ws _
   rw [show (a - a).toNat=0 by omega]
   exact .nil _
 | @hoop a j b p q k1 k2 h1 h2 hm h3 h4 i1 i2=>
   intro ha hb hr ws hws
   obtain ⟨r1,r2⟩:=hr (a,j) Z16
   dsimp only at r1 r2
   have x1:=ixL_ints (l:=row) (i:=a) (by omega)
   have x2:=ixL_ints (l:=row) (i:=j) (by omega)
   rw [r1] at x1
   rw [r2] at x2
   have l3:=h3.le
   have l4:=h4.le
   have e:ups a (b - a).toNat=[a]++(ups (a+1) (j - (a+1)).toNat++([j]++ups (j+1) (b - (j+1)).toNat)):=by
     rw [show (b - a).toNat=1+((j - (a+1)).toNat+(1+(b - (j+1)).toNat)) by omega,ups_app,ups_app,ups_app]
     simp only [Int.natCast_one]
     rw [show a+1+((j - (a+1)).toNat:Int)=j by omega]
     simp [ups]
   rw [e]
   simp only [Z23,Z6,List.map_nil]
   have in1:=i1 (by omega) (by omega) (fun z hz=>hr z (Z8 _ (Z37 _ hz))) (ws++[a]) (by simp; omega)
   have in2:=i2 (by omega) (by omega) (fun z hz=>hr z (Z8 _ (Z36 _ hz))) ws (by omega)
   generalize row.map D.int=R at *
   refine .app (.one ?_) (.app in1 (.app (.one ?_) in2))
   · apply Ev.turn
     walk_at "ev"
     unfold lb_x13_0
     walk_at "ev"
     simp
   · have ne:eqD 4 false (.lst ((ws++[a]).map D.int)) (.lst [])=some (.bl false):=by
       have:=eq_nil (l:=(ws++[a]).map D.int) (depthL_map (fun _=>Z14 rfl) _)
       rw [this]
       simp
     have hp:(List.map D.int (ws++[a]))[(List.map D.int (ws++[a])).length - 1]?=some (.int a):=by simp
     have nj:¬ j < a:=by omega
     have ng:¬ j < a:=by omega
     have eq2:eqD 4 true (.int a) (.int a)=some (.bl false):=by rw [neII]; simp
     apply Ev.turn
     walk_at "ev"
     unfold lb_x13_0
     walk_at "ev"
     simp
open PySem L2
theorem getD_set_ne {l:List Int} {i j:Nat} {x:Int} (h:i ≠ j):(l.set i x).getD j 0=l.getD j 0:=by
 rw [Z5,Z5,List.getElem?_set_ne h]
theorem getD_set_eq {l:List Int} {i:Nat} {x:Int} (h:i < l.length):(l.set i x).getD i 0=x:=by
 rw [Z5,List.getElem?_set_self h]; rfl
structure FR (n:Int) (pre:List (Int × Int)) (x:List Int × Int):Prop where
 a:(x.1.length:Int)=n
 b:∀ z:Int,0<=z->z < n->(∀ q ∈ pre,q.1 ≠ z/\q.2 ≠ z)->x.1.getD z.toNat 0=-1
 c:∀ q ∈ pre,x.1.getD q.1.toNat 0=q.2/\x.1.getD q.2.toNat 0=q.1
 d:x.2=-1∨∃ q ∈ pre,x.2=q.1
theorem fits_ok {ls:List Nat} (hls:Ls ls) (hl:ls.length<=40) {sh:List (Int × Int)} {k:Int} (rk:Rk (fe ls) 0 ls.length sh k):m_x13 [.d (.str (tx9 ls)),.d (.tup (sh.map pairD))]=some (.d (.bl true)):=by
 have hlen:=len9 (ls:=ls) (by omega)
 have hsl:=rk.len
 have hin:=rk.in2
 have hri:=rk.rise
 have hap:=rk.apart
 have hln:lenD [.tup (sh.map pairD)]=some (.int sh.length):=by rw [lenT,Z2]
 have rp:=rep_ok (n:=ls.length) (d:=.int (-1)) (by omega)
 have ng:negD (.int 1)=some (.int (-1)):=rfl
 obtain ⟨⟨row,bh⟩,I,loop⟩:=for_inv (g:=mgName 4) (f:=lb_x13_1) (e:=pairD) (l:=sh) (env:=fun (x:List Int × Int)=>[some (.d (.str (tx9 ls))),some (.d (.tup (sh.map pairD))),some (.d (.lst (x.1.map D.int))),some (.d (.int x.2)),none,none,none,none,none])
   (fun pre x=>FR ls.length pre x)
   (fun pre p post x hsp I=>by
     obtain ⟨row,bh⟩:=x
     obtain ⟨a,b,c,d⟩:=I
     dsimp only at a b c d
     have pin:=hin p (by rw [hsp]; simp)
     rw [hsp] at hri hap
     have hri:=(Z48.mp hri).2.2
     have hap:=(Z48.mp hap).2.2
     have hp:∀ q ∈ pre,q.1 < p.1/\q.1 ≠ p.1/\q.1 ≠ p.2/\q.2 ≠ p.1/\q.2 ≠ p.2:=fun q hq=>⟨hri q hq p Z16,hap q hq p Z16⟩
     have hqi:∀ q ∈ pre,0<=q.1/\q.1 < q.2:=fun q hq=>by have:=hin q (by rw [hsp]; simp [hq]); omega
     obtain ⟨i,j⟩:=p
     dsimp only at pin hp
     obtain ⟨p1,p2,p3,p4⟩:=pin
     have bi:=b i (by omega) (by omega) fun q hq=>by have:=hp q hq; omega
     have bj:=b j (by omega) (by omega) fun q hq=>by have:=hp q hq; omega
     have xi:=ixL_ints (l:=row) (i:=i) (by omega)
     have xj:=ixL_ints (l:=row) (i:=j) (by omega)
     rw [bi] at xi
     rw [bj] at xj
     have ci:=ix9 (ls:=ls) (by omega) (i:=i) (by omega)
     have cj:=ix9 (ls:=ls) (by omega) (i:=j) (by omega)
     have fa:=lfellow_ok (lt9_lt hls (i:=i) (by omega))
     have e':sgn (97+lt9 ls j)=sgn (97+fl (lt9 ls i)):=by rw [of_decide_eq_true p4]
     rw [<- e'] at fa
     have hb:bh < i:=by
       rcases d with d | ⟨q,hq,d⟩
       · omega
       · have:=hp q hq; omega
     refine ⟨((row.set i.toNat j).set j.toNat i,i),⟨by simp; omega,fun z z0 z1 hz=>?_,fun q hq=>?_,.inr ⟨(i,j),by simp,rfl⟩⟩,?_⟩
     · dsimp only at z1 ⊢
       have hz1:=hz (i,j) (by simp)
       dsimp only at hz1
       rw [getD_set_ne (by omega),getD_set_ne (by omega)]
       exact b z z0 z1 fun q hq=>hz q (by simp [hq])
     · dsimp only
       rcases Z11.mp hq with hq | hq
       · have h1:=hp q hq
         have h2:=hqi q hq
         have h3:=c q hq
         rw [getD_set_ne (by omega),getD_set_ne (by omega),getD_set_ne (by omega),getD_set_ne (by omega)]
         exact h3
       · rw [Z12] at hq
         subst hq
         dsimp only
         rw [getD_set_ne (by omega),getD_set_eq (by omega),getD_set_eq (by simp; omega)]
         exact ⟨rfl,rfl⟩
     · have i1:(!isiT (kindD (pairD (i,j))) "tuple")=false:=rfl
       have lp:lenD [pairD (i,j)]=some (.int 2):=rfl
       have w1:m_x9 [.d (.int i)]=some (.d (.bl true)):=rfl
       have w2:m_x9 [.d (.int j)]=some (.d (.bl true)):=rfl
       have gi:¬ (-1:Int) < -1:=by decide
       have es:eqD 4 true (.str (sgn (97+lt9 ls j))) (.str (sgn (97+lt9 ls j)))=some (.bl false):=by rw [neSS]; simp
       dsimp only
       rw [List.map_set,List.map_set]
       have lr:(row.map D.int).length=ls.length:=by simp; omega
       generalize row.map D.int=R at *
       apply Ev.turn
       walk_at "ev"
       unfold lb_x13_1
       walk_at "ev") (List.replicate ls.length (-1),-1) ⟨by simp,fun z z0 z1 _=>by
         dsimp only
         rw [Z5,List.getElem?_replicate,if_pos (by omega)]; rfl,(fun q hq=>by cases hq),.inl rfl⟩
 obtain ⟨a,b,c,d⟩:=I
 dsimp only at a b c d loop
 have wk:=(fitwalk (c:=.d (.str (tx9 ls))) (row:=row) a (by omega) rk (Z42 _) (Z42 _) c [] (by simp)).run
 rw [show ((ls.length:Int) - 0).toNat=((ls.length:Int)).toNat by omega] at wk
 rw [List.map_replicate] at loop
 rw [show ((ls.length:Int)).toNat=ls.length by omega] at rp
 simp only [List.map_nil] at wk
 have it:(!isiT (kindD (.tup (sh.map pairD))) "tuple")=false:=rfl
 have e2:eqD 4 true (.int (2 * (sh.length:Int))) (.int (ls.length:Int))=some (.bl false):=by
   rw [neII,hsl]; simp
 generalize row.map D.int=R at *
 generalize sh.map pairD=Sm at *
 apply Ev.fn (ρ:=[some (.d (.str (tx9 ls))),some (.d (.tup Sm)),none,none,none,none,none,none,none]) rfl
 unfold mb_x13
 walk_at "ev"
open PySem L2
local macro_rules | `(tactic| walk_at $s:str) => Mir.tab s.getString "evS\t0\tA Ev.tryN"
theorem nobey_turn {ls:List Nat} (hls:Ls ls) (hl:ls.length<=40) {k r:Int} (hk:k < 0∨FN (fe ls) 0 ls.length<=k) {m:S} :
   ∃ ρ1,mgName 3 (.int k) [some (.d (.str (tx9 ls))),some m,some (.d (.int r)),none]=some ρ1/\lb_x17_0 ρ1=some (.nx,[some (.d (.str (tx9 ls))),some m,some (.d (.int (r+1))),none]):=by
 have no:=full_at_no hls hl hk
 apply Ev.turn
 walk_at "ev"
 unfold lb_x17_0
 walk_at "ev"
theorem pow_is {n:Int} (c:CPow 10 n):powD (.int 10) (.int n)=some (.int (10 ^ n.toNat)):=if_pos c
theorem pow30:powD (.int 10) (.int 30)=some (.int (10 ^ 30)):=pow_is ⟨by decide,by decide,by decide⟩
theorem nobey_ok {ls:List Nat} (hls:Ls ls) (hl:ls.length<=40) {m:Int} (hm:FN (fe ls) 0 ls.length=m):m_x17 [.d (.str (tx9 ls)),.d (.int m)]=some (.d (.bl true)):=by
 have h0:=FN_nonneg (fe ls) 0 ls.length
 have pw:=pow30
 obtain ⟨x,hx,ix⟩:∃ x:Int,(x < 0∨m<=x)/\ixD (.lst [.int (-1),.int (m+10 ^ 30)]) (.int (m % 2))=some (.int x):=by
   by_cases h:m % 2=0
   · exact ⟨-1,.inl (by decide),by rw [h]; rfl⟩
   · exact ⟨m+10 ^ 30,.inr (by omega),by rw [show m % 2=1 by omega]; rfl⟩
 have t1:=nobey_turn hls hl (k:=m) (r:=0) (.inr (by omega)) (m:=.d (.int m))
 have t2:=nobey_turn hls hl (k:=x) (r:=0+1) (by omega) (m:=.d (.int m))
 have loop:=(RunF.app (RunF.one t1) (RunF.one t2)).run
 have ng:negD (.int 1)=some (.int (-1)):=rfl
 simp only [Z51,List.nil_append,Int.zero_add,show (1:Int)+1=2 from rfl] at loop
 have e2:eqD 4 false (.int 2) (.int 2)=some (.bl true):=rfl
 apply Ev.fn (ρ:=[some (.d (.str (tx9 ls))),some (.d (.int m)),none,none]) rfl
 unfold mb_x17
 walk_at "ev"
 all_goals simp
open PySem L2
set_option genInjectivity true in
inductive Fu (M:Int->Int->Bool):Int->Int->List (Int × Int)->Prop
 | nil (a:Int):Fu M a a []
 | hoop {a j b:Int} {p q:List (Int × Int)}:a < j->j < b->M a j=true->Fu M (a+1) j p->Fu M (j+1) b q->Fu M a b ((a,j)::(p++q))
theorem Fu.cat {M:Int->Int->Bool} {a b c:Int} {x y:List (Int × Int)} (h:Fu M a b x) (k:Fu M b c y):Fu M a c (x++y):=by
 have le:∀ {a b:Int} {x:List (Int × Int)},Fu M a b x->a<=b:=fun h=>by
   induction h with
   | nil=>exact Z42 _
   | hoop h1 h2 _ _ _ _ _=>omega
 have hk:=le k
 induction h with
 | nil=>exact k
 | @hoop a j b p q h1 h2 hm h3 h4 i1 i2=>
   have:=Fu.hoop h1 (show j < c by omega) hm h3 (i2 k hk)
   rw [<- List.append_assoc] at this
   exact this
theorem Fu.mono {M M':Int->Int->Bool} {a b:Int} {x:List (Int × Int)} (h:Fu M a b x) (hm:∀ p ∈ x,M' p.1 p.2=true):Fu M' a b x:=by
 induction h with
 | nil=>exact .nil _
 | hoop h1 h2 _ _ _ i1 i2=>exact .hoop h1 h2 (hm _ Z16) (i1 fun p hp=>hm p (Z8 _ (Z37 _ hp))) (i2 fun p hp=>hm p (Z8 _ (Z36 _ hp)))
theorem Fu.one {M:Int->Int->Bool} {a j:Int} {x:List (Int × Int)} (h:Fu M (a+1) j x) (hj:a < j) (hm:M a j=true):Fu M a (j+1) ((a,j)::x):=by
 have:=Fu.hoop hj (show j < j+1 by omega) hm h (.nil (j+1))
 rw [Z35] at this
 exact this
theorem Fu.mem {M:Int->Int->Bool} {a b:Int} {x:List (Int × Int)} (h:Fu M a b x):∃ r ∈ FP M a b,r.2=x:=by
 induction h with
 | nil a=>exact ⟨([],[]),by rw [FP_nil M (Z42 _)]; simp,rfl⟩
 | @hoop a j b p q h1 h2 hm h3 h4 i1 i2=>
   obtain ⟨r1,m1,e1⟩:=i1
   obtain ⟨r2,m2,e2⟩:=i2
   refine ⟨glue a j r1 r2,?_,by unfold glue; rw [e1,e2]⟩
   rw [FP_step M (by omega)]
   refine List.mem_flatMap.mpr ⟨j,ups_in.mpr (by omega),?_⟩
   unfold FPj
   rw [if_pos hm]
   exact List.mem_flatMap.mpr ⟨r1,m1,Z18.mpr ⟨r2,m2,rfl⟩⟩
theorem Fu.pos {M:Int->Int->Bool} {a b:Int} {x:List (Int × Int)} (h:Fu M a b x):1<=FN M a b:=by
 obtain ⟨r,m,_⟩:=h.mem
 have:=List.length_pos_of_mem m
 unfold FN
 omega
theorem Fu.rk {M:Int->Int->Bool} {a b:Int} {x:List (Int × Int)} (h:Fu M a b x):∃ k,Rk M a b x k:=by
 induction h with
 | nil a=>exact ⟨0,.nil a⟩
 | hoop h1 h2 hm _ _ i1 i2=>
   obtain ⟨k1,r1⟩:=i1
   obtain ⟨k2,r2⟩:=i2
   exact ⟨_,.hoop h1 h2 hm r1 r2⟩
set_option genInjectivity true in
inductive Sg (M:Int->Int->Bool):Int->Int->List Int->List (Int × Int)->Prop
 | nil {a b:Int} {x:List (Int × Int)}:Fu M a b x->Sg M a b [] x
 | cons {a b w:Int} {ws:List Int} {x y:List (Int × Int)}:Sg M a w ws x->Fu M (w+1) b y->Sg M a b (ws++[w]) (x++y)
theorem Sg.le {M:Int->Int->Bool} {a b:Int} {ws:List Int} {x:List (Int × Int)} (h:Sg M a b ws x):a<=b:=by
 have le:∀ {a b:Int} {x:List (Int × Int)},Fu M a b x->a<=b:=fun h=>by
   induction h with
   | nil=>exact Z42 _
   | hoop h1 h2 _ _ _ _ _=>omega
 induction h with
 | nil h=>exact le h
 | cons _ h ih=>have:=le h; omega
theorem Sg.push {M:Int->Int->Bool} {a b:Int} {ws:List Int} {x:List (Int × Int)} (h:Sg M a b ws x):Sg M a (b+1) (ws++[b]) x:=by
 have:=Sg.cons h (.nil (b+1))
 rw [Z35] at this
 exact this
theorem Sg.ext {M:Int->Int->Bool} {a b c:Int} {ws:List Int} {x y:List (Int × Int)} (h:Sg M a b ws x) (k:Fu M b c y):Sg M a c ws (x++y):=by
 cases h with
 | nil h=>exact .nil (h.cat k)
 | cons h1 h2=>rw [List.append_assoc]; exact .cons h1 (h2.cat k)
theorem Sg.shut {M:Int->Int->Bool} {a b w:Int} {ws:List Int} {x:List (Int × Int)} (h:Sg M a b (ws++[w]) x) (hm:∀ u v,M u v=true):∃ y,y.Perm ((w,b)::x)/\Sg M a (b+1) ws y:=by
 generalize e:ws++[w]=zs at h
 cases h with
 | nil h=>simp at e
 | @cons _ w' ws' x' y' h1 h2=>
   obtain ⟨rfl,e2⟩:=List.append_inj' e rfl
   injection e2 with e2 _
   subst e2
   have le:=Sg.le (Sg.nil (a:=w+1) h2)
   refine ⟨x'++((w,b)::y'),?_,h1.ext (Fu.one h2 (by omega) (hm _ _))⟩
   exact List.perm_middle
open PySem L2
@[reducible] noncomputable def stS (s:Int):S:=.d (.lst [.int s])
theorem okIo_st (s:Int):okIo (.d (.lst [.int s]))=some (.d (.lst [.int s])):=rfl
theorem okIo2_st (s t:Int):okIo2 (.d (.lst [.int s])) (.d (.lst [.int t]))=some (.d (.lst [.int t])):=rfl
local macro_rules | `(tactic| walk_at $s:str) => Mir.tab s.getString "evC\t0\tq Mir.okIo_st _\tq Mir.okIo2_st _ _"
theorem sort_to {ps ls:List (Int × Int)} (hr:ls.Pairwise fun a b=>a.1 < b.1) (hl:ps.length < 64) (hp:ps.Perm ls):Srt.sortD [.lst (ps.map pairD)]=some (.lst (ls.map pairD)):=by
 obtain ⟨q,q1,q2,q3⟩:=sort_pairs hl
 rw [q3]
 have e:q=ls:=by
   refine List.Perm.eq_of_pairwise (le:=fun a b=>pLe a b=true) (fun a b _ _ x y=>?_) q2 (hr.imp fun {a b} z=>(pLe_iff a b).mpr (.inl z)) (q1.trans hp)
   have x':=(pLe_iff a b).mp x
   have y':=(pLe_iff b a).mp y
   exact Prod.ext (by omega) (by omega)
 rw [e]
structure FI (h:Int) (k:Nat) (x:Int × List (Int × Int) × List Int × Int):Prop where
 a:x.2.2.1.length+2 * x.2.1.length=k
 b:x.2.2.2=h - x.2.2.1.length - x.2.1.length
 c:0<=x.2.2.2
 d:∀ p ∈ x.2.1,0<=p.1/\p.1 < p.2/\p.2 < k
 e:∀ p ∈ x.2.2.1,0<=p/\p < k
theorem FI.push {h:Int} {k:Nat} {s s':Int} {ps:List (Int × Int)} {ws:List Int} {lf:Int} (I:FI h k (s,ps,ws,lf)) (hl:0 < lf):FI h (k+1) (s',ps,ws++[(k:Int)],lf - 1):=by
 obtain ⟨a,b,c,d,e⟩:=I
 dsimp only at a b c d e
 refine ⟨by simp; omega,by simp; omega,by dsimp only; omega,fun p hp=>by have:=d p hp; omega,fun p hp=>?_⟩
 rcases Z11.mp hp with hp | hp
 · have:=e p hp; omega
 · rw [Z12] at hp; omega
theorem FI.shut {h:Int} {k:Nat} {s s':Int} {ps:List (Int × Int)} {ws:List Int} {w lf:Int} (I:FI h k (s,ps,ws++[w],lf)):FI h (k+1) (s',ps++[(w,(k:Int))],ws,lf):=by
 obtain ⟨a,b,c,d,e⟩:=I
 dsimp only at a b c d e
 simp at a b
 have hw:=e w (by simp)
 refine ⟨by simp; omega,by simp; omega,by dsimp only; omega,fun p hp=>?_,fun p hp=>by have:=e p (by simp [hp]); omega⟩
 rcases Z11.mp hp with hp | hp
 · have:=d p hp; omega
 · rw [List.mem_singleton] at hp; subst hp; dsimp only; omega
noncomputable abbrev tt2:Int->Int->Bool:=fun _ _=>true
structure FJ (h:Int) (k:Nat) (x:Int × List (Int × Int) × List Int × Int):Prop extends FI h k x where
 f:∃ y,Sg tt2 0 k x.2.2.1 y/\x.2.1.Perm y
theorem FJ.push {h:Int} {k:Nat} {s s':Int} {ps:List (Int × Int)} {ws:List Int} {lf:Int} (I:FJ h k (s,ps,ws,lf)) (hl:0 < lf):FJ h (k+1) (s',ps,ws++[(k:Int)],lf - 1):=by
 obtain ⟨y,y1,y2⟩:=I.f
 refine ⟨I.toFI.push hl,y,?_,y2⟩
 have:=y1.push
 exact_mod_cast this
theorem FJ.shut {h:Int} {k:Nat} {s s':Int} {ps:List (Int × Int)} {ws:List Int} {w lf:Int} (I:FJ h k (s,ps,ws++[w],lf)):FJ h (k+1) (s',ps++[(w,(k:Int))],ws,lf):=by
 obtain ⟨y,y1,y2⟩:=I.f
 obtain ⟨z,z1,z2⟩:=Sg.shut y1 (fun _ _=>rfl)
 refine ⟨I.toFI.shut,z,by exact_mod_cast z2,?_⟩
 have a:(ps++[(w,(k:Int))]).Perm ((w,(k:Int))::ps):=List.perm_append_singleton _ _
 exact a.trans ((List.Perm.cons _ y2).trans z1.symm)
theorem full_turn {h:Int} (hh:0<=h/\h<=21) {k:Nat} (hk:(k:Int) < 2 * h) {s:Int} {ps:List (Int × Int)} {ws:List Int} {lf:Int} (I:FJ h k (s,ps,ws,lf)) :
   ∃ x,FJ h (k+1) x/\∃ ρ1,mgName 5 (.int (k:Int)) [some (stS s),some (.d (.int h)),some (.d (.lst (ps.map pairD))),some (.d (.lst (ws.map D.int))),some (.d (.int lf)),none]=some ρ1/\lb_x11_0 ρ1=some (.nx,[some (stS x.1),some (.d (.int h)),some (.d (.lst (x.2.1.map pairD))),some (.d (.lst (x.2.2.1.map D.int))),some (.d (.int x.2.2.2)),none]):=by
 have ha:ws.length+2 * ps.length=k:=I.a
 have hb:lf=h - ws.length - ps.length:=I.b
 have hc:0<=lf:=I.c
 have tk:=take_ok s (n:=5) (by decide) (by decide)
 by_cases c1:0 < lf
 · rcases List.eq_nil_or_concat ws with e | ⟨ws',w,e⟩
   · subst e
     refine ⟨_,I.push (s':=s) c1,?_⟩
     have en:eqD 4 false (.lst []) (.lst [])=some (.bl true):=rfl
     apply Ev.turn
     walk_at "ev"
     unfold lb_x11_0
     walk_at "ev"
     rfl
   · rw [List.concat_eq_append] at e
     subst e
     have en:eqD 4 false (.lst ((ws'++[w]).map D.int)) (.lst [])=some (.bl false):=by
       have:=eq_nil (l:=(ws'++[w]).map D.int) (depthL_map (fun _=>Z14 rfl) _)
       rw [this]
       simp
     have hp:(List.map D.int (ws'++[w]))[(List.map D.int (ws'++[w])).length - 1]?=some (.int w):=by simp
     have hln:lenD [.lst ((ws'++[w]).map D.int)]=some (.int ((ws'++[w]).length:Int)):=by
       have:=lenL (l:=(ws'++[w]).map D.int)
       rw [Z2] at this
       exact this
     by_cases c2:s % 5 < 2+((ws'++[w]).length:Int) % 2
     · refine ⟨_,I.push (s':=s / 5) c1,?_⟩
       dsimp only
       apply Ev.turn
       walk_at "ev"
       unfold lb_x11_0
       walk_at "ev"
       simp only [Z23,Z6,List.map_nil]
     · refine ⟨_,I.shut (s':=s / 5),?_⟩
       dsimp only
       apply Ev.turn
       walk_at "ev"
       unfold lb_x11_0
       walk_at "ev"
       simp
 · rcases List.eq_nil_or_concat ws with e | ⟨ws',w,e⟩
   · subst e
     simp at ha hb
     omega
   · rw [List.concat_eq_append] at e
     subst e
     have hp:(List.map D.int (ws'++[w]))[(List.map D.int (ws'++[w])).length - 1]?=some (.int w):=by simp
     refine ⟨_,I.shut (s':=s),?_⟩
     dsimp only
     apply Ev.turn
     walk_at "ev"
     unfold lb_x11_0
     walk_at "ev"
     simp
theorem lawfull_ok (s:Int) {h:Int} (hh:0<=h/\h<=21):∃ (sh:List (Int × Int)) (s':Int),Fu tt2 0 (2 * h) sh/\m_x11 [stS s,.d (.int h)]=some (.d (.tup (sh.map pairD)),stS s'):=by
 obtain ⟨⟨s1,ps,ws,lf⟩,I,loop⟩:=for_inv (g:=mgName 5) (f:=lb_x11_0) (e:=D.int) (l:=ups 0 (2 * h).toNat) (env:=fun (x:Int × List (Int × Int) × List Int × Int)=>[some (stS x.1),some (.d (.int h)),some (.d (.lst (x.2.1.map pairD))),some (.d (.lst (x.2.2.1.map D.int))),some (.d (.int x.2.2.2)),none])
   (fun pre x=>FJ h pre.length x)
   (fun pre a post x hsp hP=>by
     obtain ⟨s,ps,ws,lf⟩:=x
     obtain ⟨a1,a2,_⟩:=ups_split hsp
     have ea:a=(pre.length:Int):=by omega
     subst ea
     obtain ⟨x,I,t⟩:=full_turn hh (k:=pre.length) (by omega) hP
     exact ⟨x,by simpa using I,t⟩) (s,[],[],h) ⟨⟨rfl,by simp,hh.1,by simp,by simp⟩,[],.nil (.nil 0),.nil⟩
 rw [ups_len] at I
 obtain ⟨⟨a,b,c,d,e⟩,y,y1,y2⟩:=I
 dsimp only at a b c d e y1 y2 loop
 have w0:ws=[]:=List.eq_nil_of_length_eq_zero (by omega)
 subst w0
 rw [show (((2 * h).toNat:Nat):Int)=2 * h by omega] at y1
 generalize ez:([]:List Int)=zs at y1
 cases y1 with
 | cons h1 h2=>simp at ez
 | nil fu=>
   obtain ⟨kk,rk⟩:=fu.rk
   have so:=sort_to rk.rise (ps:=ps) (by simp at a; omega) y2
   refine ⟨y,s1,fu,?_⟩
   apply Ev.fnM (ρ:=[some (stS s),some (.d (.int h)),none,none,none,none]) rfl
   unfold mb_x11
   walk_at "ev"
open PySem L2 Builtin.Str
theorem take_ex (s:Int) {n:Int} (h:0 < n) (hb:n < 1000000):∃ w s':Int,0<=w/\w < n/\m_x8 [.d (.lst [.int s]),.d (.int n)]=some (.d (.int w),.d (.lst [.int s'])):=
 ⟨s % n,s / n,Int.emod_nonneg _ (by omega),Int.emod_lt_of_pos _ h,take_ok s h (log_of (n:=20) (by omega) (by omega) (by omega))⟩
@[reducible] noncomputable def clD (w:List Nat):D:=.str (tx9 w)
theorem join_tx (ws:List (List Nat)):Txt.join (Str.ofString "") (ws.map txt)=txt ws.flatten:=by
 have e:(Txt.join Str.empty (ws.map txt)).cps.toList=ws.flatten:=by
   rw [join_codes,Z31]
   induction ws with
   | nil=>rfl
   | cons c r ih=>rw [Z6,Z39,ih]; rfl
 rw [show (Str.ofString "")=Str.empty by decide +kernel]
 show _=(⟨ws.flatten.toArray⟩:Str)
 generalize Txt.join Str.empty (ws.map txt)=z at e
 rw [<- e]
theorem join_cl {ws:List (List Nat)} (hf:ws.flatten.length < 10000):joinD (Str.ofString "") [.lst (ws.map clD)]=some (.str (tx9 ws.flatten)):=by
 have e:ws.map clD=((ws.map fun w=>w.map (97+·)).map txt).map D.str:=by rw [Z31,Z31]; rfl
 rw [e]
 show (strsD (((ws.map fun w=>w.map (97+·)).map txt).map D.str)).bind _=_
 have hs:∀ ws:List (List Nat),(((ws.map fun w=>w.map (97+·)).map txt).map (·.length)).sum=ws.flatten.length:=by
   intro ws
   induction ws with
   | nil=>rfl
   | cons c r ih=>rw [Z6,Z6,Z6,List.sum_cons,ih,Z39,Z17,txt_len,Z2]
 rw [strsD_of,Z1,if_pos (by rw [hs,show (Str.ofString "").length=0 by decide +kernel]; omega),join_tx]
 unfold tx9
 rw [List.map_flatten]
theorem flat_few:∀ {ws:List (List Nat)},(∀ w ∈ ws,w.length<=1)->ws.flatten.length<=ws.length
 | [],_=>Z10 0
 | w::ws,h=>by
   rw [Z39,Z17,Z58]
   have h1:=h w Z16
   have h2:=flat_few (ws:=ws) fun x hx=>h x (Z8 _ hx)
   omega
noncomputable def Cel9 (w:List Nat):Prop:=w.length<=1/\∀ x ∈ w,x < 26
theorem fl_lt {x:Nat} (h:x < 26):fl x < 26:=by unfold fl; split <;> omega
theorem cell1 {x:Nat} (h:x < 26):Cel9 [x]:=⟨Z10 1,fun y hy=>by rw [Z12] at hy; omega⟩
theorem cell_set {ws:List (List Nat)} (h:∀ w ∈ ws,Cel9 w) {x:Nat} (hx:x < 26) (i:Nat):∀ w ∈ ws.set i [x],Cel9 w:=by
 intro w hw
 rcases List.mem_or_eq_of_mem_set hw with hw | rfl
 · exact h w hw
 · exact cell1 hx
theorem cells_ls {ws:List (List Nat)} (h:∀ w ∈ ws,Cel9 w):Ls ws.flatten:=by
 intro x hx
 obtain ⟨w,hw,hx⟩:=List.mem_flatten.mp hx
 exact (h w hw).2 x hx
theorem Fu.rng {M:Int->Int->Bool} {a b:Int} {x:List (Int × Int)} (h:Fu M a b x):∀ p ∈ x,a<=p.1/\p.1 < p.2/\p.2 < b:=by
 obtain ⟨k,rk⟩:=h.rk
 intro p hp
 have:=rk.in2 p hp
 omega
theorem Fu.all {M:Int->Int->Bool} {a b:Int} {x:List (Int × Int)} (h:Fu M a b x):∀ z,a<=z->z < b->∃ q ∈ x,q.1=z∨q.2=z:=by
 induction h with
 | nil=>intro z h1 h2; omega
 | @hoop a j b p q h1 h2 hm h3 h4 i1 i2=>
   intro z z1 z2
   by_cases e:z=a
   · exact ⟨(a,j),Z16,.inl e.symm⟩
   · by_cases e2:z=j
     · exact ⟨(a,j),Z16,.inr e2.symm⟩
     · by_cases e3:z < j
       · obtain ⟨r,r1,r2⟩:=i1 z (by omega) e3
         exact ⟨r,Z8 _ (Z37 _ r1),r2⟩
       · obtain ⟨r,r1,r2⟩:=i2 z (by omega) z2
         exact ⟨r,Z8 _ (Z36 _ r1),r2⟩
theorem cells_flat {ws:List (List Nat)} (h:∀ i:Nat,i < ws.length->∃ x,ws[i]?=some [x]):∃ ls:List Nat,ws.flatten=ls/\ls.length=ws.length/\∀ i x,ws[i]?=some [x]->ls.getD i 0=x:=by
 refine ⟨ws.map fun w=>w.headD 0,?_,by simp,fun i x e=>by rw [Z5,Z21,e]; rfl⟩
 induction ws with
 | nil=>rfl
 | cons w ws ih=>
   obtain ⟨x,e⟩:=h 0 (by simp)
   have e:w=[x]:=by simpa using e
   subst e
   rw [Z39,ih fun i hi=>by simpa using h (i+1) (by simp; omega)]
   rfl
theorem cordfor_ok (s:Int) {sh:List (Int × Int)} {h c:Int} (fu:Fu tt2 0 (2 * h) sh) (hh:h<=21) (hc:0 < c/\c<=13) :
   ∃ (ls:List Nat) (s':Int),Ls ls/\(ls.length:Int)=2 * h/\Fu (fe ls) 0 ls.length sh/\m_x12 [stS s,.d (.tup (sh.map pairD)),.d (.int c)]=some (.d (.str (tx9 ls)),stS s'):=by
 have hi:=fu.rng
 obtain ⟨kk,rk⟩:=fu.rk
 have hl:(sh.length:Int)=h:=by have:=rk.len; omega
 have hap:=rk.apart
 have hln:lenD [.tup (sh.map pairD)]=some (.int h):=by rw [lenT,Z2,hl]
 obtain ⟨⟨s1,ws⟩,⟨w1,w2,w3⟩,loop⟩:=for_inv (g:=mgTup 2 (mgCons (mgName 4) (mgCons (mgName 5) mgNil))) (f:=lb_x12_0) (e:=pairD) (l:=sh) (env:=fun (x:Int × List (List Nat))=>[some (stS x.1),some (.d (.tup (sh.map pairD))),some (.d (.int c)),some (.d (.lst (x.2.map clD))),none,none])
   (fun pre x=>(x.2.length:Int)=2 * h/\(∀ w ∈ x.2,Cel9 w)/\∀ q ∈ pre,∃ y:Nat,y < 26/\x.2[q.1.toNat]?=some [y]/\x.2[q.2.toNat]?=some [fl y])
   (fun pre p post x hsp hP=>by
     obtain ⟨s,ws⟩:=x
     obtain ⟨hw1,hw2,hw3⟩:=hP
     dsimp only at hw1 hw2 hw3
     have hp:=hi p (by rw [hsp]; simp)
     have hq:∀ q ∈ pre,0<=q.1/\q.1 < q.2/\q.1 ≠ p.1/\q.1 ≠ p.2/\q.2 ≠ p.1/\q.2 ≠ p.2:=fun q hq=>by
       have h1:=hi q (by rw [hsp]; simp [hq])
       rw [hsp] at hap
       have h2:=(Z48.mp hap).2.2 q hq p Z16
       omega
     obtain ⟨i,j⟩:=p
     dsimp only at hp hq
     obtain ⟨t,s',t0,t1,tk⟩:=take_ex s (n:=2 * c) (by omega) (by omega)
     have hx:t.toNat < 26:=by omega
     have lx:=let_ix (x:=t.toNat) (i:=t) hx (by omega)
     have lf:=lfellow_ok hx
     refine ⟨(s',(ws.set i.toNat [t.toNat]).set j.toNat [fl t.toNat]),⟨by simp; omega,cell_set (cell_set hw2 hx _) (fl_lt hx) _,fun q hqm=>?_⟩,?_⟩
     · dsimp only
       rcases Z11.mp hqm with hqm | hqm
       · have h1:=hq q hqm
         rw [List.getElem?_set_ne (by omega),List.getElem?_set_ne (by omega),List.getElem?_set_ne (by omega),List.getElem?_set_ne (by omega)]
         exact hw3 q hqm
       · rw [Z12] at hqm
         subst hqm
         dsimp only
         refine ⟨t.toNat,hx,?_,?_⟩
         · rw [List.getElem?_set_ne (by omega),List.getElem?_set_self (by omega)]
         · rw [List.getElem?_set_self (by simp; omega)]
     have e1:∀ x:Nat,D.str (sgn (97+x))=clD [x]:=fun x=>rfl
     rw [e1] at lx
     rw [e1,e1] at lf
     have ix:ixD (.lst ((ws.map clD).set i.toNat (clD [t.toNat]))) (.int i)=some (clD [t.toNat]):=by
       show atI _ i=_
       rw [atI_len (by simp; omega),List.getElem?_set_self (by simp; omega)]
     dsimp only
     rw [List.map_set,List.map_set]
     generalize clD [t.toNat]=A at *
     generalize clD [fl t.toNat]=B at *
     apply Ev.turn
     walk_at "ev"
     unfold lb_x12_0
     walk_at "ev") (s,List.replicate (2 * h).toNat []) ⟨by simp; omega,(fun w hw=>by rw [List.eq_of_mem_replicate hw]; exact ⟨Z30 _,fun x hx=>by cases hx⟩),fun q hq=>by cases hq⟩
 dsimp only at w1 w2 w3 loop
 obtain ⟨ls,f1,f2,f3⟩:=cells_flat (ws:=ws) fun i hi=>by
   obtain ⟨q,q1,q2⟩:=fu.all (i:Int) (by omega) (by omega)
   obtain ⟨y,y0,y1,y2⟩:=w3 q q1
   rcases q2 with q2 | q2
   · rw [q2] at y1; exact ⟨y,by simpa using y1⟩
   · rw [q2] at y2; exact ⟨fl y,by simpa using y2⟩
 have jn:=join_cl (ws:=ws) (by rw [f1]; omega)
 have cl:=cells_ls w2
 rw [f1] at jn cl
 have rp:=rep_ok (n:=2 * h) (d:=.str (Str.ofString "")) (by omega)
 rw [List.map_replicate] at loop
 have e0:clD []=.str (Str.ofString ""):=by show D.str (txt [])=_; rw [st_no]
 rw [e0] at loop
 refine ⟨ls,s1,cl,by omega,?_,?_⟩
 · have:=fu.mono (M':=fe ls) fun p hp=>by
     obtain ⟨y,y0,y1,y2⟩:=w3 p hp
     have g1:=f3 _ _ y1
     have g2:=f3 _ _ y2
     unfold fe lt9
     rw [g1,g2]
     exact decide_eq_true rfl
   rw [show (ls.length:Int)=2 * h by omega]
   exact this
 generalize tx9 ls=T at *
 apply Ev.fnM (ρ:=[some (stS s),some (.d (.tup (sh.map pairD))),some (.d (.int c)),none,none,none]) rfl
 unfold mb_x12
 walk_at "ev"
open PySem L2
theorem right_turn {ls:List Nat} (hls:Ls ls) (hl:ls.length<=40) {kvs:List (List Key × D)} (hg:GoodF ls kvs 0 ls.length) {k:Int} (h0:0<=k) (h1:k < FN (fe ls) 0 ls.length) {c1 c3 c4:S} :
   ∃ ρ1,mgName 5 (.int k) [some (.d (.str (tx9 ls))),some c1,some (.dc kvs),some c3,some c4,none,none]=some ρ1/\lb_x16_0 ρ1=some (.nx,[some (.d (.str (tx9 ls))),some c1,some (.dc kvs),some c3,some c4,none,none]):=by
 obtain ⟨n,rfl⟩:=Int.eq_ofNat_of_zero_le h0
 have hn:n < (FP (fe ls) 0 ls.length).length:=by unfold FN at h1; omega
 have hx:=Z3 hn
 generalize (FP (fe ls) 0 ls.length)[n]=x at hx
 have fa:=full_at_ok hls hl hx
 have rk:=FP_rk (fe ls) ls.length (a:=0) (e:=ls.length) (by omega) hx
 have fi:=fits_ok hls hl rk
 have ah:=ahead_ok hls hl hg rk
 have en:eqD 4 true (.int (n:Int)) (.int (n:Int))=some (.bl false):=by rw [neII]; simp
 generalize x.2.map pairD=Sm at *
 apply Ev.turn
 walk_at "ev"
 unfold lb_x16_0
 walk_at "ev"
theorem right_ok {ls:List Nat} (hls:Ls ls) (hl:ls.length<=40) (hp:1<=FN (fe ls) 0 ls.length) (s:Int):∃ s':Int,m_x16 [.d (.str (tx9 ls)),stS s]=some (.d (.bl true),stS s'):=by
 have hlen:=len9 (ls:=ls) (by omega)
 obtain ⟨kvs,hg,tb⟩:=table_ok hls hl
 have g0:=hg 0 ls.length (Z42 _) (by omega) (Z42 _)
 have hm:=howmany_ok hls hl
 have nb:=nobey_ok hls hl (m:=FN (fe ls) 0 ls.length) rfl
 have bd:=FN_bound (fe ls) (a:=0) (b:=ls.length) (by omega) (by omega)
 generalize hN:FN (fe ls) 0 ls.length=N at *
 have tk:=take_ok s (n:=N) (by omega) (log_of (n:=40) (by omega) (by omega) (by omega))
 have t0:=Int.emod_nonneg s (show N ≠ 0 by omega)
 have t1:=Int.emod_lt_of_pos s (show 0 < N by omega)
 have r1:=right_turn hls hl hg (k:=0) (Z42 _) (by omega) (c1:=stS (s / N)) (c3:=.d (.int N)) (c4:=.d (.lst [.int 0,.int (N - 1),.int (s % N)]))
 have r2:=right_turn hls hl hg (k:=N - 1) (by omega) (by omega) (c1:=stS (s / N)) (c3:=.d (.int N)) (c4:=.d (.lst [.int 0,.int (N - 1),.int (s % N)]))
 have r3:=right_turn hls hl hg (k:=s % N) t0 (by omega) (c1:=stS (s / N)) (c3:=.d (.int N)) (c4:=.d (.lst [.int 0,.int (N - 1),.int (s % N)]))
 have loop:=(RunF.app (RunF.one r1) (RunF.app (RunF.one r2) (RunF.one r3))).run
 simp only [Z51,List.nil_append] at loop
 have hw:m_x9 [.d (.int N)]=some (.d (.bl true)):=rfl
 have en:eqD 4 true (.int N) (.int N)=some (.bl false):=by rw [neII]; simp
 refine ⟨s / N,?_⟩
 apply Ev.fnM1 (ρ:=[some (.d (.str (tx9 ls))),some (stS s),none,none,none,none,none]) rfl
 · unfold mb_x16
   walk_at "ev"
 · rfl
 · rfl
open PySem L2 Builtin.Str
local macro_rules | `(tactic| walk_at $s:str) => Mir.tab s.getString "evE\t0\tA Ev.slZ"
theorem slT0 {cs:List Nat} {b:Nat} (hb:b<=cs.length) (hl:cs.length < 1000000):slD (.str (txt cs)) none (some (b:Int))=some (.str (txt (cs.take b))):=by
 have h:=slTx (cs:=cs) (a:=0) (b:=b) (Z30 _) hb hl
 rw [List.drop_zero,Nat.sub_zero] at h
 rw [<- h]
 show (if _ then _ else _)=if _ then _ else _
 have e:strSliceIndices none (some (b:Int)) 1 (txt cs).length=strSliceIndices (some ((0:Nat):Int)) (some (b:Int)) 1 (txt cs).length:=by
   rw [txt_len]
   unfold strSliceIndices
   simp
   rw [show max 0 (min 0 (cs.length:Int))=0 by omega]
 unfold Txt.slice
 rw [e]
theorem head9 {ls:List Nat} {b:Int} (h0:0<=b) (hb:b<=ls.length) (hl:ls.length < 1000):slZ (.str (tx9 ls)) none (some b)=some (.str (tx9 (ls.take b.toNat))):=by
 obtain ⟨n,rfl⟩:=Int.eq_ofNat_of_zero_le h0
 show slD (.str (txt _)) none (some (n:Int))=_
 rw [slT0 (by simp; omega) (by simp; omega)]
 unfold tx9
 rw [List.map_take]
 rfl
theorem tail9 {ls:List Nat} {b:Int} (h0:0<=b) (hb:b<=ls.length) (hl:ls.length < 1000):slZ (.str (tx9 ls)) (some b) none=some (.str (tx9 (ls.drop b.toNat))):=by
 obtain ⟨n,rfl⟩:=Int.eq_ofNat_of_zero_le h0
 show slD (.str (txt _)) (some (n:Int)) none=_
 rw [slTn (by simp; omega) (by simp; omega)]
 unfold tx9
 rw [List.map_drop]
 rfl
theorem cat9 {a b:List Nat} (h:a.length+b.length < 100000):addD (.str (tx9 a)) (.str (tx9 b))=some (.str (tx9 (a++b))):=by
 unfold tx9
 rw [addS (by rw [txt_len,txt_len]; simp; omega),txt_app,Z23]
theorem Ls.cut {ls:List Nat} (h:Ls ls) {x:Nat} (hx:x < 26) (i j:Nat):Ls (ls.take i++[x]++ls.drop j):=by
 intro y hy
 simp only [Z11,Z12] at hy
 rcases hy with (hy | hy) | hy
 · exact h y (List.mem_of_mem_take hy)
 · omega
 · exact h y (List.mem_of_mem_drop hy)
theorem spoilt_ok (s:Int) {ls:List Nat} (hls:Ls ls) (hl:ls.length<=40):∃ (ms:List Nat) (s':Int),Ls ms/\ms.length=ls.length/\m_x18 [stS s,.d (.str (tx9 ls))]=some (.d (.str (tx9 ms)),stS s'):=by
 have hlen:=len9 (ls:=ls) (by omega)
 by_cases h0:ls=[]
 · subst h0
   refine ⟨[],s,hls,rfl,?_⟩
   have e:eqD 4 false (.str (tx9 [])) (.str ("":Str))=some (.bl true):=by rw [eqSS,decide_eq_true (show tx9 []=("":Str) by decide +kernel)]
   generalize tx9 []=T at *
   apply Ev.fnM (ρ:=[some (stS s),some (.d (.str T)),none]) rfl
   unfold mb_x18
   walk_at "ev"
 · have hpos:0 < ls.length:=List.length_pos_iff.mpr h0
   have e:eqD 4 false (.str (tx9 ls)) (.str ("":Str))=some (.bl false):=by
     rw [eqSS]
     congr 2
     refine decide_eq_false fun z=>?_
     have:(tx9 ls).length=("":Str).length:=by rw [z]
     unfold tx9 at this
     rw [txt_len,Z2,show ("":Str).length=0 by decide +kernel] at this
     omega
   obtain ⟨a,s1,a0,a1,t1⟩:=take_ex s (n:=ls.length) (by omega) (by omega)
   obtain ⟨x,s2,x0,x1,t2⟩:=take_ex s1 (n:=26) (by decide) (by decide)
   have lx:=let_ix (x:=x.toNat) (i:=x) (by omega) (by omega)
   rw [show D.str (sgn (97+x.toNat))=.str (tx9 [x.toNat]) from rfl] at lx
   have c1:=head9 (ls:=ls) (b:=a) a0 (by omega) (by omega)
   have c2:=tail9 (ls:=ls) (b:=a+1) (by omega) (by omega) (by omega)
   have d1:=cat9 (a:=ls.take a.toNat) (b:=[x.toNat]) (by simp; omega)
   have d2:=cat9 (a:=ls.take a.toNat++[x.toNat]) (b:=ls.drop (a+1).toNat) (by simp; omega)
   refine ⟨ls.take a.toNat++[x.toNat]++ls.drop (a+1).toNat,s2,hls.cut (by omega) _ _,by simp; omega,?_⟩
   generalize tx9 (ls.take a.toNat++[x.toNat]++ls.drop (a+1).toNat)=R at *
   apply Ev.fnM (ρ:=[some (stS s),some (.d (.str (tx9 ls))),none]) rfl
   unfold mb_x18
   walk_at "ev"
open PySem L2 Builtin.Str
theorem odd_ok (s:Int) {ls:List Nat} (hls:Ls ls) (hl:ls.length < 40) (he:ls.length % 2=0) {a:Int} (a0:0<=a) (a1:a<=ls.length) :
   ∃ (ms:List Nat) (x s':Int),Ls ms/\ms.length<=40/\FN (fe ms) 0 ms.length=0/\m_x8 [.d (.lst [.int s]),.d (.int 26)]=some (.d (.int x),.d (.lst [.int s'])) /\
     ixD (.str ("abcdefghijklmnopqrstuvwxyz":Str)) (.int x)=some (.str (tx9 [x.toNat]))/\slZ (.str (tx9 ls)) none (some a)=some (.str (tx9 (ls.take a.toNat)))/\slZ (.str (tx9 ls)) (some a) none=some (.str (tx9 (ls.drop a.toNat))) /\
     addD (.str (tx9 (ls.take a.toNat))) (.str (tx9 [x.toNat]))=some (.str (tx9 (ls.take a.toNat++[x.toNat])))/\addD (.str (tx9 (ls.take a.toNat++[x.toNat]))) (.str (tx9 (ls.drop a.toNat)))=some (.str (tx9 ms)):=by
 obtain ⟨x,s2,x0,x1,t2⟩:=take_ex s (n:=26) (by decide) (by decide)
 have lx:=let_ix (x:=x.toNat) (i:=x) (by omega) (by omega)
 have hm:(ls.take a.toNat++[x.toNat]++ls.drop a.toNat).length=ls.length+1:=by simp; omega
 exact ⟨ls.take a.toNat++[x.toNat]++ls.drop a.toNat,x,s2,hls.cut (by omega) _ _,by omega,FN_odd _ (ls.length+1) (by omega) (by omega),t2,lx,head9 a0 a1 (by omega),tail9 a0 a1 (by omega),cat9 (by simp; omega),cat9 (by simp; omega)⟩
theorem some_ix {w:Int} (w0:0<=w) (w1:w < 2):∃ n:Nat,0 < n/\n<=4/\ixD (.lst [.str ("ab":Str),.str ("abcd":Str)]) (.int w)=some (.str (tx9 (List.range n))):=by
 have hc:w=0∨w=1:=by omega
 rcases hc with rfl | rfl
 · exact ⟨2,by decide,by decide,by rw [show tx9 (List.range 2)=("ab":Str) by decide +kernel]; rfl⟩
 · exact ⟨4,by decide,by decide,by rw [show tx9 (List.range 4)=("abcd":Str) by decide +kernel]; rfl⟩
theorem rng_ix {n:Nat} (hn:n<=4) {t:Int} (t0:0<=t) (t1:t < n):ixD (.str (tx9 (List.range n))) (.int t)=some (clD [t.toNat]):=by
 rw [ix9 (by simp; omega) (by simp; omega)]
 show some (D.str (sgn (97+lt9 (List.range n) t)))=some (D.str (sgn (97+t.toNat)))
 unfold lt9
 rw [Z5,List.getElem?_range (by omega)]
 rfl
theorem anyone_ok (s:Int) {n:Nat} (h0:0 < n) (hn:n<=4) {z:Int} (z0:0<=z) (z1:z < 41):∃ (y:Option S) (ms:List Nat) (as:List D) (s':Int),Ls ms/\ms.length<=40/\joinD (Str.ofString "") [.lst as]=some (.str (tx9 ms))/\D.immL as=true/\as.length<=40 /\
   lpM (mgName 0) mYes (mEmit (mdIn md_x19 1 [4,0] [0]) (mOp ixD (mVar 1) (mCallM (mdIn md_x19 1 [4,0] [0]) 2 m_x8 (mCons (mCB lenD (mCons (mVar 1) mNil)) mNil)))) ((ups 0 z.toNat).map D.int) [none,some (.d (.str (tx9 (List.range n)))),some (stS s)] []=some ([y,some (.d (.str (tx9 (List.range n)))),some (stS s')],as):=by
 have hlen:=len9 (ls:=List.range n) (by simp; omega)
 rw [List.length_range] at hlen
 obtain ⟨⟨y,s4⟩,as,⟨ws,q1,q2,q3⟩,lp⟩:=Ev.lp_inv (g:=mgName 0) (ft:=mYes) (fb:=mEmit (mdIn md_x19 1 [4,0] [0]) (mOp ixD (mVar 1) (mCallM (mdIn md_x19 1 [4,0] [0]) 2 m_x8 (mCons (mCB lenD (mCons (mVar 1) mNil)) mNil)))) (e:=D.int) (env:=fun (b:Option S × Int)=>[b.1,some (.d (.str (tx9 (List.range n)))),some (stS b.2)]) (l:=ups 0 z.toNat)
   (fun pre b as=>∃ ws:List (List Nat),as=ws.map clD/\ws.length=pre.length/\∀ w ∈ ws,Cel9 w)
   (fun pre a post b as hsp hP=>by
     obtain ⟨ws,r1,r2,r3⟩:=hP
     obtain ⟨e1,e2,_⟩:=ups_split hsp
     subst r1
     obtain ⟨t,s',t0,t1,tk⟩:=take_ex b.2 (n:=n) (by omega) (by omega)
     have ix:=rng_ix hn t0 t1
     have hx:t.toNat < 26:=by omega
     refine ⟨(some (.d (.int a)),s'),ws.map clD++[clD [t.toNat]],⟨ws++[[t.toNat]],by simp,by simp [r2],?_⟩,?_⟩
     · intro w hw
       rcases Z11.mp hw with hw | hw
       · exact r3 w hw
       · rw [Z12] at hw; subst hw; exact cell1 hx
     · generalize clD [t.toNat]=A at *
       generalize tx9 (List.range n)=T at *
       apply Ev.turnT
       walk_at "ev") (none,s) [] ⟨[],rfl,rfl,by simp⟩
 rw [ups_len] at q2
 subst q1
 have ff:=flat_few (ws:=ws) fun w hw=>(q3 w hw).1
 have jn:=join_cl (ws:=ws) (by omega)
 exact ⟨y,ws.flatten,ws.map clD,s4,cells_ls q3,by omega,jn,immL_map (fun _=>rfl) _,by simp; omega,lp⟩
open PySem L2 Builtin.Str
theorem anyright_ok (s:Int) {ls:List Nat} (hls:Ls ls) (hl:ls.length<=40):∃ s':Int,m_x19 [stS s,.d (.str (tx9 ls))]=some (.d (.bl true),stS s'):=by
 have hlen:=len9 (ls:=ls) (by omega)
 obtain ⟨a,s1,a0,a1,t1⟩:=take_ex s (n:=(ls.length:Int)+1) (by omega) (by omega)
 by_cases hc:ls.length < 40/\ls.length % 2=0
 · obtain ⟨ms,x,s2,m1,m2,m3,t2,lx,c1,c2,d1,d2⟩:=odd_ok s1 hls hc.1 hc.2 a0 (by omega)
   have hm:=howmany_ok m1 m2
   have nb:=nobey_ok m1 m2 m3
   rw [m3] at hm
   obtain ⟨w,s3,w0,w1,t3⟩:=take_ex s2 (n:=2) (by decide) (by decide)
   obtain ⟨n,n0,n1,sx⟩:=some_ix w0 w1
   obtain ⟨z,s4,z0,z1,t4⟩:=take_ex s3 (n:=41) (by decide) (by decide)
   obtain ⟨y,qs,as,s5,q1,q2,jn,im,al,lp⟩:=anyone_ok s4 n0 n1 z0 z1
   have qlen:=len9 (ls:=qs) (by omega)
   have qm:=howmany_ok q1 q2
   obtain ⟨kvs,kg,tb⟩:=table_ok q1 q2
   have g0:=kg 0 qs.length (Z42 _) (by omega) (Z42 _)
   have e2:(ls.length:Int) % 2=0:=by omega
   have e1:(ls.length:Int) < 40:=by omega
   have e3:eqD 4 false (.int ((ls.length:Int) % 2)) (.int 0)=some (.bl true):=by rw [eqII,decide_eq_true e2]
   have e4:eqD 4 true (.int 0) (.int 0)=some (.bl false):=rfl
   have e5:eqD 4 false (.int (FN (fe qs) 0 qs.length)) (.int (FN (fe qs) 0 qs.length))=some (.bl true):=by rw [eqII]; simp
   generalize FN (fe qs) 0 qs.length=F at *
   generalize tx9 (ls.take a.toNat++[x.toNat])=R1 at *
   generalize tx9 (ls.take a.toNat)=R2 at *
   generalize tx9 (ls.drop a.toNat)=R3 at *
   generalize tx9 [x.toNat]=R4 at *
   generalize tx9 (List.range n)=R5 at *
   generalize tx9 ms=R6 at *
   generalize tx9 qs=R7 at *
   refine ⟨s5,?_⟩
   apply Ev.fnM (ρ:=[some (stS s),some (.d (.str (tx9 ls))),none,none,none,none]) rfl
   unfold mb_x19
   walk_at "ev"
 · obtain ⟨w,s3,w0,w1,t3⟩:=take_ex s1 (n:=2) (by decide) (by decide)
   obtain ⟨n,n0,n1,sx⟩:=some_ix w0 w1
   obtain ⟨z,s4,z0,z1,t4⟩:=take_ex s3 (n:=41) (by decide) (by decide)
   obtain ⟨y,qs,as,s5,q1,q2,jn,im,al,lp⟩:=anyone_ok s4 n0 n1 z0 z1
   have qlen:=len9 (ls:=qs) (by omega)
   have qm:=howmany_ok q1 q2
   obtain ⟨kvs,kg,tb⟩:=table_ok q1 q2
   have g0:=kg 0 qs.length (Z42 _) (by omega) (Z42 _)
   have e5:eqD 4 false (.int (FN (fe qs) 0 qs.length)) (.int (FN (fe qs) 0 qs.length))=some (.bl true):=by rw [eqII]; simp
   generalize FN (fe qs) 0 qs.length=F at *
   generalize tx9 (List.range n)=R5 at *
   generalize tx9 qs=R7 at *
   refine ⟨s5,?_⟩
   by_cases e1:(ls.length:Int) < 40
   · have e3:eqD 4 false (.int ((ls.length:Int) % 2)) (.int 0)=some (.bl false):=by rw [eqII,decide_eq_false (by omega)]
     apply Ev.fnM (ρ:=[some (stS s),some (.d (.str (tx9 ls))),none,none,none,none]) rfl
     unfold mb_x19
     walk_at "ev"
   · apply Ev.fnM (ρ:=[some (stS s),some (.d (.str (tx9 ls))),none,none,none,none]) rfl
     unfold mb_x19
     walk_at "ev"
open PySem L2
theorem Ev.callM1s {md:List Md} {i:Nat} {m:List S->Option (S × S)} {f:ME} {ρ ρ1 ρ2:En} {o:Op} {T:Str} {b:Bool} {s s':Int} (h1:f ρ=some (o,ρ1)) (h2:sto md ρ1 o=some (.str T)) (h4:look ρ1 i=some (stS s)) (h6:m [.d (.str T),stS s]=some (.d (.bl b),stS s')) (h9:ρ1.set i (some (stS s'))=ρ2) :
   mCallM1 md i m f ρ=some (.val (.bl b),ρ2):=Ev.callM1 h1 h2 rfl h4 rfl h6 rfl rfl h9
local macro_rules | `(tactic| walk_at $s:str) => Mir.tab s.getString "evE\t0\tA Mir.Ev.callM1s"
theorem half_ix {k:Int} (h0:0<=k) (h1:k < 2):∃ n:Int,0 < n/\n<=21/\ixD (.lst [.int 21,.int 13]) (.int k)=some (.int n):=by
 have hc:k=0∨k=1:=by omega
 rcases hc with rfl | rfl
 · exact ⟨21,by decide,by decide,rfl⟩
 · exact ⟨13,by decide,by decide,rfl⟩
theorem sorts_ix {k:Int} (h0:0<=k) (h1:k < 4):∃ n:Int,0 < n/\n<=13/\ixD (.lst [.int 1,.int 2,.int 4,.int 13]) (.int k)=some (.int n):=by
 have hc:k=0∨k=1∨k=2∨k=3:=by omega
 rcases hc with rfl | rfl | rfl | rfl
 · exact ⟨1,by decide,by decide,rfl⟩
 · exact ⟨2,by decide,by decide,rfl⟩
 · exact ⟨4,by decide,by decide,rfl⟩
 · exact ⟨13,by decide,by decide,rfl⟩
theorem turn60 (ns:List Int) (hns:ns.length<=63) {k:Int} (h0:0<=k) (h1:k < 2):lb_law_0 [some (.scr ns),some (.d (.int k)),none,none,none,none]=some (.nx,[some (.scr ns),none,none,none,none,none]):=by
 obtain ⟨s,st⟩:=store_ok ns hns h0 (by omega)
 obtain ⟨n,n0,n1,nx⟩:=half_ix h0 h1
 obtain ⟨h,s1,a0,a1,t1⟩:=take_ex s (n:=n) n0 (by omega)
 obtain ⟨sh,s2,fu,lf⟩:=lawfull_ok s1 (h:=h) ⟨a0,by omega⟩
 obtain ⟨w,s3,w0,w1,t2⟩:=take_ex s2 (n:=4) (by decide) (by decide)
 obtain ⟨c,c0,c1,cx⟩:=sorts_ix w0 w1
 obtain ⟨ls,s4,l1,l2,l3,co⟩:=cordfor_ok s3 (c:=c) fu (by omega) ⟨c0,c1⟩
 obtain ⟨s5,rt⟩:=right_ok l1 (by omega) l3.pos s4
 obtain ⟨ms,s6,m1,m2,sp⟩:=spoilt_ok s5 l1 (by omega)
 obtain ⟨kvs,kg,tb⟩:=table_ok m1 (by omega)
 have g0:=kg 0 ms.length (Z42 _) (by omega) (Z42 _)
 have mlen:=len9 (ls:=ms) (by omega)
 have hm:=howmany_ok m1 (by omega)
 obtain ⟨s7,ar⟩:=anyright_ok s6 m1 (by omega)
 have e5:eqD 4 true (.int (FN (fe ms) 0 ms.length)) (.int (FN (fe ms) 0 ms.length))=some (.bl false):=by rw [neII]; simp
 by_cases hz:FN (fe ms) 0 ms.length=0
 · have nb:=nobey_ok m1 (by omega) hz
   have e6:eqD 4 false (.int (FN (fe ms) 0 ms.length)) (.int 0)=some (.bl true):=by rw [eqII,decide_eq_true hz]
   generalize FN (fe ms) 0 ms.length=F at *
   generalize sh.map pairD=Sm at *
   generalize tx9 ls=T1 at *
   generalize tx9 ms=T2 at *
   unfold lb_law_0
   walk_at "ev"
 · have e6:eqD 4 false (.int (FN (fe ms) 0 ms.length)) (.int 0)=some (.bl false):=by rw [eqII,decide_eq_false hz]
   generalize FN (fe ms) 0 ms.length=F at *
   generalize sh.map pairD=Sm at *
   generalize tx9 ls=T1 at *
   generalize tx9 ms=T2 at *
   unfold lb_law_0
   walk_at "ev"
theorem law_true (ns:List Int) (hns:ns.length<=63):m_law [.scr ns]=some (.d (.bl true)):=by
 have loop:=(RunF.app (g:=mgName 1) (f:=lb_law_0) (RunF.one (d:=.int 0) (ρ:=[some (.scr ns),none,none,none,none,none]) ⟨_,rfl,turn60 ns hns (k:=0) (by decide) (by decide)⟩) (RunF.one (d:=.int 1) ⟨_,rfl,turn60 ns hns (k:=1) (by decide) (by decide)⟩)).run
 have e:[D.int 0]++[D.int 1]=(ups 0 (2:Int).toNat).map D.int:=rfl
 rw [e] at loop
 apply Ev.fn (ρ:=[some (.scr ns),none,none,none,none,none]) rfl
 unfold mb_law
 walk_at "ev"
end Mir
set_option maxHeartbeats 8000000
open PySem PySem.Spec PyProof.Rows L2
namespace My
open PySem L2
noncomputable def top (i:Nat):Stmt:=PySem.Challenge.pw_hoopcord_k60_whole_full_shapes_in_order.main.body.getD i (.Pass ⟨0,0,0,0⟩)
noncomputable abbrev s_x0:Stmt:=top 4
noncomputable abbrev s_x1:Stmt:=top 7
noncomputable abbrev s_x2:Stmt:=top 9
noncomputable abbrev s_x3:Stmt:=top 10
noncomputable abbrev s_x4:Stmt:=top 11
noncomputable abbrev s_x5:Stmt:=top 12
noncomputable abbrev s_x6:Stmt:=top 13
noncomputable abbrev s_x7:Stmt:=top 15
noncomputable abbrev s_x8:Stmt:=top 16
noncomputable abbrev s_x9:Stmt:=top 17
noncomputable abbrev s_x10:Stmt:=top 18
noncomputable abbrev s_x11:Stmt:=top 19
noncomputable abbrev s_x12:Stmt:=top 20
noncomputable abbrev s_x13:Stmt:=top 21
noncomputable abbrev s_x14:Stmt:=top 22
noncomputable abbrev s_x15:Stmt:=top 23
noncomputable abbrev s_x16:Stmt:=top 24
noncomputable abbrev s_x17:Stmt:=top 25
noncomputable abbrev s_x18:Stmt:=top 26
noncomputable abbrev s_x19:Stmt:=top 27
noncomputable abbrev s_law:Stmt:=top 28
local macro_rules | `(tactic| walk_at $s:str) => Mir.tab s.getString "bn\t0\ti; i; i; i; i; i; n bns; R My.bn0 ?_; E rfl\nbns\t0\tR My.bnS ?_; i\nh ip\t0\tE ip_add\tE ip_sub\nh pv\t24\tE pv @\nh pgn\t24\tE pg_name i= @) ! rfl <h loc>\nh pgt\t7\tR pg_tupK n= @) ! rfl ?p1 rfl\nh sc1\t24\tR ps_setComp1 i= @) rfl {rfl rfl rfl rfl rfl} ?p1 rfl (ndB_nodup rfl) ?p2 ?p3 ! rfl rfl; C p2 I; C p3 I\nh sct\t24\tR ps_setCompT2 i= @) rfl {rfl rfl rfl rfl rfl} ?p1 ?p0 ?p2 ?p3 ! rfl rfl; C p0 I; C p2 I; C p3 I\nh par\t144\tR ps_par i= &) j= ^) rfl ! rfl rfl % rfl rfl ?p1 rfl\nh aug\t24\tR ps_aug i= @) ! rfl <h loc> ?p1 <h ip>\nh add\t0\tE op_addX !\nh mul\t0\tE op_mulX\nh lt\t0\tE op_ltX n= 4) ! <h un4>\nh ix\t0\tE op_ixX ! (My.un4 n= 1) ! )\nh set\t0\tE set_any (My.un4 n= 1) ! )\nh room\t0\tE Room.mono ! %\tE Room.mono ! <oo>\noo\t0\tO\nh un4\t0\tE My.un4 !\nh pa\t0\tG PA _ List.nil _; E pa_nil\tR pa_cons ?p1 ?p2\nh opB\t0\tG OpR _ (binaryOp Operator.FloorDiv) _; E Mir.op_divYR\tG OpR _ (binaryOp Operator.Mult) _; E Mir.op_mulYR\nh opB\t0\tG OpR _ (binaryOp Operator.Add) _; W h add\tG OpR _ (binaryOp Operator.Mult) _; W h mul\tq op_subA\tq op_modA\tq op_divA\tq op_powA\nh opC\t0\tG OpR _ (compareOp CmpOp.Eq) _; E op_eqK n= 4) ! <h un4>\tG OpR _ (compareOp CmpOp.NotEq) _; E op_neK n= 3) ! <h un4>\tG OpR _ (compareOp CmpOp.In) _; W h opIn\tG OpR _ (compareOp CmpOp.NotIn) _; W h opNotIn\tG OpR _ (compareOp CmpOp.Lt) _; W h lt\tq op_ltA\tq op_leA\tq op_gtA\tq op_geA\tq op_isNA\tq op_notNA\nh opIn\t0\tE Mir.op_inY n= 4) ! (My.un5 ! )\nh opNotIn\t0\tW h opNI\nh mark\t0\tE nomark _\tV\nh bcall\t0\tG PE _ (Expr.Call (Expr.Name (Str.ofString 'len') _) [(Expr.Call (Expr.Name (Str.ofString 'set') _) _ _ _)] _ _) _; R Mir.pe_lenSet ! rfl rfl ! rfl ! ?p1\tG PE _ (Expr.Call (Expr.Name (Str.ofString 'len') _) _ _ _) _; R pe_callB (call_lenK !) rfl ! PySem.boot_len ?p1\tG PE _ (Expr.Call (Expr.Name (Str.ofString 'range') _) [_] _ _) _; R pe_range1 rfl ! ?p1\tG PE _ (Expr.Call (Expr.Name (Str.ofString 'range') _) [_ _] _ _) _; R pe_range2 rfl ! ?p1\tG PE _ (Expr.Call (Expr.Name (Str.ofString 'sorted') _) _ _ _) _; R pe_callB (Srt.call_sortX !) rfl ! PyProof.Rows.boot_sorted ?p1\tG PE _ (Expr.Call (Expr.Name (Str.ofString 'abs') _) _ _ _) _; R pe_callB call_absA rfl ! PyProof.Rows.boot_abs ?p1\tG PE _ (Expr.Call (Expr.Name (Str.ofString 'sum') _) _ _ _) _; R pe_callB (call_sumK ! rfl) rfl ! PyProof.Rows.boot_sum ?p1\tG PE _ (Expr.Call (Expr.Name (Str.ofString 'isinstance') _) _ _ _) _; R pe_callB (call_isiK !) rfl ! PyProof.Rows.boot_isinstance ?p1\tG PE _ (Expr.Call (Expr.Name (Str.ofString 'list') _) _ _ _) _; R pe_callTy <h list> rfl ! PyProof.Rows.boot_list ?p1\tG PE _ (Expr.Call (Expr.Name (Str.ofString 'tuple') _) _ _ _) _; R pe_callTy <h tuple> rfl ! PyProof.Rows.boot_tuple ?p1\tG PE _ (Expr.Call (Expr.Name (Str.ofString 'all') _) _ _ _) _; R pe_callB (call_allK ! rfl) rfl ! PyProof.Rows.boot_all ?p1\tG PE _ (Expr.Call (Expr.Name (Str.ofString 'int') _) _ _ _) _; R pe_callTy call_intA rfl ! PyProof.Rows.boot_int ?p1\tG PE _ (Expr.Call (Expr.Name (Str.ofString 'divmod') _) [_ _] _ _) _; R pe_callB Mir.call_divmodX rfl ! PyProof.Rows.boot_divmod ?p1\tG PE _ (Expr.Call (Expr.Name (Str.ofString 'min') _) [_ _] _ _) _; R pe_callB (call_min2X rfl) rfl ! PyProof.Rows.boot_min ?p1\tG PE _ (Expr.Call (Expr.Name (Str.ofString 'max') _) [_ _] _ _) _; R pe_callB (call_max2X rfl) rfl ! PyProof.Rows.boot_max ?p1\nh list\t0\tE call_listX ! rfl\nh tuple\t0\tE call_tupX ! rfl\nh bty\t0\tG PE _ (Expr.Name (Str.ofString 'int') _) _; E pe_bltn v= (.ty 'int')) rfl ! PyProof.Rows.boot_int rfl\tG PE _ (Expr.Name (Str.ofString 'bool') _) _; E pe_bltn v= (.ty 'bool')) rfl ! PyProof.Rows.boot_bool rfl\tG PE _ (Expr.Name (Str.ofString 'str') _) _; E pe_bltn v= (.ty 'str')) rfl ! PyProof.Rows.boot_str rfl\tG PE _ (Expr.Name (Str.ofString 'list') _) _; E pe_bltn v= (.ty 'list')) rfl ! PyProof.Rows.boot_list rfl\tG PE _ (Expr.Name (Str.ofString 'tuple') _) _; E pe_bltn v= (.ty 'tuple')) rfl ! PyProof.Rows.boot_tuple rfl\nh comp\t0\tG PE _ (Expr.ListComp _ [{(Expr.Tuple _ _ _) _ _ _}] _ _) _; R pe_compT2 rfl {rfl rfl rfl rfl rfl} ?p1 ?p0 ?p2 ?p3; C p0 I; C p2 I; C p3 I\tG PE _ (Expr.ListComp _ [_] _ _) _; R pe_comp1 rfl {rfl rfl rfl rfl rfl} ?p1 rfl (ndB_nodup rfl) ?p2 ?p3; C p2 I; C p3 I\tG PE _ (Expr.ListComp _ [_ _] _ _) _; R pe_comp2 rfl {rfl rfl rfl rfl rfl} ?p1 rfl rfl (ndB_nodup rfl) ?p2 ?p3 ?p4 ?p5; C p2 I; C p3 I; C p4 I; C p5 I\nh pif\t0\tG PIf _ List.nil _; E pif_nil\tR pif_one ?p1\nh pe\t0\tG PE _ (Expr.Call (Expr.Attribute _ (Str.ofString 'find') _) _ _ _) _; R pe_bm PySem.F.plainAttrs_str PySem.F.slot_str_find PySem.F.type_str_find mt_find ?p1 ?p2\tG PE _ (Expr.Call (Expr.Attribute _ (Str.ofString 'index') _) _ _ _) _; R pe_bm PySem.F.plainAttrs_str PySem.F.slot_str_index PySem.F.type_str_index mt_index ?p1 ?p2\tG PE _ (Expr.BinOp (Expr.List _ _) Operator.Mult _ _) _; R pe_op <h mul> ?p1 ?p2\nh pe\t0\tG PE _ (Expr.Constant _ _ _) _; q pe_int\tG PE _ (Expr.Constant _ _ _) _; q pe_str\tG PE _ (Expr.Constant _ _ _) _; q pe_bl\tG PE _ (Expr.Constant _ _ _) _; q pe_non\tG PE _ (Expr.Name _ _) _; W h pv\tG PE _ (Expr.Name _ _) _; W h bty\tG PE _ (Expr.Name _ _) _; W h glob\tG PE _ (Expr.Call (Expr.Name _ _) _ _ _) _; W h bcall\tG PE _ (Expr.Call (Expr.Name _ _) _ _ _) _; R pe_callF ! <h room> rfl ?p1\tG PE _ (Expr.Call (Expr.Attribute _ (Str.ofString 'join') _) _ _ _) _; R pe_bmZ ! PySem.F.plainAttrs_str PySem.F.slot_str_join PySem.F.type_str_join (mt_join !) ?p1 ?p2\tG PE _ (Expr.Call (Expr.Attribute _ (Str.ofString 'pop') _) [] _ _) _; R pe_bm0K ! PySem.F.plainAttrs_list PySem.F.slot_list_pop PySem.F.type_list_pop mt_pop ?p1\tG PE _ (Expr.BinOp _ _ _ _) _; R pe_op <h opB> ?p1 ?p2\tG PE _ (Expr.Subscript _ _ _) _; W h slice\tG PE _ (Expr.Subscript _ _ _) _; R pe_ix <h ix> ?p1 ?p2 \\\tG PE _ (Expr.Tuple _ _ _) _; R pe_tup ?p1\tG PE _ (Expr.Dict [] [] _) _; E pe_dnewX\tG PE _ (Expr.Dict [(some _)] [_] _) _; R pe_dOne (My.un4 n= 1) !) ?p1 ?p2\tG PE _ (Expr.List _ _) _; R pe_lst ?p1\tG PE _ (Expr.Compare _ [_] _ _) _; R pe_cmpR <h opC> ?p1 ?p2 <h mark>\tG PE _ (Expr.Compare _ [_ _] _ _) _; R pe_chain <h opC> <h opC> ?p1 ?p2 ?p3\tG PE _ (Expr.UnaryOp UnaryOp.USub _ _) _; R pe_un un_neg ?p1\tG PE _ (Expr.UnaryOp UnaryOp.Not _ _) _; R pe_not ?p1\tG PE _ (Expr.ListComp _ _ _ _) _; W h comp\tG PE _ (Expr.BoolOp BoolOp.And (List.cons _ (List.cons _ _)) _) _; R pe_and ?p1 ?p2\tG PE _ (Expr.BoolOp BoolOp.Or (List.cons _ (List.cons _ _)) _) _; R pe_or ?p1 ?p2\tG PE _ (Expr.BoolOp _ [_] _) _; R pe_one ?p1\tG PE _ (Expr.IfExp _ _ _ _) _; R pe_ifExp ?p1 ?p2 ?p3\nh pt\t0\tG PT _ (Expr.UnaryOp UnaryOp.Not _ _) _; R pt_not ?p1\tG PT _ (Expr.BoolOp _ _ _) _; R PW.pt ?p1\tG PT _ (Expr.Compare _ [_] _ _) _; R pt_cmpR <h opC> ?p1 ?p2 <h mark>\tG PT _ (Expr.Compare _ [_ _] _ _) _; R pt_chain <h opC> <h opC> ?p1 ?p2 ?p3\tG PT _ (Expr.Compare _ [_ _ _] _ _) _; R pt_chain3 <h opC> <h opC> <h opC> ?p1 ?p2 ?p3 ?p4\tR pt_tru ! ?p1\nh pw\t0\tG PW _ (Expr.BoolOp BoolOp.And (List.cons _ (List.cons _ _)) _) _; R pw_and ?p1 ?p2\tG PW _ (Expr.BoolOp BoolOp.Or (List.cons _ (List.cons _ _)) _) _; R pw_or ?p1 ?p2\tG PW _ (Expr.BoolOp BoolOp.And [_] _) _; R pw_and1 ?p1\tG PW _ (Expr.BoolOp BoolOp.Or [_] _) _; R pw_or1 ?p1\nh pi\t0\tG PI _ _ (Expr.Call (Expr.Name (Str.ofString 'range') _) [_] _ _) _; R pi_range1 rfl ! ?p1\tG PI _ _ (Expr.Call (Expr.Name (Str.ofString 'range') _) [_ _] _ _) _; R pi_range2 rfl ! ?p1\tG PI _ _ (Expr.Call (Expr.Name (Str.ofString 'range') _) [_ _ _] _ _) _; R Mir.pi_range3 rfl ! ?p1\tG PI _ _ (Expr.Call (Expr.Name (Str.ofString 'reversed') _) [_] _ _) _; R pi_rev rfl ! ?p1\tG PI _ _ (Expr.Call (Expr.Name (Str.ofString 'enumerate') _) [_] _ _) _; R pi_enu rfl ! ?p1\tG PI _ _ (Expr.Call (Expr.Name (Str.ofString 'zip') _) [_ _] _ _) _; R pi_zip ! rfl ! ?p1\tR pi_seqK ! ?p1\nh loc\t0\tE Or.inl rfl\tE Or.inr rfl\nh pg\t0\tG PG _ (Expr.Tuple _ _ _) _; W h pgt\tG PG _ (Expr.Subscript _ _ _) _; R pg_sub ?p1 ?p2 <h set>\tW h pgn\nh pgs\t0\tG PGs _ List.nil _; E pgs_nil\tR pgs_cons ?p1 ?p2\nh ps\t0\tG PS _ (Stmt.Try _ _ _ _ _) _; R ps_tryN j= 2) ! ! <h room> ?p1 !\nh ps\t0\tG PS _ (Stmt.Return (some _) _) _; R ps_ret ?p1\tG PS _ (Stmt.Raise _ _ _) _; E ps_never\tG PS _ (Stmt.Return none _) _; E ps_retN\tG PS _ (Stmt.If _ _ _ _) _; R ps_if ?p1 ?p2 ?p3\tG PS _ (Stmt.For _ _ _ _ _) _; R ps_for PassesOwn.never rfl ?p1 ?p2 ?p3\tG PS _ (Stmt.Assign [(Expr.Name _ _)] (Expr.ListComp _ [{(Expr.Name _ _) _ _ _}] _ _) _) _; W h sc1\tG PS _ (Stmt.Assign [(Expr.Name _ _)] (Expr.ListComp _ [{(Expr.Tuple _ _ _) _ _ _}] _ _) _) _; W h sct\tG PS _ (Stmt.Assign [(Expr.Tuple [_ _] _ _)] (Expr.Tuple [_ _] _ _) _) _; W h par\tG PS _ (Stmt.AugAssign (Expr.Name _ _) _ _ _) _; W h aug\tG PS _ (Stmt.While _ _ _ _) _; R ps_while PassesOwn.never ?p1 ?p2\tG PS _ (Stmt.Pass _) _; E ps_pass\tG PS _ (Stmt.Break _) _; E ps_break\tG PS _ (Stmt.Continue _) _; E ps_continue\tG PS _ (Stmt.Assign [_] _ _) _; R ps_asg ?p1 ?p2\tG PS _ (Stmt.Expr _ _) _; W h stex\nh stex\t0\tG PS _ (Stmt.Expr (Expr.Call (Expr.Attribute _ (Str.ofString 'extend') _) _ _ _) _) _; R ps_expr (pe_bmZ ! PySem.F.plainAttrs_list PySem.F.slot_list_extend PySem.F.type_list_extend mt_extend ?p1 ?p2)\tG PS _ (Stmt.Expr (Expr.Call (Expr.Attribute _ (Str.ofString 'append') _) _ _ _) _) _; R ps_expr (pe_bmZ ! PySem.F.plainAttrs_list PySem.F.slot_list_append PySem.F.type_list_append mt_append ?p1 ?p2)\tG PS _ (Stmt.Expr (Expr.Call (Expr.Attribute _ (Str.ofString 'reverse') _) _ _ _) _) _; R ps_expr (pe_bm0K ! PySem.F.plainAttrs_list PySem.F.slot_list_reverse PySem.F.type_list_reverse mt_reverse ?p1)\tR ps_expr ?p1\nh pss\t0\tG PSs _ [] _; E pss_nil\tG PSs _ [_] _; R pss_one ?p1\tG PSs _ (List.cons _ _) _; R pss_cons ?p1 ?p2\nh opNI\t0\tE Mir.op_notInY n= 4) ! (My.un5 ! )\nh glob\t0\tE pe_glob v= .str (Str.ofString 'abcdefghijklmnopqrstuvwxyz')) rfl ! {_ rfl}\nh glob\t0\tR pe_glob v= .int _) rfl ?gm ?gr; C gm !; C gr ar\tR pe_glob v= .str _) rfl ?gm ?gr; C gm !; C gr ar\nar\t0\tE {_ rfl}\nh po\t0\tE po_none\tR po_some ?p1\nh slice\t0\tG PE _ (Expr.Subscript _ (Expr.Slice _ _ none _) _) _; R pe_slice (sl_all !) ?p1 ?p2 ?p3\nh slice\t0\tG PE _ (Expr.Subscript _ (Expr.Slice _ _ none _) _) _; R pe_slice (sl_any !) ?p1 ?p2 ?p3\nh pgc\t0\tR pg_tupK ! rfl ?p1\nh pgcs\t0\tG PGs _ List.nil _; E pgs_nil\tR pgs_cons ?p1 ?p2\nh pgc1\t0\tE pg_name i= 0) (ndB_nodup rfl) rfl <h loc>\tE pg_name i= 1) (ndB_nodup rfl) rfl <h loc>\nh1\t0\tG PE _ _ _; W h pe\tG PT _ _ _; W h pt\tG PW _ _ _; W h pw\tG PA _ _ _; W h pa\tG PSs _ _ _; W h pss\tG PS _ _ _; W h ps\tG PI _ _ _ _; W h pi\tG PG _ _ _; W h pg\tG PG _ _ _; W h pgc\tG PG _ _ _; W h pgc1\tG PGs _ _ _; W h pgs\tG PGs _ _ _; W h pgcs\tG PO _ _ _; W h po\tG PIf _ _ _; W h pif\nh all\t0\tN h1\nm ia\t0\tW m i; W m all\nm op\t0\tA Mir.op_add\tA Mir.op_sub\tA Mir.op_mulXA\tA Mir.op_mod\tA Mir.op_div\tA Mir.op_pow\tA Mir.op_ltDA\tA Mir.op_ltXA\tA Mir.op_cmp\tA Mir.op_eq\tA Mir.op_isN\tA Mir.op_notN\tA Mir.op_ixXA\tA Mir.op_inYA\tA Mir.op_mulY\tA Mir.op_divY\tA Mir.op_isY\tA Mir.op_notY\nm cb\t0\tA Mir.cb_len\tA Mir.cb_lenSet\tA Mir.cb_abs\tA Mir.cb_sum\tA Mir.cb_int\tA Mir.cb_listX\tA Mir.cb_tupX\tA Mir.cb_all\tA Mir.cb_divmod\tA Mir.cb_min2\tA Mir.cb_max2\tA Srt.cb_sort\nm ow\t0\tE Or.inl rfl\tE Or.inr rfl\nm a\t0\tq Mir.la_nil\tQ Mir.la_cons ?p1 ?p2\nm o\t0\tq Mir.lo_no\tQ Mir.lo_part ?p1\nm e\t0\tG Mir.LE _ _ _ (Mir.mFind _ _); R Mir.le_find ?p1 ?p2\tG Mir.LE _ _ _ (Mir.mIndex _ _); R Mir.le_index ?p1 ?p2\tG Mir.LE _ _ _ (Mir.mKGet _ _); R Mir.le_kget ?p1\tG Mir.LE _ _ _ (Mir.mSlZ _ _ _); R Mir.le_slZ ?p1 ?p2 ?p3\tG Mir.LE _ _ _ (Mir.mCallM1 _ _ _ _); R Mir.le_callM1 <m ow> ?p1\nm e\t0\tA Mir.le_var\tA Mir.le_int\tA Mir.le_str\tA Mir.le_bl\tA Mir.le_non\tA Mir.le_dget\tA Mir.le_callIx\tA Mir.le_dIn\tA Mir.le_tup\tA Mir.le_lst\tA Mir.le_sl\tA Mir.le_join\tA Mir.le_callA\tA Mir.le_callF\tA Mir.le_callX\tA Mir.le_andV\tA Mir.le_orV\tA Mir.le_notV\tA Mir.le_if\tQ Mir.le_op ?o ?p1 ?p2; C o m op\tQ Mir.le_ixSX ?o ?p1; C o rfl\tQ Mir.le_lenS ?o; C o rfl\tQ Mir.le_un Mir.un_neg ?p1\tQ Mir.le_isi ?o ?p1; C o %\tQ Mir.le_cb ?o ?p1; C o m cb\tQ Mir.le_callM ?o ?p1; C o m ow\tQ Mir.le_extend ?o ?p1; C o m ow\tQ Mir.le_append ?o ?p1; C o m ow\tQ Mir.le_pop ?o; C o m ow\tQ Mir.le_reverse ?o; C o m ow\tQ Mir.le_chain ?o ?o2 ?p1 ?p2 ?p3; C o m op; C o2 m op\tR Mir.le_compE ?q0 ?q1 ?q2 ?q3 ?c1 ?c2 ?c3 ?c4; C q0 rfl; C q1 %; C q2 %; C c1 m ia; C q3 m lj\nm lj\t0\ti; H; K\ti; H; D\nm t\t0\tA Mir.lt_yes\tA Mir.lt_and\tA Mir.lt_or\tA Mir.lt_not\tA Mir.lt_test\tA Mir.lt_tru\tA Mir.lt_b\tQ Mir.lt_chain3 ?o ?o2 ?o3 ?p1 ?p2 ?p3 ?p4; C o m op; C o2 m op; C o3 m op\nm i\t0\tA Mir.li_rng1\tA Mir.li_rng2\tA Mir.li_rng3\tA Mir.li_dwn1\tA Mir.li_enu\tA Mir.li_seq\tQ Mir.li_lk ?o; C o rfl\tQ Mir.li_own ?o; C o %\nm held\t0\tU Mir.held; D\nm g\t0\tG Mir.LG _ _ _ _ (Mir.mgKPut _ _); R Mir.lg_kput <m ow> ?p1\nm g\t0\tQ Mir.lg_name ?o ?q; C o rfl; C q m held\tQ Mir.lg_own ?o ?q; C o rfl; C q m held\tG Mir.LG _ _ _ (gTup _ _ _) _; R Mir.lg_tup ?p1\tQ Mir.lg_subX ?o ?p1; C o m ow\tQ Mir.lg_dput ?o ?p1; C o m ow\tQ Mir.lg_dputN ?o ?p1; C o m ow\nm gs\t0\tq Mir.lgs_nil\tQ Mir.lgs_cons ?p1 ?p2\nm gc\t0\tQ Mir.lg_name ?o ?q; C o rfl; C q %\tG Mir.LG _ _ _ (gTup _ _ _) _; R Mir.lg_tup ?p1\nm gcs\t0\tq Mir.lgs_nil\tQ Mir.lgs_cons ?p1 ?p2\nm b\t0\tR Mir.lb_emit ?p1\tR Mir.lb_in ?p1 ?p2 ?p3 ?p4\nm n\t0\tG Mir.LN _ _ _ Mir.mnKNew; E Mir.ln_knew\nm n\t0\tA Mir.ln_lst\tA Mir.ln_dnew\tA Mir.ln_callA\tQ Mir.ln_stream ?o; C o rfl\tQ Mir.ln_op Mir.on_mul ?p1 ?p2\tQ Mir.ln_op Mir.on_add ?p1 ?p2\tR Mir.ln_compE ?q0 ?q1 ?q2 ?q3 ?c1 ?c2 ?c3 ?c4; C q0 rfl; C q1 %; C q2 %; C c1 m ia; C q3 m lj\nm s\t0\tG Mir.LS _ _ _ (Mir.mTryN _ _ _ _); R Mir.ls_tryN ?p1 rfl\tG Mir.LS _ _ _ (Mir.mMove _ _); E Mir.ls_move % rfl rfl\nm s\t0\tA Mir.ls_next\tA Mir.ls_retNone\tA Mir.ls_brk\tA Mir.ls_ct\tA Mir.ls_kill\tA Mir.ls_seq\tA Mir.ls_if\tA Mir.ls_never\tA Mir.ls_asg\tA Mir.ls_retNew\tA Mir.ls_retT\tA Mir.ls_ret\tA Mir.ls_drop\tA Mir.ls_for\tQ Mir.ls_asgN ?o ?p1; C o rfl\tQ Mir.ls_asgD1 ?o ?o2 ?p1 ?p2; C o rfl; C o2 rfl\tQ Mir.ls_asgDc ?o ?p1; C o rfl\tQ Mir.ls_retDV ?o; C o rfl\tQ Mir.ls_retV ?o; C o rfl\tQ Mir.ls_retF ?o ?p1; C o !\tQ Mir.ls_forL ?o ?p2 ?p3; C o rfl\tQ Mir.ls_while _ ?p1 ?p2\tQ Mir.ls_par ?o ?o2 ?p1; C o rfl; C o2 rfl\tQ Mir.ls_aug ?o ?p1; C o rfl\nm x\t0\tA Mir.lx_args\tA Mir.lx_op\tA Mir.lx_dc\nm1\t0\tG Mir.LX _ _ _ _; W m x\tG Mir.LE _ _ _ _; W m e\tG Mir.LT _ _ _ _; W m t\tG Mir.LA _ _ _ _; W m a\tG Mir.LS _ _ _ _; W m s\tG Mir.LI _ _ _ _ _; W m i\tG Mir.LG _ _ _ _ _; W m g\tG Mir.LG _ _ _ _ _; W m gc\tG Mir.LGs _ _ _ _ _; W m gs\tG Mir.LO _ _ _ _; W m o\tG Mir.LB _ _ _ _ _; W m b\tG Mir.LN _ _ _ _; W m n\nm all\t0\tN m1"
section
variable {P:Program} {w:World} {K:PySem.W.Frag} {mg:Str->Option Value} {base:Heap}
theorem sc_x0:FnScope ["told","number","at","left"] ["told","number"] (defScope s_x0):=⟨rfl,rfl,rfl,by decide +kernel,rfl,by decide +kernel,by decide +kernel⟩
theorem ok_x0 {f:Addr} {fd:FuncData} (F:Fun K "partner_at" "partner_at" s_x0 f fd)  : FnOk P w K mg base CX0 1 f fd ["told","number"] (Mir.spP K Mir.m_x0):=by
 refine Mir.fn_pureE (md:=Mir.md_x0) (mb:=Mir.mb_x0) (n:=4) (np:=2) F sc_x0 rfl rfl rfl rfl rfl ?_
 intro cdv A outer s H E hr
 have nd:=sc_x0.nd
 have kt:KT K:=⟨⟩
 refine' ⟨_,?a,?b⟩
 case a=>
   show PSs _ (_::_) _
   walk_at "h all"
 case b=>
   intro C hC
   subst hC
   unfold Mir.mb_x0 Mir.lb_x0_0
   walk_at "m all"
theorem sc_x1:FnScope ["letter","place"] ["letter"] (defScope s_x1):=⟨rfl,rfl,rfl,by decide +kernel,rfl,by decide +kernel,by decide +kernel⟩
theorem ok_x1 {f:Addr} {fd:FuncData} {tk_LETTERS:Tok} (F:Fun K "fellow" "fellow" s_x1 f fd) (c_LETTERS:mg "LETTERS"=some (.str ("abcdefghijklmnopqrstuvwxyz":Str) tk_LETTERS)):FnOk P w K mg base CX0 1 f fd ["letter"] (Mir.spP K Mir.m_x1):=by
 refine Mir.fn_pureE (md:=Mir.md_x1) (mb:=Mir.mb_x1) (n:=2) (np:=1) F sc_x1 rfl rfl rfl rfl rfl ?_
 intro cdv A outer s H E hr
 have nd:=sc_x1.nd
 have kt:KT K:=⟨⟩
 refine' ⟨_,?a,?b⟩
 case a=>
   show PSs _ (_::_) _
   walk_at "h all"
 case b=>
   intro C hC
   subst hC
   unfold Mir.mb_x1
   walk_at "m all"
theorem sc_x2:FnScope ["cord","counts","start","stop","told","partner"] ["cord","counts","start","stop"] (defScope s_x2):=⟨rfl,rfl,rfl,by decide +kernel,rfl,by decide +kernel,by decide +kernel⟩
theorem ok_x2 {f:Addr} {fd:FuncData} (F:Fun K "fellow_counts" "fellow_counts" s_x2 f fd) (G_x1:FnG P w K mg base "fellow" 1 ["letter"] (Mir.spP K Mir.m_x1)) (b_range:mg "range"=none):FnOk P w K mg base CX0 2 f fd ["cord","counts","start","stop"] (Mir.spP K Mir.m_x2):=by
 refine Mir.fn_pureE (md:=Mir.md_x2) (mb:=Mir.mb_x2) (n:=6) (np:=4) F sc_x2 rfl rfl rfl rfl rfl ?_
 intro cdv A outer s H E hr
 have nd:=sc_x2.nd
 have kt:KT K:=⟨⟩
 refine' ⟨_,?a,?b⟩
 case a=>
   show PSs _ (_::_) _
   walk_at "h all"
 case b=>
   intro C hC
   subst hC
   unfold Mir.mb_x2 Mir.lb_x2_0
   walk_at "m all"
theorem sc_x3:FnScope ["cord","last","counts","start","stop"] ["cord"] (defScope s_x3):=⟨rfl,rfl,rfl,by decide +kernel,rfl,by decide +kernel,by decide +kernel⟩
theorem ok_x3 {f:Addr} {fd:FuncData} (F:Fun K "full_counts" "full_counts" s_x3 f fd) (G_x2:FnG P w K mg base "fellow_counts" 2 ["cord","counts","start","stop"] (Mir.spP K Mir.m_x2)) (b_len:mg "len"=none) (b_range:mg "range"=none) (b_reversed:mg "reversed"=none) (b_sum:mg "sum"=none):FnOk P w K mg base CX0 3 f fd ["cord"] (Mir.spP K Mir.m_x3):=by
 refine Mir.fn_pureE (md:=Mir.md_x3) (mb:=Mir.mb_x3) (n:=5) (np:=1) F sc_x3 rfl rfl rfl rfl rfl ?_
 intro cdv A outer s H E hr
 have nd:=sc_x3.nd
 have kt:KT K:=⟨⟩
 refine' ⟨_,?a,?b⟩
 case a=>
   show PSs _ (_::_) _
   walk_at "h all"
 case b=>
   intro C hC
   subst hC
   unfold Mir.mb_x3 Mir.lb_x3_1 Mir.lb_x3_0
   walk_at "m all"
theorem sc_x4:FnScope ["cord"] ["cord"] (defScope s_x4):=⟨rfl,rfl,rfl,by decide +kernel,rfl,by decide +kernel,by decide +kernel⟩
theorem ok_x4 {f:Addr} {fd:FuncData} (F:Fun K "how_many_full" "how_many_full" s_x4 f fd) (G_x3:FnG P w K mg base "full_counts" 3 ["cord"] (Mir.spP K Mir.m_x3)) (b_len:mg "len"=none):FnOk P w K mg base CX0 4 f fd ["cord"] (Mir.spP K Mir.m_x4):=by
 refine Mir.fn_pureE (md:=Mir.md_x4) (mb:=Mir.mb_x4) (n:=1) (np:=1) F sc_x4 rfl rfl rfl rfl rfl ?_
 intro cdv A outer s H E hr
 have nd:=sc_x4.nd
 have kt:KT K:=⟨⟩
 refine' ⟨_,?a,?b⟩
 case a=>
   show PSs _ (_::_) _
   walk_at "h all"
 case b=>
   intro C hC
   subst hC
   unfold Mir.mb_x4
   walk_at "m all"
theorem sc_x5:FnScope ["cord","counts","start","stop","number","partner","left","within","behind","inner"] ["cord","counts","start","stop","number"] (defScope s_x5):=⟨rfl,rfl,rfl,by decide +kernel,rfl,by decide +kernel,by decide +kernel⟩
theorem st_x5 (k:Nat) {f:Addr} {fd:FuncData} (F:Fun K "full_hoops_at" "full_hoops_at" s_x5 f fd) (G_self:FnG P w K mg base "full_hoops_at" (3+k) ["cord","counts","start","stop","number"] (Mir.spP K (Mir.mr_x5 k))) (G_x0:FnG P w K mg base "partner_at" 1 ["told","number"] (Mir.spP K Mir.m_x0)) (G_x2:FnG P w K mg base "fellow_counts" 2 ["cord","counts","start","stop"] (Mir.spP K Mir.m_x2)) (b_divmod:mg "divmod"=none):FnOk P w K mg base CX0 (3+k+1) f fd ["cord","counts","start","stop","number"] (Mir.spP K (Mir.mr_x5 (k+1))):=by
 refine Mir.fn_pureE (md:=Mir.md_x5) (mb:=Mir.mb_x5 (Mir.mr_x5 k)) (n:=10) (np:=5) F sc_x5 rfl rfl rfl rfl rfl ?_
 intro cdv A outer s H E hr
 have nd:=sc_x5.nd
 have kt:KT K:=⟨⟩
 refine' ⟨_,?a,?b⟩
 case a=>
   show PSs _ (_::_) _
   walk_at "h all"
 case b=>
   intro C hC
   subst hC
   unfold Mir.mb_x5
   walk_at "m all"
theorem ok_x5 {f:Addr} {fd:FuncData} (F:Fun K "full_hoops_at" "full_hoops_at" s_x5 f fd) (mgf:mg "full_hoops_at"=some (.ref f)) (kf:PySem.W.keepIn K (.ref f)=true) (bf:Binds K fd ["cord","counts","start","stop","number"] []) (G_x0:FnG P w K mg base "partner_at" 1 ["told","number"] (Mir.spP K Mir.m_x0)) (G_x2:FnG P w K mg base "fellow_counts" 2 ["cord","counts","start","stop"] (Mir.spP K Mir.m_x2)) (b_divmod:mg "divmod"=none):FnOk P w K mg base CX0 48 f fd ["cord","counts","start","stop","number"] (Mir.spP K Mir.m_x5):=by
 have key:∀ k,FnOk P w K mg base CX0 (3+k) f fd ["cord","counts","start","stop","number"] (Mir.spP K (Mir.mr_x5 k)):=by
   intro k
   induction k with
   | zero=>exact Mir.fn_never
   | succ k ih=>exact st_x5 k F ⟨f,fd,ih,mgf,kf,bf⟩ G_x0 G_x2 b_divmod
 exact key 45
theorem sc_x6:FnScope ["cord","number","counts","last"] ["cord","number"] (defScope s_x6):=⟨rfl,rfl,rfl,by decide +kernel,rfl,by decide +kernel,by decide +kernel⟩
theorem ok_x6 {f:Addr} {fd:FuncData} (F:Fun K "full_at" "full_at" s_x6 f fd) (G_x3:FnG P w K mg base "full_counts" 3 ["cord"] (Mir.spP K Mir.m_x3)) (G_x5:FnG P w K mg base "full_hoops_at" 48 ["cord","counts","start","stop","number"] (Mir.spP K Mir.m_x5)) (b_len:mg "len"=none) (b_tuple:mg "tuple"=none):FnOk P w K mg base CX0 49 f fd ["cord","number"] (Mir.spP K Mir.m_x6):=by
 refine Mir.fn_pureE (md:=Mir.md_x6) (mb:=Mir.mb_x6) (n:=4) (np:=2) F sc_x6 rfl rfl rfl rfl rfl ?_
 intro cdv A outer s H E hr
 have nd:=sc_x6.nd
 have kt:KT K:=⟨⟩
 refine' ⟨_,?a,?b⟩
 case a=>
   show PSs _ (_::_) _
   walk_at "h all"
 case b=>
   intro C hC
   subst hC
   unfold Mir.mb_x6
   walk_at "m all"
theorem okX_full_at {f:Addr} {fd:FuncData} {cx0:Addr} (F:Fun K "full_at" "full_at" s_x6 f fd) (G_x3:FnG P w K mg base "full_counts" 3 ["cord"] (Mir.spP K Mir.m_x3)) (G_x5:FnG P w K mg base "full_hoops_at" 48 ["cord","counts","start","stop","number"] (Mir.spP K Mir.m_x5)) (b_len:mg "len"=none) (b_tuple:mg "tuple"=none) (O_raise:OwnCls "NoNumber" cx0 bmVE "ValueError.__new__" mg base):FnOk P w K mg base (CX1 P w) 49 f fd ["cord","number"] (Mir.spX K Mir.m_x6 Mir.mR_full_at cx0):=by
 refine Mir.fn_pureX (md:=Mir.md_x6) (mb:=Mir.mb_x6) (mbR:=Mir.mbR_full_at) (n:=4) (np:=2) F sc_x6 rfl rfl rfl rfl rfl rfl ?_ ?_
 · intro cdv A outer s H E hr
   have nd:=sc_x6.nd
   have kt:KT K:=⟨⟩
   refine' ⟨_,?a,?b⟩
   case a=>
     show PSs _ (_::_) _
     walk_at "h all"
   case b=>
     intro C hC
     subst hC
     unfold Mir.mb_x6
     walk_at "m all"
 · intro cdv A outer s H E hr
   have nd:=sc_x6.nd
   have kt:KT K:=⟨⟩
   refine' ⟨_,?a,?b⟩
   case a=>
     show PSs _ (_::_) _
     refine' (pss_cons (PS.nox ?_) (pss_cons (PS.nox ?_) (pss_cons (ps_if (PT.nox ?_) (pss_one (ps_raise O_raise PySem.F.excBase_ValueError rfl PySem.F.excBase_ValueError rfl (pa_cons (by walk_at "h pe") pa_nil))) pss_nil) (pss_one (ps_never)))))
     all_goals walk_at "h all"
   case b=>
     intro C hC hM hE
     subst hC
     unfold Mir.mbR_full_at
     refine' (Mir.ls_seq (?_) (Mir.ls_seq (?_) (Mir.ls_seq (Mir.ls_if ?_ (Mir.ls_raise hM hE) Mir.ls_next) (Mir.ls_never))))
     all_goals walk_at "m all"
theorem sc_x7:FnScope ["script","k","number","mixed","found","turn"] ["script","k"] (defScope s_x7):=⟨rfl,rfl,rfl,by decide +kernel,rfl,by decide +kernel,by decide +kernel⟩
theorem ok_x7 {f:Addr} {fd:FuncData} (F:Fun K "_law_store" "_law_store" s_x7 f fd) (b_len:mg "len"=none) (b_range:mg "range"=none):FnOk P w K mg base CX0 1 f fd ["script","k"] (Mir.spP K Mir.m_x7):=by
 refine Mir.fn_pureE (md:=Mir.md_x7) (mb:=Mir.mb_x7) (n:=6) (np:=2) F sc_x7 rfl rfl rfl rfl rfl ?_
 intro cdv A outer s H E hr
 have nd:=sc_x7.nd
 have kt:KT K:=⟨⟩
 refine' ⟨_,?a,?b⟩
 case a=>
   show PSs _ (_::_) _
   walk_at "h all"
 case b=>
   intro C hC
   subst hC
   unfold Mir.mb_x7 Mir.lb_x7_0
   walk_at "m all"
theorem sc_x8:FnScope ["store","many","found"] ["store","many"] (defScope s_x8):=⟨rfl,rfl,rfl,by decide +kernel,rfl,by decide +kernel,by decide +kernel⟩
theorem ok_x8 {f:Addr} {fd:FuncData} (F:Fun K "_law_take" "_law_take" s_x8 f fd)  : FnOk P w K mg base CX0 1 f fd ["store","many"] (Mir.spM K Mir.m_x8):=by
 refine Mir.fn_ioE (md:=Mir.md_x8) (mb:=Mir.mb_x8) (n:=3) (np:=1) false F sc_x8 rfl rfl rfl rfl rfl rfl ?_
 intro cdv A outer s H E hr
 have nd:=sc_x8.nd
 have kt:KT K:=⟨⟩
 refine' ⟨_,?a,?b⟩
 case a=>
   show PSs _ (_::_) _
   walk_at "h all"
 case b=>
   intro C hC hF
   subst hC
   unfold Mir.mb_x8
   walk_at "m all"
theorem sc_x9:FnScope ["thing"] ["thing"] (defScope s_x9):=⟨rfl,rfl,rfl,by decide +kernel,rfl,by decide +kernel,by decide +kernel⟩
theorem ok_x9 {f:Addr} {fd:FuncData} (F:Fun K "_law_whole" "_law_whole" s_x9 f fd) (b_bool:mg "bool"=none) (b_int:mg "int"=none) (b_isinstance:mg "isinstance"=none):FnOk P w K mg base CX0 1 f fd ["thing"] (Mir.spP K Mir.m_x9):=by
 refine Mir.fn_pureE (md:=Mir.md_x9) (mb:=Mir.mb_x9) (n:=1) (np:=1) F sc_x9 rfl rfl rfl rfl rfl ?_
 intro cdv A outer s H E hr
 have nd:=sc_x9.nd
 have kt:KT K:=⟨⟩
 refine' ⟨_,?a,?b⟩
 case a=>
   show PSs _ (_::_) _
   walk_at "h all"
 case b=>
   intro C hC
   subst hC
   unfold Mir.mb_x9
   walk_at "m all"
theorem sc_x10:FnScope ["letter","letters","number"] ["letter"] (defScope s_x10):=⟨rfl,rfl,rfl,by decide +kernel,rfl,by decide +kernel,by decide +kernel⟩
theorem ok_x10 {f:Addr} {fd:FuncData} (F:Fun K "_law_fellow" "_law_fellow" s_x10 f fd)  : FnOk P w K mg base CX0 1 f fd ["letter"] (Mir.spP K Mir.m_x10):=by
 refine Mir.fn_pureE (md:=Mir.md_x10) (mb:=Mir.mb_x10) (n:=3) (np:=1) F sc_x10 rfl rfl rfl rfl rfl ?_
 intro cdv A outer s H E hr
 have nd:=sc_x10.nd
 have kt:KT K:=⟨⟩
 refine' ⟨_,?a,?b⟩
 case a=>
   show PSs _ (_::_) _
   walk_at "h all"
 case b=>
   intro C hC
   subst hC
   unfold Mir.mb_x10
   walk_at "m all"
theorem sc_x11:FnScope ["store","half","hoops","waits","left","spot"] ["store","half"] (defScope s_x11):=⟨rfl,rfl,rfl,by decide +kernel,rfl,by decide +kernel,by decide +kernel⟩
theorem ok_x11 {f:Addr} {fd:FuncData} (F:Fun K "_law_full" "_law_full" s_x11 f fd) (G_x8:FnG P w K mg base "_law_take" 1 ["store","many"] (Mir.spM K Mir.m_x8)) (b_len:mg "len"=none) (b_range:mg "range"=none) (b_sorted:mg "sorted"=none) (b_tuple:mg "tuple"=none):FnOk P w K mg base CX0 2 f fd ["store","half"] (Mir.spM K Mir.m_x11):=by
 refine Mir.fn_ioE (md:=Mir.md_x11) (mb:=Mir.mb_x11) (n:=6) (np:=1) false F sc_x11 rfl rfl rfl rfl rfl rfl ?_
 intro cdv A outer s H E hr
 have nd:=sc_x11.nd
 have kt:KT K:=⟨⟩
 refine' ⟨_,?a,?b⟩
 case a=>
   show PSs _ (_::_) _
   walk_at "h all"
 case b=>
   intro C hC hF
   subst hC
   unfold Mir.mb_x11 Mir.lb_x11_0
   walk_at "m all"
theorem sc_x12:FnScope ["store","shape","c","cord","i","j"] ["store","shape","c"] (defScope s_x12):=⟨rfl,rfl,rfl,by decide +kernel,rfl,by decide +kernel,by decide +kernel⟩
theorem ok_x12 {f:Addr} {fd:FuncData} (F:Fun K "_law_cord_for" "_law_cord_for" s_x12 f fd) (G_x8:FnG P w K mg base "_law_take" 1 ["store","many"] (Mir.spM K Mir.m_x8)) (G_x10:FnG P w K mg base "_law_fellow" 1 ["letter"] (Mir.spP K Mir.m_x10)) (b_len:mg "len"=none):FnOk P w K mg base CX0 2 f fd ["store","shape","c"] (Mir.spM K Mir.m_x12):=by
 refine Mir.fn_ioE (md:=Mir.md_x12) (mb:=Mir.mb_x12) (n:=6) (np:=2) false F sc_x12 rfl rfl rfl rfl rfl rfl ?_
 intro cdv A outer s H E hr
 have nd:=sc_x12.nd
 have kt:KT K:=⟨⟩
 refine' ⟨_,?a,?b⟩
 case a=>
   show PSs _ (_::_) _
   walk_at "h all"
 case b=>
   intro C hC hF
   subst hC
   unfold Mir.mb_x12 Mir.lb_x12_0
   walk_at "m all"
theorem sc_x13:FnScope ["cord","shape","row","behind","hoop","i","j","waits","spot"] ["cord","shape"] (defScope s_x13):=⟨rfl,rfl,rfl,by decide +kernel,rfl,by decide +kernel,by decide +kernel⟩
theorem ok_x13 {f:Addr} {fd:FuncData} (F:Fun K "_law_fits" "_law_fits" s_x13 f fd) (G_x9:FnG P w K mg base "_law_whole" 1 ["thing"] (Mir.spP K Mir.m_x9)) (G_x10:FnG P w K mg base "_law_fellow" 1 ["letter"] (Mir.spP K Mir.m_x10)) (b_isinstance:mg "isinstance"=none) (b_len:mg "len"=none) (b_range:mg "range"=none) (b_tuple:mg "tuple"=none):FnOk P w K mg base CX0 2 f fd ["cord","shape"] (Mir.spP K Mir.m_x13):=by
 refine Mir.fn_pureE (md:=Mir.md_x13) (mb:=Mir.mb_x13) (n:=9) (np:=2) F sc_x13 rfl rfl rfl rfl rfl ?_
 intro cdv A outer s H E hr
 have nd:=sc_x13.nd
 have kt:KT K:=⟨⟩
 refine' ⟨_,?a,?b⟩
 case a=>
   show PSs _ (_::_) _
   walk_at "h all"
 case b=>
   intro C hC
   subst hC
   unfold Mir.mb_x13 Mir.lb_x13_1 Mir.lb_x13_0
   walk_at "m all"
theorem sc_x14:FnScope ["cord","many","ways","size","i","found","j"] ["cord"] (defScope s_x14):=⟨rfl,rfl,rfl,by decide +kernel,rfl,by decide +kernel,by decide +kernel⟩
theorem ok_x14 {f:Addr} {fd:FuncData} (F:Fun K "_law_table" "_law_table" s_x14 f fd) (G_x10:FnG P w K mg base "_law_fellow" 1 ["letter"] (Mir.spP K Mir.m_x10)) (b_int:mg "int"=none) (b_len:mg "len"=none) (b_range:mg "range"=none):FnOk P w K mg base CX0 2 f fd ["cord"] (Mir.spP K Mir.m_x14):=by
 refine Mir.fn_pureE (md:=Mir.md_x14) (mb:=Mir.mb_x14) (n:=7) (np:=1) F sc_x14 rfl rfl rfl rfl rfl ?_
 intro cdv A outer s H E hr
 have nd:=sc_x14.nd
 have kt:KT K:=⟨⟩
 refine' ⟨_,?a,?b⟩
 case a=>
   show PSs _ (_::_) _
   walk_at "h all"
 case b=>
   intro C hC
   subst hC
   unfold Mir.mb_x14 Mir.lb_x14_2 Mir.lb_x14_1 Mir.lb_x14_0
   walk_at "m all"
theorem sc_x15:FnScope ["cord","ways","shape","row","i","j","found","parts","start","end","whole","other"] ["cord","ways","shape"] (defScope s_x15):=⟨rfl,rfl,rfl,by decide +kernel,rfl,by decide +kernel,by decide +kernel⟩
theorem ok_x15 {f:Addr} {fd:FuncData} (F:Fun K "_law_ahead" "_law_ahead" s_x15 f fd) (G_x10:FnG P w K mg base "_law_fellow" 1 ["letter"] (Mir.spP K Mir.m_x10)) (b_len:mg "len"=none) (b_range:mg "range"=none):FnOk P w K mg base CX0 2 f fd ["cord","ways","shape"] (Mir.spP K Mir.m_x15):=by
 refine Mir.fn_pureE (md:=Mir.md_x15) (mb:=Mir.mb_x15) (n:=12) (np:=3) F sc_x15 rfl rfl rfl rfl rfl ?_
 intro cdv A outer s H E hr
 have nd:=sc_x15.nd
 have kt:KT K:=⟨⟩
 refine' ⟨_,?a,?b⟩
 case a=>
   show PSs _ (_::_) _
   walk_at "h all"
 case b=>
   intro C hC
   subst hC
   unfold Mir.mb_x15 Mir.lb_x15_3 Mir.lb_x15_2 Mir.lb_x15_1 Mir.lb_x15_0
   walk_at "m all"
theorem sc_x16:FnScope ["cord","store","ways","many","numbers","number","shape"] ["cord","store"] (defScope s_x16):=⟨rfl,rfl,rfl,by decide +kernel,rfl,by decide +kernel,by decide +kernel⟩
theorem ok_x16 {f:Addr} {fd:FuncData} (F:Fun K "_law_right" "_law_right" s_x16 f fd) (G_x4:FnG P w K mg base "how_many_full" 4 ["cord"] (Mir.spP K Mir.m_x4)) (G_x6:FnG P w K mg base "full_at" 49 ["cord","number"] (Mir.spP K Mir.m_x6)) (G_x8:FnG P w K mg base "_law_take" 1 ["store","many"] (Mir.spM K Mir.m_x8)) (G_x9:FnG P w K mg base "_law_whole" 1 ["thing"] (Mir.spP K Mir.m_x9)) (G_x13:FnG P w K mg base "_law_fits" 2 ["cord","shape"] (Mir.spP K Mir.m_x13)) (G_x14:FnG P w K mg base "_law_table" 2 ["cord"] (Mir.spP K Mir.m_x14)) (G_x15:FnG P w K mg base "_law_ahead" 2 ["cord","ways","shape"] (Mir.spP K Mir.m_x15)) (G_x17:FnG P w K mg base "_law_none_beyond" 50 ["cord","many"] (Mir.spP K Mir.m_x17)) (b_len:mg "len"=none):FnOk P w K mg base CX0 51 f fd ["cord","store"] (Mir.spM1 K Mir.m_x16):=by
 refine Mir.fn_io1 (md:=Mir.md_x16) (mb:=Mir.mb_x16) (n:=7) F sc_x16 rfl rfl rfl rfl rfl rfl ?_
 intro cdv A outer s H E hr
 have nd:=sc_x16.nd
 have kt:KT K:=⟨⟩
 refine' ⟨_,?a,?b⟩
 case a=>
   show PSs _ (_::_) _
   walk_at "h all"
 case b=>
   intro C hC hF
   subst hC
   unfold Mir.mb_x16 Mir.lb_x16_0
   walk_at "m all"
theorem sc_x17:FnScope ["cord","many","refused","number"] ["cord","many"] (defScope s_x17):=⟨rfl,rfl,rfl,by decide +kernel,rfl,by decide +kernel,by decide +kernel⟩
theorem ok_x17 {f:Addr} {fd:FuncData} {cx0:Addr} (F:Fun K "_law_none_beyond" "_law_none_beyond" s_x17 f fd) (X_full_at:FnX P w K mg base "full_at" 49 ["cord","number"] (Mir.spX K Mir.m_x6 Mir.mR_full_at cx0)) (Q_ask:AskN K mg "NoNumber" cx0):FnOk P w K mg base CX0 50 f fd ["cord","many"] (Mir.spP K Mir.m_x17):=by
 refine Mir.fn_pureE (md:=Mir.md_x17) (mb:=Mir.mb_x17) (n:=4) (np:=2) F sc_x17 rfl rfl rfl rfl rfl ?_
 intro cdv A outer s H E hr
 have nd:=sc_x17.nd
 have kt:KT K:=⟨⟩
 refine' ⟨_,?a,?b⟩
 case a=>
   show PSs _ (_::_) _
   walk_at "h all"
 case b=>
   intro C hC
   subst hC
   unfold Mir.mb_x17 Mir.lb_x17_0
   walk_at "m all"
theorem sc_x18:FnScope ["store","cord","at"] ["store","cord"] (defScope s_x18):=⟨rfl,rfl,rfl,by decide +kernel,rfl,by decide +kernel,by decide +kernel⟩
theorem ok_x18 {f:Addr} {fd:FuncData} (F:Fun K "_law_spoilt" "_law_spoilt" s_x18 f fd) (G_x8:FnG P w K mg base "_law_take" 1 ["store","many"] (Mir.spM K Mir.m_x8)) (b_len:mg "len"=none):FnOk P w K mg base CX0 2 f fd ["store","cord"] (Mir.spM K Mir.m_x18):=by
 refine Mir.fn_ioE (md:=Mir.md_x18) (mb:=Mir.mb_x18) (n:=3) (np:=1) false F sc_x18 rfl rfl rfl rfl rfl rfl ?_
 intro cdv A outer s H E hr
 have nd:=sc_x18.nd
 have kt:KT K:=⟨⟩
 refine' ⟨_,?a,?b⟩
 case a=>
   show PSs _ (_::_) _
   walk_at "h all"
 case b=>
   intro C hC hF
   subst hC
   unfold Mir.mb_x18
   walk_at "m all"
theorem sc_x19:FnScope ["store","cord","at","odd","some","any_one"] ["store","cord"] (defScope s_x19):=⟨rfl,rfl,rfl,by decide +kernel,rfl,by decide +kernel,by decide +kernel⟩
theorem ok_x19 {f:Addr} {fd:FuncData} (F:Fun K "_law_any_right" "_law_any_right" s_x19 f fd) (G_x4:FnG P w K mg base "how_many_full" 4 ["cord"] (Mir.spP K Mir.m_x4)) (G_x8:FnG P w K mg base "_law_take" 1 ["store","many"] (Mir.spM K Mir.m_x8)) (G_x14:FnG P w K mg base "_law_table" 2 ["cord"] (Mir.spP K Mir.m_x14)) (G_x17:FnG P w K mg base "_law_none_beyond" 50 ["cord","many"] (Mir.spP K Mir.m_x17)) (b_len:mg "len"=none) (b_range:mg "range"=none):FnOk P w K mg base CX0 51 f fd ["store","cord"] (Mir.spM K Mir.m_x19):=by
 refine Mir.fn_ioE (md:=Mir.md_x19) (mb:=Mir.mb_x19) (n:=6) (np:=1) false F sc_x19 rfl rfl rfl rfl rfl rfl ?_
 intro cdv A outer s H E hr
 have nd:=sc_x19.nd
 have kt:KT K:=⟨⟩
 refine' ⟨_,?a,?b⟩
 case a=>
   show PSs _ (_::_) _
   walk_at "h all"
 case b=>
   intro C hC hF
   subst hC
   unfold Mir.mb_x19
   walk_at "m all"
theorem sc_law:FnScope ["script","k","store","shape","cord","many"] ["script"] (defScope s_law):=⟨rfl,rfl,rfl,by decide +kernel,rfl,by decide +kernel,by decide +kernel⟩
theorem ok_law {f:Addr} {fd:FuncData} (F:Fun K "law" "law" s_law f fd) (G_x4:FnG P w K mg base "how_many_full" 4 ["cord"] (Mir.spP K Mir.m_x4)) (G_x7:FnG P w K mg base "_law_store" 1 ["script","k"] (Mir.spP K Mir.m_x7)) (G_x8:FnG P w K mg base "_law_take" 1 ["store","many"] (Mir.spM K Mir.m_x8)) (G_x11:FnG P w K mg base "_law_full" 2 ["store","half"] (Mir.spM K Mir.m_x11)) (G_x12:FnG P w K mg base "_law_cord_for" 2 ["store","shape","c"] (Mir.spM K Mir.m_x12)) (G_x14:FnG P w K mg base "_law_table" 2 ["cord"] (Mir.spP K Mir.m_x14)) (G_x16:FnG P w K mg base "_law_right" 51 ["cord","store"] (Mir.spM1 K Mir.m_x16)) (G_x17:FnG P w K mg base "_law_none_beyond" 50 ["cord","many"] (Mir.spP K Mir.m_x17)) (G_x18:FnG P w K mg base "_law_spoilt" 2 ["store","cord"] (Mir.spM K Mir.m_x18)) (G_x19:FnG P w K mg base "_law_any_right" 51 ["store","cord"] (Mir.spM K Mir.m_x19)) (b_len:mg "len"=none) (b_range:mg "range"=none) (okl:∀ ns:List Int,ns.length<=63->Mir.m_law [.scr ns]=some (.d (.bl true))):FnOk P w K mg base CX0 52 f fd ["script"] (Mir.spLawM K):=by
 refine Mir.fn_lawE (md:=Mir.md_law) (mb:=Mir.mb_law) (n:=6) F sc_law rfl rfl rfl rfl okl ?_
 intro cdv A outer s H E hr
 have nd:=sc_law.nd
 have kt:KT K:=⟨⟩
 refine' ⟨_,?a,?b⟩
 case a=>
   show PSs _ (_::_) _
   walk_at "h all"
 case b=>
   intro C hC
   subst hC
   unfold Mir.mb_law Mir.lb_law_0
   walk_at "m all"
end
theorem bn0 {P:List Value→Prop} (h:P []):∀ us:List Value,us.length=0→P us
 |[],_=>h
theorem bnS {P:List Value→Prop} {n:Nat} (h:∀ a,∀ us:List Value,us.length=n→P (a::us)):∀ us:List Value,us.length=n+1→P us
 |a::us,e=>h a us (Nat.succ.inj e)
theorem all_mk {l:PySem.W.OpenLaw} {w:World} {K:PySem.W.Frag} {h:Heap} {mg:Str->Option Value} {fa f0 f1 f2 f3 f4 f5 f6 f7 f8 f9 f10 f11 f12 f13 f14 f15 f16 f17 f18 f19 f20 cx0:Addr} (X:K.In h) (G:h.Ns mainGlobals mg) (hfa:mg "law"=some (.ref fa))
   {e0 e1 e2 e3 e4 e5 e6 e7 e8 e9 e10 e11 e12 e13 e14 e15 e16 e17 e18 e19:FuncData} {od0 an0:Option Addr} {sl0:Array (Option Value)} {oc0 kV0 dc0 pm0 cd0 ct0:Value} {t_LETTERS:Tok}
   (a0:PySem.W.nsIn K mainGlobals "partner_at"=some (some (.ref f0))) (F0:Fun K "partner_at" "partner_at" s_x0 f0 e0)
   (a1:PySem.W.nsIn K mainGlobals "fellow"=some (some (.ref f1))) (F1:Fun K "fellow" "fellow" s_x1 f1 e1)
   (a2:PySem.W.nsIn K mainGlobals "fellow_counts"=some (some (.ref f2))) (F2:Fun K "fellow_counts" "fellow_counts" s_x2 f2 e2)
   (a3:PySem.W.nsIn K mainGlobals "full_counts"=some (some (.ref f3))) (F3:Fun K "full_counts" "full_counts" s_x3 f3 e3)
   (a4:PySem.W.nsIn K mainGlobals "how_many_full"=some (some (.ref f4))) (F4:Fun K "how_many_full" "how_many_full" s_x4 f4 e4)
   (a5:PySem.W.nsIn K mainGlobals "full_hoops_at"=some (some (.ref f5))) (F5:Fun K "full_hoops_at" "full_hoops_at" s_x5 f5 e5)
   (a6:PySem.W.nsIn K mainGlobals "full_at"=some (some (.ref f6))) (F6:Fun K "full_at" "full_at" s_x6 f6 e6)
   (a7:PySem.W.nsIn K mainGlobals "_law_store"=some (some (.ref f7))) (F7:Fun K "_law_store" "_law_store" s_x7 f7 e7)
   (a8:PySem.W.nsIn K mainGlobals "_law_take"=some (some (.ref f8))) (F8:Fun K "_law_take" "_law_take" s_x8 f8 e8)
   (a9:PySem.W.nsIn K mainGlobals "_law_whole"=some (some (.ref f9))) (F9:Fun K "_law_whole" "_law_whole" s_x9 f9 e9)
   (a10:PySem.W.nsIn K mainGlobals "_law_fellow"=some (some (.ref f10))) (F10:Fun K "_law_fellow" "_law_fellow" s_x10 f10 e10)
   (a11:PySem.W.nsIn K mainGlobals "_law_full"=some (some (.ref f11))) (F11:Fun K "_law_full" "_law_full" s_x11 f11 e11)
   (a12:PySem.W.nsIn K mainGlobals "_law_cord_for"=some (some (.ref f12))) (F12:Fun K "_law_cord_for" "_law_cord_for" s_x12 f12 e12)
   (a13:PySem.W.nsIn K mainGlobals "_law_fits"=some (some (.ref f13))) (F13:Fun K "_law_fits" "_law_fits" s_x13 f13 e13)
   (a14:PySem.W.nsIn K mainGlobals "_law_table"=some (some (.ref f14))) (F14:Fun K "_law_table" "_law_table" s_x14 f14 e14)
   (a15:PySem.W.nsIn K mainGlobals "_law_ahead"=some (some (.ref f15))) (F15:Fun K "_law_ahead" "_law_ahead" s_x15 f15 e15)
   (a16:PySem.W.nsIn K mainGlobals "_law_right"=some (some (.ref f16))) (F16:Fun K "_law_right" "_law_right" s_x16 f16 e16)
   (a17:PySem.W.nsIn K mainGlobals "_law_none_beyond"=some (some (.ref f17))) (F17:Fun K "_law_none_beyond" "_law_none_beyond" s_x17 f17 e17)
   (a18:PySem.W.nsIn K mainGlobals "_law_spoilt"=some (some (.ref f18))) (F18:Fun K "_law_spoilt" "_law_spoilt" s_x18 f18 e18)
   (a19:PySem.W.nsIn K mainGlobals "_law_any_right"=some (some (.ref f19))) (F19:Fun K "_law_any_right" "_law_any_right" s_x19 f19 e19)
   (a20:PySem.W.nsIn K mainGlobals "law"=some (some (.ref f20))) (l20:K.lookup f20=some ⟨oc0,od0,.func (PySem.W.fnOf "law" "law" (defArgs s_law) (defBody s_law) (defScope s_law) .none kV0 dc0 pm0 an0 cd0 ct0),sl0⟩) (c20:PySem.W.codeIn K cd0 "law"=true) (k20:PySem.W.keepIn K (.ref f20)=true)
   (h_cx0:PySem.W.nsIn K mainGlobals "NoNumber"=some (some (.ref cx0)))
   (h_exc:PySem.W.excIn K cx0 [.type "ValueError",.type "Exception",.type "BaseException",.type "object"] "ValueError.__new__"=true)
   (h_hit:PySem.W.exmOne K (.ref cx0) (.ref cx0)=some true)
   (z_bool:PySem.W.nsIn K mainGlobals "bool"=some none)
   (z_divmod:PySem.W.nsIn K mainGlobals "divmod"=some none)
   (z_int:PySem.W.nsIn K mainGlobals "int"=some none)
   (z_isinstance:PySem.W.nsIn K mainGlobals "isinstance"=some none)
   (z_len:PySem.W.nsIn K mainGlobals "len"=some none)
   (z_range:PySem.W.nsIn K mainGlobals "range"=some none)
   (z_reversed:PySem.W.nsIn K mainGlobals "reversed"=some none)
   (z_sorted:PySem.W.nsIn K mainGlobals "sorted"=some none)
   (z_sum:PySem.W.nsIn K mainGlobals "sum"=some none)
   (z_tuple:PySem.W.nsIn K mainGlobals "tuple"=some none)
   (y_LETTERS:PySem.W.nsIn K mainGlobals "LETTERS"=some (some (.str ("abcdefghijklmnopqrstuvwxyz":Str) t_LETTERS)))
   : ∃ fd:FuncData,(∀ (s:Shared) (v:Value),BindsTo s fd ⟨[v],[]⟩ [("script",v)])/\∀ base:Heap,K.In base->base.Ns mainGlobals mg->FnOk l.prog w K mg base CX0 52 fa fd ["script"] (Mir.spLawM K):=by
 have e:=hfa.symm.trans (PySem.W.mg_of X G a20)
 cases e
 have b_bool:mg "bool"=none:=PySem.W.mg_none_of X G z_bool
 have b_divmod:mg "divmod"=none:=PySem.W.mg_none_of X G z_divmod
 have b_int:mg "int"=none:=PySem.W.mg_none_of X G z_int
 have b_isinstance:mg "isinstance"=none:=PySem.W.mg_none_of X G z_isinstance
 have b_len:mg "len"=none:=PySem.W.mg_none_of X G z_len
 have b_range:mg "range"=none:=PySem.W.mg_none_of X G z_range
 have b_reversed:mg "reversed"=none:=PySem.W.mg_none_of X G z_reversed
 have b_sorted:mg "sorted"=none:=PySem.W.mg_none_of X G z_sorted
 have b_sum:mg "sum"=none:=PySem.W.mg_none_of X G z_sum
 have b_tuple:mg "tuple"=none:=PySem.W.mg_none_of X G z_tuple
 have e_LETTERS:=PySem.W.mg_of X G y_LETTERS
 have d0:=F0.binds (ps:=["told","number"]) (by walk_at "bn")
 have d1:=F1.binds (ps:=["letter"]) (by walk_at "bn")
 have d2:=F2.binds (ps:=["cord","counts","start","stop"]) (by walk_at "bn")
 have d3:=F3.binds (ps:=["cord"]) (by walk_at "bn")
 have d4:=F4.binds (ps:=["cord"]) (by walk_at "bn")
 have d5:=F5.binds (ps:=["cord","counts","start","stop","number"]) (by walk_at "bn")
 have d6:=F6.binds (ps:=["cord","number"]) (by walk_at "bn")
 have d7:=F7.binds (ps:=["script","k"]) (by walk_at "bn")
 have d8:=F8.binds (ps:=["store","many"]) (by walk_at "bn")
 have d9:=F9.binds (ps:=["thing"]) (by walk_at "bn")
 have d10:=F10.binds (ps:=["letter"]) (by walk_at "bn")
 have d11:=F11.binds (ps:=["store","half"]) (by walk_at "bn")
 have d12:=F12.binds (ps:=["store","shape","c"]) (by walk_at "bn")
 have d13:=F13.binds (ps:=["cord","shape"]) (by walk_at "bn")
 have d14:=F14.binds (ps:=["cord"]) (by walk_at "bn")
 have d15:=F15.binds (ps:=["cord","ways","shape"]) (by walk_at "bn")
 have d16:=F16.binds (ps:=["cord","store"]) (by walk_at "bn")
 have d17:=F17.binds (ps:=["cord","many"]) (by walk_at "bn")
 have d18:=F18.binds (ps:=["store","cord"]) (by walk_at "bn")
 have d19:=F19.binds (ps:=["store","cord"]) (by walk_at "bn")
 have F20:=fun_mk (st:=s_law) l20 c20 k20
 refine ⟨PySem.W.fnOf "law" "law" (defArgs s_law) (defBody s_law) (defScope s_law) .none kV0 dc0 pm0 an0 cd0 ct0,fun s v=>.of_eq rfl,fun base KB GB=>?_⟩
 have O_raise:=own_of KB GB h_cx0 h_exc
 have Q_ask:AskN K mg "NoNumber" cx0:=⟨PySem.W.mg_of X G h_cx0,h_hit⟩
 have G_x0:FnG l.prog w K mg base "partner_at" 1 ["told","number"] (Mir.spP K Mir.m_x0):=⟨f0,_,ok_x0 F0 ,PySem.W.mg_of X G a0,F0.kp,d0⟩
 have G_x1:FnG l.prog w K mg base "fellow" 1 ["letter"] (Mir.spP K Mir.m_x1):=⟨f1,_,ok_x1 F1 e_LETTERS,PySem.W.mg_of X G a1,F1.kp,d1⟩
 have G_x7:FnG l.prog w K mg base "_law_store" 1 ["script","k"] (Mir.spP K Mir.m_x7):=⟨f7,_,ok_x7 F7 b_len b_range,PySem.W.mg_of X G a7,F7.kp,d7⟩
 have G_x8:FnG l.prog w K mg base "_law_take" 1 ["store","many"] (Mir.spM K Mir.m_x8):=⟨f8,_,ok_x8 F8 ,PySem.W.mg_of X G a8,F8.kp,d8⟩
 have G_x9:FnG l.prog w K mg base "_law_whole" 1 ["thing"] (Mir.spP K Mir.m_x9):=⟨f9,_,ok_x9 F9 b_bool b_int b_isinstance,PySem.W.mg_of X G a9,F9.kp,d9⟩
 have G_x10:FnG l.prog w K mg base "_law_fellow" 1 ["letter"] (Mir.spP K Mir.m_x10):=⟨f10,_,ok_x10 F10 ,PySem.W.mg_of X G a10,F10.kp,d10⟩
 have G_x2:FnG l.prog w K mg base "fellow_counts" 2 ["cord","counts","start","stop"] (Mir.spP K Mir.m_x2):=⟨f2,_,ok_x2 F2 G_x1 b_range,PySem.W.mg_of X G a2,F2.kp,d2⟩
 have G_x11:FnG l.prog w K mg base "_law_full" 2 ["store","half"] (Mir.spM K Mir.m_x11):=⟨f11,_,ok_x11 F11 G_x8 b_len b_range b_sorted b_tuple,PySem.W.mg_of X G a11,F11.kp,d11⟩
 have G_x12:FnG l.prog w K mg base "_law_cord_for" 2 ["store","shape","c"] (Mir.spM K Mir.m_x12):=⟨f12,_,ok_x12 F12 G_x8 G_x10 b_len,PySem.W.mg_of X G a12,F12.kp,d12⟩
 have G_x13:FnG l.prog w K mg base "_law_fits" 2 ["cord","shape"] (Mir.spP K Mir.m_x13):=⟨f13,_,ok_x13 F13 G_x9 G_x10 b_isinstance b_len b_range b_tuple,PySem.W.mg_of X G a13,F13.kp,d13⟩
 have G_x14:FnG l.prog w K mg base "_law_table" 2 ["cord"] (Mir.spP K Mir.m_x14):=⟨f14,_,ok_x14 F14 G_x10 b_int b_len b_range,PySem.W.mg_of X G a14,F14.kp,d14⟩
 have G_x15:FnG l.prog w K mg base "_law_ahead" 2 ["cord","ways","shape"] (Mir.spP K Mir.m_x15):=⟨f15,_,ok_x15 F15 G_x10 b_len b_range,PySem.W.mg_of X G a15,F15.kp,d15⟩
 have G_x18:FnG l.prog w K mg base "_law_spoilt" 2 ["store","cord"] (Mir.spM K Mir.m_x18):=⟨f18,_,ok_x18 F18 G_x8 b_len,PySem.W.mg_of X G a18,F18.kp,d18⟩
 have G_x3:FnG l.prog w K mg base "full_counts" 3 ["cord"] (Mir.spP K Mir.m_x3):=⟨f3,_,ok_x3 F3 G_x2 b_len b_range b_reversed b_sum,PySem.W.mg_of X G a3,F3.kp,d3⟩
 have G_x4:FnG l.prog w K mg base "how_many_full" 4 ["cord"] (Mir.spP K Mir.m_x4):=⟨f4,_,ok_x4 F4 G_x3 b_len,PySem.W.mg_of X G a4,F4.kp,d4⟩
 have G_x5:FnG l.prog w K mg base "full_hoops_at" 48 ["cord","counts","start","stop","number"] (Mir.spP K Mir.m_x5):=⟨f5,_,ok_x5 F5 (PySem.W.mg_of X G a5) F5.kp d5 G_x0 G_x2 b_divmod,PySem.W.mg_of X G a5,F5.kp,d5⟩
 have G_x6:FnG l.prog w K mg base "full_at" 49 ["cord","number"] (Mir.spP K Mir.m_x6):=⟨f6,_,ok_x6 F6 G_x3 G_x5 b_len b_tuple,PySem.W.mg_of X G a6,F6.kp,d6⟩
 have X_full_at:FnX l.prog w K mg base "full_at" 49 ["cord","number"] (Mir.spX K Mir.m_x6 Mir.mR_full_at cx0):=⟨f6,_,okX_full_at F6 G_x3 G_x5 b_len b_tuple O_raise,PySem.W.mg_of X G a6,F6.kp,d6⟩
 have G_x17:FnG l.prog w K mg base "_law_none_beyond" 50 ["cord","many"] (Mir.spP K Mir.m_x17):=⟨f17,_,ok_x17 F17 X_full_at Q_ask,PySem.W.mg_of X G a17,F17.kp,d17⟩
 have G_x16:FnG l.prog w K mg base "_law_right" 51 ["cord","store"] (Mir.spM1 K Mir.m_x16):=⟨f16,_,ok_x16 F16 G_x4 G_x6 G_x8 G_x9 G_x13 G_x14 G_x15 G_x17 b_len,PySem.W.mg_of X G a16,F16.kp,d16⟩
 have G_x19:FnG l.prog w K mg base "_law_any_right" 51 ["store","cord"] (Mir.spM K Mir.m_x19):=⟨f19,_,ok_x19 F19 G_x4 G_x8 G_x14 G_x17 b_len b_range,PySem.W.mg_of X G a19,F19.kp,d19⟩
 exact ok_law F20 G_x4 G_x7 G_x8 G_x11 G_x12 G_x14 G_x16 G_x17 G_x18 G_x19 b_len b_range Mir.law_true
theorem scr_of {K:PySem.W.Frag} {H:Hp} {a:Addr} {ns:List Int} (hO:L2.Only H) (h:SqL K H a (ns.map V.int)):Mir.ScrAt K H a ns:=by
 rcases h with (h | h) | h
 · rcases hO a with z | ⟨o,xs,z⟩
   · rw [h] at z; cases z
   · rw [h] at z; cases z
 · exact .inl h
 · exact .inr h
theorem walk {l:PySem.W.OpenLaw} {q:Program} {loose:List Str} {XP:(Str->Option Value)->Heap->Prop} {YP:World->Heap->Prop} {d:DefRec} {K:Params->PySem.W.Frag} (hn:l.most=some 63) (hdf:d.params.defaults=[])
   (hY:∀ (w:World) (h:Heap),YP w h->(K w.params).In h)
   (F:∀ (w:World) (mg:Str->Option Value) (fa:Addr) (h:Heap),(K w.params).In h->h.Ns mainGlobals mg->mg d.name=some (.ref fa) ->
     ∃ fd:FuncData,(∀ (s:Shared) (u:Value),BindsTo s fd ⟨[u],[]⟩ [("script",u)])/\∀ base:Heap,(K w.params).In base->base.Ns mainGlobals mg->FnOk l.prog w (K w.params) mg base CX0 52 fa fd ["script"] (Mir.spLawM (K w.params))) :
   PySem.W.WalkO q loose XP YP l.row.toRowW d [] (fun f vs=>PySem.call f vs):=
 L2.walk_of (n:=63) (k:=52) (x:="script") (CX:=fun _=>CX0) (sp:=fun w=>Mir.spLawM (K w.params)) hn (by decide) hdf ⟨rfl,by decide,by decide,rfl⟩ hY F (fun _ _ a ns hl hO hS=>⟨a,ns,rfl,scr_of hO hS,hl,fun _=>rfl⟩) fun _ _ _ _ _ z=>z
end My
open PySem PySem.W PyProof.Rows
set_option maxRecDepth 100000 in
set_option maxHeartbeats 0 in
theorem PySem.Challenge.cw_hoopcord_k60_whole_full_shapes_in_order_holds : PySem.Challenge.rw_hoopcord_k60_whole_full_shapes_in_order.Holds := by
 w_on; o_law; k_head; (case hw=>w_witness2)
 k_fill
 refine My.walk (l:=PySem.Challenge.rw_hoopcord_k60_whole_full_shapes_in_order) rfl rfl (fun w h Y=>PySem.W.kIn_of Y) ?F
 case F=>
   intro w mg fa h KX G hmg
   refine' My.all_mk KX G hmg ?a0 ?F0 ?a1 ?F1 ?a2 ?F2 ?a3 ?F3 ?a4 ?F4 ?a5 ?F5 ?a6 ?F6 ?a7 ?F7 ?a8 ?F8 ?a9 ?F9 ?a10 ?F10 ?a11 ?F11 ?a12 ?F12 ?a13 ?F13 ?a14 ?F14 ?a15 ?F15 ?a16 ?F16 ?a17 ?F17 ?a18 ?F18 ?a19 ?F19 ?a20 ?l20 ?c20 ?k20 ?h_cx0 ?h_exc ?h_hit ?z_bool ?z_divmod ?z_int ?z_isinstance ?z_len ?z_range ?z_reversed ?z_sorted ?z_sum ?z_tuple ?y_LETTERS
   (case a0=>k_is); (case F0=>exact fun_mk (by k_is) (by k_is) (by k_is)); (case a1=>k_is); (case F1=>exact fun_mk (by k_is) (by k_is) (by k_is)); (case a2=>k_is); (case F2=>exact fun_mk (by k_is) (by k_is) (by k_is)); (case a3=>k_is); (case F3=>exact fun_mk (by k_is) (by k_is) (by k_is)); (case a4=>k_is); (case F4=>exact fun_mk (by k_is) (by k_is) (by k_is)); (case a5=>k_is); (case F5=>exact fun_mk (by k_is) (by k_is) (by k_is)); (case a6=>k_is); (case F6=>exact fun_mk (by k_is) (by k_is) (by k_is)); (case a7=>k_is); (case F7=>exact fun_mk (by k_is) (by k_is) (by k_is)); (case a8=>k_is); (case F8=>exact fun_mk (by k_is) (by k_is) (by k_is)); (case a9=>k_is); (case F9=>exact fun_mk (by k_is) (by k_is) (by k_is)); (case a10=>k_is); (case F10=>exact fun_mk (by k_is) (by k_is) (by k_is)); (case a11=>k_is); (case F11=>exact fun_mk (by k_is) (by k_is) (by k_is)); (case a12=>k_is); (case F12=>exact fun_mk (by k_is) (by k_is) (by k_is)); (case a13=>k_is); (case F13=>exact fun_mk (by k_is) (by k_is) (by k_is)); (case a14=>k_is); (case F14=>exact fun_mk (by k_is) (by k_is) (by k_is)); (case a15=>k_is); (case F15=>exact fun_mk (by k_is) (by k_is) (by k_is)); (case a16=>k_is); (case F16=>exact fun_mk (by k_is) (by k_is) (by k_is)); (case a17=>k_is); (case F17=>exact fun_mk (by k_is) (by k_is) (by k_is)); (case a18=>k_is); (case F18=>exact fun_mk (by k_is) (by k_is) (by k_is)); (case a19=>k_is); (case F19=>exact fun_mk (by k_is) (by k_is) (by k_is)); (case a20=>k_is); (case l20=>k_is); (case c20=>k_is); (case k20=>k_is); (case h_cx0=>k_is); (case h_exc=>k_exc); (case h_hit=>kts_exm); (case z_bool=>k_is); (case z_divmod=>k_is); (case z_int=>k_is); (case z_isinstance=>k_is); (case z_len=>k_is); (case z_range=>k_is); (case z_reversed=>k_is); (case z_sorted=>k_is); (case z_sum=>k_is); (case z_tuple=>k_is); (case y_LETTERS=>k_is)
