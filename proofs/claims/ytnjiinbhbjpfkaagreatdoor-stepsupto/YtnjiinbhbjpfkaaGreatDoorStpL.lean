import Derived.Test.YtnjiinbhbjpfkaaGreatDoorStpK
set_option maxRecDepth 100000
set_option maxHeartbeats 0
set_option linter.all false
namespace Go.Proofs.YtnjiinbhbjpfkaaGreatDoor
open Go.RowKit Go.Proofs.Tryz
namespace F
def oT.stop(v:oT):oT:={ v with run:=false }
def Pl.dR(s:Pl)(v:B.V):List Nat->Pl
 | []=>s
 | t :: l=>(s.fJ t v).dR v l
def Pl.gone(s:Pl)(t:Nat)(v:B.V)(kind:Nat)(x:Int):Pl:=(({ (s.dw t).dv t ((s.dw t).T t).stop with lv:=s.lv.erase t }:Pl).kU (t-1) v).told kind t x
def Pl.leave(s:Pl)(t:Nat)(v:B.V)(kind:Nat)(x:Int):Pl:=(s.gone t v kind x).dR v (s.q 5 t)
theorem qy(v:B.V):∀(l m:List Nat) (s:Pl),s.dR v (l++m)=(s.dR v l).dR v m
 | [],_,_=>rfl
 | _ :: l,m,_=>qy v l m _
theorem gz(s:Pl)(t:Nat):(s.dw t).lv=s.lv/\(s.dw t).out=s.out/\(s.dw t).kp=s.kp/\(s.dw t).ev=s.ev/\(s.dw t).jo=s.jo/\(s.dw t).sp=s.sp/\(s.dw t).eY=s.eY/\(s.dw t).kd=s.kd/\(s.dw t).M=s.M/\(s.dw t).ck=s.ck:=by
 unfold Pl.dw;split<;>exact⟨rfl,rfl,rfl,rfl,rfl,rfl,rfl,rfl,rfl,rfl⟩
theorem mR(s:Pl){t u:Nat}(v:B.V)(kind:Nat)(x:Int)(h:u≠t):(s.gone t v kind x).T u=s.T u:=by
 show((s.dw t).dv t _).T u=_;rw[dP _ _ h,sX s h]
theorem iO(s:Pl)(t:Nat)(v:B.V)(kind:Nat)(x:Int):(s.gone t v kind x).nt=s.nt:=fO s t
theorem oi(s:Pl)(t:Nat)(v:B.V)(kind:Nat)(x:Int)(u:Nat):((s.gone t v kind x).T u).wh=((s.dw t).T u).wh:=by
 show(((s.dw t).dv t _).T u).wh=_;by_cases e:u=t
 .subst e;rw[df];rfl
 rw[dP _ _ e]
theorem LW.gone{s:Pl}(h:LW s){t:Nat}(ht:fe s t)(v:B.V)(kind:Nat)(x:Int):LW (s.gone t v kind x):=(h.dw ht).same rfl rfl (λu=>oi s t v kind x u)
theorem yS{s:Pl}(h:LW s){t:Nat}(ht:fe s t)(v:B.V)(kind:Nat)(x:Int):(s.gone t v kind x).q 5 t=s.q 5 t:=by
 show(s.dw t).q 5 t=_;exact vn s (λe=>(h.a t ht 5 t e).2.2 ⟨rfl,rfl⟩)
theorem WW.gone{p:dz}{s:Pl}(h:WW p s){t:Nat}(v:B.V)(kind:Nat)(x:Int):WW p (s.gone t v kind x):=by
 intro u y a b i o;by_cases e:u=t
 .subst e;rw[oi,jd]at i
  cases i
 rw[mR s v kind x e]at i ⊢;have:=h u ((eg (iO s t v kind x)).1 y) a b i o;rw[gJ (s:=s) (by rw[mR s v kind x e])];exact this
theorem Gr{s:Pl}{t:Nat}{x y:Nat}(hw:(s.T t).wh=some (x,y))(v:B.V)(o:(s.T t).lf≠none)(i:¬(x=2/\y=0)):(s.fJ t v).q x y=(s.q x y).erase t:=by
 cases hk:(s.T t).lf with
 | none=>exact ch hk o
 | some k=>
  rw[nT v hk];show(((s.dx t (cr s t) ((de s t (cr s t)).set k.2.1 v)).dw t).eZ 2 0 _).q x y=_;rw[fL _ _ (λe=>i e),fN (x:=x) (y:=y) (by rw[(gj s t _ t _).1];exact hw)];exact fX _ _ _ _
theorem kB{f:Nat->Nat}:∀(l:List Nat),l.Nodup->(∀a,a∈l->∀b,b∈l->f a=f b->a=b)->(l.map f).Nodup
 | [],_,_=>List.nodup_nil
 | a :: l,hd,h=>by
  rw[List.map_cons,List.nodup_cons];rw[List.nodup_cons]at hd;refine⟨λu=>?_,kB l hd.2 (λa o b i=>h a (by simp[o]) b (by simp[i]))⟩;obtain⟨b,i,e⟩:=ek.1 u;exact hd.1 (by rw[h a (by simp) b (by simp[i]) e.symm];exact i)
theorem C9{p:dz}{s:Pl}{g:eE}{w:World}{t:Nat}(v:B.V)(kind:Nat)(x:Int)(h:dQ p s g w)(hW:LW s)(bD:WW p s)(ht:fe s t)(aH:t∈s.lv)(bB:s.lv.Nodup)(aE:∀u,u∈s.lv->fe s u)(ho:s.out.length=s.nt)(hk:s.kp.length<=1000000)(bG:s.ev.length<=100000): Calls prog 175 #[P0 p.eb,P0 (g.tb t),vA v,.int .i64 kind,.int .i64 x] w λe w'=>e=.returned (.tuple #[])/\∃g',Tr p s g w (s.leave t v kind x) g' w':=by
 have hd:=hW.d;have bN:s.lv.length<=500000000:=dH (gn s.nt s.lv bB aE) hd;have b4:∀{w1:World} {s1:Pl} {g1:eE} {w2:World},w.grownBy w1 none->x7 w1 w.heap.size (g.tb t) v->Tr p s g w1 s1 g1 w2->x7 w2 w.heap.size (g.tb t) v/\¬ey p s1 g1 w.heap.size/\¬ey p s1 g1 (w.heap.size+1):=λhg hL h2=>by
  have a:=h2.other hL.1 (λhm=>by have:=h.lt hm;omega);have b:=h2.other hL.2 (λhm=>by have:=h.lt hm;omega);exact⟨⟨a.1,b.1⟩,a.2,b.2⟩
 have hS:∀{s1 s2:Pl} {g1 g2:eE} {w1 w2:World},(x7 w1 w.heap.size (g.tb t) v/\¬ey p s1 g1 w.heap.size/\¬ey p s1 g1 (w.heap.size+1))->Tr p s1 g1 w1 s2 g2 w2->(x7 w2 w.heap.size (g.tb t) v/\¬ey p s2 g2 w.heap.size/\¬ey p s2 g2 (w.heap.size+1)):=λi h2=>by
  have a:=h2.other i.1.1 i.2.1;have b:=h2.other i.1.2 i.2.2;exact⟨⟨a.1,b.1⟩,a.2,b.2⟩
 let s1:=s.dw t
 let s1':=s1.dv t (s1.T t).stop
 let s2:Pl:={ s1' with lv:=s.lv.erase t }
 let s3:=s2.kU (t-1) v
 have hn1:s1.nt=s.nt:=fO s t;have aU:=(eg hn1).2 ht;have b8:s3.nt=s.nt:=hn1;have a8:s1.lv=s.lv:=(gz s t).1
 obtain⟨G,cl,a6⟩:∃G cl,g.ro 6 0=(some ⟨G,0,none⟩,cl):=by
  obtain⟨G,cl,he⟩:=dM (h.row (x:=6) (y:=0) (by unfold eQ;omega) (iq (by omega))) (by show s.lv.length≠0;exact λe=>by rw[cf]at e;rw[e]at aH;cases aH);unfold sl at he;injection he with a b c;exact⟨G,cl,fV a c⟩
 let S1:World->Prop:=λw1=>Tr p s g w s1 g w1/\(x7 w1 w.heap.size (g.tb t) v/\¬ey p s1 g w.heap.size/\¬ey p s1 g (w.heap.size+1))
 let S2:Value->World->Prop:=λlv w2=>lv=.slice (some ⟨G,0,none⟩) (s.lv.length-1) cl/\∃w1,Tr p s g w s1' g w1/\(x7 w1 w.heap.size (g.tb t) v/\¬ey p s1' g w.heap.size/\¬ey p s1' g (w.heap.size+1))/\w1.grownBy w2 (some G)/\w2.ownsRow 0 155 1 (.slice (some ⟨G,0,none⟩) (s.lv.length-1) cl) (s.lv.length-1) (((s.lv.erase t).map g.tb).map P0)
 let S3:World->Prop:=λw3=>∃g3,Tr p s g w s3 g3 w3/\g3.tb=g.tb/\g3.sx=g.sx/\(x7 w3 w.heap.size (g.tb t) v/\¬ey p s3 g3 w.heap.size/\¬ey p s3 g3 (w.heap.size+1))
 have flag:∀w1,S1 w1->Tr p s g w s1' g (w1.setCell ⟨g.tb t,2,none⟩ (.bool false))/\(x7 (w1.setCell ⟨g.tb t,2,none⟩ (.bool false)) w.heap.size (g.tb t) v/\¬ey p s1' g w.heap.size/\¬ey p s1' g (w.heap.size+1)):=by
  rintro w1 ⟨Z,aO⟩;have h2:Tr p s1 g w1 s1' g (w1.setCell ⟨g.tb t,2,none⟩ (.bool false)):=by
   refine Z.r.flag aU rfl rfl ?_ (bm (S:=λk=>k=g.tb t) (dk _ _) (ag rfl) _);refine((Z.r.tk aU).ep 2 (.bool false)).congr (λj hj=>?_);have aC:(s1.dv t (s1.T t).stop).T t=(s1.T t).stop:=df _ _ _;have hc:j=0\/j=1\/j=2\/j=3\/j=4\/j=5\/j=6:=by omega
   have bE:sl (s1.dv t (s1.T t).stop) g 12 t=sl s1 g 12 t:=by unfold sl;rw[jb,jb,aC];rfl
   rcases hc with rfl|rfl|rfl|rfl|rfl|rfl|rfl
   .rfl
   .exact bE.symm
   .show Value.bool false=Value.bool ((s1.dv t (s1.T t).stop).T t).run;rw[aC];rfl
   .show x8 p g (s1.T t).wh=x8 p g ((s1.dv t (s1.T t).stop).T t).wh;rw[aC];rfl
   .show Ba g t (s1.T t).lf=Ba g t ((s1.dv t (s1.T t).stop).T t).lf;rw[aC];rfl
   .show Value.int .i64 (s1.T t).iL=Value.int .i64 ((s1.dv t (s1.T t).stop).T t).iL;rw[aC];rfl
   rfl
  exact⟨Z.trans h2,hS aO h2⟩
 have aK:∀lv w2,S2 lv w2->Tr p s g w s2 (g.at 6 0 (some ⟨G,0,none⟩,cl)) (w2.setCell ⟨p.eb,29,none⟩ lv)/\(x7 (w2.setCell ⟨p.eb,29,none⟩ lv) w.heap.size (g.tb t) v/\¬ey p s2 (g.at 6 0 (some ⟨G,0,none⟩,cl)) w.heap.size/\¬ey p s2 (g.at 6 0 (some ⟨G,0,none⟩,cl)) (w.heap.size+1)):=by
  rintro lv w2 ⟨rfl,w1,Z,aO,aP,bC⟩;have b6:=eL bC (Z.r.E.block (aP.block _ Z.r.E.lt (λe=>by
   injection e with e;have a7:=Z.r.row (x:=6) (y:=0) (by unfold eQ;omega) (iq (by omega));unfold sl at a7;rw[a6]at a7;exact eL a7 Z.r.E (by decide) G rfl e.symm))) (by decide) G rfl
  have b9:eH s2 6 0=s.lv.length-1:=List.length_erase_of_mem aH;have h2:Tr p s1' g w1 s2 (g.at 6 0 (some ⟨G,0,none⟩,cl)) (w2.setCell ⟨p.eb,29,none⟩ (.slice (some ⟨G,0,none⟩) (s.lv.length-1) cl)):=by
   refine Z.r.yX (j0:=29) (by omega) (iq (by omega)) (by decide) rfl rfl rfl rfl rfl rfl rfl (λa b c d e=>?_) ?_ ?_ ?_ (λk hk=>ag (by rw[a6];exact hk))
   .have ea:a≠6:=by omega
    exact⟨by unfold eH;simp only[aa ea];rfl,by unfold fU;simp only[aa ea];rfl⟩
   .rw[b9];exact (Z.r.E.block (aP.block _ Z.r.E.lt (λe=>by injection e with e;exact b6 e.symm))).ep 29 _
   .rw[b9];exact dD bC (λk hk=>af _ _ _ _ (by
     have e:G=k:=by injection hk
     rw[<-e];exact b6))
   refine bm (jg aP (ab (by rw[a6];rfl))) (ag (ag rfl)) _
  exact⟨Z.trans h2,hS aO h2⟩
 let s4:=s3.told kind t x
 have aW:LW s4:=hW.gone ht v kind x;have aX:WW p s4:=bD.gone v kind x;obtain⟨aS,b3⟩:∃aS:Nat->Nat,∀u,fe s u->aS (g.tb u)=g.sx u:=by
  classical
  refine⟨λb=>if i:∃u,fe s u/\g.tb u=b then g.sx i.choose else 0,λu hu=>?_⟩;have i:∃u',fe s u'/\g.tb u'=g.tb u:=⟨u,hu,rfl⟩;show(if i:∃u',fe s u'/\g.tb u'=g.tb u then g.sx i.choose else 0)=g.sx u;rw[dif_pos i,h.ny i.choose_spec.1 hu i.choose_spec.2]
 let I:List Nat->World->Prop:=λbs w4=>∃H ys g4,bs=ys.map g.tb/\s.q 5 t=H++ys/\Tr p s g w (s4.dR v H) g4 w4/\g4.tb=g.tb/\g4.sx=g.sx/\LW (s4.dR v H)/\WW p (s4.dR v H)/\(s4.dR v H).q 5 t=ys/\(s4.dR v H).nt=s.nt/\(x7 w4 w.heap.size (g.tb t) v/\¬ey p (s4.dR v H) g4 w.heap.size/\¬ey p (s4.dR v H) g4 (w.heap.size+1))
 have aG:∀{s':Pl},s'.nt=s.nt->fz s' 5 t:=λe=>ab (ab (ab ⟨rfl,(eg e).2 ht⟩));refine(Hc p.eb (g.tb t) kind t s.lv.length cl x v (some ⟨G,0,none⟩) S1 S3 S2 I aS ((s.q 5 t).map g.tb) w ?_ ?_ ?_ ?_ ?_ ?_ ?_ ?_ ?_).mono ?_
 .intro w1 hg hL;refine(ss (h.kept hg) hW ht).mono ?_;rintro e w2 ⟨rfl,h2⟩;exact⟨rfl,h2.ahead hg,b4 hg hL h2⟩
 .intro w1 Z;have hf:=flag w1 Z;refine⟨Z.2.1,⟨_,Z.1.r.tk aU⟩,?_,Z.1.r.E.lt⟩;rw[hf.1.r.E.cell 29 (by omega)];show some (sl s1' g 6 0)=_;unfold sl;rw[a6];show some (Value.slice _ s1.lv.length _)=_;rw[a8]
 .intro w1 Z;obtain⟨a5,Y⟩:=flag w1 Z;generalize w1.setCell ⟨g.tb t,2,none⟩ (.bool false)=W at *;have hr:=a5.r.row (x:=6) (y:=0) (by unfold eQ;omega) (iq (by omega));have bF:W.ownsRow 0 155 1 (.slice (some ⟨G,0,none⟩) s.lv.length cl) s.lv.length ((s.lv.map g.tb).map P0):=by
   have e1:sl s1' g 6 0=.slice (some ⟨G,0,none⟩) s.lv.length cl:=by unfold sl;rw[a6];show Value.slice _ s1.lv.length _=_;rw[a8]
   have e2:eH s1' 6 0=s.lv.length:=(by show s1.lv.length=_;rw[a8]);have e3:fU s1' g 6 0=(s.lv.map g.tb).map P0:=by show(s1.lv.map g.tb).map P0=_;rw[a8]
   rw[e1,e2,e3]at hr;exact hr
  have aJ:s1'.nt=s.nt:=hn1;refine(I9 G cl s.lv.length (g.tb t) w.heap.size (s.lv.map g.tb) W bF (by omega) (kB _ bB (λa ha b i e=>h.ny (aE a ha) (aE b i) e)) ?_ (bz Y.1.1) (λe=>Y.2.1 ⟨6,0,0,?_⟩) (a5.r.tk ((eg aJ).2 ht)).xV (λz hz=>?_) (List.mem_map_of_mem aH)).mono ?_
  .have:=Y.1.1;simp[World.cell?,this]
  .rw[fR p g (by unfold eQ;omega) (iq (by omega)),a6,e];rfl
  .obtain⟨u,hu,rfl⟩:=ek.1 hz;exact(a5.r.tk ((eg aJ).2 (aE u hu))).xV
  rintro e w2 ⟨rfl,k1,k2⟩;rw[qs _ (λb i e=>h.ny (aE b i) ht e)]at k1;exact⟨_,_,_,rfl,rfl,W,a5,Y,k2,k1⟩
 .intro lv w2 h2;obtain⟨a5,Y⟩:=aK lv w2 h2;obtain⟨_,w1,k1,_,k3,_⟩:=h2;have hT:=a5.r.tk (t:=t) ((eg (s:=s) hn1).2 ht);refine⟨Y.1,⟨iJ p s1' g,k1.r.E.block (k3.block _ k1.r.E.lt (λe=>?_))⟩,hT.cell 0 (by omega),?_⟩
  .injection e with e;have a7:=k1.r.row (x:=6) (y:=0) (by unfold eQ;omega) (iq (by omega));unfold sl at a7;rw[a6]at a7;exact eL a7 k1.r.E (by decide) G rfl e.symm
  have bA:g.tb t<(w2.setCell ⟨p.eb,29,none⟩ lv).heap.size:=hT.lt;simpa[World.setCell] using bA
 .intro lv w2 w3 h2 aL;obtain⟨a5,Y⟩:=aK lv w2 h2;have h3:=a5.kept aL;have aN:x7 w3 w.heap.size (g.tb t) v/\¬ey p s2 (g.at 6 0 (some ⟨G,0,none⟩,cl)) w.heap.size/\¬ey p s2 (g.at 6 0 (some ⟨G,0,none⟩,cl)) (w.heap.size+1):=
   ⟨⟨cm aL Y.1.1 (by intro e;cases e),cm aL Y.1.2 (by intro e;cases e)⟩,Y.2⟩
  have b1:s2.out.length=s.nt:=by show s1.out.length=_;rw[(gz s t).2.1,ho]
  have bM:s2.kp.length=s.kp.length:=by show s1.kp.length=_;rw[(gz s t).2.2.1]
  have bK:(t:Int)=((t-1:Nat):Int)+1:=by have:=ht.1;omega
  rw[bK];refine(Jp (j:=t-1) v h3.r (by rw[b1];have:=ht.2;omega) (by rw[b1];omega) (by rw[bM];exact hk)).mono ?_;rintro e w4 ⟨rfl,r,h4⟩;exact⟨rfl,_,h3.trans h4,rfl,rfl,hS aN h4⟩
 .rintro w3 ⟨g3,_,_,_,i⟩;exact i.1
 .rintro w3 ⟨g3,h3,a1,b0,aN⟩;have b2:s3.ev.length<=100000:=by show s1.ev.length<=_;rw[(gz s t).2.2.2.1];exact bG
  have o:=B4 (t:=t) kind x h3.r ((eg b8).2 ht) b2;rw[a1]at o;refine o.mono ?_;rintro e w4 ⟨rfl,r,h4⟩;exact⟨rfl,[],s.q 5 t,g3.at 9 0 r,rfl,rfl,h3.trans h4,a1,b0,aW,aX,yS hW ht v kind x,b8,hS aN h4⟩
 .rintro bs w4 ⟨H,ys,g4,rfl,a9,a0,a1,a4,aA,a2,hq,J,i⟩;have b7:=(eg J).2 ht;have aM:=a0.r.tk b7;rw[a1]at aM;have hr:=a0.r.row (x:=5) (y:=t) (by unfold eQ;omega) (gG (by omega) b7);have aY:eH (s4.dR v H) 5 t=ys.length:=by rw[mj _ (aG J),hq]
  have bJ:fU (s4.dR v H) g4 5 t=(ys.map g.tb).map P0:=by rw[nL _ _ (aG J),hq,a1]
  have aQ:w4.cell? ⟨g.tb t,6,none⟩=some (sl (s4.dR v H) g4 5 t):=aM.cell 6 (by omega);refine⟨i.1,aM.lt,λw5 hg=>⟨H,ys,g4,rfl,a9,a0.kept hg,a1,a4,aA,a2,hq,J,⟨cm hg i.1.1 (by intro e;cases e),cm hg i.1.2 (by intro e;cases e)⟩,i.2⟩,λe=>?_,λy r e=>?_⟩
  .have hy:=List.map_eq_nil_iff.1 e;refine⟨(g4.ro 5 t).1,(g4.ro 5 t).2,?_⟩;rw[aQ];unfold sl;rw[aY,hy];rfl
  cases ys with
  | nil=>cases e
  | cons u us=>
   rw[List.map_cons]at e;injection e with e1 e2;subst e1 e2;have aB:u∈(s4.dR v H).q 5 t:=by rw[hq];simp
   obtain⟨a3,aF⟩:=aA.b 5 t (aG J) u aB;obtain⟨k,aD,aV,aZ⟩:=a2 u a3 5 t aF (ab rfl);have hu:=(eg J).1 a3;rw[aY,bJ]at hr;obtain⟨qb,qc,he⟩:=dM hr (by simp);have aT:=a0.r.tk a3;rw[a1]at aT;rw[he]at hr aQ;refine⟨qb,qc,?_,?_,?_,aT.lt⟩
   .rw[dS];exact aQ
   .exact(iG hr).2.2.2.2.2 0 _ rfl
   rw[aT.cell 4 (by omega)];show some (Ba g4 u ((s4.dR v H).T u).lf)=_;rw[aD,b3 u hu,<-a4];rfl
 .rintro y r w4 ⟨H,ys,g4,he,a9,a0,a1,a4,aA,a2,hq,J,i⟩
  cases ys with
  | nil=>cases he
  | cons u us=>
   rw[List.map_cons]at he;injection he with e1 e2;subst e1 e2;have aB:u∈(s4.dR v H).q 5 t:=by rw[hq];simp
   obtain⟨a3,aF⟩:=aA.b 5 t (aG J) u aB;obtain⟨k,aD,aV,aZ⟩:=a2 u a3 5 t aF (ab rfl);have hu:=(eg J).1 a3;have o:=IF v a0.r aA a3 aD aV aZ (by rw[aF];intro e;injection e with e;injection e with e _;omega);rw[a4]at o;rw[b3 u hu];refine o.mono ?_;rintro e w5 ⟨rfl,r,h5⟩;have hw:s4.dR v (H++[u])=(s4.dR v H).fJ u v:=qy v H [u] s4;refine⟨rfl,H++[u],us,g4.at 2 0 r,rfl,by rw[a9,dY];rfl,by rw[hw];exact a0.trans h5,a1,a4,by rw[hw];exact aA.fJ a3 v,by rw[hw];exact a2.fJ v (by rw[aD];intro e;cases e),?_,by rw[hw,mH];exact J,by rw[hw];exact hS i h5⟩;rw[hw,Gr aF v (by rw[aD];intro e;cases e) (by omega),hq];simp
 rintro e w' ⟨rfl,H,ys,g4,he,a9,a0,_⟩;have hy:=List.map_eq_nil_iff.1 he.symm;refine⟨rfl,g4,?_⟩;rw[hy,eB]at a9;unfold Pl.leave;rw[a9];exact a0
end F
section
theorem IQ(tb sb cap m fb:Nat)(w:World)(c1:w.cell? ⟨tb,1,none⟩=some (.slice (some ⟨sb,0,none⟩) (m+1) cap))(o:w.cell? ⟨sb,m,none⟩=some (P0 fb))(i:m<=1000): Calls prog 164 #[P0 tb] w λe w'=>e=.returned (P0 fb)/\w.grownBy w' none:=by
 go_in;go_wp2_with fail
 go_quiet (fail)
 go_wp2_with fail
 go_ret;exact⟨rfl,db (ax _ _) _⟩
theorem JE(g c m o:Nat)(xs:List Value)(w:World)(i:w.ownsRow o 184 1 (.slice (some ⟨g,0,none⟩) (m+1) c) (m+1) xs)(a4:m<=1000): Calls prog 165 #[.slice (some ⟨g,0,none⟩) (m+1) c,.int .i64 (m:Int),.int .i64 ((m:Int)+1)] w λe w'=>e=.returned (.slice (some ⟨g,0,none⟩) m c)/\w'.ownsRow o 184 1 (.slice (some ⟨g,0,none⟩) m c) m xs.dropLast/\w.grownBy w' (some g):=by
 obtain⟨hb,hc,J,hl,y,u⟩:=iG i;clear i;obtain⟨i0,hi,W,a2,a5⟩:=info_parts Tryz.E8
 have cl:∀(ty:TypeId) (G:Nat),(Builtin.clear_ #[156] ty #[.slice (some ⟨g,m,none⟩) 1 G]).run prog w.drew=.ok (.tuple #[]) (w.drew.setCell ⟨g,m,none⟩ (.pointer none)):=by
  intro ty G;refine Go.Lib.run_clear_slice (P:=prog) w.drew 156 184 ty (.pointer none) underlying156 (by intro w;simp[zeroValue,typeInfo,hi,W]) rfl rfl g m 1 G (by omega) ?_ ?_
  .intro j Z;obtain⟨⟨v,h⟩,_⟩:=y.cell (m+j) (by omega);have h':w.drew.cell? ⟨g,m+j,none⟩=some v:=h;rw[h'];rfl
  intro j Z;exact(y.cell (m+j) (by omega)).2
 have a6:m<=c:=by omega
 have a1:(0:Int)<=(m:Int)+1:=by omega
 have HB:=az y;have HX:=az u;have Y:=az hl;have HM:=az J;clear y u hl J;go_in;go_wp2_with fail
 go_region_law (refine l9 rfl (.tmp 22) (.tmp 25) 156 rfl 184 i0 underlying156 hi (some ⟨g,0,none⟩) (if c=m+1 then some ⟨g,0,none⟩ else some ⟨g,m+1,none⟩) m c (c-(m+1)) (by first|rfl|simp[Act.eval,Act.put]) (by first|rfl|simp[Act.eval,Act.put]) (by omega) ?_)
 all_goals
  go_wp2_with fail
  all_goals
   go_ret;refine⟨rfl,qf hb (by omega) (by have:=HM.out;omega) (by rw[ef,Y.out];omega) (by obtain⟨cu,k1,k2⟩:=HB.out.set g m (.pointer none);exact⟨cu,k1,by omega⟩) (λj x u=>?_),?_⟩
   .have Z:j<m:=by
     have:=(bu.1 u).1;rw[ef,Y.out]at this;omega
    have H:xs[j]? = some x:=by
     rw[List.getElem?_dropLast]at u;split at u
     .exact u
     cases u
    have:=HX.out j x H;have h2:(World.setCell w ⟨g,m,none⟩ (.pointer none)).cell? ⟨g,j,none⟩=some x:=by
     rw[dF _ _ _ _ (by intro e;injection e with _ e;omega)];exact this
    exact h2
   repeat (first|exact ax _ _|refine bq ?_|refine bp ?_ (ag rfl) _)
def LG(w w2:World)(tb kb ck m:Nat)(fs:List Value)(Tk:Nat->Value):Prop:=
 Full w2 tb 160 7 7 (ep Tk 1 (.slice (some ⟨kb,0,none⟩) m ck))/\w2.ownsRow 0 184 1 (.slice (some ⟨kb,0,none⟩) m ck) m fs/\dy (λk=>k=tb\/k=kb) w w2
theorem uD(tb kb ck m fb cb L nx rb nr k:Nat)(v:B.V)(fv:Value)(l:List Value)(hX:(∃xe xt,fv=Fv 120 #[P0 xe,P0 xt]/\k=120/\l=[vA v,P0 xe,P0 xt])\/∃op a b c fc eb:Nat,fv=.func (.func 149) #[dZ op a b c fc tb eb] #[]/\k=149/\l=[dZ op a b c fc tb eb,vA v])(W:List Value)(Tk:Nat->Value)(R:World->Prop)(w:World)(hT:Full w tb 160 7 7 Tk)(a1:Tk 1=.slice (some ⟨kb,0,none⟩) (m+1) ck)(hm:m<=1000)(hK:w.ownsRow 0 184 1 (.slice (some ⟨kb,0,none⟩) (m+1) ck) (m+1) (W++[P0 fb]))(hF:w.heap[fb]? = some (ij cb L nx rb nr fv))(H:∀w2,LG w w2 tb kb ck m W Tk->Calls prog k l.toArray w2 λe w'=>e=.returned (.tuple #[])/\R w'): Calls prog 107 #[P0 tb,vA v] w λe w'=>e=.returned (.tuple #[])/\R w':=by
 rcases hX with⟨xe,xt,rfl,rfl,rfl⟩|⟨op,a,b,c,fc,eb,rfl,rfl,rfl⟩
 all_goals
  have c1:=hT.cell 1 (by omega);rw[a1]at c1;have lt:=hT.lt;have aK:W.length=m:=by
   have:=(iG hK).2.2.2.1;simp at this;omega
  have k0:=(iG hK).2.2.2.2.2 m (P0 fb) (by rw[dX (by omega),aK];simp);have kt:=eL hK hT (by decide) kb rfl;have lk:=(dA hK kb rfl).2.1;have HT:=az hT;have HK:=az hK;have HF:=az hF;have HH:=az H;clear hT hK hF H
  obtain⟨v1,v2⟩:=v;go_in;go_wp2_with fail
  refine(IQ tb kb ck m fb _ (by simp[go_sem,lt,c1]) (by simp[go_sem,lk,k0]) hm).mono ?_;rintro e w1 ⟨rfl,a0⟩;have aI:=a0.size;simp at aI;have b0:=cm a0 (show(w.alloc (.cells #[.int .i64 (v1:Int),.int .i64 v2] 149)).heap[w.heap.size]? = _ from bf w _) (by intro e;cases e);have KG:=az (an (ah _ _ _) a0);have Y:=λk hk=>KG.out.block k hk (by intro e;cases e);have Z:=az (HT.out.block (Y tb lt));have a4:=az (dD HK.out (λk h=>Y k (dA HK.out k h).2.1));have a6:=az ((Y fb (bz HF.out)).trans HF.out)
  have a8:=Z.out.cell 1 (by omega);rw[a1]at a8
  have aO:tb<w1.heap.size:=by omega
  have aP:IntKind.i64.wrap (m:Int)=(m:Int):=nS _ ⟨by omega,by omega⟩;clear a0 Y c1 k0 lk;go_wp2_with fail
  go_cut [] from 7 to 25 (λwx=>∃w2:World,wx=w2.setCell ⟨tb,1,none⟩ (.slice (some ⟨kb,0,none⟩) m ck)/\Hid (w1.grownBy w2 (some kb))/\Hid (w2.ownsRow 0 184 1 (.slice (some ⟨kb,0,none⟩) m ck) m W))
  case first=>
   go_region_with (go_at_call 165;refine(JE kb ck m 0 (W++[P0 fb]) w1.drew (dD a4.out (λ_ _=>rfl)) hm).mono ?_;rintro e w2 ⟨rfl,a3,u⟩;have i:Hid (w1.grownBy w2 (some kb)):=⟨u.os,u.tape,u.output,u.size,u.block⟩;have J:=az ((List.dropLast_concat (l₁:=W) (b:=P0 fb))▸a3);have aC:=az (Z.out.kept i.out (λe=>kt e.symm));obtain⟨d1,e1⟩:=aC.out.cells 1 (by omega);have aQ:=aC.out.lt;clear u a3)
   all_goals
    go_wp2_with fail
    go_meet
    case rel=>exact⟨w2,rfl,i,J⟩
  case rest=>
   obtain⟨w2,rfl,i,J⟩:=hcut;have aJ:Hid (dy (λk=>k=tb\/k=kb) w (w2.setCell ⟨tb,1,none⟩ (.slice (some ⟨kb,0,none⟩) m ck))):=
    bm ((dU KG.out).then i.out (ag (ab rfl))) (ag (ag rfl)) _
   generalize y:w2.setCell ⟨tb,1,none⟩ (.slice (some ⟨kb,0,none⟩) m ck)=G at *
   have a7:∀k,k≠tb->k≠kb->k<w1.heap.size->G.heap[k]? = w1.heap[k]?:=by
    intro k h1 h2 h3;rw[<-y,af _ _ _ _ h1];exact i.out.block k h3 (by intro e;injection e with e;exact h2 e)
   have aA:Hid (Full G tb 160 7 7 (ep Tk 1 (.slice (some ⟨kb,0,none⟩) m ck))):=by
    show Full _ _ _ _ _ _;rw[<-y];exact(Z.out.kept i.out (λe=>kt e.symm)).ep 1 _
   have a9:Hid (G.ownsRow 0 184 1 (.slice (some ⟨kb,0,none⟩) m ck) m W):=by
    show World.ownsRow _ _ _ _ _ _ _;rw[<-y];exact dD J.out (λk h=>by
     have:k=kb:=by injection h with h;exact h.symm
     subst this;exact af _ _ _ _ kt)
   have a2:∀{k:Nat} {aB:Array Value} {T:TypeId},w1.heap[k]? = some (.cells aB T (0,0))->T≠184->T≠160->G.heap[k]? = w1.heap[k]?:=by
    intro k aB T hk h1 h2;refine a7 k ?_ ?_ (bz hk)
    .rintro rfl;obtain⟨aD,o,_⟩:=Z.out;rw[hk]at o;injection o with o;injection o with _ o _;exact h2 o
    rintro rfl;obtain⟨_,_,aD,o⟩:=dA a4.out k rfl;rw[hk]at o;injection o with o;injection o with _ o _;exact h1 o
   have f3:=(a2 a6.out (by decide) (by decide)).trans a6.out;obtain⟨_,_,_,aM,_⟩:=ib f3;have b3:=(a2 b0 (by decide) (by decide)).trans b0;have q0:G.cell? ⟨w.heap.size,0,none⟩=some (.int .i64 (v1:Int)):=by simp[World.cell?,b3]
   have q1:G.cell? ⟨w.heap.size,1,none⟩=some (.int .i64 v2):=by simp[World.cell?,b3]
   have HP:Hid (∀w4,G.grownBy w4 none->LG w w4 tb kb ck m W Tk):=λw4 hg=>⟨aA.out.block (hg.block tb aA.out.lt (by intro e;cases e)),dD a9.out (λk h=>hg.block k (dA a9.out k h).2.1 (by intro e;cases e)),aJ.out.gR hg⟩;clear y a7 a2 f3 b3 i J b0 a8;go_wp2_with fail
   go_region_with ((first|go_at_call 120|go_at_call 149);refine(HH.out G.drew (HP.out _ (bq (ax _ _)))).mono ?_;rintro e w4 ⟨rfl,a5⟩;have aF:=az a5;clear a5)
   all_goals
    go_wp2_with fail
    go_end0;exact⟨rfl,aF.out⟩
theorem Lv(eb tb:Nat)(v:B.V)(R:World->Prop)(w:World)(H:∀w1,w.grownBy w1 none->Calls prog 175 #[P0 eb,P0 tb,vA v,.int .i64 2,.int .i64 v.2] w1 λe w'=>e=.returned (.tuple #[])/\R w'): Calls prog 121 #[P0 eb,P0 tb,vA v] w λe w'=>e=.returned (.tuple #[])/\R w':=by
 have J:=az H;obtain⟨y,W⟩:=v;go_in;go_wp2_with fail
 refine(ft (y,W) _).mono ?_;rintro e w1 ⟨rfl,i⟩;obtain⟨k0,_⟩:=bh i (a:=⟨w.heap.size,0,none⟩) (by simp);obtain⟨k1,_⟩:=bh i (a:=⟨w.heap.size,1,none⟩) (by simp);simp[go_sem]at k0 k1;have G:Hid (w.grownBy w1 none):=an (ah _ _ _) i;go_wp2_with fail
 refine(J.out w1 G.out).mono ?_;rintro e w2 ⟨rfl,o⟩;have u:=az o;go_wp2_with fail
 go_end0;exact⟨rfl,u.out⟩
theorem JH(eb tb why:Nat)(hw:why<=8)(R:World->Prop)(w:World)(H:∀w1,w.grownBy w1 none->Calls prog 175 #[P0 eb,P0 tb,vA (0,-(why:Int)),.int .i64 3,.int .i64 (why:Int)] w1 λe w'=>e=.returned (.tuple #[])/\R w'): Calls prog 187 #[P0 eb,P0 tb,.int .i64 why] w λe w'=>e=.returned (.tuple #[])/\R w':=by
 have u:=az H;have G:IntKind.i64.wrap (-(why:Int))=-(why:Int):=by simp[IntKind.wrap,IntKind.bits,IntKind.signed];omega
 go_in;go_wp2_with fail
 refine(fH _ _).mono ?_;rintro e w1 ⟨rfl,rfl⟩;go_wp2_with fail
 refine(u.out _ (ah _ _ _)).mono ?_;rintro e w2 ⟨rfl,i⟩;have o:=az i;go_wp2_with fail
 go_end0;exact⟨rfl,o.out⟩
theorem FH(eb tb xe xt:Nat)(v:B.V)(R:World->Prop)(w:World)(he:w.cell? ⟨xe,0,none⟩=some (P0 eb))(ht:w.cell? ⟨xt,0,none⟩=some (P0 tb))(le:xe<w.heap.size)(lt:xt<w.heap.size)(H:∀w1,w.grownBy w1 none->Calls prog 175 #[P0 eb,P0 tb,vA v,.int .i64 2,.int .i64 v.2] w1 λe w'=>e=.returned (.tuple #[])/\R w'): Calls prog 120 #[vA v,P0 xe,P0 xt] w λe w'=>e=.returned (.tuple #[])/\R w':=by
 have y:=az (Lv eb tb v R);have u:=az H;obtain⟨J,W⟩:=v;go_in;go_wp2_with fail
 refine(y.out _ (λw1 G=>u.out w1 (an (ah _ _ _) G))).mono ?_;rintro e w2 ⟨rfl,i⟩;have o:=az i;go_wp2_with fail
 go_end0;exact⟨rfl,o.out⟩
def oG(s:ByteArray)(p:Nat):Nat->Value:=λj=>.int .u8 (M.bt s (p+j):Int)
def Av(s:ByteArray)(p:Nat)(w w':World)(e:Ending)(ok:Bool):Prop:=∃(x:Int) (ad:Option Addr) (n c:Nat),e=.returned (.tuple #[.agg #[.int .i64 x,.slice ad n c],.bool ok]) /\
 (ok=true->x=(M.bt s p:Int)/\n=M.bt s (p+1)/\c=n/\∃g,w.heap.size<=g/\ad=some ⟨g,0,none⟩/\Full w' g 183 (n*4) (n*4) (oG s (p+2)))
theorem Tryz.E9:(prog.info? 183).map (λi=>(i.zero,i.size,i.bytes))=some (some (.agg #[.int .u8 0,.int .u8 0,.int .u8 0,.int .u8 0]),4,4):=by kernel_rfl
theorem jF{w w1:World}{b k:Nat}{u i:Value}{T:TypeId}(h:w.heap[k]? = some (.cells #[u,i] T (0,0)))(y:w.grownBy w1 (some b))(G:k≠b): k<w1.heap.size/\w1.cell? ⟨k,0,none⟩=some u/\w1.cell? ⟨k,1,none⟩=some i/\w1.frozen? ⟨k,0,none⟩=false/\w1.frozen? ⟨k,1,none⟩=false:=by
 have o:=cm y h (by intro e;injection e;omega);exact⟨bz o,by simp[World.cell?,World.frozen?,o]⟩
theorem vF(b:Nat)(s:ByteArray)(p F:Nat)(f r l:Int)(w:World)(h:w.heap[b]? = some (gC s p f r l))(hs:s.size<=maxLen)(Y:b≠0)(hT:mB w)(hf:Hid (f=F))(h2:1<=F)(h4:F<=8)(aH:M.tk s p 2 8=true)(aB:M.tk s (p+1) 1 200=true): Calls prog 82 #[.pointer (some ⟨b,0,none⟩)] w λe w'=>Av s p w w' e (M.fn s p F).2/\∃r' l',w'.heap[b]? = some (gC s ((M.fn s p F).1:Nat) f r' l')/\w.grownBy w' (some b):=by
 have hb:=bz h;have H:Hid (w.heap[b]? = some (gC s p f r l)):=h;have HS:Hid (s.size<=maxLen):=hs;have aJ:Hid (M.tk s p 2 8=true):=aH;have aG:Hid (M.tk s (p+1) 1 200=true):=aB;obtain⟨_,q1,q2⟩:=M.fK aH;obtain⟨_,q3,q4⟩:=M.fK aB;have Z:Hid (mB w):=hT;clear h hs aH aB hT;go_in;go_wp2_with fail
 refine(jH b s p 2 8 f r l _ _ _ (ky H _) HS rfl rfl aJ).mono ?_;rintro e w1 ⟨rfl,G,hg⟩;have HH:Hid (w1.heap[b]? = some (gC s ((p+1:Nat):Int) f r l)):=G;obtain⟨_,_,_,x3,_⟩:=eR G;obtain⟨_,_,y3,y4⟩:=gU G;clear G;generalize hR:M.bt s p=R at *;have HR:Hid (M.bt s p=R):=hR;clear hR;go_wp2_with fail
 refine(jH b s (p+1) 1 200 f R l _ _ _ (sG HH _) HS rfl rfl aG).mono ?_;rintro e w2 ⟨rfl,G,a8⟩;have aD:Hid (w2.heap[b]? = some (gC s ((p+1+1:Nat):Int) f R l)):=G;obtain⟨_,_,_,z3,z4⟩:=eR G;obtain⟨_,_,_,u4⟩:=gU G;clear G;generalize hL:M.bt s (p+1)=L at *;have HL:Hid (M.bt s (p+1)=L):=hL;clear hL x3 y3 y4;obtain⟨i0,hi,aS,aO,aN⟩:=info_parts Tryz.E9;go_wp2_with (at_make;go_loud (refine wpList_make_full _ rfl _ _ 176 rfl 0 183 i0 _ 4 underlying176 hi aS aO _ _ _ _ L rfl rfl rfl rfl (by rw[aN];omega) (by unfold maxLen;omega) (dc _) ?_))
 intro w3 a9 aA;have u:(w2.setCell ⟨b,4,none⟩ (.int .i64 L)).grownBy w3 (some b):=eD aA;have gA:w.grownBy (w2.setCell ⟨b,4,none⟩ (.int .i64 L)) (some b):=bp (an (bp (an (ah _ _ _) hg) (ag rfl) _) a8) (ag rfl) _;have gB:(w.alloc (.cells #[.int .i64 0,.slice none 0 0] 178)).grownBy w3 (some b):=an (bp (an (bp hg (ag rfl) _) a8) (ag rfl) _) u;have KB:Hid (w3.heap[b]? = some (gC s ((p+2:Nat):Int) f R L)):=by
  show _=_;rw[aA.block b (by have:=bz aD;simpa[World.setCell] using this) (by intro e;cases e)];exact wY aD _
 have KG:Hid (w.grownBy w3 (some b)):=an gA u;have KR:Hid (w3.heap[w.heap.size]? = some (.cells #[.int .i64 0,.slice none 0 0] 178 (0,0))):=cm gB (bf w _) (by intro e;injection e;omega);have KT:Hid (mB w3):=Z.kept KG Y;have KW:Hid (Full w3 w2.heap.size 183 (L*4) (0*4) (oG s (p+2))):=(jB.owned a9).full _;have aY:w.heap.size<w2.heap.size:=by have:=hg.size;have:=a8.size;simp[World.setCell]at *;omega
 have aL:Hid (mB w):=Z.out;clear a9 aA u gA gB HH aD z3 z4 u4 hg a8 Z;generalize w2.heap.size=g at *;have a6:Hid (M.fn s p F=M.code s R F L (p+2) L):=by
  show _=_;unfold M.fn;rw[aj aJ.out,aj aG.out,HR.out,HL.out]
 go_wp2_with fail
 go_loopw [36] (λi wr=>∃k q:Nat,k<=L/\q<=s.size/\i=.int .i64 k/\Hid (wr.heap[b]? = some (gC s q f R L))/\Hid (w.grownBy wr (some b))/\Hid (wr.heap[w.heap.size]? = some (.cells #[.int .i64 0,.slice none 0 0] 178 (0,0)))/\Hid (mB wr)/\Hid (Full wr g 183 (L*4) (k*4) (oG s (p+2)))/\Hid (q=p+2+4*k)/\Hid (M.code s R F L q (L-k)=M.code s R F L (p+2) L)) (λi _=>L-(intOf i).toNat)
 case atStart=>exact⟨0,p+2,by omega,by omega,rfl,KB,KG,KR,KT,KW,rfl,rfl⟩
 case round=>
  obtain⟨k,q,hk,hq,rfl,rB,rG,rR,rT,rW,rQ,rC⟩:=hrel;clear KB KG KR KT KW;by_cases aW:k<L
  .go_wp2_with fail
   refine(qZ b s q R F L f R L _ rB.out HS.out hq Y rT.out rfl hf rfl (by omega) h2 q2 h4).mono ?_;rintro e w4 ⟨⟨a0,a1,a2,a3,rfl,hA⟩,G,u⟩;have HA:Hid ((M.ins s q R F L).2=true->a0=(M.bt s q:Int)/\a1=(M.bt s (q+1):Int)/\a2=(M.bt s (q+2):Int)/\a3=(M.bt s (q+3):Int)):=hA;clear hA;have aQ:g≠b:=by omega
   have aR:w.heap.size≠b:=by omega
   have W:Hid (Full w4 g 183 (L*4) (k*4) (oG s (p+2))):=rW.out.kept u aQ;have a5:Hid (w4.heap[b]? = some (gC s ((M.ins s q R F L).1:Nat) f R L)):=G;have a4:Hid (w.grownBy w4 (some b)):=an rG.out u;have a7:Hid (w4.heap[w.heap.size]? = some (.cells #[.int .i64 0,.slice none 0 0] 178 (0,0))):=cm u rR.out (by intro e;injection e;omega);clear G u rB rG rR rT rW
   cases hok:(M.ins s q R F L).2
   .have HC:Hid (M.code s R F L (p+2) L=((M.ins s q R F L).1,false)):=by
     show _=_;rw[<-rC.out,show L-k=(L-(k+1))+1 by omega];unfold M.code;rw[aa (by rw[hok];simp)]
    clear rC hok;simp only[];iterate 13 (first|go_values|go_skip|go_guarded|go_step|go_upon|go_back)
    refine wpList_store_mid rfl 183 (.tmp 46) (.tmp 44) rfl g (k*4) #[.int .u8 a0,.int .u8 a1,.int .u8 a2,.int .u8 a3] rfl rfl (W.out.xV.there _ _ (by simp;omega)) (by kernel_rfl) (by simp[Value.oneCell']) ?_;have aC:∃y,y=w4.setCells g (k*4) #[Value.int .u8 a0,.int .u8 a1,.int .u8 a2,.int .u8 a3].toList:=⟨_,rfl⟩;obtain⟨y,o⟩:=aC;have aE:Hid (y.heap[b]? = some (gC s ((M.ins s q R F L).1:Nat) f R L)):=by show _=_;rw[o,eU g b (by omega)];exact a5
    have J:Hid (w.grownBy y (some b)):=by show World.grownBy _ _ _;rw[o];exact gM g _ _ _ _ a4 (by omega)
    have aF:Hid (y.heap[w.heap.size]? = some (.cells #[.int .i64 0,.slice none 0 0] 178 (0,0))):=by show _=_;rw[o,eU g _ (by omega)];exact a7
    rw[<-o];clear o a5 a4 a7 W;obtain⟨aP,d0,d1,e0,e1⟩:=jF aF (ax y (some b)) aR;go_wp2_with fail
    refine da (v:=.tuple #[.agg #[.int .i64 0,.slice none 0 0],.bool false]) (by simp[results,results82,go_sem, *]) rfl ⟨?_,R,L,?_,?_⟩
    .rw[a6.out,HC.out];exact⟨_,_,_,_,rfl,λh=>by cases h⟩
    .rw[a6.out,HC.out];repeat (rw[af _ _ _ _ (by simp;omega)])
     exact aE
    repeat (refine bp ?_ (ab (by simp)) _)
    exact J
   have HC:Hid (M.code s R F L (M.ins s q R F L).1 (L-(k+1))=M.code s R F L (p+2) L):=by
    show _=_;rw[<-rC.out,show L-k=(L-(k+1))+1 by omega];conv=>rhs;unfold M.code
    rw[aj hok]
   have aT:=(M.yO (s:=s) (p:=q) (r:=R) (f:=F) (l:=L) hq).2;have aM:Hid ((M.ins s q R F L).2=true):=hok;have KQ:Hid ((M.ins s q R F L).1=p+2+4*(k+1)):=by
    show _=_;have:=M.vz hok;have:=rQ.out;omega
   clear rC hok;simp only[];iterate 13 (first|go_values|go_skip|go_guarded|go_step|go_upon|go_back)
   refine wpList_store_mid rfl 183 (.tmp 46) (.tmp 44) rfl g (k*4) #[.int .u8 a0,.int .u8 a1,.int .u8 a2,.int .u8 a3] rfl rfl (W.xV.there _ _ (by simp;omega)) (by kernel_rfl) (by simp[Value.oneCell']) ?_;have aC:∃y,y=w4.setCells g (k*4) #[Value.int .u8 a0,.int .u8 a1,.int .u8 a2,.int .u8 a3].toList:=⟨_,rfl⟩;obtain⟨y,o⟩:=aC;have aE:Hid (y.heap[b]? = some (gC s ((M.ins s q R F L).1:Nat) f R L)):=by show _=_;rw[o,eU g b (by omega)];exact a5
   have J:Hid (w.grownBy y (some b)):=by show World.grownBy _ _ _;rw[o];exact gM g _ _ _ _ a4 (by omega)
   have aF:Hid (y.heap[w.heap.size]? = some (.cells #[.int .i64 0,.slice none 0 0] 178 (0,0))):=by show _=_;rw[o,eU g _ (by omega)];exact a7
   have aK:Hid (mB y):=aL.kept J Y;have aV:Hid (Full y g 183 (L*4) ((k+1)*4) (oG s (p+2))):=by
    show Full _ _ _ _ _ _;rw[o,show(k+1)*4=k*4+4 by omega];obtain⟨rfl,rfl,rfl,rfl⟩:=HA aM;have aU:=rQ.out;refine W.I4 (by omega) _ _ _ _ ?_ ?_ ?_ ?_<;>(unfold oG;rw[aU];congr 3;omega)
   rw[<-o];clear o a5 a4 a7 W HA aM rQ;generalize (M.ins s q R F L).1=q' at *;go_wp2_with fail
   go_roundw
   case rel=>exact⟨k+1,q',by omega,aT,by go_num,aE,J,aF,aK,aV,KQ,HC⟩
   case measure=>simp[intOf];omega
  obtain rfl:k=L:=by omega
  have HC:Hid (M.code s R F k (p+2) k=(q,true)):=by
   show _=_;rw[<-rC.out,Nat.sub_self];rfl
  clear rC;obtain⟨aP,d0,d1,e0,e1⟩:=jF rR (ax wr (some b)) (by omega);obtain⟨_,_,_,x3,_⟩:=eR rB;go_wp2_with fail
  refine da (v:=.tuple #[.agg #[.int .i64 R,.slice (some ⟨g,0,none⟩) k k],.bool true]) (by simp[results,results82,go_sem, *]) rfl ⟨?_,R,k,?_,?_⟩
  .rw[a6.out,HC.out];refine⟨_,_,_,_,rfl,λ_=>⟨by rw[HR.out],by rw[HL.out],rfl,g,by omega,rfl,rW.block ?_⟩⟩;repeat (rw[af _ _ _ _ (by simp;omega)])
  .rw[a6.out,HC.out];repeat (rw[af _ _ _ _ (by simp;omega)])
   exact rB
  repeat (refine bp ?_ (ab (by simp)) _)
  exact rG
theorem vH(b:Nat)(s:ByteArray)(p:Nat)(f r l:Int)(w:World)(h:w.heap[b]? = some (gC s p f r l))(Y:p<=s.size)(o:M.tk s p 2 8=false): Calls prog 82 #[.pointer (some ⟨b,0,none⟩)] w λe w'=>Av s p w w' e false/\∃J G,w'.heap[b]? = some (gC s p f J G)/\w.grownBy w' (some b):=by
 have hb:=bz h;have H:Hid (w.heap[b]? = some (gC s p f r l)):=h;go_in;go_wp2_with fail
 refine(nz b s p 2 8 f r l _ _ _ (ky H _) Y rfl rfl o).mono ?_;rintro e w1 ⟨rfl,i,u⟩;have W:Hid (w1.heap[b]? = some (gC s p f r l)):=i;obtain⟨_,_,_,Z,_⟩:=eR i;obtain⟨_,_,y3,y4⟩:=gU i;obtain⟨y,d0,d1,e0,e1⟩:=jF (bf w (.cells #[.int .i64 0,.slice none 0 0] 178)) u (by omega);go_wp2_with fail
 refine da (v:=.tuple #[.agg #[.int .i64 0,.slice none 0 0],.bool false]) (by simp[results,results82,go_sem, *]) rfl ⟨⟨_,_,_,_,rfl,λh=>by cases h⟩,0,l,?_,?_⟩
 .repeat (rw[af _ _ _ _ (by simp;omega)])
  exact sG W _
 repeat (refine bp ?_ (by first|exact ag rfl|exact ab (by simp)) _)
 exact an (ah _ _ _) u
theorem vG(b:Nat)(s:ByteArray)(p:Nat)(f r l:Int)(w:World)(h:w.heap[b]? = some (gC s p f r l))(Y:s.size<=maxLen)(o:M.tk s p 2 8=true)(u:M.tk s (p+1) 1 200=false): Calls prog 82 #[.pointer (some ⟨b,0,none⟩)] w λe w'=>Av s p w w' e false/\∃r' l',w'.heap[b]? = some (gC s ((p+1:Nat):Int) f r' l')/\w.grownBy w' (some b):=by
 have hb:=bz h;have H:Hid (w.heap[b]? = some (gC s p f r l)):=h;have HS:Hid (s.size<=maxLen):=Y;have W:Hid (M.tk s p 2 8=true):=o;have J:Hid (M.tk s (p+1) 1 200=false):=u;obtain⟨hp,q1,q2⟩:=M.fK o;go_in;go_wp2_with fail
 refine(jH b s p 2 8 f r l _ _ _ (ky H _) HS rfl rfl W).mono ?_;rintro e w1 ⟨rfl,i,hg⟩;have HH:Hid (w1.heap[b]? = some (gC s ((p+1:Nat):Int) f r l)):=i;obtain⟨_,_,_,x3,_⟩:=eR i;obtain⟨_,_,y3,y4⟩:=gU i;generalize hR:M.bt s p=R at *;go_wp2_with fail
 refine(nz b s (p+1) 1 200 f R l _ _ _ (sG HH _) (by omega) rfl rfl J).mono ?_;rintro e w2 ⟨rfl,i,G⟩;have y:Hid (w2.heap[b]? = some (gC s ((p+1:Nat):Int) f R l)):=i;obtain⟨_,_,_,_,z4⟩:=eR i;obtain⟨_,_,_,u4⟩:=gU i;have Z:(w.alloc (.cells #[.int .i64 0,.slice none 0 0] 178)).grownBy w2 (some b):=an (bp hg (ag rfl) _) G;obtain⟨a0,d0,d1,e0,e1⟩:=jF (bf w (.cells #[.int .i64 0,.slice none 0 0] 178)) Z (by omega);go_wp2_with fail
 refine da (v:=.tuple #[.agg #[.int .i64 0,.slice none 0 0],.bool false]) (by simp[results,results82,go_sem, *]) rfl ⟨⟨_,_,_,_,rfl,λh=>by cases h⟩,R,0,?_,?_⟩
 .repeat (rw[af _ _ _ _ (by simp;omega)])
  exact wY y _
 repeat (refine bp ?_ (by first|exact ag rfl|exact ab (by simp)) _)
 exact an (ah _ _ _) Z
theorem tX(b:Nat)(s:ByteArray)(p F:Nat)(f r l:Int)(w:World)(h:w.heap[b]? = some (gC s p f r l))(y:s.size<=maxLen)(hp:p<=s.size)(u:b≠0)(G:mB w)(J:Hid (f=F))(Z:1<=F)(Y:F<=8): Calls prog 82 #[.pointer (some ⟨b,0,none⟩)] w λe w'=>Av s p w w' e (M.fn s p F).2/\∃W H,w'.heap[b]? = some (gC s ((M.fn s p F).1:Nat) f W H)/\w.grownBy w' (some b):=by
 by_cases i:M.tk s p 2 8=true
 .by_cases o:M.tk s (p+1) 1 200=true
  .exact vF b s p F f r l w h y u G J Z Y i o
  have e:M.fn s p F=(p+1,false):=by unfold M.fn;rw[aj i,aa o]
  rw[e];exact vG b s p f r l w h y i (by simpa using o)
 have e:M.fn s p F=(p,false):=by unfold M.fn;rw[aa i]
 rw[e];exact vH b s p f r l w h hp (by simpa using i)
def xO(s:ByteArray)(gs:Nat->Nat):Nat->Value:=λj=>
 if j % 2=0 then .int .i64 (M.bt s (M.pos s (j / 2)):Int) else .slice (some ⟨gs (j / 2),0,none⟩) (M.bt s (M.pos s (j / 2)+1)) (M.bt s (M.pos s (j / 2)+1))
def rZ(w:World)(s:ByteArray)(z g n m:Nat):Prop:=z<=g/\∃gs:Nat->Nat,Full w g 178 (n*2) (m*2) (xO s gs) /\
 ∀k,k<m->g<gs k/\2<=M.bt s (M.pos s k)/\M.bt s (M.pos s k)<=8/\1<=M.bt s (M.pos s k+1)/\M.bt s (M.pos s k+1)<=200/\Full w (gs k) 183 (M.bt s (M.pos s k+1)*4) (M.bt s (M.pos s k+1)*4) (oG s (M.pos s k+2))
theorem rZ.below{w w':World}{s:ByteArray}{z g n m:Nat}(h:rZ w s z g n m)(o:∀k,z<=k->k<w.heap.size->w'.heap[k]? = w.heap[k]?):rZ w' s z g n m:=by
 obtain⟨i,gs,u,G⟩:=h;refine⟨i,gs,u.block (o g i u.lt),λk y=>?_⟩;obtain⟨a,b,c,d,e,f⟩:=G k y;exact⟨a,b,c,d,e,f.block (o _ (by omega) f.lt)⟩
theorem rZ.kept{w w':World}{s:ByteArray}{z g n m b:Nat}(h:rZ w s z g n m)(o:w.grownBy w' (some b))(y:b<z):rZ w' s z g n m:=
 h.below (λk u i=>o.block k i (by intro e;injection e;omega))
theorem rZ.start{w:World}{s:ByteArray}{z g n:Nat}(hz:z<=g)(h:jB w g 178 (n*2)):rZ w s z g n 0:=
 ⟨hz,λ_=>0,h.full _,λk e=>ch e (Nat.not_lt_zero k)⟩
theorem rZ.xV{w:World}{s:ByteArray}{z g n m:Nat}(h:rZ w s z g n m):jB w g 178 (n*2):=by obtain⟨_,_,h,_⟩:=h;exact h.xV
theorem rZ.more{w:World}{s:ByteArray}{z g n m g':Nat}(h:rZ w s z g n m)(hm:m<n)(Z:g<g')(o:2<=M.bt s (M.pos s m)/\M.bt s (M.pos s m)<=8/\1<=M.bt s (M.pos s m+1)/\M.bt s (M.pos s m+1)<=200)(H:Full w g' 183 (M.bt s (M.pos s m+1)*4) (M.bt s (M.pos s m+1)*4) (oG s (M.pos s m+2))): rZ (w.setCells g (m*2) [.int .i64 (M.bt s (M.pos s m):Int),.slice (some ⟨g',0,none⟩) (M.bt s (M.pos s m+1)) (M.bt s (M.pos s m+1))]) s z g n (m+1):=by
 obtain⟨h0,gs,W,J⟩:=h;have i:Full w g 178 (n*2) (m*2) (xO s (λj=>if j=m then g' else gs j)):=by
  obtain⟨u,c1,Y,G⟩:=W;refine⟨u,c1,Y,λj y=>?_⟩;rw[G j y];unfold xO;have:j / 2≠m:=by omega
  simp only[aa this]
 refine⟨h0,λj=>if j=m then g' else gs j,?_,λk hk=>?_⟩
 .rw[show(m+1)*2=m*2+2 by omega];refine i.I5 (by omega) _ _ ?_ ?_
  .unfold xO;rw[aj (by omega),show m*2 / 2=m by omega]
  unfold xO;rw[aa (by omega),show(m*2+1) / 2=m by omega];simp
 by_cases e:k=m
 .subst e;simp only[aj];refine⟨Z,o.1,o.2.1,o.2.2.1,o.2.2.2,H.block (eU g g' (by omega) _ _ _)⟩
 simp only[aa e];obtain⟨a,b,c,d,e',f⟩:=J k (by omega);exact⟨a,b,c,d,e',f.block (eU g _ (by omega) _ _ _)⟩
def D6(s:ByteArray)(w w':World)(e:Ending)(ok:Bool):Prop:=∃(ad:Option Addr) (n c:Nat),e=.returned (.tuple #[.slice ad n c,.bool ok]) /\
 (ok=true->n=M.bt s 0/\c=n/\1<=n/\n<=8/\∃g,ad=some ⟨g,0,none⟩/\rZ w' s w.heap.size g n n)
theorem Tryz.Fa:(prog.info? 178).map (λi=>(i.zero,i.size,i.bytes))=some (some (.agg #[.int .i64 0,.slice none 0 0]),2,32):=by kernel_rfl
theorem yE(b:Nat)(s:ByteArray)(f r l:Int)(w:World)(h:w.heap[b]? = some (gC s (0:Nat) f r l))(ht:M.tk s 0 1 8=false): Calls prog 56 #[.pointer (some ⟨b,0,none⟩)] w λe w'=>D6 s w w' e false/\∃y u o,w'.heap[b]? = some (gC s (0:Nat) y u o)/\w.grownBy w' (some b):=by
 go_in;have H:Hid (w.heap[b]? = some (gC s (0:Nat) f r l)):=h;go_wp2_with fail
 refine(nz b s 0 1 8 f r l _ _ _ H (by omega) rfl rfl ht).mono ?_;rintro e w1 ⟨rfl,i,J⟩;have G:Hid (w1.heap[b]? = some (gC s (0:Nat) f r l)):=i;go_wp2_with fail
 go_ret2
 exact⟨⟨_,_,_,rfl,λh=>by cases h⟩,f,r,l,G,J⟩
theorem wZ(b:Nat)(s:ByteArray)(f r l:Int)(w:World)(h:w.heap[b]? = some (gC s (0:Nat) f r l))(hs:s.size<=maxLen)(aC:b≠0)(hT:mB w)(ht:M.tk s 0 1 8=true): Calls prog 56 #[.pointer (some ⟨b,0,none⟩)] w λe w'=>D6 s w w' e (M.jO s).2/\∃f' r' l',w'.heap[b]? = some (gC s ((M.jO s).1:Nat) f' r' l')/\w.grownBy w' (some b):=by
 have hb:=bz h;have aO:s.size<=9223372036854775807:=by unfold maxLen at hs;omega
 have H:Hid (w.heap[b]? = some (gC s (0:Nat) f r l)):=h;have HS:Hid (s.size<=maxLen):=hs;have HT:Hid (M.tk s 0 1 8=true):=ht;have aL:Hid (mB w):=hT;obtain⟨hp,q1,q2⟩:=M.fK ht;clear h hs ht hT;go_in;go_wp2_with fail
 refine(jH b s 0 1 8 f r l _ _ _ H.out HS.out rfl rfl HT.out).mono ?_;rintro e w1 ⟨rfl,hh,hg⟩;have HH:Hid (w1.heap[b]? = some (gC s ((0+1:Nat):Int) f r l)):=hh;obtain⟨_,_,x2,_,_⟩:=eR hh;obtain⟨_,y2,_,_⟩:=gU hh;clear hh;generalize hF:M.bt s 0=F at *;have HF:Hid (M.bt s 0=F):=hF;clear hF;obtain⟨i0,hi,aH,aF,aD⟩:=info_parts Tryz.Fa;go_wp2_with (at_make;refine wpList_make_full _ rfl _ _ 92 rfl 0 178 i0 _ 2 underlying92 hi aH aF _ _ _ _ F rfl rfl rfl rfl (by rw[aD];omega) (by unfold maxLen;omega) (dc _) ?_)
 intro w3 a0 a7;have u:(w1.setCell ⟨b,2,none⟩ (.int .i64 F)).grownBy w3 (some b):=eD a7;have gA:w.grownBy (w1.setCell ⟨b,2,none⟩ (.int .i64 F)) (some b):=bp hg (ag rfl) _;have KB:Hid (w3.heap[b]? = some (gC s ((1:Nat):Int) F r l)):=by
  show _=_;rw[a7.block b (by have:=bz HH.out;simpa[World.setCell] using this) (by intro e;cases e)];exact CD HH.out _
 have KG:Hid (w.grownBy w3 (some b)):=an gA u;have aK:w.heap.size<=w1.heap.size:=hg.size;have KW:Hid (rZ w3 s w.heap.size w1.heap.size F 0):=rZ.start aK (jB.owned a0);clear a0 a7 u gA HH x2 y2 hg;generalize w1.heap.size=g at *;have y:Hid (M.jO s=((M.fns s F 1 F).1,(M.fns s F 1 F).2 && decide ((M.fns s F 1 F).1=s.size))):=by
  show _=_;unfold M.jO;rw[aj HT.out,HF.out]
 go_wp2_with fail
 go_loopw [23] (λi wr=>∃(k q:Nat) (r' l':Int),k<=F/\q<=s.size/\i=.int .i64 k/\Hid (wr.heap[b]? = some (gC s q F r' l'))/\Hid (w.grownBy wr (some b))/\Hid (rZ wr s w.heap.size g F k)/\Hid (q=M.pos s k)/\Hid (M.fns s F q (F-k)=M.fns s F 1 F)) (λi _=>F-(intOf i).toNat)
 case atStart=>exact⟨0,1,r,l,by omega,by omega,rfl,KB,KG,KW,rfl,rfl⟩
 case round=>
  obtain⟨k,q,r',l',hk,hq,rfl,rB,rG,rW,rQ,rC⟩:=hrel;clear KB KG KW;by_cases aG:k<F
  .go_wp2_with fail
   refine(tX b s q F F r' l' _ rB.out HS.out hq aC (aL.out.kept rG.out aC) rfl q1 q2).mono ?_;rintro e w4 ⟨⟨x,ad,n,c,rfl,hA⟩,r4,l4,hh,u⟩;have aE:g<wr.heap.size:=rW.out.xV.lt;have HA:Hid ((M.fn s q F).2=true->x=(M.bt s q:Int)/\n=M.bt s (q+1)/\c=n/\∃g',g<g'/\ad=some ⟨g',0,none⟩/\Full w4 g' 183 (n*4) (n*4) (oG s (q+2))):=λh=>by
    obtain⟨a1,a2,a3,g',a4,a5,a6⟩:=hA h;exact⟨a1,a2,a3,g',by omega,a5,a6⟩
   clear hA aE;have G:Hid (rZ w4 s w.heap.size g F k):=rW.out.kept u hb;have Z:Hid (w4.heap[b]? = some (gC s ((M.fn s q F).1:Nat) F r4 l4)):=hh;have W:Hid (w.grownBy w4 (some b)):=an rG.out u;clear hh u rB rG rW
   cases hok:(M.fn s q F).2
   .have Y:Hid (M.fns s F 1 F=((M.fn s q F).1,false)):=by
     show _=_;rw[<-rC.out,show F-k=(F-(k+1))+1 by omega];unfold M.fns;rw[aa (by rw[hok];simp)]
    clear rC hok;simp only[];iterate 13 (first|go_values|go_skip|go_guarded|go_step|go_upon|go_back)
    refine wpList_store_mid rfl 178 (.tmp 33) (.tmp 31) rfl g (k*2) #[.int .i64 x,.slice ad n c] rfl rfl (G.out.xV.there _ _ (by simp;omega)) (by kernel_rfl) (by simp[Value.oneCell']) ?_;have a9:∃J,J=w4.setCells g (k*2) #[Value.int .i64 x,.slice ad n c].toList:=⟨_,rfl⟩;obtain⟨J,o⟩:=a9;have aA:Hid (J.heap[b]? = some (gC s ((M.fn s q F).1:Nat) F r4 l4)):=by show _=_;rw[o,eU g b (by omega)];exact Z.out
    have a8:Hid (w.grownBy J (some b)):=by show World.grownBy _ _ _;rw[o];exact gM g _ _ _ _ W (by omega)
    rw[<-o];clear o Z W G;go_wp2_with fail
    go_ret2
    refine⟨?_,F,r4,l4,?_,a8⟩
    .rw[y.out,Y.out];exact⟨_,_,_,rfl,λh=>by cases h⟩
    rw[y.out,Y.out];exact aA
   have Y:Hid (M.fns s F (M.fn s q F).1 (F-(k+1))=M.fns s F 1 F):=by
    show _=_;rw[<-rC.out,show F-k=(F-(k+1))+1 by omega];conv=>rhs;unfold M.fns
    rw[aj hok]
   have aI:=(M.JB (s:=s) (p:=q) (f:=F) hq).2;have aB:Hid ((M.fn s q F).2=true):=hok;have KQ:Hid ((M.fn s q F).1=M.pos s (k+1)):=by
    show _=_;rw[(M.tw hok).1,rQ.out,M.pos]
   clear rC hok;simp only[];iterate 13 (first|go_values|go_skip|go_guarded|go_step|go_upon|go_back)
   refine wpList_store_mid rfl 178 (.tmp 33) (.tmp 31) rfl g (k*2) #[.int .i64 x,.slice ad n c] rfl rfl (G.xV.there _ _ (by simp;omega)) (by kernel_rfl) (by simp[Value.oneCell']) ?_;have a9:∃J,J=w4.setCells g (k*2) #[Value.int .i64 x,.slice ad n c].toList:=⟨_,rfl⟩;obtain⟨J,o⟩:=a9;have aA:Hid (J.heap[b]? = some (gC s ((M.fn s q F).1:Nat) F r4 l4)):=by show _=_;rw[o,eU g b (by omega)];exact Z
   have a8:Hid (w.grownBy J (some b)):=by show World.grownBy _ _ _;rw[o];exact gM g _ _ _ _ W (by omega)
   have aN:Hid (rZ J s w.heap.size g F (k+1)):=by
    show rZ _ _ _ _ _ _;obtain⟨a1,a2,a3,g',a4,a5,a6⟩:=HA aB;have aM:=rQ.out;have hy:=M.tw aB;rw[aM]at a1 a2 a6 hy;subst a1 a3 a5;rw[a2]at a6;rw[o,a2];exact G.more aG a4 hy.2 a6
   rw[<-o];clear o Z W G HA aB rQ;generalize (M.fn s q F).1=q' at *;go_wp2_with fail
   go_roundw
   case rel=>exact⟨k+1,q',r4,l4,by omega,aI,by go_num,aA,a8,aN,KQ,Y⟩
   case measure=>simp[intOf];omega
  obtain rfl:k=F:=by omega
  have Y:Hid (M.fns s k 1 k=(q,true)):=by
   show _=_;rw[<-rC.out,Nat.sub_self];rfl
  clear rC;obtain⟨x0,x1,_,_,_⟩:=eR rB;by_cases he:q=s.size
  .have aJ:((q:Int) == (s.size:Int))=true:=by simp;omega
   have HE:Hid (q=s.size):=he;clear he;go_wp2_with fail
   go_quiet (fail)
   go_wp2_with fail
   go_ret2
   refine⟨?_,k,r',l',?_,db rG _⟩
   .rw[y.out,Y.out,HE.out];simp;exact⟨_,_,_,rfl,λ_=>⟨by rw[HF.out],rfl,q1,q2,g,rfl,rW.below (λ_ _ _=>rfl)⟩⟩
   rw[y.out,Y.out];exact rB
  have aJ:((q:Int) == (s.size:Int))=false:=by simp;omega
  go_wp2_with fail
  go_quiet (fail)
  go_wp2_with fail
  go_ret2
  refine⟨?_,k,r',l',?_,db rG _⟩
  .rw[y.out,Y.out];simp[he];exact⟨_,_,_,rfl,λh=>by cases h⟩
  rw[y.out,Y.out];exact rB
theorem xd(b:Nat)(s:ByteArray)(f r l:Int)(w:World)(h:w.heap[b]? = some (gC s (0:Nat) f r l))(G:s.size<=maxLen)(i:b≠0)(y:mB w): Calls prog 56 #[.pointer (some ⟨b,0,none⟩)] w λe w'=>D6 s w w' e (M.jO s).2/\∃u o H,w'.heap[b]? = some (gC s ((M.jO s).1:Nat) u o H)/\w.grownBy w' (some b):=by
 by_cases ht:M.tk s 0 1 8=true
 .exact wZ b s f r l w h G i y ht
 have e:M.jO s=(0,false):=by unfold M.jO;rw[aa ht]
 rw[e];exact yE b s f r l w h (by simpa using ht)
end
end Go.Proofs.YtnjiinbhbjpfkaaGreatDoor
