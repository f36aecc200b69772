import Derived.Test.YtnjiinbhbjpfkaaGreatDoorKW
import Derived.Test.YtnjiinbhbjpfkaaGreatDoorKQ
import Derived.Test.YtnjiinbhbjpfkaaGreatDoorKT
import Derived.Test.YtnjiinbhbjpfkaaGreatDoorKP
import Derived.Test.YtnjiinbhbjpfkaaGreatDoorKU
import Derived.Test.YtnjiinbhbjpfkaaGreatDoorKO
import Derived.Test.YtnjiinbhbjpfkaaGreatDoorKR
import Derived.Shelf.Spec.SlicesInsertGrow
set_option maxRecDepth 100000
set_option maxHeartbeats 0
set_option linter.all false
namespace Go.Proofs.YtnjiinbhbjpfkaaGreatDoor
open Go.RowKit Go.Proofs.Tryz
namespace F
def Pl.more(s:Pl):Pl:={ s.new with out:=s.out++[(0,0)],lv:=s.lv++[s.nt+1] }
def eE.more(g:eE)(t tb xe xt:Nat)(r7 r6:Option Addr×Nat):eE:=((g.new t tb xe xt).at 7 0 r7).at 6 0 r6
theorem LW.mw{s:Pl}(h:LW s)(e:∀u,u∈s.lv->fe s u):MW s:=⟨λx y o t ht=>(h.b x y o t ht).1,e,λt ht x y i=>(h.a t ht x y i).1⟩
theorem dQ.begin{p:dz}{s:Pl}{g:eE}{w w6:World}{tb xe xt:Nat}{G i:Option Addr}{H J:Nat}(h:dQ p s g w)(hM:MW s)(ho:s.out.length=s.nt)(Y:Ix w w6 p.eb tb xe xt s.out.length s.lv.length (sl s g 7 0) (sl s g 6 0) s.out ((s.lv.map g.tb).map P0) (iJ p s g) G i H J):Tr p s g w s.more (g.more (s.nt+1) tb xe xt (G,H) (i,J)) w6:=by
 have a6:gu s 6 0 0=true:=iq (by omega);have a8:gu s 7 0 0=true:=iq (by omega)
 have aE:∀{t},fe s t->(g.more (s.nt+1) tb xe xt (G,H) (i,J)).tb t=g.tb t:=λh=>(mm (tb:=tb) (xe:=xe) (xt:=xt) g ((λh=>by have:=h.2;omega) h)).1;have a5:(g.more (s.nt+1) tb xe xt (G,H) (i,J)).tb (s.nt+1)=tb:=(jP g (s.nt+1) tb xe xt).1;have a1:(g.more (s.nt+1) tb xe xt (G,H) (i,J)).ro 6 0=(i,J):=qM _ _ _ _;have a0:(g.more (s.nt+1) tb xe xt (G,H) (i,J)).ro 7 0=(G,H):=(kR _ _ (by omega)).trans (qM _ _ _ _);have a9:∀a b,¬(a=6/\b=0)->¬(a=7/\b=0)->(g.more (s.nt+1) tb xe xt (G,H) (i,J)).ro a b=(g.new (s.nt+1) tb xe xt).ro a b:=λa b h6 h7=>(kR _ _ h6).trans (kR _ _ h7);have aD:eH s.more 6 0=s.lv.length+1:=by show(s.lv++[s.nt+1]).length=_;rw[bo];rfl
 have aG:eH s.more 7 0=s.out.length+1:=by show(s.out++[(0,0)]).length=_;rw[bo];rfl
 have aF:∀a b,a≠6->a≠7->eH s.more a b=eH s.new a b:=λa b h6 h7=>by unfold eH;simp only[aa h6,aa h7];rfl
 have a2:∀a b,a≠6->a≠7->sl s.more (g.more (s.nt+1) tb xe xt (G,H) (i,J)) a b=sl s.new (g.new (s.nt+1) tb xe xt) a b:=λa b h6 h7=>by
  unfold sl;rw[a9 a b (λe=>h6 e.1) (λe=>h7 e.1),aF a b h6 h7]
 have aN:∀t,gE p s.more (g.more (s.nt+1) tb xe xt (G,H) (i,J)) t=gE p s.new (g.new (s.nt+1) tb xe xt) t:=λt=>by
  funext j
  unfold gE;rw[a2 12 t (by omega) (by omega),a2 5 t (by omega) (by omega)];rfl
 have aC:∀{x:Nat} {v':Value} {k:Nat},jE w.heap.size (sl s g x 0) v'->v'.ownBlock=some k->eO (g.ro x 0).1=some k\/w.heap.size<=k:=λhm W=>by
  rcases hm with e|⟨g',e,aO⟩
  .rw[W]at e;unfold sl at e;rw[dr]at e;exact ag e.symm
  rw[W]at e;injection e with e;exact ab (by omega)
 have d6:∀k,eO i=some k->k≠tb/\k≠xe/\k≠xt:=λk W=>by
  obtain⟨_,_,cu,h1⟩:=dA Y.l k (by rw[dr];exact W);exact⟨dW h1 Y.t (by decide),dW h1 Y.y (by decide),Y.l3 k (by rw[dr];exact W)⟩
 have d7:∀k,eO G=some k->k≠tb/\k≠xe/\k≠xt/\eO i≠some k:=λk W=>by
  obtain⟨_,_,cu,h1⟩:=dA Y.o k (by rw[dr];exact W);refine⟨dW h1 Y.t (by decide),dW h1 Y.y (by decide),dW h1 Y.x (by decide),λe=>?_⟩;obtain⟨_,_,aP,h2⟩:=dA Y.l k (by rw[dr];exact e);exact dW h1 h2 (by decide) rfl
 have aB:∀a,a=5\/a=11\/a=12\/a=15\/a=16->gu s.more a (s.nt+1) 0=true:=λa ha=>gG ha ⟨by omega,bj _⟩;have a3:∀a,a=5\/a=12->sl s.more (g.more (s.nt+1) tb xe xt (G,H) (i,J)) a (s.nt+1)=.slice none 0 0/\eH s.more a (s.nt+1)=0/\fU s.more (g.more (s.nt+1) tb xe xt (G,H) (i,J)) a (s.nt+1)=[]/\(g.more (s.nt+1) tb xe xt (G,H) (i,J)).ro a (s.nt+1)=(none,0):=λa ha=>by
  have a4:=(a9 a _ (by omega) (by omega)).trans (Dx g ha);have e1:eH s.more a (s.nt+1)=0:=by
   rcases ha with rfl|rfl
   .show(s.new.q 5 (s.nt+1)).length=0;rw[s9];rfl
   show(s.new.T (s.nt+1)).fr.length=0;rw[lM];rfl
  refine⟨?_,e1,?_,a4⟩
  .unfold sl;rw[a4,e1]
  rcases ha with rfl|rfl
  .show((s.new.q 5 (s.nt+1)).map _).map P0=[];rw[s9];rfl
  rw[kr];show((List.range (s.new.T (s.nt+1)).fr.length).map _).map P0=[];rw[lM];rfl
 refine h.to (λa b c=>((a=0\/a=6\/a=7)/\b=0/\c=0)\/((a=5\/a=11\/a=12\/a=15\/a=16)/\b=s.nt+1/\c=0)) (λk=>if k=tb then(11,s.nt+1,0) else if k=xe then(15,s.nt+1,0) else if k=xt then(16,s.nt+1,0) else if eO i=some k then(6,0,0) else(7,0,0)) (Y.s.mono (λk W _=>?_)) (λa b c hC=>?_) (λa b c hC=>?_) (λa b c k hC W=>?_) (Nat.le_succ _) (λu hu=>aE hu)
 .rcases W with W|W|W
  .exact⟨0,0,0,ag ⟨ag rfl,rfl,rfl⟩,W⟩
  .refine⟨7,0,0,ag ⟨ab (ab rfl),rfl,rfl⟩,?_⟩;rw[fR p g (by unfold eQ;omega) a8];unfold sl at W;rw[dr]at W;exact W
  refine⟨6,0,0,ag ⟨ab (ag rfl),rfl,rfl⟩,?_⟩;rw[fR p g (by unfold eQ;omega) a6];unfold sl at W;rw[dr]at W;exact W
 .rw[<-G4 (p:=p) (g:=g) (tb:=tb) (xe:=xe) (xt:=xt) hM (λe=>hC (ab e))];refine jT ((λa b c=>rfl) a b c) (λhV=>lL hV ?_ (λ_=>⟨rfl,rfl,rfl⟩) (λ_=>⟨rfl,aN b⟩) (λ_=>⟨rfl,rfl⟩) (λ_=>⟨rfl,rfl⟩) (λ_=>rfl) (λ_=>⟨rfl,rfl⟩) (λ_=>⟨rfl,rfl⟩) ?_)
  .intro ea;exact ch (ag ⟨ag ea,jZ hV (by omega)⟩) hC
  intro ha;have ec:=pW hV ha;have h6:a≠6:=λe=>hC (ag ⟨ab (ag e),(jZ hV (by omega)).1,ec⟩);have h7:a≠7:=λe=>hC (ag ⟨ab (ab e),(jZ hV (by omega)).1,ec⟩);exact⟨a9 a b (λe=>h6 e.1) (λe=>h7 e.1),aF a b h6 h7,(λa b h6 h7=>by unfold fU;simp only[aa h6,aa h7];rfl) a b h6 h7⟩
 .rcases hC with⟨ha,rfl,rfl⟩|⟨ha,rfl,rfl⟩
  .rcases ha with rfl|rfl|rfl
   .refine Full.congr Y.e (λj hj=>?_);have e6:Value.slice i (s.lv.length+1) J=sl s.more (g.more (s.nt+1) tb xe xt (G,H) (i,J)) 6 0:=by unfold sl;rw[a1,aD]
    have e7:Value.slice G (s.out.length+1) H=sl s.more (g.more (s.nt+1) tb xe xt (G,H) (i,J)) 7 0:=by unfold sl;rw[a0,aG]
    by_cases aA:j=29
    .subst aA;rw[gf,e6];rfl
    rw[eG _ _ _ _ aA];by_cases a7:j=30
    .subst a7;rw[gf,e7];rfl
    rw[eG _ _ _ _ a7];unfold iJ;by_cases q1:j<28
    .rw[aj q1,aj q1]
    rw[aa q1,aa q1];by_cases q2:j=28
    .rw[aj q2,aj q2];rfl
    rw[aa q2,aa q2];by_cases q3:j=42
    .rw[aj q3,aj q3];rfl
    rw[aa q3,aa q3];have hI:=tB j;have k6:(kN j).1≠6:=λe=>aA (tD j hj 29 (by omega) (by omega) q3 (by omega) (by omega) (fV e (by
     rcases hI.2.2.2 with e1|e1|e1
     .omega
     .omega
     exact e1)))
    have k7:(kN j).1≠7:=λe=>a7 (tD j hj 30 (by omega) (by omega) q3 (by omega) (by omega) (fV e (by
     rcases hI.2.2.2 with e1|e1|e1
     .omega
     .omega
     exact e1)))
    rw[a2 _ _ k6 k7];unfold sl;rw[vD g (λe=>by have:=hI.2.1;have:=hI.2.2.1;omega)];have:eH s.new (kN j).1 (kN j).2=eH s (kN j).1 (kN j).2:=by
     unfold eH;rw[qA s (λe=>by have:=hI.2.1;omega)];simp only[aa hI.2.2.1];rfl
    rw[this]
   .rw[gH (show gu s.more 6 0 0=true from iq (by omega)),gk (by unfold eQ;omega)];show w6.ownsRow 0 155 1 (.slice ((g.more (s.nt+1) tb xe xt (G,H) (i,J)).ro 6 0).1 (eH s.more 6 0) ((g.more (s.nt+1) tb xe xt (G,H) (i,J)).ro 6 0).2) (eH s.more 6 0) (((s.lv++[s.nt+1]).map (g.more (s.nt+1) tb xe xt (G,H) (i,J)).tb).map P0);rw[a1,aD,eP,eP];have e1:s.lv.map (g.more (s.nt+1) tb xe xt (G,H) (i,J)).tb=s.lv.map g.tb:=List.map_congr_left (λt ht=>aE (hM.b t ht));have e2:([s.nt+1].map (g.more (s.nt+1) tb xe xt (G,H) (i,J)).tb).map P0=[P0 tb]:=by show[P0 _]=_;rw[a5]
    rw[e1,e2];exact Y.l
   rw[gH (show gu s.more 7 0 0=true from iq (by omega)),gk (by unfold eQ;omega)];show w6.ownsRow 0 149 2 (.slice ((g.more (s.nt+1) tb xe xt (G,H) (i,J)).ro 7 0).1 (eH s.more 7 0) ((g.more (s.nt+1) tb xe xt (G,H) (i,J)).ro 7 0).2) (eH s.more 7 0) (fT (s.out++[(0,0)]));rw[a0,aG,oY];exact Y.o
  rw[gH (aB a ha)];by_cases h5:a=5\/a=12
  .rw[gk (by unfold eQ;omega)];show w6.ownsRow 0 (zA a) (zB a) (sl s.more (g.more (s.nt+1) tb xe xt (G,H) (i,J)) a (s.nt+1)) (eH s.more a (s.nt+1)) (fU s.more (g.more (s.nt+1) tb xe xt (G,H) (i,J)) a (s.nt+1));obtain⟨e1,e2,e3,_⟩:=a3 a h5;rw[e1,e2,e3];exact dJ w6 _ _ _
  have:a=11\/a=15\/a=16:=by omega
  rcases this with rfl|rfl|rfl
  .show Full w6 ((g.more (s.nt+1) tb xe xt (G,H) (i,J)).tb (s.nt+1)) 160 7 7 (gE p s.more (g.more (s.nt+1) tb xe xt (G,H) (i,J)) (s.nt+1));rw[a5];refine⟨_,Y.t,rfl,λj hj=>?_⟩;have hc:j=0\/j=1\/j=2\/j=3\/j=4\/j=5\/j=6:=by omega
   have hT:s.more.T (s.nt+1)=qR:=lM s;rcases hc with rfl|rfl|rfl|rfl|rfl|rfl|rfl
   .show some (Value.int .i64 ((s.out.length:Int)+1))=some (Value.int .i64 ((s.nt+1:Nat):Int));rw[ho];rfl
   .show some (Value.slice none 0 0)=some (sl s.more (g.more (s.nt+1) tb xe xt (G,H) (i,J)) 12 (s.nt+1));rw[(a3 12 (ab rfl)).1]
   .show some (Value.bool false)=some (Value.bool (s.more.T (s.nt+1)).run);rw[hT];rfl
   .show some (Value.pointer none)=some (x8 p _ (s.more.T (s.nt+1)).wh);rw[hT];rfl
   .show some Value.nilFunc=some (Ba _ (s.nt+1) (s.more.T (s.nt+1)).lf);rw[hT];rfl
   .show some (Value.int .i64 0)=some (Value.int .i64 (s.more.T (s.nt+1)).iL);rw[hT];rfl
   show some (Value.slice none 0 0)=some (sl s.more (g.more (s.nt+1) tb xe xt (G,H) (i,J)) 5 (s.nt+1));rw[(a3 5 (ag rfl)).1]
  .show w6.heap[(g.new (s.nt+1) tb xe xt).xe (s.nt+1)]? = _;rw[(jP g (s.nt+1) tb xe xt).2.1];exact Y.y
  show w6.heap[(g.new (s.nt+1) tb xe xt).xt (s.nt+1)]? = some (.cells #[P0 ((g.new (s.nt+1) tb xe xt).tb (s.nt+1))] 155 (0,0));rw[(jP g (s.nt+1) tb xe xt).2.2,(jP g (s.nt+1) tb xe xt).1];exact Y.x
 rcases hC with⟨ha,rfl,rfl⟩|⟨ha,rfl,rfl⟩
 .rcases ha with rfl|rfl|rfl
  .exact ag W
  .rw[fR p _ (by unfold eQ;omega) (show gu s.more 6 0 0=true from iq (by omega)),a1]at W;rw[fR p g (by unfold eQ;omega) a6];refine(aC Y.l2 (by rw[dr];exact W)).imp id (λhl=>⟨hl,?_⟩);obtain⟨q1,q2,q3⟩:=d6 k W;rw[aa q1,aa q2,aa q3,aj W]
  rw[fR p _ (by unfold eQ;omega) (show gu s.more 7 0 0=true from iq (by omega)),a0]at W;rw[fR p g (by unfold eQ;omega) a8];refine(aC Y.o2 (by rw[dr];exact W)).imp id (λhl=>⟨hl,?_⟩);obtain⟨q1,q2,q3,q4⟩:=d7 k W;rw[aa q1,aa q2,aa q3,aa q4]
 rw[gH (aB a ha)]at W;by_cases h5:a=5\/a=12
 .rw[gk (by unfold eQ;omega)]at W;have Z:eO ((g.more (s.nt+1) tb xe xt (G,H) (i,J)).ro a (s.nt+1)).1=some k:=W;rw[(a3 a h5).2.2.2]at Z
  cases Z
 have:a=11\/a=15\/a=16:=by omega
 rcases this with rfl|rfl|rfl
 .have Z:k=(g.new (s.nt+1) tb xe xt).tb (s.nt+1):=W;rw[(jP g (s.nt+1) tb xe xt).1]at Z;subst Z;exact ab ⟨Y.n.1,aj rfl⟩
 .have Z:k=(g.new (s.nt+1) tb xe xt).xe (s.nt+1):=W;rw[(jP g (s.nt+1) tb xe xt).2.1]at Z;subst Z;exact ab ⟨Y.n.2.1,by rw[aa (dW Y.y Y.t (by decide)),aj rfl]⟩
 have Z:k=(g.new (s.nt+1) tb xe xt).xt (s.nt+1):=W;rw[(jP g (s.nt+1) tb xe xt).2.2]at Z;subst Z;exact ab ⟨Y.n.2.2,by rw[aa (dW Y.x Y.t (by decide)),aa (dW Y.x Y.y (by decide)),aj rfl]⟩
theorem jx{s:Pl}{t:Nat}:fe s.more t↔fe s t\/t=s.nt+1:=by
 show(1<=t/\t<=s.nt+1)↔(1<=t/\t<=s.nt)\/t=s.nt+1;omega
theorem oc{s:Pl}{x y:Nat}:fz s.more x y↔fz s x y\/(x=5/\y=s.nt+1):=by
 unfold fz;rw[jx];constructor
 .rintro(h|h|h|⟨h,e|e⟩)
  .exact ag (ag h)
  .exact ag (ab (ag h))
  .exact ag (ab (ab (ag h)))
  .exact ag (ab (ab (ab ⟨h,e⟩)))
  exact ab ⟨h,e⟩
 rintro((h|h|h|⟨h,e⟩)|⟨h,e⟩)
 .exact ag h
 .exact ab (ag h)
 .exact ab (ab (ag h))
 .exact ab (ab (ab ⟨h,ag e⟩))
 exact ab (ab (ab ⟨h,ab e⟩))
theorem LW.more{s:Pl}(h:LW s)(hn:s.nt+1<=500000000):LW s.more:=by
 refine⟨λt ht x y o=>?_,λx y G t ht=>?_,λx y G=>?_,hn⟩
 .by_cases e:t=s.nt+1
  .subst e;have:(s.more.T (s.nt+1)).wh=none:=by show(s.new.T (s.nt+1)).wh=none;rw[lM];rfl
   rw[this]at o;cases o
  have i:=(jx.1 ht).resolve_right e
  obtain⟨k1,k2,H⟩:=h.a t i x y (by rw[<-o];show _=(s.new.T t).wh;rw[mi s e]);refine⟨oc.2 (ag k1),?_,H⟩;show t∈s.new.q x y;rw[qA s (λe=>by have:=(mO k1 e.1).2;omega)];exact k2
 .have i:t∈s.new.q x y:=ht;by_cases e:x=5/\y=s.nt+1
  .rw[e.1,e.2,s9]at i;cases i
  rw[qA s e]at i;obtain⟨k1,k2⟩:=h.b x y ((oc.1 G).resolve_right e) t i;refine⟨jx.2 (ag k1),?_⟩;show(s.new.T t).wh=_;rw[mi s (by have:=k1.2;omega)];exact k2
 show(s.new.q x y).Nodup;by_cases e:x=5/\y=s.nt+1
 .rw[e.1,e.2,s9];exact List.nodup_nil
 rw[qA s e];exact h.c x y ((oc.1 G).resolve_right e)
theorem rk(s:Pl)(t:Nat)(f:gY)(u:Nat):((s.push t f).T u).wh=(s.T u).wh/\((s.push t f).T u).lf=(s.T u).lf:=by
 unfold Pl.push;by_cases e:u=t
 .subst e;rw[df];exact⟨rfl,rfl⟩
 rw[dP _ _ e];exact⟨rfl,rfl⟩
theorem LW.push{s:Pl}(h:LW s)(t:Nat)(f:gY):LW (s.push t f):=h.same rfl rfl (λu=>(rk s t f u).1)
def Pl.born(s:Pl)(f:Nat)(u v:B.V):Pl:=(s.more.push (s.nt+1) ⟨f,0,gh u v,(0,0,0,0)⟩).dV 2 0 (s.nt+1)
theorem Ik{p:dz}{s:Pl}{g:eE}{w:World}{f:Nat}(u v:B.V)(h:dQ p s g w)(hP:PW p)(hW:LW s)(aC:s.lv.Nodup)(a7:∀u,u∈s.lv->fe s u)(ho:s.out.length=s.nt)(hf:f<p.nf)(hn:s.nt+1<=500000000): Calls prog 60 #[P0 p.eb,.int .i64 f,vA u,vA v] w λe w'=>e=.returned (.int .i64 ((s.nt+1:Nat):Int))/\∃g',Tr p s g w (s.born f u v) g' w'/\∀a i,fe s a->g'.fb a i=g.fb a i:=by
 have aE:=dH (gn s.nt s.lv aC a7) hW.d;have Y:=h.row (x:=7) (y:=0) (by unfold eQ;omega) (iq (by omega));have Z:fe s.more (s.nt+1):=jx.2 (ab rfl);have H:s.more.T (s.nt+1)=qR:=lM s;refine Il p.eb f s.out.length s.lv.length (g.ro 7 0).2 (g.ro 6 0).2 (s.nt+1) (g.ro 7 0).1 (g.ro 6 0).1 u v s.out _ (iJ p s g)
  (λtb xt w7=>∃g7,Tr p s g w (s.more.push (s.nt+1) ⟨f,0,gh u v,(0,0,0,0)⟩) g7 w7/\g7.tb (s.nt+1)=tb/\g7.xt (s.nt+1)=xt/\∀a i,fe s a->g7.fb a i=g.fb a i)
  (λw9=>∃g',Tr p s g w (s.born f u v) g' w9/\∀a i,fe s a->g'.fb a i=g.fb a i) w h.E rfl rfl Y (h.row (x:=6) (y:=0) (by unfold eQ;omega) (iq (by omega))) (by omega) (by omega) ?_ ?_
 .intro w6 tb xe xt J W G a0 hA;have h3:=h.begin (hW.mw a7) ho hA;have a2:(g.more (s.nt+1) tb xe xt (J,G) (W,a0)).tb (s.nt+1)=tb:=(jP g (s.nt+1) tb xe xt).1;have a5:(g.more (s.nt+1) tb xe xt (J,G) (W,a0)).xe (s.nt+1)=xe:=(jP g (s.nt+1) tb xe xt).2.1;have a3:(g.more (s.nt+1) tb xe xt (J,G) (W,a0)).xt (s.nt+1)=xt:=(jP g (s.nt+1) tb xe xt).2.2;have o:=DF (t:=s.nt+1) (f:=f) (k:=.func 120) (ka:=#[]) (kc:=#[P0 xe,P0 xt]) (0,0,0,0) u v h3.r hP Z (by rw[H];rfl) hf (by rw[H];exact dc _) (by
   rw[H];show _=Fv 120 #[P0 _,P0 _];rw[a5,a3])
  rw[a2]at o;refine o.mono ?_;rintro e w7 ⟨rfl,fb,rb,r,Y⟩;have a6:((g.more (s.nt+1) tb xe xt (J,G) (W,a0)).push (s.nt+1) (s.more.T (s.nt+1)).fr.length fb rb r).tb (s.nt+1)=tb:=a2;have a1:=Y.r.xt (t:=s.nt+1) Z;refine⟨rfl,⟨_,h3.trans Y,a2,a3,λa i ha=>?_⟩,?_,?_,Y.r.E.lt⟩
  .exact(pq _ (λe=>by have:=ha.2;omega)).1
  .rw[a6]at a1;rw[<-a3];exact a1
  rw[<-a5];exact Y.r.xe (t:=s.nt+1) Z
 rintro tb xt w7 w8 ⟨g7,Y,rfl,rfl,aB⟩ aA;have a8:fe (s.more.push (s.nt+1) ⟨f,0,gh u v,(0,0,0,0)⟩) (s.nt+1):=Z;have o:=xA (x:=2) (y:=0) (t:=s.nt+1) (Y.r.kept aA) ((hW.more hn).push _ _) (ag ⟨rfl,rfl⟩) a8 (by omega) (by rw[(rk _ _ _ _).1,H];intro e;cases e);refine o.mono ?_;rintro e w9 ⟨rfl,r,h9⟩;have a4:fe ((s.more.push (s.nt+1) ⟨f,0,gh u v,(0,0,0,0)⟩).dV 2 0 (s.nt+1)) (s.nt+1):=(eg (iX _ _ _ _)).2 a8;exact⟨rfl,⟨_,(Y.kept aA).trans h9,aB⟩,(h9.r.tk a4).cell 0 (by omega),h9.r.xt a4⟩
end F
namespace F
def ot(p:dz)(s:Pl)(g:eE)(w:World):Prop:=∀x y z,x≠1->(ob p s g x y z).ok w
def qQ(p:dz)(s:Pl)(g:eE)(k:Nat):Prop:=∃x y z,x≠1/\(ob p s g x y z).bs k
theorem dQ.q{p:dz}{s:Pl}{g:eE}{w:World}(h:dQ p s g w):ot p s g w:=λx y z _=>h.o x y z
theorem ot.lt{p:dz}{s:Pl}{g:eE}{w:World}(h:ot p s g w){k:Nat}(e:qQ p s g k):k<w.heap.size:=by
 obtain⟨x,y,z,i,e⟩:=e;exact(ob p s g x y z).lt w k (h x y z i) e
theorem ot.block{p:dz}{s:Pl}{g:eE}{w w':World}(h:ot p s g w)(i:∀k,qQ p s g k->w'.heap[k]? = w.heap[k]?):ot p s g w':=
 λx y z e=>(ob p s g x y z).fr w w' (h x y z e) (λk o=>i k ⟨x,y,z,e,o⟩)
section
variable {p : dz} {s : Pl} {g : eE} {w : World} (h : ot p s g w)
include h
theorem ot.E:Full w p.eb 144 44 44 (iJ p s g):=h 0 0 0 (by omega)
theorem ot.row{x y:Nat}(hx:eQ x)(e:gu s x y 0=true):w.ownsRow 0 (zA x) (zB x) (sl s g x y) (eH s x y) (fU s g x y):=by
 have:=h x y 0 (by unfold eQ at hx;omega);rw[gH e,gk hx]at this;exact this
theorem ot.tk{t:Nat}(ht:fe s t):Full w (g.tb t) 160 7 7 (gE p s g t):=by
 have:=h 11 t 0 (by omega);rw[gH (gG (by omega) ht)]at this;exact this
theorem ot.fr{t i:Nat}(ht:fe s t)(hi:i<(s.T t).fr.length):w.heap[g.fb t i]? = some (yf p g t i (de s t i)):=by
 have:=h 13 t i (by omega);rw[gH (ns (by omega) ht hi)]at this;exact this
theorem ot.rg{t i:Nat}(ht:fe s t)(hi:i<(s.T t).fr.length):Full w (g.rb t i) 149 (p.rg (de s t i).f*2) (p.rg (de s t i).f*2) (eC (de s t i).R):=by
 have:=h 14 t i (by omega);rw[gH (ns (by omega) ht hi)]at this;exact this
end
def qp(p:dz)(s:Pl)(t k:Nat):List B.V:=(List.range k).flatMap (λi=>B.iE (de s t i).R (p.rg (de s t i).f))
theorem uE(p:dz)(s:Pl)(t k:Nat):qp p s t (k+1)=qp p s t k++B.iE (de s t k).R (p.rg (de s t k).f):=by
 unfold qp;rw[eA,List.flatMap_append];simp
def sk(p:dz)(s:Pl)(t:Nat):List B.V:=qp p s t (s.T t).fr.length
def we(p:dz)(s:Pl)(l:List Nat):List B.V:=l.flatMap (sk p s)
def eh(p:dz)(s:Pl):List B.V:=we p s s.lv++s.kp
theorem iB{w0 w:World}{cb i sb n:Nat}{ad:Option Addr}{c:B.Cy}{l o:List B.V}(h:vV w0 w cb i sb n ad c l)(e:l=o):vV w0 w cb i sb n ad c o:=by rw[<-e];exact h
theorem El{p:dz}{s:Pl}{g:eE}{t:Nat}(ht:fe s t)(cb rd sb n:Nat)(ad:Option Addr)(c:B.Cy)(l0:List B.V)(w0 w:World)(hQ:ot p s g w0)(hd:∀k,qQ p s g k->¬nh cb rd ad k)(hV:vV w0 w cb rd sb n ad c l0)(hn:n<=200)(hs:c.st.length+B.kX c.m n<=n)(a5:∀v,v∈l0->v.1≠0->v.1<=n)(hR:∀v,v∈sk p s t->v.1≠0->v.1<=n)(hm:(s.T t).fr.length<=1000)(aA:∀i,i<(s.T t).fr.length->p.rg (de s t i).f<=8): Calls prog 118 #[P0 (g.tb t),.func (.func 188) #[P0 cb] #[]] w λe w'=>e=.returned (.tuple #[])/\vV w0 w' cb rd sb n ad c (l0++sk p s t):=by
 have KA:Hid (∀w',dy (nh cb rd ad) w0 w'->ot p s g w'):=λw' h=>hQ.block (λk hk=>h.same (hQ.lt hk) (hd k hk));have HR:=az hR;have aJ:=az a5;have HV:=az hV;have aH:=az hs;have aE:=az aA;have HT:=az ht;have hw:=KA w HV.1;have c1:=(hw.tk ht).cell 1 (by omega);have a6:gE p s g t 1=.slice (g.ro 12 t).1 (s.T t).fr.length (g.ro 12 t).2:=rfl;rw[a6]at c1;have o:=hw.row (x:=12) (y:=t) (by unfold eQ;omega) (gG (by omega) ht);have H:(s.T t).fr.length≠0->∃W Y,g.ro 12 t=(some ⟨W,0,none⟩,Y):=λG=>by
  obtain⟨W,Y,he⟩:=dM o (by rw[jb];exact G);unfold sl at he;injection he with a b c;exact⟨W,Y,fV a c⟩
 clear hw o hQ hd hR a5 hV hs aA ht a6;by_cases G:(s.T t).fr.length=0
 .rw[G]at c1;have HH:Hid (sk p s t=[]):=by show _=_;unfold sk;rw[G];rfl
  generalize (g.ro 12 t).1=ka at *;generalize (g.ro 12 t).2=kc at *;clear H G;go_in;go_wp2_with fail
  go_loopw [13] (λi wr=>i=.int .i64 0/\wr=w) (λ_ _=>0)
  case atStart=>exact⟨rfl,rfl⟩
  case round=>
   obtain⟨rfl,rfl⟩:=hrel;go_wp2_with fail
   go_end0;exact⟨rfl,iB HV (by rw[HH.out,eB])⟩
 obtain⟨W,Y,a0⟩:=H G;rw[a0]at c1;have aC:w.cell? ⟨g.tb t,1,none⟩=some (.slice (some ⟨W,0,none⟩) (s.T t).fr.length Y):=c1;have aD:=az a0;generalize a9:(s.T t).fr.length=m at *;have J:=az a9;clear H G c1 a0 a9;go_in;go_wp2_with fail
 go_loopw [13] (λi wr=>∃k:Nat,k<=m/\i=.int .i64 k/\Hid (vV w0 wr cb rd sb n ad c (l0++qp p s t k))) (λi _=>m-(intOf i).toNat)
 case atStart=>exact⟨0,by omega,rfl,iB HV (by simp[qp])⟩
 case round=>
  obtain⟨k,hk,rfl,hX⟩:=hrel;by_cases Z:k<m
  .have hw:=KA _ hX.1;have a1:k<(s.T t).fr.length:=by rw[J.out];exact Z
   have o:=hw.row (x:=12) (y:=t) (by unfold eQ;omega) (gG (by omega) HT);have a2:wr.ownsRow 0 184 1 (.slice (some ⟨W,0,none⟩) m Y) m (((List.range m).map (g.fb t)).map P0):=by
    have e1:sl s g 12 t=.slice (some ⟨W,0,none⟩) m Y:=by unfold sl;rw[aD.out,jb,J.out]
    rw[e1,jb,kr,J.out]at o;exact o
   have d5:wr.cell? ⟨W,k,none⟩=some (P0 (g.fb t k)):=(iG a2).2.2.2.2.2 k _ (by simp[Z]);obtain⟨_,_,f2,_,_⟩:=ib (hw.fr HT a1);have aM:=aE k Z;have aN:(k:Int)<m:=by omega
   have aK:Hid (qp p s t (k+1)=qp p s t k++B.iE (de s t k).R (p.rg (de s t k).f)):=uE p s t k;have aB:Hid (∀w',dy (nh cb rd ad) w0 w'->Full w' (g.rb t k) 149 (p.rg (de s t k).f*2) (p.rg (de s t k).f*2) (eC (de s t k).R)):=λw' ho=>(KA w' ho).rg HT a1;have a7:Hid (∀v,v∈qp p s t k++B.iE (de s t k).R (p.rg (de s t k).f)->v.1≠0->v.1<=n):=λv u=>HR v (by
    unfold sk;rw[J.out];rw[<-uE]at u;unfold qp at u ⊢;rw[List.mem_flatMap]at u ⊢;obtain⟨i,hi,u⟩:=u;exact⟨i,eJ.2 (by have:=eJ.1 hi;omega),u⟩)
   generalize p.rg (de s t k).f=nr at *;generalize (de s t k).R=R at *;clear hw o a2 aC;go_wp2_with fail
   go_loopw [22] (λi aI=>∃j:Nat,j<=nr/\i=.int .i64 j/\Hid (vV w0 aI cb rd sb n ad c (l0++qp p s t k++B.iE R j))) (λi _=>nr-(intOf i).toNat)
   case atStart=>exact⟨0,by omega,rfl,iB hX (by simp[B.iE])⟩
   case round=>
    obtain⟨j,hj,rfl,a3⟩:=hrel;by_cases a8:j<nr
    .have hF:=aB _ a3.1;have r0:=hF.cell (j*2) (by omega);have r1:=hF.cell (j*2+1) (by omega);rw[nE]at r0;rw[nD]at r1;clear hF;have aO:(j:Int)<nr:=by omega
     go_wp2_with fail
     refine(wu (R j) (a3.kept (ah _ _ _)) hn aH (λv u G=>?_) (λG=>a7 (R j) (List.mem_append_right _ (B.kI.2 ⟨j,a8,rfl⟩)) G)).mono ?_
     .rw[dY,di]at u;rcases u with u|u
      .exact aJ v u G
      refine a7 v ?_ G;rw[di]at u ⊢;refine u.imp id (λu=>?_);obtain⟨i,hi,rfl⟩:=B.kI.1 u;exact B.kI.2 ⟨i,by omega,rfl⟩
     rintro e w5 ⟨rfl,a4⟩;have aF:=az a4;clear a4 r0 r1;go_wp2_with fail
     go_roundw
     case rel=>
      first|exact⟨j+1,by omega,by go_num,by show vV _ _ _ _ _ _ _ _ (l0++qp p s t k++B.iE R (j+1));rw[B.AY,<-dY];exact aF⟩|trace_state
     case measure=>simp[intOf];omega
    obtain rfl:j=nr:=by omega
    go_wp2_with fail
    go_roundw
    case rel=>exact⟨k+1,by omega,by go_num,iB a3 (by rw[aK.out,dY])⟩
    case measure=>simp[intOf];omega
  obtain rfl:k=m:=by omega
  go_wp2_with fail
  go_end0;exact⟨rfl,iB hX (by unfold sk;rw[J.out])⟩
theorem AZ(l:List B.V):B.iE (λi=>l.getD i (0,0)) l.length=l:=by
 apply List.ext_getElem?
 intro i;unfold B.iE;rw[eo];by_cases h:i<l.length
 .rw[fW h,bn h];simp[ar,bn h]
 rw[cw (by simp;omega),cw (by omega)];rfl
theorem C0(p:dz)(s:Pl)(l:List Nat)(t:Nat):we p s (l++[t])=we p s l++sk p s t:=by
 unfold we;rw[List.flatMap_append];simp
theorem um{α:Type}(l:List α)(k:Nat)(x:α)(h:l[k]? = some x):l.take (k+1)=l.take k++[x]:=by
 rw[List.take_add_one,h];rfl
theorem Kq{p:dz}{s:Pl}{g:eE}{w:World}(h:ot p s g w)(a0:∀u,u∈s.lv->fe s u)(b3:s.lv.length<=1000000000)(aZ:s.kp.length<=1000000)(aF:∀u,u∈s.lv->(s.T u).fr.length<=1000)(aM:∀u,u∈s.lv->∀i,i<(s.T u).fr.length->p.rg (de s u i).f<=8): IC (qQ p s g) w p.eb (eh p s).length (λi=>(eh p s).getD i (0,0)):=by
 intro w1 cb rd sb n ad cap c hk hC hQ hn hs hR;rw[AZ];have a1:∀v,v∈eh p s->v.1≠0->v.1<=n:=λv Y h0=>by
  obtain⟨i,hi,rfl⟩:=List.mem_iff_getElem.1 Y;have:=hR i hi;simp only[]at this;have e:(eh p s).getD i (0,0)=(eh p s)[i]:=by rw[ar,bn hi];rfl
  rw[e]at this;exact this h0
 have J:=h.block hk;have KA:Hid (∀w',dy (nh cb rd ad) w1 w'->ot p s g w'):=λw' h=>J.block (λk hk=>h.same (J.lt hk) (hQ k hk));have aS:=az (Ei hC);have aU:=az hs;have aR:Hid (∀t,t∈s.lv->∀(l0:List B.V) (w':World),vV w1 w' cb rd sb n ad c l0->(∀v,v∈l0->v.1≠0->v.1<=n)->Calls prog 118 #[P0 (g.tb t),.func (.func 188) #[P0 cb] #[]] w' λe w2=>e=.returned (.tuple #[])/\vV w1 w2 cb rd sb n ad c (l0++sk p s t)):=λt ht l0 w' hV aT=>
  El (a0 t ht) cb rd sb n ad c l0 w1 w' J hQ hV hn hs aT (λv Y=>a1 v (by unfold eh we;rw[di,List.mem_flatMap];exact ag ⟨t,ht,Y⟩)) (aF t ht) (aM t ht)
 have aW:Hid (∀k v,v∈we p s (s.lv.take k)->v.1≠0->v.1<=n):=λk v Y=>a1 v (by
  unfold we at Y;unfold eh we;rw[List.mem_flatMap]at Y;obtain⟨t,ht,Y⟩:=Y;rw[di,List.mem_flatMap];exact ag ⟨t,List.mem_of_mem_take ht,Y⟩)
 have aD:Hid (∀j v,v∈we p s s.lv++s.kp.take j->v.1≠0->v.1<=n):=λj v Y=>a1 v (by
  unfold eh;rw[di]at Y ⊢;exact Y.imp id List.mem_of_mem_take)
 have aN:=J.E.cell 29 (by omega);have aC:iJ p s g 29=.slice (g.ro 6 0).1 s.lv.length (g.ro 6 0).2:=rfl;rw[aC]at aN;go_in;go_wp2_with fail
 generalize W:(g.ro 6 0).1=la at *;generalize aK:(g.ro 6 0).2=lc at *;generalize aI:s.lv.length=ln at *;have a4:=az (ay W (ay aK aI));go_loopw [13] (λi wr=>∃k:Nat,k<=ln/\i=.int .i64 k/\Hid (vV w1 wr cb rd sb n ad c (we p s (s.lv.take k)))) (λi _=>ln-(intOf i).toNat)
 case atStart=>exact⟨0,by omega,rfl,iB aS.out (by simp[we])⟩
 case round=>
  obtain⟨k,hk,rfl,hX⟩:=hrel;by_cases a0:k<ln
  .have hw:=KA.out _ hX.out.1;have G:=hw.row (x:=6) (y:=0) (by unfold eQ;omega) (iq (by omega));have H:eH s 6 0=ln:=a4.out.2.2;obtain⟨lb,a7,he⟩:=dM G (by rw[H];omega);have W:la=some ⟨lb,0,none⟩:=by
    unfold sl at he;injection he with a b c;rw[<-a4.out.1];exact a
   obtain⟨t,a5⟩:∃t,s.lv[k]? = some t:=⟨_,bn (by rw[a4.out.2.2];exact a0)⟩;have a6:=ed a5;rw[he,H]at G;have o:wr.ownsRow 0 155 1 (.slice (some ⟨lb,0,none⟩) ln a7) ln ((s.lv.map g.tb).map P0):=G;have d5:wr.cell? ⟨lb,k,none⟩=some (P0 (g.tb t)):=(iG o).2.2.2.2.2 k _ (by simp[a5]);subst W;have b0:(k:Int)<(ln:Int):=by omega
   have a2:Hid (we p s (s.lv.take (k+1))=we p s (s.lv.take k)++sk p s t):=by show _=_;rw[um _ _ _ a5,C0]
   have aA:=az a6;go_wp2_with fail
   refine(aR.out t aA.out _ _ hX.out (aW.out k)).mono ?_;rintro e w5 ⟨rfl,Z⟩;have a8:=az Z;go_wp2_with fail
   go_roundw
   case rel=>exact⟨k+1,by omega,by go_num,iB a8.out a2.out.symm⟩
   case measure=>simp[intOf];omega
  obtain rfl:k=ln:=by omega
  have hw:=KA.out _ hX.out.1;have aQ:=hw.E.cell 31 (by omega);have aG:iJ p s g 31=.slice (g.ro 8 0).1 s.kp.length (g.ro 8 0).2:=rfl;rw[aG]at aQ;have aP:Hid (vV w1 wr cb rd sb n ad c (we p s s.lv)):=iB hX.out (by rw[<-a4.out.2.2,List.take_length]);generalize aJ:(g.ro 8 0).1=ka at *;generalize aE:(g.ro 8 0).2=kc at *;generalize aH:s.kp.length=kn at *;have a3:=az (ay aJ (ay aE aH));go_wp2_with fail
  go_loopw [26] (λi aV=>∃j:Nat,j<=kn/\i=.int .i64 j/\Hid (vV w1 aV cb rd sb n ad c (we p s s.lv++s.kp.take j))) (λi _=>kn-(intOf i).toNat)
  case atStart=>exact⟨0,by omega,rfl,iB aP.out (by simp)⟩
  case round=>
   obtain⟨j,hj,rfl,a9⟩:=hrel;by_cases aL:j<kn
   .have hw:=KA.out _ a9.out.1;have G:=hw.row (x:=8) (y:=0) (by unfold eQ;omega) (iq (by omega));have H:eH s 8 0=kn:=a3.out.2.2;obtain⟨lb,a7,he⟩:=dM G (by rw[H];omega);have W:ka=some ⟨lb,0,none⟩:=by
     unfold sl at he;injection he with a b c;rw[<-a3.out.1];exact a
    obtain⟨v,aB⟩:∃v,s.kp[j]? = some v:=⟨_,bn (by rw[a3.out.2.2];exact aL)⟩;rw[he,H]at G;have o:wr.ownsRow 0 149 2 (.slice (some ⟨lb,0,none⟩) kn a7) kn (fT s.kp):=G;obtain⟨r0,r1⟩:=(ru o).2.2.2.2.2 j v aB;subst W;have b4:(j:Int)<(kn:Int):=by omega
    have a2:Hid (we p s s.lv++s.kp.take (j+1)=we p s s.lv++s.kp.take j++[v]):=by show _=_;rw[um _ _ _ aB,dY]
    have aA:=az (aD.out (j+1) v (by rw[a2.out];simp));go_wp2_with fail
    refine(wu v (a9.out.kept (ah _ _ _)) hn aU.out (aD.out j) aA.out).mono ?_;rintro e w5 ⟨rfl,Z⟩;have a8:=az Z;go_wp2_with fail
    go_roundw
    case rel=>exact⟨j+1,by omega,by go_num,iB a8.out a2.out.symm⟩
    case measure=>simp[intOf];omega
   obtain rfl:j=kn:=by omega
   go_wp2_with fail
   go_end0;exact⟨rfl,iB a9.out (by unfold eh;rw[<-a3.out.2.2,List.take_length])⟩
end F
namespace F
structure In(s:Pl) (t:Nat):Prop where
 ht:fe s t
 hi:cr s t<(s.T t).fr.length
abbrev bw(s:Pl)(t:Nat):gY:=de s t (cr s t)
abbrev m8(p:dz)(s:Pl)(g:eE)(t:Nat)(k:Nat×Nat×Nat×Nat):Value:=dZ k.1 k.2.1 k.2.2.1 k.2.2.2 (g.fb t (cr s t)) (g.tb t) p.eb
section
variable {p : dz} {s : Pl} {g : eE} {w : World} {t : Nat} (h : dQ p s g w) (hI : In s t)
include h hI
theorem In.set{w':World}{a:Nat}{v:B.V}(e:w.grownBy w' (some (g.rb t (cr s t))))(i:Fr w' (g.fb t (cr s t)) (p.cb (bw s t).f) (p.len (bw s t).f) (bw s t).nx (g.rb t (cr s t)) (p.rg (bw s t).f) (wj p g t (cr s t) (bw s t).bk) (B.set (bw s t).R a v)):Tr p s g w (s.dx t (cr s t) ((bw s t).set a v)) g w':=
 LX (f:=(bw s t).set a v) h hI.ht hI.hi rfl rfl i (jg e (ab rfl))
theorem In.next{w':World}{y:Nat}(e:w.grownBy w' (some (g.fb t (cr s t))))(i:Fr w' (g.fb t (cr s t)) (p.cb (bw s t).f) (p.len (bw s t).f) y (g.rb t (cr s t)) (p.rg (bw s t).f) (wj p g t (cr s t) (bw s t).bk) (bw s t).R):Tr p s g w (s.dx t (cr s t) { bw s t with nx:=y }) g w':=
 LX (f:={ bw s t with nx:=y }) h hI.ht hI.hi rfl rfl i (jg e (ag rfl))
theorem In.fr:Fr w (g.fb t (cr s t)) (p.cb (bw s t).f) (p.len (bw s t).f) (bw s t).nx (g.rb t (cr s t)) (p.rg (bw s t).f) (wj p g t (cr s t) (bw s t).bk) (bw s t).R:=h.Fr hI.ht hI.hi
theorem In.a(op a b c:Nat)(tb eb:Nat)(o:a<p.rg (bw s t).f):∀w1,w.grownBy w1 none->Calls prog 98 #[dZ op a b c (g.fb t (cr s t)) tb eb] w1 λe w'=>e=.returned (vA ((bw s t).R a))/\w1.grownBy w' none:=λw1 u=>by
 have i:=(h.kept u).Fr hI.ht hI.hi;exact As op a b c _ tb eb _ _ _ _ _ _ _ w1 i.1 i.2.1 o
theorem In.b(op a b c:Nat)(tb eb:Nat)(o:b<p.rg (bw s t).f):∀w1,w.grownBy w1 none->Calls prog 86 #[dZ op a b c (g.fb t (cr s t)) tb eb] w1 λe w'=>e=.returned (vA ((bw s t).R b))/\w1.grownBy w' none:=λw1 u=>by
 have i:=(h.kept u).Fr hI.ht hI.hi;exact pO op a b c _ tb eb _ _ _ _ _ _ _ w1 i.1 i.2.1 o
theorem In.c(op a b c:Nat)(tb eb:Nat)(o:c<p.rg (bw s t).f):∀w1,w.grownBy w1 none->Calls prog 94 #[dZ op a b c (g.fb t (cr s t)) tb eb] w1 λe w'=>e=.returned (vA ((bw s t).R c))/\w1.grownBy w' none:=λw1 u=>by
 have i:=(h.kept u).Fr hI.ht hI.hi;exact qJ op a b c _ tb eb _ _ _ _ _ _ _ w1 i.1 i.2.1 o
end
theorem PW.box{p:dz}(hP:PW p){w:World}(hX:Fix p w){j:Nat}(i:j<32){v:Value}{T:TypeId}(e:(lQ p.ac).getD j (undef,0)=(v,T)):w.cell? ⟨p.ac+j,0,none⟩=some v/\w.heap[p.ac+j]? = some (.cells #[v] T (0,0)):=by
 have:=hP.bx w hX j i;rw[e]at this;exact this
def oO(s:Pl)(t a:Nat)(x:Int):Pl:=s.dx t (cr s t) ((bw s t).set a (0,x))
theorem i0{p:dz}{s:Pl}{g:eE}{w:World}{t op a b c:Nat}(h:dQ p s g w)(hP:PW p)(hI:In s t)(y:a<p.rg (bw s t).f)(G:b<256)(u:c<256): Calls prog 163 #[m8 p s g t (op,a,b,c),P0 (p.ac+1)] w λe w'=>e=.returned (.int .i64 0)/\Tr p s g w (oO s t a (B.wide b c)) g w':=by
 have i:=hP.box h.fix (j:=1) (by omega) rfl;have o:=hP.box h.fix (j:=0) (by omega) rfl;refine(D2 op a b c _ _ _ _ _ _ _ _ (p.ac+1) p.ac _ _ G u y w (In.fr h hI) (bz i.2) i.1 o.1 (bz o.2)).mono ?_;rintro e w' ⟨rfl,k1,k2⟩;exact⟨rfl,In.set h hI k1 k2⟩
theorem i1{p:dz}{s:Pl}{g:eE}{w:World}{t op a b c:Nat}(h:dQ p s g w)(hP:PW p)(hI:In s t)(u:a<p.rg (bw s t).f)(y:b<p.rg (bw s t).f): Calls prog 163 #[m8 p s g t (op,a,b,c),P0 (p.ac+3)] w λe w'=>e=.returned (.int .i64 0)/\Tr p s g w (s.dx t (cr s t) ((bw s t).set a ((bw s t).R b))) g w':=by
 have i:=hP.box h.fix (j:=3) (by omega) rfl;have o:=hP.box h.fix (j:=2) (by omega) rfl;refine(zf op a b c _ _ _ _ _ _ _ _ (p.ac+3) (p.ac+2) _ _ _ u w (In.fr h hI) i.1 o.1 (bz i.2) (bz o.2) (In.b h hI op a b c _ _ y)).mono ?_;rintro e w' ⟨rfl,k1,k2⟩;exact⟨rfl,In.set h hI k1 k2⟩
theorem i6{p:dz}{s:Pl}{g:eE}{w:World}{t op a b c:Nat}(h:dQ p s g w)(hP:PW p)(hI:In s t)(y:a<p.rg (bw s t).f)(G:b<p.rg (bw s t).f)(u:c<p.rg (bw s t).f): Calls prog 163 #[m8 p s g t (op,a,b,c),P0 (p.ac+9)] w λe w'=>e=.returned (.int .i64 0)/\Tr p s g w (oO s t a (if(bw s t).R b=(bw s t).R c then 1 else 0)) g w':=by
 have i:=hP.box h.fix (j:=9) (by omega) rfl;have o:=hP.box h.fix (j:=8) (by omega) rfl;refine(ze op a b c _ _ _ _ _ _ _ _ (p.ac+9) (p.ac+8) _ _ _ y w (In.fr h hI) i.1 o.1 (bz i.2) (bz o.2) (λw1 H=>Cp op a b c _ _ _ _ _ _ _ _ _ _ G u w1 (In.fr (h.kept H) hI))).mono ?_;rintro e w' ⟨rfl,k1,k2⟩;exact⟨rfl,In.set h hI k1 k2⟩
theorem i7{p:dz}{s:Pl}{g:eE}{w:World}{t op a b c:Nat}(h:dQ p s g w)(hP:PW p)(hI:In s t)(y:b<256)(u:c<256): Calls prog 163 #[m8 p s g t (op,a,b,c),P0 (p.ac+11)] w λe w'=>e=.returned (.int .i64 0)/\Tr p s g w (s.dx t (cr s t) { bw s t with nx:=256*b+c }) g w':=by
 have i:=hP.box h.fix (j:=11) (by omega) rfl;have o:=hP.box h.fix (j:=10) (by omega) rfl;refine(y9 op a b c _ _ _ _ _ _ _ _ (p.ac+11) (p.ac+10) _ _ true (256*b+c) rfl y u w (In.fr h hI) i.1 o.1 (bz i.2) (bz o.2) (λw1 _=>BZ op a b c _ _ _ w1)).mono ?_;rintro e w' ⟨rfl,k1,k2⟩;exact⟨rfl,In.next h hI k1 k2⟩
theorem i8{p:dz}{s:Pl}{g:eE}{w:World}{t op a b c:Nat}(h:dQ p s g w)(hP:PW p)(hI:In s t)(y:a<p.rg (bw s t).f)(G:b<256)(u:c<256): Calls prog 163 #[m8 p s g t (op,a,b,c),P0 (p.ac+13)] w λe w'=>e=.returned (.int .i64 0)/\Tr p s g w (s.dx t (cr s t) { bw s t with nx:=if(bw s t).R a=(0,0) then 256*b+c else(bw s t).nx }) g w':=by
 have i:=hP.box h.fix (j:=13) (by omega) rfl;have o:=hP.box h.fix (j:=12) (by omega) rfl;refine(yZ op a b c _ _ _ _ _ _ _ _ (p.ac+13) (p.ac+12) _ _ (decide ((bw s t).R a=(0,0))) (if(bw s t).R a=(0,0) then 256*b+c else(bw s t).nx) (by show _=_;by_cases e:(bw s t).R a=(0,0)<;>simp[e]) G u w (In.fr h hI) i.1 o.1 (bz i.2) (bz o.2) (λw1 H=>BO op a b c _ _ _ _ _ _ _ _ _ _ y w1 (In.fr (h.kept H) hI))).mono ?_;rintro e w' ⟨rfl,k1,k2⟩;exact⟨rfl,In.next h hI k1 k2⟩
def arith(o:Nat)(x y:Int):Int:=if o=2 then B.wrap (x+y) else if o=3 then B.wrap (x-y) else if o=4 then B.wrap (x*y) else pF x y
def Ek(s:Pl)(t b c:Nat):Prop:=((bw s t).R b).1=0/\((bw s t).R c).1=0
theorem i25{p:dz}{s:Pl}{g:eE}{w:World}{t o a b c:Nat}(op:Nat)(h:dQ p s g w)(hP:PW p)(hI:In s t)(H:o=2\/o=3\/o=4\/o=5)(y:a<p.rg (bw s t).f)(G:b<p.rg (bw s t).f)(u:c<p.rg (bw s t).f): Calls prog 151 #[m8 p s g t (op,a,b,c),P0 (p.ac+(o+2))] w λe w'=>(Ek s t b c/\e=.returned (.int .i64 0)/\Tr p s g w (oO s t a (arith o ((bw s t).R b).2 ((bw s t).R c).2)) g w')\/(¬Ek s t b c/\e=.returned (.int .i64 1)/\w.grownBy w' none):=by
 rcases H with rfl|rfl|rfl|rfl
 .have i:=hP.box h.fix (j:=4) (by omega) rfl;refine(D1 op a b c _ _ _ _ _ _ _ _ (p.ac+4) _ _ y G u w (In.fr h hI) i.2).mono ?_;rintro e w' (⟨k0,rfl,k1,k2⟩|⟨k0,rfl,k1⟩)
  .exact ag ⟨k0,rfl,In.set h hI k1 k2⟩
  exact ab ⟨k0,rfl,k1⟩
 .have i:=hP.box h.fix (j:=5) (by omega) rfl;refine(D0 op a b c _ _ _ _ _ _ _ _ (p.ac+5) _ _ y G u w (In.fr h hI) i.2).mono ?_;rintro e w' (⟨k0,rfl,k1,k2⟩|⟨k0,rfl,k1⟩)
  .exact ag ⟨k0,rfl,In.set h hI k1 k2⟩
  exact ab ⟨k0,rfl,k1⟩
 .have i:=hP.box h.fix (j:=6) (by omega) rfl;refine(DZ op a b c _ _ _ _ _ _ _ _ (p.ac+6) _ _ y G u w (In.fr h hI) i.2).mono ?_;rintro e w' (⟨k0,rfl,k1,k2⟩|⟨k0,rfl,k1⟩)
  .exact ag ⟨k0,rfl,In.set h hI k1 k2⟩
  exact ab ⟨k0,rfl,k1⟩
 have i:=hP.box h.fix (j:=7) (by omega) rfl;refine(DY op a b c _ _ _ _ _ _ _ _ (p.ac+7) _ _ y G u w (In.fr h hI) i.2).mono ?_;rintro e w' (⟨k0,rfl,k1,k2⟩|⟨k0,rfl,k1⟩)
 .exact ag ⟨k0,rfl,In.set h hI k1 k2⟩
 exact ab ⟨k0,rfl,k1⟩
end F
namespace F
theorem Tr.Aq{p:dz}{s s':Pl}{g g':eE}{w w1 w':World}(h:dQ p s g w)(u:Tr p s g w1 s' g' w')(k:Nat)(y:w.heap.size<=k)(e:k<w1.heap.size):w'.heap[k]? = w1.heap[k]?:=u.o.same e (λi=>by have:=h.lt i;omega)
def iy(s:Pl)(x:B.V):Nat×B.V×Bool:=if x.1=0\/s.ck x.1=0 then(0,(0,0),false) else(s.ck x.1-1,(s.M x.1).getD 0 (0,0),true)
theorem Dz(s:Pl)(g:eE)(x:B.V):pJ x (jn s g).f s.M=.tuple #[.int .i64 ((iy s x).1:Int),vA (iy s x).2.1,.bool (iy s x).2.2]:=by
 unfold pJ iy;by_cases e:x.1=0\/s.ck x.1=0
 .have i:x.1=0\/(jn s g).f.k x.1=0:=e;rw[aj e,aj i];rfl
 have i:¬(x.1=0\/(jn s g).f.k x.1=0):=e;rw[aa e,aa i];rfl
theorem Bl{p:dz}{s:Pl}{g:eE}{w:World}(h:dQ p s g w)(hP:PW p){x:B.V}(o:B.qO s.kd.on p.n x):∀w1,w.grownBy w1 none->Calls prog 162 #[P0 p.sb,vA x] w1 λe w'=>e=.returned (.tuple #[.int .i64 ((iy s x).1:Int),vA (iy s x).2.1,.bool (iy s x).2.2])/\w1.grownBy w' none:=λw1 i=>by
 refine(vI p.sb p.pb p.eb p.n x s.kd (jn s g) s.M w1 (h.kept i).S hP.n2 o).mono ?_;rintro e w' ⟨k1,rfl⟩;exact⟨by rw[Dz],k1⟩
theorem dQ.Gd{p:dz}{s:Pl}{g:eE}{w:World}(h:dQ p s g w)(hP:PW p):w.cell? ⟨p.eb,27,none⟩=some (P0 p.sb):=by
 rw[h.E.cell 27 (by omega)];show some (p.E0 27)=_;rw[hP.Gd]
theorem zm{s:Pl}{t:Nat}(hI:In s t):(s.T t).fr.length=cr s t+1:=by have:=hI.hi;unfold cr at *;omega
def kP(s:Pl)(t:Nat)(k:Nat×Nat×Nat×Nat):Pl:=if(iy s ((bw s t).R k.2.2.1)).2.2=true/\(s.T t).fr.length≠20 then s.push t ⟨(iy s ((bw s t).R k.2.2.1)).1,0,gh ((bw s t).R k.2.2.2) (iy s ((bw s t).R k.2.2.1)).2.1,k⟩ else s
theorem i13{p:dz}{s:Pl}{g:eE}{w:World}{t op a b c:Nat}(h:dQ p s g w)(hP:PW p)(hI:In s t)(hb:b<p.rg (bw s t).f)(Y:c<p.rg (bw s t).f)(hv:B.qO s.kd.on p.n ((bw s t).R b))(J:(s.T t).lf=none)(Z:(s.T t).fr.length<=1000)(G:(iy s ((bw s t).R b)).2.2=true->(iy s ((bw s t).R b)).1<p.nf): Calls prog 104 #[m8 p s g t (op,a,b,c)] w λe w'=>e=.returned (.int .i64 (pN (iy s ((bw s t).R b)).2.2 (s.T t).fr.length))/\∃g',Tr p s g w (kP s t (op,a,b,c)) g' w':=by
 have hl:=zm hI;refine JS op a b c (g.fb t (cr s t)) (g.tb t) p.eb p.sb (s.T t).fr.length (g.ro 12 t).2 (iy s ((bw s t).R b)).1 ((bw s t).R b) ((bw s t).R c) (iy s ((bw s t).R b)).2.1 (iy s ((bw s t).R b)).2.2 (g.ro 12 t).1 (λw'=>∃g',Tr p s g w (kP s t (op,a,b,c)) g' w') w (In.b h hI op a b c _ _ hb) (Bl h hP hv) (In.c h hI op a b c _ _ Y) ?_ ?_ (h.Gd hP) ?_
 .intro u H w1 i;have o:=DF (k:=.func 149) (ka:=#[dZ op a b c (g.fb t (cr s t)) (g.tb t) p.eb]) (kc:=#[]) (op,a,b,c) ((bw s t).R c) (iy s ((bw s t).R b)).2.1 (h.kept i) hP hI.ht J (G u) Z (by
   unfold wj;rw[aa (by omega),hl];rfl)
  refine o.mono ?_;rintro e w' ⟨rfl,fb,rb,r,W⟩;refine⟨rfl,⟨g.push t (s.T t).fr.length fb rb r,?_⟩,W.Aq h⟩;unfold kP;rw[aj ⟨u,H⟩];exact W.ahead i
 .intro w1 i y;refine⟨g,?_⟩;unfold kP;rw[aa (λe=>y.elim (λh=>by rw[h]at e;exact ch e.1 (by decide)) e.2)];exact(Tr.refl h).kept i
 exact(h.tk hI.ht).cell 1 (by omega)
theorem vS(s:Pl)(f:Nat)(u v:B.V){t:Nat}(ht:fe s t):(s.born f u v).T t=s.T t:=by
 have e:t≠s.nt+1:=by have:=ht.2;omega
 unfold Pl.born;rw[oh _ e];show((s.more.push (s.nt+1) _).T t)=_;unfold Pl.push;rw[dP _ _ e];exact mi s e
theorem oj(s:Pl)(f:Nat)(u v:B.V):(s.born f u v).nt=s.nt+1:=iX _ _ _ _
def Ci(p:dz)(s:Pl)(t:Nat)(k:Nat×Nat×Nat×Nat):Pl:=if(iy s ((bw s t).R k.2.2.1)).2.2=true/\s.lv.length≠p.mt then(s.born (iy s ((bw s t).R k.2.2.1)).1 ((bw s t).R k.2.2.2) (iy s ((bw s t).R k.2.2.1)).2.1).dx t (cr s t) ((bw s t).set k.2.1 (0,((s.nt+1:Nat):Int))) else s
theorem i14{p:dz}{s:Pl}{g:eE}{w:World}{t op a b c:Nat}(h:dQ p s g w)(hP:PW p)(hI:In s t)(ha:a<p.rg (bw s t).f)(hW:LW s)(J:WW p s)(a1:(s.T t).lf=none)(Z:(s.T t).wh=none)(hm:(s.T t).fr.length<=1000)(Y:t∈s.lv)(G:s.lv.Nodup)(a0:∀u,u∈s.lv->fe s u)(ho:s.out.length=s.nt)(hk:s.kp.length<=1000000)(W:s.ev.length<=100000)(y:cr s t≠0->(bw s t).bk.2.1<p.rg (de s t (cr s t-1)).f): Calls prog 163 #[m8 p s g t (op,a,b,c),P0 (p.ac+18)] w λe w'=>e=.returned (.int .i64 0)/\∃g',Tr p s g w (s.back t ((bw s t).R a)) g' w':=by
 refine Ft op a b c _ _ _ (p.ac+18) _ w (hP.box h.fix (j:=18) (by omega) rfl).1 (λw1 i=>?_);refine KM op a b c _ _ _ ((bw s t).R a) _ w1 (λw2 o=>In.a h hI op a b c _ _ ha w2 (an i o)) (λw2 o=>?_)
 refine(uC ((bw s t).R a) (h.kept (an i o)) hW J hI.ht a1 Z (λe=>by have:=hI.hi;rw[e]at this;exact Nat.not_lt_zero _ this) hm Y G a0 ho hk W y).mono ?_;rintro e w' ⟨rfl,g',h3⟩;exact⟨rfl,⟨g',h3.ahead (an i o)⟩,h3.Aq (h.kept i)⟩
theorem i16{p:dz}{s:Pl}{g:eE}{w:World}{t op a b c:Nat}(h:dQ p s g w)(hP:PW p)(hI:In s t)(H:LW s)(u:(s.T t).wh=none): Calls prog 163 #[m8 p s g t (op,a,b,c),P0 (p.ac+19)] w λe w'=>e=.returned (.int .i64 0)/\∃g',Tr p s g w (s.dV 2 0 t) g' w':=by
 refine Fs op a b c _ _ _ (p.ac+19) _ w (hP.box h.fix (j:=19) (by omega) rfl).1 (λw1 i=>?_);refine Gp op a b c _ _ _ _ w1 (h.kept i).E.lt (λw2 o=>?_);refine(xA (x:=2) (y:=0) (h.kept (an i o)) H (ag ⟨rfl,rfl⟩) hI.ht (by omega) (by rw[u];intro e;cases e)).mono ?_;rintro e w' ⟨rfl,r,J⟩;exact⟨rfl,_,J.ahead (an i o)⟩
def iY(s:Pl)(t a:Nat):Int×Pl:=if((bw s t).R a).1=0 then(0,s.told 1 t ((bw s t).R a).2) else(1,s)
theorem i20{p:dz}{s:Pl}{g:eE}{w:World}{t op a b c:Nat}(h:dQ p s g w)(hP:PW p)(hI:In s t)(J:a<p.rg (bw s t).f)(y:s.ev.length<=100000): Calls prog 167 #[m8 p s g t (op,a,b,c),P0 (p.ac+26),P0 (p.ac+27)] w λe w'=>∃why:Int,e=.returned (.int .i64 why)/\why=(iY s t a).1/\∃g',Tr p s g w (iY s t a).2 g' w':=by
 refine GC (u:=98) (H:=115) (by omega) op a b c _ _ _ (p.ac+26) (p.ac+27) ((bw s t).R a) (λwhy w'=>why=(iY s t a).1/\∃g',Tr p s g w (iY s t a).2 g' w') w (hP.box h.fix (j:=26) (by omega) rfl).1 (hP.box h.fix (j:=27) (by omega) rfl).1 (In.a h hI op a b c _ _ J) (λu w1 i=>?_) (λu w1 i=>?_)
 .refine(JM op a b c _ _ _ ((bw s t).R a).2 (λw'=>∃g',Tr p s g w (iY s t a).2 g' w') w1 (λw2 o=>?_)).mono ?_
  .refine(B4 1 ((bw s t).R a).2 (h.kept (an i o)) hI.ht y).mono ?_;rintro e w' ⟨rfl,r,G⟩;refine⟨rfl,g.at 9 0 r,?_⟩;unfold iY;rw[aj u];exact G.ahead (an i o)
  rintro e w' ⟨rfl,G⟩;exact⟨0,rfl,by unfold iY;rw[aj u],G⟩
 unfold iY;rw[aa u];exact⟨rfl,g,(Tr.refl h).kept i⟩
theorem i22{p:dz}{s:Pl}{g:eE}{w:World}{t op a b c:Nat}(h:dQ p s g w)(hP:PW p)(hI:In s t)(y:a<p.rg (bw s t).f): Calls prog 163 #[m8 p s g t (op,a,b,c),P0 (p.ac+31)] w λe w'=>e=.returned (.int .i64 0)/\Tr p s g w (oO s t a s.eY) g w':=by
 have i:=hP.box h.fix (j:=31) (by omega) rfl;have u:=hP.box h.fix (j:=30) (by omega) rfl;refine(xY op a b c _ _ _ _ _ _ _ _ (p.ac+31) (p.ac+30) _ _ _ y w (In.fr h hI) i.1 u.1 (bz i.2) (bz u.2) (λw1 o=>EO op a b c _ _ p.eb s.eY w1 ((h.kept o).E.cell 28 (by omega)) (h.kept o).E.lt)).mono ?_;rintro e w' ⟨rfl,k1,k2⟩;exact⟨rfl,In.set h hI k1 k2⟩
def Gb(s:Pl)(z:Int):Option Nat:=s.lv.find? (λu=>(u:Int) == z)
def LU(s:Pl)(z:Int):Bool:=decide (1<=z/\z<=(s.nt:Int))
def vR(s:Pl)(t a:Nat):Int×Pl:=if((bw s t).R a).1=0 then(if LU s ((bw s t).R a).2=true then(0,match Gb s ((bw s t).R a).2 with|some u=>s.leave u (0,-100) 4 0|none=>s) else(6,s)) else(1,s)
def yY(s:Pl)(t:Nat)(k:Nat×Nat×Nat×Nat):Int×Pl:=
 if((bw s t).R k.2.2.1).1=0 then
  (if LU s ((bw s t).R k.2.2.1).2=true/\((bw s t).R k.2.2.1).2≠(t:Int) then(0,match Gb s ((bw s t).R k.2.2.1).2 with|some u=>s.wait 5 u t k|none=>s.dx t (cr s t) ((bw s t).set k.2.1 (s.out.getD (((bw s t).R k.2.2.1).2.toNat-1) (0,0)))) else(6,s)) else(1,s)
def Pl.yw(s:Pl)(k:Nat)(l:List Nat):Pl:={ s with jo:=λi=>if i=k then l else s.jo i }
def CB(s:Pl)(t:Nat)(k:Nat×Nat×Nat×Nat):Int×Pl:=
 if((bw s t).R k.2.2.1).1=0 then
  (if 0<=((bw s t).R k.2.2.1).2/\((bw s t).R k.2.2.1).2<4 then(0,match s.jo ((bw s t).R k.2.2.1).2.toNat with|x :: bs=>(s.yw ((bw s t).R k.2.2.1).2.toNat bs).dx t (cr s t) ((bw s t).set k.2.1 (0,(x:Int)))|[]=>s.wait 4 ((bw s t).R k.2.2.1).2.toNat t k) else(8,s)) else(1,s)
def oT.tl(v:oT)(u:Int):oT:={ v with iL:=u }
def LR(s:Pl)(u:Int):Nat:=(s.q 3 0).findIdx (λa=>decide (u<(s.T a).iL))
def Pl.Cl(s:Pl)(t:Nat)(u:Int):Pl:=s.dv t ((s.T t).tl u)
def Pl.IZ(s:Pl)(t:Nat)(u:Int):Pl:=(s.Cl t u).into 3 0 t ((s.q 3 0).take (LR (s.Cl t u) u)++t :: (s.q 3 0).drop (LR (s.Cl t u) u))
def yv(s:Pl)(t a:Nat):Int×Pl:=if((bw s t).R a).1=0 then(0,s.IZ t (B.iz s.eY ((bw s t).R a).2)) else(1,s)
end F
namespace F
def qw(p:dz)(s:Pl)(v:B.V):Prop:=(∃u i a,u∈s.lv/\i<(s.T u).fr.length/\a<p.rg (de s u i).f/\(de s u i).R a=v)\/v∈s.kp
theorem gi{p:dz}{s:Pl}{v:B.V}:v∈eh p s↔qw p s v:=by
 unfold eh we sk qp qw;simp only[di,List.mem_flatMap,eJ,B.kI];constructor
 .rintro(⟨u,o,i,hi,a,y,e⟩|h)
  .exact ag ⟨u,i,a,o,hi,y,e⟩
  exact ab h
 rintro(⟨u,i,a,o,hi,y,e⟩|h)
 .exact ag ⟨u,o,i,hi,a,y,e⟩
 exact ab h
def dN(p:dz)(s:Pl)(v:B.V):Prop:=B.oH (eh p s) s.M v
theorem dN.num{p:dz}{s:Pl}(x:Int):dN p s (0,x):=ag rfl
theorem dN.root{p:dz}{s:Pl}{v:B.V}(h:qw p s v):dN p s v:=B.oH.mem (gi.2 h)
structure FW(p:dz) (l:List gY):Prop where
 n1:l≠[]
 n2:l.length<=20
 f:∀i,i<l.length->(l.getD i mr).f<p.nf/\(l.getD i mr).nx<=p.len (l.getD i mr).f
 b:∀i,i+1<l.length->(l.getD (i+1) mr).bk.2.1<p.rg (l.getD i mr).f
structure fS(p:dz) (s:Pl) (X:Nat->Prop):Prop where
 lw:LW s
 ww:WW p s
 nd:s.lv.Nodup
 lt:∀u,u∈s.lv->fe s u
 ql:∀x y,fz s x y->∀t,t∈s.q x y->t∈s.lv
 lf:∀u,fe s u->(s.T u).lf≠none->∃x y,(s.T u).wh=some (x,y)/\(x=4\/x=5)
 rn:∀u,fe s u->(s.T u).run=true->(s.T u).wh=none/\u∈s.lv
 ol:s.out.length=s.nt
 ok:∀v,v∈s.out->v.1=0\/v∈s.kp
 kn:s.kp.Nodup
 kz:∀v,v∈s.kp->v.1≠0
 fw:∀u,u∈s.lv->X u->FW p (s.T u).fr
 hl:B.jX s.kd p.n (eh p s) s.M
 fc:∀k,1<=k->k<=p.n->s.kd.on k=true->s.ck k<=p.nf
 bt:∀k,(s.jo k).length<=1000/\∀x,x∈s.jo k->x<256
 c0:0<=s.eY
 c1:s.eY<=9223372036854775807
abbrev Ok(p:dz)(s:Pl):Prop:=fS p s (λ_=>True)
theorem fS.Gt{p:dz}{s:Pl}{X Y:Nat->Prop}(h:fS p s X)(hX:∀u,u∈s.lv->Y u->X u):fS p s Y:={ h with fw:=λu e i=>h.fw u e (hX u e i) }
section
variable {p : dz} {s : Pl} {X : Nat → Prop} (h : fS p s X)
include h
theorem fS.Ay{v:B.V}(e:dN p s v):B.qO s.kd.on p.n v:=B.oH.Ay e h.hl
theorem fS.kl:s.kp.length<=p.n:=by
 have i:∀v,v∈s.kp->1<=v.1/\v.1<=p.n/\v.2=0:=λv i=>by
  rcases h.Ay (dN.root (ab i)) with u|u
  .exact ch u (h.kz v i)
  exact⟨u.1,u.2.1,u.2.2.2⟩
 have hn:(s.kp.map (·.1)).Nodup:=by
  have y:∀l:List B.V,l.Nodup->(∀v,v∈l->v.2=0)->(l.map (·.1)).Nodup:=by
   intro l;induction l with
   | nil=>intro _ _;simp
   | cons a l H=>
    intro hn hz;rw[List.nodup_cons]at hn;rw[List.map_cons,List.nodup_cons];refine⟨λJ=>?_,H hn.2 (λv i=>hz v (by simp[i]))⟩;obtain⟨b,G,e⟩:=ek.1 J;have:b=a:=fV e ((hz b (by simp[G])).trans (hz a (by simp)).symm);exact hn.1 (this▸G)
  exact y s.kp h.kn (λv h=>(i v h).2.2)
 have:=gn p.n _ hn (λt ht=>by
  obtain⟨v,o,rfl⟩:=ek.1 ht;exact⟨(i v o).1,(i v o).2.1⟩)
 rw[dS]at this;exact this
theorem fS.ll:s.lv.length<=s.nt:=gn s.nt _ h.nd (λt ht=>h.lt t ht)
end
theorem fS.same{p:dz}{s s':Pl}{X:Nat->Prop}(h:fS p s X)(W:s'.nt=s.nt)(H:s'.T=s.T)(G:s'.q=s.q)(u:s'.lv=s.lv)(J:s'.out=s.out)(e6:s'.kp=s.kp)(e7:s'.jo=s.jo)(y:s'.eY=s.eY)(o:s'.kd=s.kd)(e:s'.M=s.M)(i:s'.ck=s.ck):fS p s' X:=by
 obtain⟨a1,a2,a3,a4,a5,a6,a7,a8,a9,aA,aD,aB,a0⟩:=s;obtain⟨b1,b2,b3,b4,b5,b6,b7,b8,b9,Z,aC,aE,Y⟩:=s';simp only at W H G u J e6 e7 y o e i;subst W H G u J e6 e7 y o e i;exact⟨⟨h.lw.a,h.lw.b,h.lw.c,h.lw.d⟩,h.ww,h.nd,h.lt,h.ql,h.lf,h.rn,h.ol,h.ok,h.kn,h.kz,h.fw,h.hl,h.fc,h.bt,h.c0,h.c1⟩
end F
namespace F
theorem fS.roots{p:dz}{s s':Pl}{X:Nat->Prop}(h:fS p s X)(e:s'.kd=s.kd)(u:s'.M=s.M)(o:∀v,qw p s' v->dN p s v):B.jX s'.kd p.n (eh p s') s'.M:=by
 rw[e,u];exact B.Bf h.hl (λv i=>o v (gi.1 i))
theorem FW.set{p:dz}{l:List gY}(h:FW p l){i:Nat}{f:gY}(hi:i<l.length)(H:f.f=(l.getD i mr).f)(J:f.bk=(l.getD i mr).bk)(hn:f.nx<=p.len f.f):FW p (l.set i f):=by
 have y:∀j,(l.set i f).getD j mr=if j=i then f else l.getD j mr:=λj=>by
  by_cases e:j=i
  .subst e;rw[aj rfl,ar,List.getElem?_set_self hi];rfl
  rw[aa e,ar,List.getElem?_set_ne (λW=>e W.symm),<-ar]
 have o:∀j,((l.set i f).getD j mr).f=(l.getD j mr).f:=λj=>by
  rw[y];by_cases e:j=i
  .rw[aj e,H,e]
  rw[aa e]
 have G:∀j,((l.set i f).getD j mr).bk=(l.getD j mr).bk:=λj=>by
  rw[y];by_cases e:j=i
  .rw[aj e,J,e]
  rw[aa e]
 refine⟨λe=>h.n1 ?_,by rw[dq];exact h.n2,λj u=>?_,λj u=>?_⟩
 .have:(l.set i f).length=0:=by rw[e];rfl
  rw[dq]at this;exact cf.1 this
 .rw[dq]at u;refine⟨by rw[o];exact(h.f j u).1,?_⟩;rw[o,y];by_cases e:j=i
  .rw[aj e,e,<-H];exact hn
  rw[aa e];exact(h.f j u).2
 rw[dq]at u;rw[o,G];exact h.b j u
theorem fS.dx{p:dz}{s:Pl}{X:Nat->Prop}(h:fS p s X){t i:Nat}{f:gY}(hi:i<(s.T t).fr.length)(W:f.f=(de s t i).f)(hb:f.bk=(de s t i).bk)(hn:f.nx<=p.len f.f)(hR:∀a,a<p.rg f.f->dN p s (f.R a)):fS p (s.dx t i f) X:=by
 have hw:=λu=>gj s t i u f;have G:∀u j,(de (s.dx t i f) u j).f=(de s u j).f:=λu j=>by
  by_cases e:u=t/\j=i
  .obtain⟨rfl,rfl⟩:=e;rw[ko s f hi,W]
  rw[jR s f e]
 have J:∀u,(s.T u).fr≠[]->((s.dx t i f).T u).fr≠[]:=λu h0 e=>h0 (by
  have:=(hw u).2.2.2.2;rw[e]at this;exact cf.1 this.symm)
 refine⟨h.lw.dx t i f,λu o x y hx H=>?_,h.nd,h.lt,h.ql,λu o hl=>?_,λu o hr=>?_,h.ol,h.ok,h.kn,h.kz,λu o hX=>?_,h.roots rfl rfl ?_,h.fc,h.bt,h.c0,h.c1⟩
 .rw[(hw u).1]at hx;obtain⟨k,k1,k2,k3⟩:=h.ww u o x y hx H;refine⟨k,by rw[(hw u).2.1];exact k1,J u k2,?_⟩;rw[(hw u).2.2.2.2,G];exact k3
 .rw[(hw u).2.1]at hl;rw[(hw u).1];exact h.lf u o hl
 .rw[(hw u).2.2.1]at hr;rw[(hw u).1];exact h.rn u o hr
 .have:=h.fw u o hX;by_cases e:u=t
  .subst e;unfold Pl.dx;rw[df];exact this.set hi W hb hn
  rw[nC s f e];exact this
 rintro v (⟨u,j,a,o,Z,Y,e⟩|hv)
 .rw[(hw u).2.2.2.2]at Z;rw[G]at Y;by_cases e2:u=t/\j=i
  .obtain⟨rfl,rfl⟩:=e2;rw[ko s f hi]at e;rw[<-e];exact hR a (by rw[W];exact Y)
  rw[jR s f e2]at e;exact dN.root (ag ⟨u,j,a,o,Z,Y,e⟩)
 exact dN.root (ab hv)
theorem fS.oD{p:dz}{s:Pl}{X:Nat->Prop}(h:fS p s X){t i:Nat}(o:t∈s.lv)(hX:X t)(hi:i<(s.T t).fr.length)(a:Nat){v:B.V}(u:dN p s v):fS p (s.dx t i ((de s t i).set a v)) X:=by
 refine h.dx hi rfl rfl ((h.fw t o hX).f i hi).2 (λb y=>?_);show dN p s (B.set (de s t i).R a v b);by_cases e:b=a
 .subst e;rw[B.ie];exact u
 rw[B.gS _ _ _ _ e];exact dN.root (ag ⟨t,i,b,o,hi,y,rfl⟩)
theorem fS.line{p:dz}{s s':Pl}{X:Nat->Prop}(h:fS p s X){t:Nat}(Y:t∈s.lv)(hn:s'.nt=s.nt)(a4:LW s')(hT:∀u,u≠t->s'.T u=s.T u)(a0:(s'.T t).fr=(s.T t).fr)(hq:∀x y,fz s x y->∀a,a∈s'.q x y->a∈s.q x y\/a=t)(a1:s'.lv=s.lv/\s'.out=s.out/\s'.kp=s.kp/\s'.jo=s.jo/\s'.eY=s.eY/\s'.kd=s.kd/\s'.M=s.M/\s'.ck=s.ck)(hw:∀x y,(s'.T t).wh=some (x,y)->(x=4\/x=5)->∃k,(s'.T t).lf=some k/\(s.T t).fr≠[]/\k.2.1<p.rg (de s t ((s.T t).fr.length-1)).f)(a3:(s'.T t).lf≠none->∃x y,(s'.T t).wh=some (x,y)/\(x=4\/x=5))(a2:(s'.T t).run=true->(s'.T t).wh=none):fS p s' X:=by
 obtain⟨H,f2,Z,f4,f5,f6,f7,f8⟩:=a1;have i:∀u,(s'.T u).fr=(s.T u).fr:=λu=>by
  by_cases e:u=t
  .rw[e];exact a0
  rw[hT u e]
 have W:∀u j,de s' u j=de s u j:=λu j=>gJ (i u);refine⟨a4,λu o x y hx J=>?_,by rw[H];exact h.nd,λu o=>(eg hn).2 (h.lt u (by rw[<-H];exact o)),λx y G a ha=>?_,λu o G=>?_,λu o hr=>?_,by rw[f2,hn];exact h.ol,by rw[f2,Z];exact h.ok,by rw[Z];exact h.kn,by rw[Z];exact h.kz,λu o hX=>?_,h.roots f6 f7 ?_,by rw[f6,f8];exact h.fc,by rw[f4];exact h.bt,by rw[f5];exact h.c0,by rw[f5];exact h.c1⟩
 .rw[i u,W];by_cases e:u=t
  .subst e;exact hw x y hx J
  rw[hT u e]at hx ⊢;exact h.ww u ((eg hn).1 o) x y hx J
 .rw[H];rcases hq x y ((fQ hn).1 G) a ha with h1|h1
  .exact h.ql x y ((fQ hn).1 G) a h1
  rw[h1];exact Y
 .by_cases e:u=t
  .subst e;exact a3 G
  rw[hT u e]at G ⊢;exact h.lf u ((eg hn).1 o) G
 .rw[H];by_cases e:u=t
  .subst e;exact⟨a2 hr,Y⟩
  rw[hT u e]at hr ⊢;exact h.rn u ((eg hn).1 o) hr
 .rw[i];exact h.fw u (by rw[<-H];exact o) hX
 rintro v (⟨u,j,a,o,hj,ha,e⟩|hv)
 .rw[W]at ha e;rw[i]at hj;rw[H]at o;exact dN.root (ag ⟨u,j,a,o,hj,ha,e⟩)
 rw[Z]at hv;exact dN.root (ab hv)
theorem vp{p:dz}{s:Pl}{X:Nat->Prop}(h:fS p s X){t:Nat}(ht:fe s t):((s.dw t).T t).lf=none:=by
 cases hw:(s.T t).wh with
 | none=>
  rw[gd hw]
  cases hl:(s.T t).lf with
  | none=>rfl
  | some k=>
   obtain⟨x,y,e,_⟩:=h.lf t ht (by rw[hl];simp);rw[hw]at e;cases e
 | some i=>rw[fN (x:=i.1) (y:=i.2) hw,df];rfl
theorem py{s:Pl}{t x y a:Nat}(h:a∈(s.dw t).q x y):a∈s.q x y:=by
 cases hw:(s.T t).wh with
 | none=>rw[gd hw]at h;exact h
 | some i=>
  rw[fN (x:=i.1) (y:=i.2) hw]at h;have o:a∈(s.eZ i.1 i.2 ((s.q i.1 i.2).erase t)).q x y:=h;by_cases e:x=i.1/\y=i.2
  .obtain⟨rfl,rfl⟩:=e;rw[fX]at o;exact List.mem_of_mem_erase o
  rw[fL _ _ e]at o;exact o
theorem zM(s:Pl)(t:Nat):(s.dw t).lv=s.lv/\(s.dw t).out=s.out/\(s.dw t).kp=s.kp/\(s.dw t).jo=s.jo/\(s.dw t).eY=s.eY/\(s.dw t).kd=s.kd/\(s.dw t).M=s.M/\(s.dw t).ck=s.ck:=by
 obtain⟨k1,k2,u,H,i,J,G,o,y,e⟩:=gz s t;exact⟨k1,k2,u,i,G,o,y,e⟩
theorem fS.into{p:dz}{s:Pl}{X:Nat->Prop}(h:fS p s X){x y t:Nat}{l:List Nat}(H:t∈s.lv)(hl:fz s x y)(hx:x=2\/x=3)(hd:l.Nodup)(Z:∀u,u∈l↔(u∈(s.dw t).q x y\/u=t)):fS p (s.into x y t l) X:=by
 have ht:=h.lt t H;have G:(s.into x y t l).T t=((s.dw t).T t).to x y:=df _ _ _;refine h.line H (fO s t) (h.lw.into ht hl (by omega) hd Z) (λu e=>(dP _ _ e).trans (sX s e)) ?_ (λa b i c hc=>?_) (zM s t) (λa b i a0=>?_) (λJ=>?_) (λY=>?_)
 .rw[G];exact ku s t t
 .have o:c∈((s.dw t).eZ x y l).q a b:=hc;by_cases e:a=x/\b=y
  .obtain⟨rfl,rfl⟩:=e;rw[fX]at o;rcases(Z c).1 o with W|W
   .exact ag (py W)
   exact ab W
  rw[fL _ _ e]at o;exact ag (py o)
 .rw[G]at i;injection i with i;injection i with W _;omega
 .rw[G]at J;exact ch (vp h ht) J
 rw[G]at Y;cases Y
theorem fS.dV{p:dz}{s:Pl}{X:Nat->Prop}(h:fS p s X){t:Nat}(o:t∈s.lv):fS p (s.dV 2 0 t) X:=by
 have y:=h.lw.dw (h.lt t o);have G:fz s 2 0:=ag ⟨rfl,rfl⟩;have i:=(fQ (fO s t)).2 G;exact h.into o G (ag rfl) (oQ (y.c 2 0 i) (y.out i (by rw[jd];intro e;cases e))) (λu=>by simp)
def Pl.start(s:Pl)(t:Nat):Pl:=(s.dw t).dv t { (s.dw t).T t with run:=true }
theorem fS.start{p:dz}{s:Pl}{X:Nat->Prop}(h:fS p s X){t:Nat}(y:t∈s.lv):fS p (s.start t) X:=by
 have ht:=h.lt t y;have o:(s.start t).T t={ (s.dw t).T t with run:=true }:=df _ _ _;have i:∀u,((s.start t).T u).wh=((s.dw t).T u).wh:=λu=>by
  by_cases e:u=t
  .subst e;rw[o]
  show(((s.dw t).dv t _).T u).wh=_;rw[dP _ _ e]
 refine h.line y (fO s t) ((h.lw.dw ht).same rfl rfl i) (λu e=>(dP _ _ e).trans (sX s e)) (by rw[o];exact ku s t t) (λa b _ c J=>ag (py (s:=s) (t:=t) J)) (zM s t) (λa b G _=>?_) (λH=>?_) (λ_=>?_)
 .rw[i,jd]at G;cases G
 .rw[o]at H;exact ch (vp h ht) H
 rw[i,jd]
theorem fS.fJ{p:dz}{s:Pl}{X:Nat->Prop}(h:fS p s X){t:Nat}(ht:fe s t)(hX:t∈s.lv->X t){v:B.V}(u:dN p s v):fS p (s.fJ t v) X:=by
 unfold Pl.fJ;split
 .exact h
 rename_i k o;obtain⟨x,y,hw,_⟩:=h.lf t ht (by rw[o];simp);obtain⟨H,G,_⟩:=h.lw.a t ht x y hw;have i:=h.ql x y H t G;have hi:cr s t<(s.T t).fr.length:=by
  have:=(h.fw t i (hX i)).n1;have:(s.T t).fr.length≠0:=λe=>this (cf.1 e);unfold cr;omega
 exact(h.oD i (hX i) hi k.2.1 u).dV i
