import Derived.Test.YtnjiinbhbjpfkaaGreatDoorTe
import Derived.Test.YtnjiinbhbjpfkaaGreatDoorTW
import Derived.Test.YtnjiinbhbjpfkaaGreatDoorTY
import Derived.Test.YtnjiinbhbjpfkaaGreatDoorTO
import Derived.Test.YtnjiinbhbjpfkaaGreatDoorTH
import Derived.Test.YtnjiinbhbjpfkaaGreatDoorTG
import Derived.Test.YtnjiinbhbjpfkaaGreatDoorTF
set_option maxRecDepth 100000
set_option maxHeartbeats 0
set_option linter.all false
namespace Go.Proofs.YtnjiinbhbjpfkaaGreatDoor
open Go.RowKit Go.Proofs.Tryz
namespace F
variable {g:eJ}{p:dL}{s:Pl}{w:aa}
def Pl.more(s:Pl):Pl:={ s.new with out:=s.out++[(0,0)],lv:=s.lv++[s.nt+1] }
def eJ.more(g:eJ)(t tb xe xt:Nat)(r7 r6:Option Addr×Nat):eJ:=((g.new t tb xe xt).at 7 0 r7).at 6 0 r6
def LW.mw(h:LW s)(e:∀u,u∈s.lv->fm s u):MW s:=⟨λx y o t ht=>(h.b x y o t ht).1,e,λt ht x y i=>(h.a t ht x y i).1⟩
theorem dZ.begin{w6:aa}{tb xe xt:Nat}{G i:Option Addr}{H J:Nat}(h:dZ p s g w)(hM:MW s)(ho:s.out.length=s.nt)(Y:Kr w w6 p.eb tb xe xt s.out.length s.lv.length (sl s g 7 0) (sl s g 6 0) s.out ((s.lv.map g.tb).map P0) (iH p s g) G i H J):Tr p s g w s.more (g.more (s.nt+1) tb xe xt (G,H) (i,J)) w6:=by
 have a6:gY s 6 0 0=true:=iV ag;have a8:gY s 7 0 0=true:=iV ag
 have aE:∀{t},fm s t->(g.more (s.nt+1) tb xe xt (G,H) (i,J)).tb t=g.tb t:=λh=>(nY (tb:=tb) (xe:=xe) (xt:=xt) g ((λh=>by have:=h.2;omega) h)).1;have a5:(g.more (s.nt+1) tb xe xt (G,H) (i,J)).tb (s.nt+1)=tb:=(lL g (s.nt+1) tb xe xt).1;have a1:(g.more (s.nt+1) tb xe xt (G,H) (i,J)).ro 6 0=(i,J):=td _ _ _ _;have a0:(g.more (s.nt+1) tb xe xt (G,H) (i,J)).ro 7 0=(G,H):=(lG _ _ ag).trans (td _ _ _ _);have a9:∀a b,¬(a=6/\b=0)->¬(a=7/\b=0)->(g.more (s.nt+1) tb xe xt (G,H) (i,J)).ro a b=(g.new (s.nt+1) tb xe xt).ro a b:=λa b h6 h7=>(lG _ _ h6).trans (lG _ _ h7);have aD:eS s.more 6 0=s.lv.length+1:=by show(s.lv++[s.nt+1]).length=_;rw[cw];rfl
 have aG:eS s.more 7 0=s.out.length+1:=by show(s.out++[(0,0)]).length=_;rw[cw];rfl
 have aF:∀a b,a≠6->a≠7->eS s.more a b=eS s.new a b:=λa b h6 h7=>by unfold eS;simp only[au h6,au h7];rfl
 have a2:∀a b,a≠6->a≠7->sl s.more (g.more (s.nt+1) tb xe xt (G,H) (i,J)) a b=sl s.new (g.new (s.nt+1) tb xe xt) a b:=λa b h6 h7=>by
  grind[sl]
 have aN:∀t,gz p s.more (g.more (s.nt+1) tb xe xt (G,H) (i,J)) t=gz p s.new (g.new (s.nt+1) tb xe xt) t:=λt=>by
  funext j
  unfold gz;rw[a2 12 t ag ag,a2 5 t ag ag];rfl
 have aC:∀{x:Nat} {v':Value} {k:Nat},lR w.heap.size (sl s g x 0) v'->v'.ownBlock=some k->fi (g.ro x 0).1=some k\/w.heap.size<=k:=λhm W=>by
  rcases hm with e|⟨g',e,aO⟩
  .grind[sl,dF]
  grind
 have d6:∀k,fi i=some k->k≠tb/\k≠xe/\k≠xt:=λk W=>by
  obtain⟨_,_,cu,h1⟩:=dP Y.l k (by grind[dF]);exact⟨eE h1 Y.t ek,eE h1 Y.y ek,Y.l3 k (by grind[dF])⟩
 have d7:∀k,fi G=some k->k≠tb/\k≠xe/\k≠xt/\fi i≠some k:=λk W=>by
  obtain⟨_,_,cu,h1⟩:=dP Y.o k (by grind[dF]);refine⟨eE h1 Y.t ek,eE h1 Y.y ek,eE h1 Y.x ek,λe=>?_⟩;obtain⟨_,_,aP,h2⟩:=dP Y.l k (by grind[dF]);grind
 have aB:∀a,a=5\/a=11\/a=12\/a=15\/a=16->gY s.more a (s.nt+1) 0=true:=λa ha=>iE ha ⟨ag,bq _⟩;have a3:∀a,a=5\/a=12->sl s.more (g.more (s.nt+1) tb xe xt (G,H) (i,J)) a (s.nt+1)=.slice none 0 0/\eS s.more a (s.nt+1)=0/\gu s.more (g.more (s.nt+1) tb xe xt (G,H) (i,J)) a (s.nt+1)=[]/\(g.more (s.nt+1) tb xe xt (G,H) (i,J)).ro a (s.nt+1)=(none,0):=λa ha=>by
  have a4:=(a9 a _ ag ag).trans (E4 g ha);have e1:eS s.more a (s.nt+1)=0:=by
   rcases ha with rfl|rfl
   .show(s.new.q 5 (s.nt+1)).length=0;rw[uC];rfl
   show(s.new.T (s.nt+1)).fr.length=0;rw[mL];rfl
  refine⟨?_,e1,?_,a4⟩
  .grind[sl]
  rcases ha with rfl|rfl
  .show((s.new.q 5 (s.nt+1)).map _).map P0=[];rw[uC];rfl
  rw[m8];show((List.range (s.new.T (s.nt+1)).fr.length).map _).map P0=[];rw[mL];rfl
 refine h.to (λa b c=>((a=0\/a=6\/a=7)/\b=0/\c=0)\/((a=5\/a=11\/a=12\/a=15\/a=16)/\b=s.nt+1/\c=0)) (λk=>if k=tb then(11,s.nt+1,0) else if k=xe then(15,s.nt+1,0) else if k=xt then(16,s.nt+1,0) else if fi i=some k then(6,0,0) else(7,0,0)) (Y.s.mono (λk W _=>?_)) (λa b c hC=>?_) (λa b c hC=>?_) (λa b c k hC W=>?_) (Nat.le_succ _) (λu hu=>aE hu)
 .rcases W with W|W|W
  .exact⟨0,0,0,af ⟨af rfl,rfl,rfl⟩,W⟩
  .refine⟨7,0,0,af ⟨ah (ah rfl),rfl,rfl⟩,?_⟩;rw[gQ p g (by unfold fe;omega) a8];unfold sl at W;rw[dF]at W;exact W
  refine⟨6,0,0,af ⟨ah (af rfl),rfl,rfl⟩,?_⟩;rw[gQ p g (by unfold fe;omega) a6];unfold sl at W;rw[dF]at W;exact W
 .rw[<-Jx (p:=p) (g:=g) (tb:=tb) (xe:=xe) (xt:=xt) hM (λe=>hC (ah e))];refine kT ((λa b c=>rfl) a b c) (λhV=>mK hV ?_ (λ_=>⟨rfl,rfl,rfl⟩) (λ_=>⟨rfl,aN b⟩) (λ_=>⟨rfl,rfl⟩) (λ_=>⟨rfl,rfl⟩) (λ_=>rfl) (λ_=>⟨rfl,rfl⟩) (λ_=>⟨rfl,rfl⟩) ?_)
  .intro ea;exact dp (af ⟨af ea,lT hV ag⟩) hC
  intro ha;have ec:=rK hV ha;have h6:a≠6:=λe=>hC (af ⟨ah (af e),(lT hV ag).1,ec⟩);have h7:a≠7:=λe=>hC (af ⟨ah (ah e),(lT hV ag).1,ec⟩);exact⟨a9 a b (λe=>h6 e.1) (λe=>h7 e.1),aF a b h6 h7,(λa b h6 h7=>by unfold gu;simp only[au h6,au h7];rfl) a b h6 h7⟩
 .rcases hC with⟨ha,rfl,rfl⟩|⟨ha,rfl,rfl⟩
  .rcases ha with rfl|rfl|rfl
   .refine Full.congr Y.e (λj hj=>?_);have e6:Value.slice i (s.lv.length+1) J=sl s.more (g.more (s.nt+1) tb xe xt (G,H) (i,J)) 6 0:=by unfold sl;rw[a1,aD]
    have e7:Value.slice G (s.out.length+1) H=sl s.more (g.more (s.nt+1) tb xe xt (G,H) (i,J)) 7 0:=by unfold sl;rw[a0,aG]
    by_cases aA:j=29
    .subst aA;rw[gO,e6];rfl
    rw[eN _ _ _ _ aA];by_cases a7:j=30
    .subst a7;rw[gO,e7];rfl
    rw[eN _ _ _ _ a7];unfold iH;by_cases q1:j<28
    .rw[bf q1,bf q1]
    rw[au q1,au q1];by_cases q2:j=28
    .rw[bf q2,bf q2];rfl
    rw[au q2,au q2];by_cases q3:j=42
    .rw[bf q3,bf q3];rfl
    rw[au q3,au q3];have hI:=uT j;have k6:(lP j).1≠6:=λe=>aA (uU j hj 29 ag ag q3 ag ag (fV e (by
     rcases hI.2.2.2 with e1|e1|e1
     .omega
     .omega
     exact e1)))
    have k7:(lP j).1≠7:=λe=>a7 (uU j hj 30 ag ag q3 ag ag (fV e (by
     rcases hI.2.2.2 with e1|e1|e1
     .omega
     .omega
     exact e1)))
    rw[a2 _ _ k6 k7];unfold sl;rw[xl g (λe=>by have:=hI.2.1;have:=hI.2.2.1;omega)];have:eS s.new (lP j).1 (lP j).2=eS s (lP j).1 (lP j).2:=by
     unfold eS;rw[qZ s (λe=>by have:=hI.2.1;omega)];simp only[au hI.2.2.1];rfl
    rw[this]
   .rw[hZ (show gY s.more 6 0 0=true from iV ag),g9 (by unfold fe;omega)];show w6.ownsRow 0 155 1 (.slice ((g.more (s.nt+1) tb xe xt (G,H) (i,J)).ro 6 0).1 (eS s.more 6 0) ((g.more (s.nt+1) tb xe xt (G,H) (i,J)).ro 6 0).2) (eS s.more 6 0) (((s.lv++[s.nt+1]).map (g.more (s.nt+1) tb xe xt (G,H) (i,J)).tb).map P0);rw[a1,aD,gR,gR];have e1:s.lv.map (g.more (s.nt+1) tb xe xt (G,H) (i,J)).tb=s.lv.map g.tb:=List.map_congr_left (λt ht=>aE (hM.b t ht));have e2:([s.nt+1].map (g.more (s.nt+1) tb xe xt (G,H) (i,J)).tb).map P0=[P0 tb]:=by show[P0 _]=_;rw[a5]
    rw[e1,e2];exact Y.l
   rw[hZ (show gY s.more 7 0 0=true from iV ag),g9 (by unfold fe;omega)];show w6.ownsRow 0 149 2 (.slice ((g.more (s.nt+1) tb xe xt (G,H) (i,J)).ro 7 0).1 (eS s.more 7 0) ((g.more (s.nt+1) tb xe xt (G,H) (i,J)).ro 7 0).2) (eS s.more 7 0) (gT (s.out++[(0,0)]));rw[a0,aG,qH];exact Y.o
  rw[hZ (aB a ha)];by_cases h5:a=5\/a=12
  .rw[g9 (by unfold fe;omega)];show w6.ownsRow 0 (AU a) (AV a) (sl s.more (g.more (s.nt+1) tb xe xt (G,H) (i,J)) a (s.nt+1)) (eS s.more a (s.nt+1)) (gu s.more (g.more (s.nt+1) tb xe xt (G,H) (i,J)) a (s.nt+1));obtain⟨e1,e2,e3,_⟩:=a3 a h5;rw[e1,e2,e3];exact eg w6 _ _ _
  have:a=11\/a=15\/a=16:=by omega
  rcases this with rfl|rfl|rfl
  .show Full w6 ((g.more (s.nt+1) tb xe xt (G,H) (i,J)).tb (s.nt+1)) 160 7 7 (gz p s.more (g.more (s.nt+1) tb xe xt (G,H) (i,J)) (s.nt+1));rw[a5];refine⟨_,Y.t,rfl,λj hj=>?_⟩;have hc:=oU 6 j ag
   have hT:s.more.T (s.nt+1)=rZ:=mL s;rcases hc with rfl|rfl|rfl|rfl|rfl|rfl|rfl
   .show some (Value.int .i64 ((s.out.length:Int)+1))=some (Value.int .i64 ((s.nt+1:Nat):Int));rw[ho];rfl
   .show some (Value.slice none 0 0)=some (sl s.more (g.more (s.nt+1) tb xe xt (G,H) (i,J)) 12 (s.nt+1));rw[(a3 12 (ah rfl)).1]
   .show some (Value.bool false)=some (Value.bool (s.more.T (s.nt+1)).run);rw[hT];rfl
   .show some (Value.pointer none)=some (wF p _ (s.more.T (s.nt+1)).wh);rw[hT];rfl
   .show some Value.nilFunc=some (yL _ (s.nt+1) (s.more.T (s.nt+1)).lf);rw[hT];rfl
   .show some (Value.int .i64 0)=some (Value.int .i64 (s.more.T (s.nt+1)).iM);rw[hT];rfl
   show some (Value.slice none 0 0)=some (sl s.more (g.more (s.nt+1) tb xe xt (G,H) (i,J)) 5 (s.nt+1));rw[(a3 5 (af rfl)).1]
  .show w6.heap[(g.new (s.nt+1) tb xe xt).xe (s.nt+1)]? = _;rw[(lL g (s.nt+1) tb xe xt).2.1];exact Y.y
  show w6.heap[(g.new (s.nt+1) tb xe xt).xt (s.nt+1)]? = some (.cells #[P0 ((g.new (s.nt+1) tb xe xt).tb (s.nt+1))] 155 (0,0));rw[(lL g (s.nt+1) tb xe xt).2.2,(lL g (s.nt+1) tb xe xt).1];exact Y.x
 rcases hC with⟨ha,rfl,rfl⟩|⟨ha,rfl,rfl⟩
 .rcases ha with rfl|rfl|rfl
  .exact af W
  .rw[gQ p _ (by unfold fe;omega) (show gY s.more 6 0 0=true from iV ag),a1]at W;rw[gQ p g (by unfold fe;omega) a6];refine(aC Y.l2 (eV dF W)).imp id (λhl=>⟨hl,?_⟩);obtain⟨q1,q2,q3⟩:=d6 k W;rw[au q1,au q2,au q3,bf W]
  rw[gQ p _ (by unfold fe;omega) (show gY s.more 7 0 0=true from iV ag),a0]at W;rw[gQ p g (by unfold fe;omega) a8];refine(aC Y.o2 (eV dF W)).imp id (λhl=>⟨hl,?_⟩);obtain⟨q1,q2,q3,q4⟩:=d7 k W;rw[au q1,au q2,au q3,au q4]
 rw[hZ (aB a ha)]at W;by_cases h5:a=5\/a=12
 .rw[g9 (by unfold fe;omega)]at W;have Z:fi ((g.more (s.nt+1) tb xe xt (G,H) (i,J)).ro a (s.nt+1)).1=some k:=W;rw[(a3 a h5).2.2.2]at Z
  cases Z
 have:a=11\/a=15\/a=16:=by omega
 rcases this with rfl|rfl|rfl
 .have Z:k=(g.new (s.nt+1) tb xe xt).tb (s.nt+1):=W;rw[(lL g (s.nt+1) tb xe xt).1]at Z;subst Z;exact ah ⟨Y.n.1,bf rfl⟩
 .have Z:k=(g.new (s.nt+1) tb xe xt).xe (s.nt+1):=W;rw[(lL g (s.nt+1) tb xe xt).2.1]at Z;subst Z;exact ah ⟨Y.n.2.1,by rw[au (eE Y.y Y.t ek),bf rfl]⟩
 have Z:k=(g.new (s.nt+1) tb xe xt).xt (s.nt+1):=W;rw[(lL g (s.nt+1) tb xe xt).2.2]at Z;subst Z;exact ah ⟨Y.n.2.2,by rw[au (eE Y.x Y.t ek),au (eE Y.x Y.y ek),bf rfl]⟩
theorem kK{t:Nat}:fm s.more t↔fm s t\/t=s.nt+1:=by
 show(1<=t/\t<=s.nt+1)↔(1<=t/\t<=s.nt)\/t=s.nt+1;omega
theorem pK{x y:Nat}:fN s.more x y↔fN s x y\/(x=5/\y=s.nt+1):=by
 grind[fN,kK]
theorem LW.more{s:Pl}(h:LW s)(hn:s.nt+1<=500000000):LW s.more:=by
 refine⟨λt ht x y o=>?_,λx y G t ht=>?_,λx y G=>?_,hn⟩
 .by_cases e:t=s.nt+1
  .subst e;have:(s.more.T (s.nt+1)).wh=none:=by show(s.new.T (s.nt+1)).wh=none;rw[mL];rfl
   grind
  have i:=(kK.1 ht).resolve_right e;obtain⟨k1,k2,H⟩:=h.a t i x y (by rw[<-o];show _=(s.new.T t).wh;rw[nU s e]);refine⟨pK.2 (af k1),?_,H⟩;show t∈s.new.q x y;rw[qZ s (λe=>by have:=(nG k1 e.1).2;omega)];exact k2
 .have i:t∈s.new.q x y:=ht;by_cases e:x=5/\y=s.nt+1
  .grind[uC]
  rw[qZ s e]at i;obtain⟨k1,k2⟩:=h.b x y ((pK.1 G).resolve_right e) t i;refine⟨kK.2 (af k1),?_⟩;show(s.new.T t).wh=_;rw[nU s (gp k1.2)];exact k2
 show(s.new.q x y).Nodup;grind[uC,List.nodup_nil,qZ,F.LW.c,F.pK]
theorem qT(s:Pl)(t:Nat)(f:jc)(u:Nat):((s.push t f).T u).wh=(s.T u).wh/\((s.push t f).T u).lf=(s.T u).lf:=by
 unfold Pl.push;by_cases e:u=t
 .subst e;rw[di];exact⟨rfl,rfl⟩
 grind[dR]
theorem LW.push(h:LW s)(t:Nat)(f:jc):LW (s.push t f):=h.same rfl rfl (λu=>(qT s t f u).1)
def Pl.born(s:Pl)(f:Nat)(u v:B.V):Pl:=(s.more.push (s.nt+1) ⟨f,0,ig u v,(0,0,0,0)⟩).dY 2 0 (s.nt+1)
theorem FD{f:Nat}(u v:B.V)(h:dZ p s g w)(hP:PW p)(hW:LW s)(aC:s.lv.Nodup)(a7:∀u,u∈s.lv->fm s u)(ho:s.out.length=s.nt)(hf:f<p.nf)(hn:s.nt+1<=500000000): dD 60 #[P0 p.eb,aj f,vA u,vA v] w (aj ((s.nt+1:Nat):Int)) λw'=>∃g',Tr p s g w (s.born f u v) g' w'/\∀a i,fm s a->g'.fb a i=g.fb a i:=by
 have aE:=dU (gK s.nt s.lv aC a7) hW.d;have Y:=h.row (x:=7) (y:=0) (by grind[fe]) (iV ag);have Z:fm s.more (s.nt+1):=kK.2 (ah rfl);have H:s.more.T (s.nt+1)=rZ:=mL s;refine Ka p.eb f s.out.length s.lv.length (g.ro 7 0).2 (g.ro 6 0).2 (s.nt+1) (g.ro 7 0).1 (g.ro 6 0).1 u v s.out _ (iH p s g)
  (λtb xt w7=>∃g7,Tr p s g w (s.more.push (s.nt+1) ⟨f,0,ig u v,(0,0,0,0)⟩) g7 w7/\g7.tb (s.nt+1)=tb/\g7.xt (s.nt+1)=xt/\∀a i,fm s a->g7.fb a i=g.fb a i)
  (λw9=>∃g',Tr p s g w (s.born f u v) g' w9/\∀a i,fm s a->g'.fb a i=g.fb a i) w h.E rfl rfl Y (h.row (x:=6) (y:=0) (by grind[fe]) (iV ag)) ag ag ?_ ?_
 .intro w6 tb xe xt J W G a0 hA;have h3:=h.begin (hW.mw a7) ho hA;have a2:(g.more (s.nt+1) tb xe xt (J,G) (W,a0)).tb (s.nt+1)=tb:=(lL g (s.nt+1) tb xe xt).1;have a5:(g.more (s.nt+1) tb xe xt (J,G) (W,a0)).xe (s.nt+1)=xe:=(lL g (s.nt+1) tb xe xt).2.1;have a3:(g.more (s.nt+1) tb xe xt (J,G) (W,a0)).xt (s.nt+1)=xt:=(lL g (s.nt+1) tb xe xt).2.2;have o:=Fe (t:=s.nt+1) (f:=f) (k:=.func 120) (ka:=#[]) (kc:=#[P0 xe,P0 xt]) (0,0,0,0) u v h3.r hP Z (jx H) hf (by rw[H];exact dk _) (by
   rw[H];show _=Fv 120 #[P0 _,P0 _];grind)
  rw[a2]at o;refine du o ?_;rintro w7 ⟨fb,rb,r,Y⟩;have a6:((g.more (s.nt+1) tb xe xt (J,G) (W,a0)).push (s.nt+1) (s.more.T (s.nt+1)).fr.length fb rb r).tb (s.nt+1)=tb:=a2;have a1:=Y.r.xt (t:=s.nt+1) Z;refine⟨rfl,⟨_,h3.trans Y,a2,a3,λa i ha=>?_⟩,?_,?_,Y.r.E.lt⟩
  .exact(qU _ (λe=>by have:=ha.2;omega)).1
  .rw[a6]at a1;rw[<-a3];exact a1
  rw[<-a5];exact Y.r.xe (t:=s.nt+1) Z
 rintro tb xt w7 w8 ⟨g7,Y,rfl,rfl,aB⟩ aA;have a8:fm (s.more.push (s.nt+1) ⟨f,0,ig u v,(0,0,0,0)⟩) (s.nt+1):=Z;have o:=vW (x:=2) (y:=0) (t:=s.nt+1) (Y.r.kept aA) ((hW.more hn).push _ _) (af ⟨rfl,rfl⟩) a8 ag (by rw[(qT _ _ _ _).1,H];intro e;cases e);refine du o ?_;rintro w9 ⟨r,h9⟩;have a4:fm ((s.more.push (s.nt+1) ⟨f,0,ig u v,(0,0,0,0)⟩).dY 2 0 (s.nt+1)) (s.nt+1):=(ey (iF _ _ _ _)).2 a8;exact⟨rfl,⟨_,(Y.kept aA).trans h9,aB⟩,(h9.r.tk a4).cell 0 ag,h9.r.xt a4⟩
end F
namespace F
variable {g:eJ}{p:dL}{s:Pl}{w:aa}
def pT(p:dL)(s:Pl)(g:eJ)(w:aa):Prop:=∀x y z,x≠1->(ob p s g x y z).ok w
def th(p:dL)(s:Pl)(g:eJ)(k:Nat):Prop:=∃x y z,x≠1/\(ob p s g x y z).bs k
theorem dZ.q(h:dZ p s g w):pT p s g w:=λx y z _=>h.o x y z
theorem pT.lt{p:dL}{s:Pl}{g:eJ}{w:aa}(h:pT p s g w){k:Nat}(e:th p s g k):k<w.heap.size:=by
 obtain⟨x,y,z,i,e⟩:=e;exact(ob p s g x y z).lt w k (h x y z i) e
theorem pT.block{w':aa}(h:pT p s g w)(i:∀k,th p s g k->w'.heap[k]? = w.heap[k]?):pT p s g w':=
 λx y z e=>(ob p s g x y z).fr w w' (h x y z e) (λk o=>i k ⟨x,y,z,e,o⟩)
section
variable {p:dL}{s:Pl}{g:eJ}{w:aa} (h:pT p s g w)
include h
def pT.E:Full w p.eb 144 44 44 (iH p s g):=h 0 0 0 ag
theorem pT.row{x y:Nat}(hx:fe x)(e:gY s x y 0=true):w.ownsRow 0 (AU x) (AV x) (sl s g x y) (eS s x y) (gu s g x y):=by
 have:=h x y 0 (by grind[fe]);rw[hZ e,g9 hx]at this;exact this
theorem pT.tk{t:Nat}(ht:fm s t):Full w (g.tb t) 160 7 7 (gz p s g t):=by
 have:=h 11 t 0 ag;rw[hZ (iE ag ht)]at this;exact this
theorem pT.fr{t i:Nat}(ht:fm s t)(hi:i<(s.T t).fr.length):w.heap[g.fb t i]? = some (zD p g t i (dq s t i)):=by
 have:=h 13 t i ag;rw[hZ (oY ag ht hi)]at this;exact this
theorem pT.rg{t i:Nat}(ht:fm s t)(hi:i<(s.T t).fr.length):Full w (g.rb t i) 149 (p.rg (dq s t i).f*2) (p.rg (dq s t i).f*2) (eQ (dq s t i).R):=by
 have:=h 14 t i ag;rw[hZ (oY ag ht hi)]at this;exact this
end
variable {g:eJ}{p:dL}{s:Pl}{w:aa}
def sv(p:dL)(s:Pl)(t k:Nat):List B.V:=(List.range k).flatMap (λi=>B.jm (dq s t i).R (p.rg (dq s t i).f))
theorem wg(p:dL)(s:Pl)(t k:Nat):sv p s t (k+1)=sv p s t k++B.jm (dq s t k).R (p.rg (dq s t k).f):=by
 grind[sv,List.range_succ]
def ua(p:dL)(s:Pl)(t:Nat):List B.V:=sv p s t (s.T t).fr.length
def xJ(p:dL)(s:Pl)(l:List Nat):List B.V:=l.flatMap (ua p s)
def eG(p:dL)(s:Pl):List B.V:=xJ p s s.lv++s.kp
theorem jy{w0:aa}{cb i sb n:Nat}{ad:Option Addr}{c:B.Cy}{l o:List B.V}(h:xE w0 w cb i sb n ad c l)(e:l=o):xE w0 w cb i sb n ad c o:=by grind
theorem Ga{t:Nat}(ht:fm s t)(cb rd sb n:Nat)(ad:Option Addr)(c:B.Cy)(l0:List B.V)(w0 w:aa)(hQ:pT p s g w0)(hd:∀k,th p s g k->¬oT cb rd ad k)(hV:xE w0 w cb rd sb n ad c l0)(hn:n<=200)(hs:c.st.length+B.mU c.m n<=n)(a5:∀v,v∈l0->v.1≠0->v.1<=n)(hR:∀v,v∈ua p s t->v.1≠0->v.1<=n)(hm:(s.T t).fr.length<=1000)(aA:∀i,i<(s.T t).fr.length->p.rg (dq s t i).f<=8): Calls prog 118 #[P0 (g.tb t),.func (.func 188) #[P0 cb] #[]] w λe w'=>e=.returned (.tuple #[])/\xE w0 w' cb rd sb n ad c (l0++ua p s t):=by
 have KA:Hid (∀w',dM (oT cb rd ad) w0 w'->pT p s g w'):=λw' h=>hQ.block (λk hk=>h.same (hQ.lt hk) (hd k hk));have HR:=bj hR;have aJ:=bj a5;have HV:=bj hV;have aH:=bj hs;have aE:=bj aA;have HT:=bj ht;have hw:=KA w HV.1;have c1:=(hw.tk ht).cell 1 ag;have a6:gz p s g t 1=.slice (g.ro 12 t).1 (s.T t).fr.length (g.ro 12 t).2:=rfl;rw[a6]at c1;have o:=hw.row (x:=12) (y:=t) (by grind[fe]) (iE ag ht);have H:(s.T t).fr.length≠0->∃W Y,g.ro 12 t=(some ⟨W,0,none⟩,Y):=λG=>by
  grind[ee,jY,sl,Prod.ext]
 clear hw o hQ hd hR a5 hV hs aA ht a6;by_cases G:(s.T t).fr.length=0
 .rw[G]at c1;have HH:Hid (ua p s t=[]):=by show _=_;unfold ua;rw[G];rfl
  generalize (g.ro 12 t).1=ka at *;generalize (g.ro 12 t).2=kc at *;clear H G;go_in;go_wp2_with fail
  go_loopw [13] (λi wr=>i=.int .i64 0/\wr=w) (λ_ _=>0)
  case atStart=>grind
  case round=>
   obtain⟨rfl,rfl⟩:=hrel;go_wp2_with fail
   go_end0;exact⟨rfl,jy HV (by rw[HH.out,gS])⟩
 obtain⟨W,Y,a0⟩:=H G;rw[a0]at c1;have aC:w.cell? ⟨g.tb t,1,none⟩=some (.slice (some ⟨W,0,none⟩) (s.T t).fr.length Y):=c1;have aD:=bj a0;generalize a9:(s.T t).fr.length=m at *;have J:=bj a9;clear H G c1 a0 a9;go_in;go_wp2_with fail
 go_loopw [13] (λi wr=>∃k:Nat,k<=m/\i=.int .i64 k/\Hid (xE w0 wr cb rd sb n ad c (l0++sv p s t k))) (λi _=>m-(intOf i).toNat)
 case atStart=>grind[jy,sv]
 case round=>
  obtain⟨k,hk,rfl,hX⟩:=hrel;by_cases Z:k<m
  .have hw:=KA _ hX.1;have a1:k<(s.T t).fr.length:=eV J.out Z
   have o:=hw.row (x:=12) (y:=t) (by grind[fe]) (iE ag HT);have a2:wr.ownsRow 0 184 1 (.slice (some ⟨W,0,none⟩) m Y) m (((List.range m).map (g.fb t)).map P0):=by
    have e1:sl s g 12 t=.slice (some ⟨W,0,none⟩) m Y:=by unfold sl;rw[aD.out,jY,J.out]
    rw[e1,jY,m8,J.out]at o;exact o
   have d5:wr.cell? ⟨W,k,none⟩=some (P0 (g.fb t k)):=(gZ a2).2.2.2.2.2 k _ (by simp[Z]);obtain⟨_,_,f2,_,_⟩:=ji (hw.fr HT a1);have aM:=aE k Z;have aN:(k:Int)<m:=ag
   have aK:Hid (sv p s t (k+1)=sv p s t k++B.jm (dq s t k).R (p.rg (dq s t k).f)):=wg p s t k;have aB:Hid (∀w',dM (oT cb rd ad) w0 w'->Full w' (g.rb t k) 149 (p.rg (dq s t k).f*2) (p.rg (dq s t k).f*2) (eQ (dq s t k).R)):=λw' ho=>(KA w' ho).rg HT a1;have a7:Hid (∀v,v∈sv p s t k++B.jm (dq s t k).R (p.rg (dq s t k).f)->v.1≠0->v.1<=n):=λv u=>HR v (by
    unfold ua;rw[J.out];rw[<-wg]at u;unfold sv at u ⊢;rw[List.mem_flatMap]at u ⊢;obtain⟨i,hi,u⟩:=u;exact⟨i,fI.2 (by have:=fI.1 hi;omega),u⟩)
   generalize p.rg (dq s t k).f=nr at *;generalize (dq s t k).R=R at *;clear hw o a2 aC;go_wp2_with fail
   go_loopw [22] (λi aI=>∃j:Nat,j<=nr/\i=.int .i64 j/\Hid (xE w0 aI cb rd sb n ad c (l0++sv p s t k++B.jm R j))) (λi _=>nr-(intOf i).toNat)
   case atStart=>exact⟨0,ag,rfl,jy hX (by simp[B.jm])⟩
   case round=>
    obtain⟨j,hj,rfl,a3⟩:=hrel;by_cases a8:j<nr
    .have hF:=aB _ a3.1;have r0:=hF.cell (j*2) ag;have r1:=hF.cell (j*2+1) ag;rw[ph]at r0;rw[pf]at r1;clear hF;have aO:(j:Int)<nr:=ag
     go_wp2_with fail
     refine(xP (R j) (a3.kept (ak _ _ _)) hn aH (λv u G=>?_) (λG=>a7 (R j) (List.mem_append_right _ (B.mH.2 ⟨j,a8,rfl⟩)) G)).mono ?_
     .rw[fS,dV]at u;rcases u with u|u
      .exact aJ v u G
      refine a7 v ?_ G;rw[dV]at u ⊢;refine u.imp id (λu=>?_);obtain⟨i,hi,rfl⟩:=B.mH.1 u;exact B.mH.2 ⟨i,ag,rfl⟩
     rintro e w5 ⟨rfl,a4⟩;have aF:=bj a4;clear a4 r0 r1;go_wp2_with fail
     go_roundw
     case rel=>
      first|exact⟨j+1,ag,iA,by show xE _ _ _ _ _ _ _ _ (l0++sv p s t k++B.jm R (j+1));rw[B.Ce,<-fS];exact aF⟩|trace_state
     case measure=>simp[intOf];omega
    obtain rfl:j=nr:=by omega
    go_wp2_with fail
    go_roundw
    case rel=>exact⟨k+1,ag,iA,jy a3 (by rw[aK.out,fS])⟩
    case measure=>simp[intOf];omega
  obtain rfl:k=m:=by omega
  go_wp2_with fail
  go_end0;exact⟨rfl,jy hX (by unfold ua;rw[J.out])⟩
theorem Cf(l:List B.V):B.jm (λi=>l.getD i (0,0)) l.length=l:=by
 apply List.ext_getElem?
 grind[B.jm,List.getElem?_range,List.getElem?_eq_getElem,List.getElem?_eq_none]
theorem Eu(p:dL)(s:Pl)(l:List Nat)(t:Nat):xJ p s (l++[t])=xJ p s l++ua p s t:=by
 grind[xJ]
def vK{α:Type}(l:List α)(k:Nat)(x:α)(h:l[k]? = some x):l.take (k+1)=l.take k++[x]:=by
 rw[List.take_add_one,h];rfl
theorem M0(h:pT p s g w)(a0:∀u,u∈s.lv->fm s u)(b3:s.lv.length<=1000000000)(aZ:s.kp.length<=1000000)(aF:∀u,u∈s.lv->(s.T u).fr.length<=1000)(aM:∀u,u∈s.lv->∀i,i<(s.T u).fr.length->p.rg (dq s u i).f<=8): Kx (th p s g) w p.eb (eG p s).length (λi=>(eG p s).getD i (0,0)):=by
 intro w1 cb rd sb n ad cap c hk hC hQ hn hs hR;rw[Cf];have a1:∀v,v∈eG p s->v.1≠0->v.1<=n:=λv Y h0=>by
  obtain⟨i,hi,rfl⟩:=List.mem_iff_getElem.1 Y;grind
 have J:=h.block hk;have KA:Hid (∀w',dM (oT cb rd ad) w1 w'->pT p s g w'):=λw' h=>J.block (λk hk=>h.same (J.lt hk) (hQ k hk));have aS:=bj (F6 hC);have aU:=bj hs;have aR:Hid (∀t,t∈s.lv->∀(l0:List B.V) (w':aa),xE w1 w' cb rd sb n ad c l0->(∀v,v∈l0->v.1≠0->v.1<=n)->eL 118 #[P0 (g.tb t),.func (.func 188) #[P0 cb] #[]] w' λw2=>xE w1 w2 cb rd sb n ad c (l0++ua p s t)):=λt ht l0 w' hV aT=>
  Ga (a0 t ht) cb rd sb n ad c l0 w1 w' J hQ hV hn hs aT (λv Y=>a1 v (by grind[eG,xJ])) (aF t ht) (aM t ht)
 have aW:Hid (∀k v,v∈xJ p s (s.lv.take k)->v.1≠0->v.1<=n):=λk v Y=>a1 v (by
  unfold xJ at Y;unfold eG xJ;rw[List.mem_flatMap]at Y;obtain⟨t,ht,Y⟩:=Y;rw[dV,List.mem_flatMap];exact af ⟨t,List.mem_of_mem_take ht,Y⟩)
 have aD:Hid (∀j v,v∈xJ p s s.lv++s.kp.take j->v.1≠0->v.1<=n):=λj v Y=>a1 v (by
  unfold eG;rw[dV]at Y ⊢;exact Y.imp id List.mem_of_mem_take)
 have aN:=J.E.cell 29 ag;have aC:iH p s g 29=.slice (g.ro 6 0).1 s.lv.length (g.ro 6 0).2:=rfl;rw[aC]at aN;go_in;go_wp2_with fail
 generalize W:(g.ro 6 0).1=la at *;generalize aK:(g.ro 6 0).2=lc at *;generalize aI:s.lv.length=ln at *;have a4:=bj (bh W (bh aK aI));go_loopw [13] (λi wr=>∃k:Nat,k<=ln/\i=aj k/\Hid (xE w1 wr cb rd sb n ad c (xJ p s (s.lv.take k)))) (λi _=>ln-(intOf i).toNat)
 case atStart=>exact⟨0,ag,rfl,jy aS.out (by simp[xJ])⟩
 case round=>
  obtain⟨k,hk,rfl,hX⟩:=hrel;by_cases a0:k<ln
  .have hw:=KA.out _ hX.out.1;have G:=hw.row (x:=6) (y:=0) (by unfold fe;omega) (iV ag);have H:eS s 6 0=ln:=a4.out.2.2;obtain⟨lb,a7,he⟩:=ee G (kr H);have W:la=some (ay lb 0):=by
    unfold sl at he;injection he with a b c;rw[<-a4.out.1];exact a
   obtain⟨t,a5⟩:∃t,s.lv[k]? = some t:=⟨_,bz (eV a4.out.2.2 a0)⟩;have a6:=eh a5;rw[he,H]at G;have o:wr.ownsRow 0 155 1 (dA lb ln a7) ln ((s.lv.map g.tb).map P0):=G;have d5:dS wr lb k=some (P0 (g.tb t)):=(gZ o).2.2.2.2.2 k _ (by simp[a5]);subst W;have b0:(k:Int)<(ln:Int):=ag
   have a2:Hid (xJ p s (s.lv.take (k+1))=xJ p s (s.lv.take k)++ua p s t):=by show _=_;rw[vK _ _ _ a5,Eu]
   have aA:=bj a6;go_wp2_with fail
   refine du (aR.out t aA.out _ _ hX.out (aW.out k)) λw5 Z=>?_;have a8:=bj Z;go_wp2
   go_roundw
   case rel=>exact⟨k+1,ag,iA,jy a8.out a2.out.symm⟩
   case measure=>simp[intOf];omega
  obtain rfl:k=ln:=by omega
  have hw:=KA.out _ hX.out.1;have aQ:=hw.E.cell 31 ag;have aG:iH p s g 31=.slice (g.ro 8 0).1 s.kp.length (g.ro 8 0).2:=rfl;rw[aG]at aQ;have aP:Hid (xE w1 wr cb rd sb n ad c (xJ p s s.lv)):=jy hX.out (by rw[<-a4.out.2.2,List.take_length]);generalize aJ:(g.ro 8 0).1=ka at *;generalize aE:(g.ro 8 0).2=kc at *;generalize aH:s.kp.length=kn at *;have a3:=bj (bh aJ (bh aE aH));go_wp2
  go_loopw [26] (λi aV=>∃j:Nat,j<=kn/\i=aj j/\Hid (xE w1 aV cb rd sb n ad c (xJ p s s.lv++s.kp.take j))) (λi _=>kn-(intOf i).toNat)
  case atStart=>exact⟨0,ag,rfl,jy aP.out eB⟩
  case round=>
   obtain⟨j,hj,rfl,a9⟩:=hrel;by_cases aL:j<kn
   .have hw:=KA.out _ a9.out.1;have G:=hw.row (x:=8) (y:=0) (by unfold fe;omega) (iV ag);have H:eS s 8 0=kn:=a3.out.2.2;obtain⟨lb,a7,he⟩:=ee G (kr H);have W:ka=some (ay lb 0):=by
     unfold sl at he;injection he with a b c;rw[<-a3.out.1];exact a
    obtain⟨v,aB⟩:∃v,s.kp[j]? = some v:=⟨_,bz (eV a3.out.2.2 aL)⟩;rw[he,H]at G;have o:wr.ownsRow 0 149 2 (dA lb kn a7) kn (gT s.kp):=G;obtain⟨r0,r1⟩:=(qW o).2.2.2.2.2 j v aB;subst W;have b4:(j:Int)<(kn:Int):=ag
    have a2:Hid (xJ p s s.lv++s.kp.take (j+1)=xJ p s s.lv++s.kp.take j++[v]):=by show _=_;rw[vK _ _ _ aB,fS]
    have aA:=bj (aD.out (j+1) v (by rw[a2.out];simp));go_wp2_with fail
    refine du (xP v (a9.out.kept (ak _ _ _)) hn aU.out (aD.out j) aA.out) λw5 Z=>?_;have a8:=bj Z;go_wp2
    go_roundw
    case rel=>exact⟨j+1,ag,iA,jy a8.out a2.out.symm⟩
    case measure=>simp[intOf];omega
   obtain rfl:j=kn:=by omega
   go_wp2
   go_end0;exact⟨rfl,jy a9.out (by unfold eG;rw[<-a3.out.2.2,List.take_length])⟩
end F
namespace F
structure In(s:Pl) (t:Nat):Prop where
 ht:fm s t
 hi:de s t<(s.T t).fr.length
abbrev bw(s:Pl)(t:Nat):jc:=dq s t (de s t)
abbrev mD(p:dL)(s:Pl)(g:eJ)(t:Nat)(k:Nat×Nat×Nat×Nat):Value:=ed k.1 k.2.1 k.2.2.1 k.2.2.2 (g.fb t (de s t)) (g.tb t) p.eb
section
variable {p:dL}{s:Pl}{g:eJ}{w:aa}{t:Nat} (h:dZ p s g w)(hI:In s t)
include h hI
theorem In.set{w':aa}{a:Nat}{v:B.V}(e:w.grownBy w' (some (g.rb t (de s t))))(i:Fr w' (g.fb t (de s t)) (p.cb (bw s t).f) (p.len (bw s t).f) (bw s t).nx (g.rb t (de s t)) (p.rg (bw s t).f) (xM p g t (de s t) (bw s t).bk) (B.set (bw s t).R a v)):Tr p s g w (s.dJ t (de s t) ((bw s t).set a v)) g w':=
 N9 (f:=(bw s t).set a v) h hI.ht hI.hi rfl rfl i (jB e (ah rfl))
theorem In.next{w':aa}{y:Nat}(e:w.grownBy w' (some (g.fb t (de s t))))(i:Fr w' (g.fb t (de s t)) (p.cb (bw s t).f) (p.len (bw s t).f) y (g.rb t (de s t)) (p.rg (bw s t).f) (xM p g t (de s t) (bw s t).bk) (bw s t).R):Tr p s g w (s.dJ t (de s t) { bw s t with nx:=y }) g w':=
 N9 (f:={ bw s t with nx:=y }) h hI.ht hI.hi rfl rfl i (jB e (af rfl))
theorem In.fr:Fr w (g.fb t (de s t)) (p.cb (bw s t).f) (p.len (bw s t).f) (bw s t).nx (g.rb t (de s t)) (p.rg (bw s t).f) (xM p g t (de s t) (bw s t).bk) (bw s t).R:=h.Fr hI.ht hI.hi
theorem In.a(op a b c:Nat)(tb eb:Nat)(o:a<p.rg (bw s t).f):∀w1,w.grownBy w1 none->dD 98 #[ed op a b c (g.fb t (de s t)) tb eb] w1 (vA ((bw s t).R a)) λw'=>w1.grownBy w' none:=λw1 u=>by
 have i:=(h.kept u).Fr hI.ht hI.hi;exact BF op a b c _ tb eb _ _ _ _ _ _ _ w1 i.1 i.2.1 o
theorem In.b(op a b c:Nat)(tb eb:Nat)(o:b<p.rg (bw s t).f):∀w1,w.grownBy w1 none->dD 86 #[ed op a b c (g.fb t (de s t)) tb eb] w1 (vA ((bw s t).R b)) λw'=>w1.grownBy w' none:=λw1 u=>by
 have i:=(h.kept u).Fr hI.ht hI.hi;exact rz op a b c _ tb eb _ _ _ _ _ _ _ w1 i.1 i.2.1 o
theorem In.c(op a b c:Nat)(tb eb:Nat)(o:c<p.rg (bw s t).f):∀w1,w.grownBy w1 none->dD 94 #[ed op a b c (g.fb t (de s t)) tb eb] w1 (vA ((bw s t).R c)) λw'=>w1.grownBy w' none:=λw1 u=>by
 have i:=(h.kept u).Fr hI.ht hI.hi;exact sX op a b c _ tb eb _ _ _ _ _ _ _ w1 i.1 i.2.1 o
end
variable {g:eJ}{op t:Nat}{p:dL}{s:Pl}{w:aa}
theorem PW.box(hP:PW p)(hX:Fix p w){j:Nat}(i:j<32){v:Value}{T:TypeId}(e:(nJ p.ac).getD j (undef,0)=(v,T)):w.cell? (ay (p.ac+j) 0)=some v/\w.heap[p.ac+j]? = some (.cells #[v] T (0,0)):=by
 grind[F.PW.bx]
def qv(s:Pl)(t a:Nat)(x:Int):Pl:=s.dJ t (de s t) ((bw s t).set a (0,x))
def i0{a b c:Nat}(h:dZ p s g w)(hP:PW p)(hI:In s t)(y:a<p.rg (bw s t).f)(G:b<256)(u:c<256): dD 163 #[mD p s g t (op,a,b,c),P0 (p.ac+1)] w (aj 0) λw'=>Tr p s g w (qv s t a (B.wide b c)) g w':=by
 have i:=hP.box h.fix (j:=1) ag rfl;have o:=hP.box h.fix (j:=0) ag rfl;refine du (FL op a b c _ _ _ _ _ _ _ _ (p.ac+1) p.ac _ _ G u y w (In.fr h hI) (ch i.2) i.1 o.1 (ch o.2)) ?_;rintro w' ⟨k1,k2⟩;exact⟨rfl,In.set h hI k1 k2⟩
theorem i1{a b c:Nat}(h:dZ p s g w)(hP:PW p)(hI:In s t)(u:a<p.rg (bw s t).f)(y:b<p.rg (bw s t).f): dD 163 #[mD p s g t (op,a,b,c),P0 (p.ac+3)] w (aj 0) λw'=>Tr p s g w (s.dJ t (de s t) ((bw s t).set a ((bw s t).R b))) g w':=by
 have i:=hP.box h.fix (j:=3) ag rfl;have o:=hP.box h.fix (j:=2) ag rfl;refine du (Az op a b c _ _ _ _ _ _ _ _ (p.ac+3) (p.ac+2) _ _ _ u w (In.fr h hI) i.1 o.1 (ch i.2) (ch o.2) (In.b h hI op a b c _ _ y)) ?_;grind[In.set]
def i6{a b c:Nat}(h:dZ p s g w)(hP:PW p)(hI:In s t)(y:a<p.rg (bw s t).f)(G:b<p.rg (bw s t).f)(u:c<p.rg (bw s t).f): dD 163 #[mD p s g t (op,a,b,c),P0 (p.ac+9)] w (aj 0) λw'=>Tr p s g w (qv s t a (if(bw s t).R b=(bw s t).R c then 1 else 0)) g w':=by
 have i:=hP.box h.fix (j:=9) ag rfl;have o:=hP.box h.fix (j:=8) ag rfl;refine du (Ay op a b c _ _ _ _ _ _ _ _ (p.ac+9) (p.ac+8) _ _ _ y w (In.fr h hI) i.1 o.1 (ch i.2) (ch o.2) (λw1 H=>D5 op a b c _ _ _ _ _ _ _ _ _ _ G u w1 (In.fr (h.kept H) hI))) ?_;rintro w' ⟨k1,k2⟩;exact⟨rfl,In.set h hI k1 k2⟩
theorem i7{a b c:Nat}(h:dZ p s g w)(hP:PW p)(hI:In s t)(y:b<256)(u:c<256): dD 163 #[mD p s g t (op,a,b,c),P0 (p.ac+11)] w (aj 0) λw'=>Tr p s g w (s.dJ t (de s t) { bw s t with nx:=256*b+c }) g w':=by
 have i:=hP.box h.fix (j:=11) ag rfl;have o:=hP.box h.fix (j:=10) ag rfl;refine du (Ax op a b c _ _ _ _ _ _ _ _ (p.ac+11) (p.ac+10) _ _ true (256*b+c) rfl y u w (In.fr h hI) i.1 o.1 (ch i.2) (ch o.2) (λw1 _=>Dz op a b c _ _ _ w1)) ?_;grind[In.next]
theorem i8{a b c:Nat}(h:dZ p s g w)(hP:PW p)(hI:In s t)(y:a<p.rg (bw s t).f)(G:b<256)(u:c<256): dD 163 #[mD p s g t (op,a,b,c),P0 (p.ac+13)] w (aj 0) λw'=>Tr p s g w (s.dJ t (de s t) { bw s t with nx:=if(bw s t).R a=(0,0) then 256*b+c else(bw s t).nx }) g w':=by
 have i:=hP.box h.fix (j:=13) ag rfl;have o:=hP.box h.fix (j:=12) ag rfl;refine du (Aw op a b c _ _ _ _ _ _ _ _ (p.ac+13) (p.ac+12) _ _ (decide ((bw s t).R a=(0,0))) (if(bw s t).R a=(0,0) then 256*b+c else(bw s t).nx) (by show _=_;grind) G u w (In.fr h hI) i.1 o.1 (ch i.2) (ch o.2) (λw1 H=>Dj op a b c _ _ _ _ _ _ _ _ _ _ y w1 (In.fr (h.kept H) hI))) ?_;grind[In.next]
def arith(o:Nat)(x y:Int):Int:=if o=2 then B.wrap (x+y) else if o=3 then B.wrap (x-y) else if o=4 then B.wrap (x*y) else sP x y
def F7(s:Pl)(t b c:Nat):Prop:=((bw s t).R b).1=0/\((bw s t).R c).1=0
def i25{o a b c:Nat}(op:Nat)(h:dZ p s g w)(hP:PW p)(hI:In s t)(H:o=2\/o=3\/o=4\/o=5)(y:a<p.rg (bw s t).f)(G:b<p.rg (bw s t).f)(u:c<p.rg (bw s t).f): Calls prog 151 #[mD p s g t (op,a,b,c),P0 (p.ac+(o+2))] w λe w'=>(F7 s t b c/\e=.returned (aj 0)/\Tr p s g w (qv s t a (arith o ((bw s t).R b).2 ((bw s t).R c).2)) g w')\/(¬F7 s t b c/\e=.returned (aj 1)/\w.grownBy w' none):=by
 rcases H with rfl|rfl|rfl|rfl
 .have i:=hP.box h.fix (j:=4) ag rfl;refine(FK op a b c _ _ _ _ _ _ _ _ (p.ac+4) _ _ y G u w (In.fr h hI) i.2).mono ?_;rintro e w' (⟨k0,rfl,k1,k2⟩|⟨k0,rfl,k1⟩)
  .exact af ⟨k0,rfl,In.set h hI k1 k2⟩
  exact ah ⟨k0,rfl,k1⟩
 .have i:=hP.box h.fix (j:=5) ag rfl;refine(FJ op a b c _ _ _ _ _ _ _ _ (p.ac+5) _ _ y G u w (In.fr h hI) i.2).mono ?_;rintro e w' (⟨k0,rfl,k1,k2⟩|⟨k0,rfl,k1⟩)
  .exact af ⟨k0,rfl,In.set h hI k1 k2⟩
  exact ah ⟨k0,rfl,k1⟩
 .have i:=hP.box h.fix (j:=6) ag rfl;refine(FI op a b c _ _ _ _ _ _ _ _ (p.ac+6) _ _ y G u w (In.fr h hI) i.2).mono ?_;rintro e w' (⟨k0,rfl,k1,k2⟩|⟨k0,rfl,k1⟩)
  .exact af ⟨k0,rfl,In.set h hI k1 k2⟩
  exact ah ⟨k0,rfl,k1⟩
 have i:=hP.box h.fix (j:=7) ag rfl;refine(FH op a b c _ _ _ _ _ _ _ _ (p.ac+7) _ _ y G u w (In.fr h hI) i.2).mono ?_;rintro e w' (⟨k0,rfl,k1,k2⟩|⟨k0,rfl,k1⟩)
 .exact af ⟨k0,rfl,In.set h hI k1 k2⟩
 exact ah ⟨k0,rfl,k1⟩
end F
namespace F
variable {g:eJ}{k op t u:Nat}{p:dL}{s:Pl}{w:aa}
def Tr.tR{s':Pl}{g':eJ}{w1 w':aa}(h:dZ p s g w)(u:Tr p s g w1 s' g' w')(k:Nat)(y:w.heap.size<=k)(e:k<w1.heap.size):w'.heap[k]? = w1.heap[k]?:=u.o.same e (λi=>by have:=h.lt i;omega)
def fz(s:Pl)(x:B.V):Nat×B.V×Bool:=if x.1=0\/s.ck x.1=0 then(0,(0,0),false) else(s.ck x.1-1,(s.M x.1).getD 0 (0,0),true)
theorem E6(s:Pl)(g:eJ)(x:B.V):rk x (kE s g).f s.M=.tuple #[aj ((fz s x).1:Int),vA (fz s x).2.1,.bool (fz s x).2.2]:=by
 unfold rk fz;by_cases e:x.1=0\/s.ck x.1=0
 .have i:x.1=0\/(kE s g).f.k x.1=0:=e;grind
 have i:¬(x.1=0\/(kE s g).f.k x.1=0):=e;rw[au e,au i];rfl
theorem we(h:dZ p s g w)(hP:PW p){x:B.V}(o:B.sG s.kd.on p.n x):∀w1,w.grownBy w1 none->dD 162 #[P0 p.sb,vA x] w1 (.tuple #[aj ((fz s x).1:Int),vA (fz s x).2.1,.bool (fz s x).2.2]) λw'=>w1.grownBy w' none:=λw1 i=>by
 refine(xv p.sb p.pb p.eb p.n x s.kd (kE s g) s.M w1 (h.kept i).S hP.n2 o).mono ?_;grind[E6]
theorem dZ.Hn{p:dL}{s:Pl}{g:eJ}{w:aa}(h:dZ p s g w)(hP:PW p):w.cell? (ay p.eb 27)=some (P0 p.sb):=by
 rw[h.E.cell 27 ag];show some (p.E0 27)=_;rw[hP.Hn]
theorem AI(hI:In s t):(s.T t).fr.length=de s t+1:=by grind[de,F.In.hi]
def mS(s:Pl)(t:Nat)(k:Nat×Nat×Nat×Nat):Pl:=if(fz s ((bw s t).R k.2.2.1)).2.2=true/\(s.T t).fr.length≠20 then s.push t ⟨(fz s ((bw s t).R k.2.2.1)).1,0,ig ((bw s t).R k.2.2.2) (fz s ((bw s t).R k.2.2.1)).2.1,k⟩ else s
theorem i13{a b c:Nat}(h:dZ p s g w)(hP:PW p)(hI:In s t)(hb:b<p.rg (bw s t).f)(Y:c<p.rg (bw s t).f)(hv:B.sG s.kd.on p.n ((bw s t).R b))(J:(s.T t).lf=none)(Z:(s.T t).fr.length<=1000)(G:(fz s ((bw s t).R b)).2.2=true->(fz s ((bw s t).R b)).1<p.nf): dD 104 #[mD p s g t (op,a,b,c)] w (aj (ry (fz s ((bw s t).R b)).2.2 (s.T t).fr.length)) λw'=>∃g',Tr p s g w (mS s t (op,a,b,c)) g' w':=by
 have hl:=AI hI;refine Ms op a b c (g.fb t (de s t)) (g.tb t) p.eb p.sb (s.T t).fr.length (g.ro 12 t).2 (fz s ((bw s t).R b)).1 ((bw s t).R b) ((bw s t).R c) (fz s ((bw s t).R b)).2.1 (fz s ((bw s t).R b)).2.2 (g.ro 12 t).1 (λw'=>∃g',Tr p s g w (mS s t (op,a,b,c)) g' w') w (In.b h hI op a b c _ _ hb) (we h hP hv) (In.c h hI op a b c _ _ Y) ?_ ?_ (h.Hn hP) ?_
 .intro u H w1 i;have o:=Fe (k:=.func 149) (ka:=#[ed op a b c (g.fb t (de s t)) (g.tb t) p.eb]) (kc:=#[]) (op,a,b,c) ((bw s t).R c) (fz s ((bw s t).R b)).2.1 (h.kept i) hP hI.ht J (G u) Z (by
   unfold xM;grind)
  refine du o ?_;rintro w' ⟨fb,rb,r,W⟩;refine⟨rfl,⟨g.push t (s.T t).fr.length fb rb r,?_⟩,W.tR h⟩;unfold mS;rw[bf ⟨u,H⟩];exact W.ahead i
 .intro w1 i y;refine⟨g,?_⟩;unfold mS;rw[au (λe=>y.elim (λh=>by grind) e.2)];exact(Tr.refl h).kept i
 exact(h.tk hI.ht).cell 1 ag
theorem qz(s:Pl)(f:Nat)(u v:B.V)(ht:fm s t):(s.born f u v).T t=s.T t:=by
 have e:t≠s.nt+1:=gp ht.2;unfold Pl.born;rw[nh _ e];show((s.more.push (s.nt+1) _).T t)=_;unfold Pl.push;rw[dR _ _ e];exact nU s e
theorem ny(s:Pl)(f:Nat)(u v:B.V):(s.born f u v).nt=s.nt+1:=iF _ _ _ _
def lV(p:dL)(s:Pl)(t:Nat)(k:Nat×Nat×Nat×Nat):Pl:=if(fz s ((bw s t).R k.2.2.1)).2.2=true/\s.lv.length≠p.mt then(s.born (fz s ((bw s t).R k.2.2.1)).1 ((bw s t).R k.2.2.2) (fz s ((bw s t).R k.2.2.1)).2.1).dJ t (de s t) ((bw s t).set k.2.1 (0,((s.nt+1:Nat):Int))) else s
theorem i15{a b c:Nat}(h:dZ p s g w)(hP:PW p)(hI:In s t)(ha:a<p.rg (bw s t).f)(hb:b<p.rg (bw s t).f)(hc:c<p.rg (bw s t).f)(hv:B.sG s.kd.on p.n ((bw s t).R b))(a6:(fz s ((bw s t).R b)).2.2=true->(fz s ((bw s t).R b)).1<p.nf)(hW:LW s)(a4:s.lv.Nodup)(a9:∀u,u∈s.lv->fm s u)(ho:s.out.length=s.nt)(hn:s.nt+1<=500000000): dD 108 #[mD p s g t (op,a,b,c)] w (aj (kG (fz s ((bw s t).R b)).2.2 s.lv.length p.mt)) λw'=>∃g',Tr p s g w (lV p s t (op,a,b,c)) g' w':=by
 refine Je op a b c (g.fb t (de s t)) (g.tb t) p.eb p.sb s.lv.length (g.ro 6 0).2 (fz s ((bw s t).R b)).1 p.mt (s.nt+1) ((bw s t).R b) ((bw s t).R c) (fz s ((bw s t).R b)).2.1 (fz s ((bw s t).R b)).2.2 (g.ro 6 0).1 (λw'=>∃g',Tr p s g w (lV p s t (op,a,b,c)) g' w')
  (λw'=>(fz s ((bw s t).R b)).2.2=true/\s.lv.length≠p.mt/\w.heap.size<w'.heap.size/\∃g',Tr p s g w (s.born (fz s ((bw s t).R b)).1 ((bw s t).R c) (fz s ((bw s t).R b)).2.1) g' w'/\(∀a i,fm s a->g'.fb a i=g.fb a i)/\¬eH p (s.born (fz s ((bw s t).R b)).1 ((bw s t).R c) (fz s ((bw s t).R b)).2.1) g' w.heap.size) w (In.b h hI op a b c _ _ hb) (we h hP hv) (In.c h hI op a b c _ _ hc) ?_ ?_ ?_ (h.Hn hP) ?_ ?_
 .intro H W w1 G aA;refine du (FD ((bw s t).R c) (fz s ((bw s t).R b)).2.1 (h.kept G) hP hW a4 a9 ho (a6 H) hn) ?_;rintro w' ⟨g',h2,J⟩;exact⟨rfl,⟨H,W,gp h2.o.size,g',h2.ahead G,J,λhm=>(h2.m _ hm).elim (λZ=>by have:=h.lt Z;omega) (λZ=>by omega)⟩,h2.tR h⟩
 .rintro w1 w2 ⟨H,W,a7,g',Z,J,a3⟩ Y;have a1:=qz s (fz s ((bw s t).R b)).1 ((bw s t).R c) (fz s ((bw s t).R b)).2.1 hI.ht;have a0:dq (s.born (fz s ((bw s t).R b)).1 ((bw s t).R c) (fz s ((bw s t).R b)).2.1) t (de s t)=bw s t:=gD (by rw[a1]);have y:=se (t:=t) (i:=de s t) (a:=a) op b c (g.tb t) p.eb (0,((s.nt+1:Nat):Int)) (Z.r.kept Y) ⟨hI.ht.1,by rw[ny];have:=hI.ht.2;omega⟩ (eV a1 hI.hi) eR;rw[J t _ hI.ht]at y;refine du y λw' h3=>?_;rw[a0]at h3;refine⟨rfl,⟨g',?_⟩,?_⟩
  .unfold lV;rw[bf ⟨H,W⟩];exact (Z.kept Y).trans h3
  exact h3.o.same (dm a7 Y.size) a3
 .intro w1 G a5;refine⟨g,?_⟩;unfold lV;rw[au (λe=>a5.elim (λh=>by grind) e.2)];exact(Tr.refl h).kept G
 .exact h.E.cell 29 ag
 rw[h.E.cell 3 ag];show some (p.E0 3)=_;rw[hP.e3]
theorem i14{a b c:Nat}(h:dZ p s g w)(hP:PW p)(hI:In s t)(ha:a<p.rg (bw s t).f)(hW:LW s)(J:WW p s)(a1:(s.T t).lf=none)(Z:(s.T t).wh=none)(hm:(s.T t).fr.length<=1000)(Y:t∈s.lv)(G:s.lv.Nodup)(a0:∀u,u∈s.lv->fm s u)(ho:s.out.length=s.nt)(hk:s.kp.length<=1000000)(W:s.ev.length<=100000)(y:de s t≠0->(bw s t).bk.2.1<p.rg (dq s t (de s t-1)).f): dD 163 #[mD p s g t (op,a,b,c),P0 (p.ac+18)] w (aj 0) λw'=>∃g',Tr p s g w (s.back t ((bw s t).R a)) g' w':=by
 refine Hp op a b c _ _ _ (p.ac+18) _ w (hP.box h.fix (j:=18) ag rfl).1 (λw1 i=>?_);refine Nc op a b c _ _ _ ((bw s t).R a) _ w1 (λw2 o=>In.a h hI op a b c _ _ ha w2 (ar i o)) (λw2 o=>?_)
 refine du (vZ ((bw s t).R a) (h.kept (ar i o)) hW J hI.ht a1 Z (λe=>by have:=hI.hi;grind) hm Y G a0 ho hk W y) ?_;rintro w' ⟨g',h3⟩;exact⟨rfl,⟨g',h3.ahead (ar i o)⟩,h3.tR (h.kept i)⟩
theorem i16{a b c:Nat}(h:dZ p s g w)(hP:PW p)(hI:In s t)(H:LW s)(u:(s.T t).wh=none): dD 163 #[mD p s g t (op,a,b,c),P0 (p.ac+19)] w (aj 0) λw'=>∃g',Tr p s g w (s.dY 2 0 t) g' w':=by
 refine Ho op a b c _ _ _ (p.ac+19) _ w (hP.box h.fix (j:=19) ag rfl).1 (λw1 i=>?_);refine IV op a b c _ _ _ _ w1 (h.kept i).E.lt (λw2 o=>?_);refine du (vW (x:=2) (y:=0) (h.kept (ar i o)) H (af ⟨rfl,rfl⟩) hI.ht ag eR) ?_;rintro w' ⟨r,J⟩;exact⟨rfl,_,J.ahead (ar i o)⟩
def jU(s:Pl)(t a:Nat):Int×Pl:=if((bw s t).R a).1=0 then(0,s.told 1 t ((bw s t).R a).2) else(1,s)
theorem i20{a b c:Nat}(h:dZ p s g w)(hP:PW p)(hI:In s t)(J:a<p.rg (bw s t).f)(y:s.ev.length<=100000): Calls prog 167 #[mD p s g t (op,a,b,c),P0 (p.ac+26),P0 (p.ac+27)] w λe w'=>∃why:Int,e=.returned (aj why)/\why=(jU s t a).1/\∃g',Tr p s g w (jU s t a).2 g' w':=by
 refine uc (u:=98) (H:=115) ag op a b c _ _ _ (p.ac+26) (p.ac+27) ((bw s t).R a) (λwhy w'=>why=(jU s t a).1/\∃g',Tr p s g w (jU s t a).2 g' w') w (hP.box h.fix (j:=26) ag rfl).1 (hP.box h.fix (j:=27) ag rfl).1 (In.a h hI op a b c _ _ J) (λu w1 i=>?_) (λu w1 i=>?_)
 .refine(Mm op a b c _ _ _ ((bw s t).R a).2 (λw'=>∃g',Tr p s g w (jU s t a).2 g' w') w1 (λw2 o=>?_)).mono ?_
  .refine du (DC 1 ((bw s t).R a).2 (h.kept (ar i o)) hI.ht y) ?_;rintro w' ⟨r,G⟩;refine⟨rfl,g.at 9 0 r,?_⟩;unfold jU;rw[bf u];grind[ar,F.Tr.ahead]
  rintro e w' ⟨rfl,G⟩;exact⟨0,rfl,by unfold jU;grind,G⟩
 unfold jU;rw[au u];exact⟨rfl,g,(Tr.refl h).kept i⟩
def i22{a b c:Nat}(h:dZ p s g w)(hP:PW p)(hI:In s t)(y:a<p.rg (bw s t).f): dD 163 #[mD p s g t (op,a,b,c),P0 (p.ac+31)] w (aj 0) λw'=>Tr p s g w (qv s t a s.clk) g w':=by
 have i:=hP.box h.fix (j:=31) ag rfl;have u:=hP.box h.fix (j:=30) ag rfl;refine du (zw op a b c _ _ _ _ _ _ _ _ (p.ac+31) (p.ac+30) _ _ _ y w (In.fr h hI) i.1 u.1 (ch i.2) (ch u.2) (λw1 o=>GO op a b c _ _ p.eb s.clk w1 ((h.kept o).E.cell 28 ag) (h.kept o).E.lt)) ?_;rintro w' ⟨k1,k2⟩;exact⟨rfl,In.set h hI k1 k2⟩
def gW(s:Pl)(z:Int):Option Nat:=s.lv.find? (λu=>(u:Int) == z)
theorem find_congr{q r:Nat->Bool}:∀(l:List Nat),(∀u,u∈l->q u=r u)->l.find? q=l.find? r
 | [],_=>rfl
 | u :: l,h=>by
  rw[List.find?_cons,List.find?_cons,h u eB,find_congr l (λv e=>h v (by simp[e]))]
theorem jM{z:Int}(h:gW s z=some u):u∈s.lv/\(u:Int)=z:=by
 refine⟨List.mem_of_find?_eq_some h,?_⟩;have:=List.find?_some h;grind
theorem FG(h:dZ p s g w)(H:∀u,u∈s.lv->fm s u)(a4:s.lv.length<=1000000000)(z:Int): dD 170 #[P0 p.eb,aj z] w (py ((gW s z).map g.tb)) λw'=>w.grownBy w' none:=by
 obtain⟨Y,Z⟩:∃Y:Nat->Int,∀u,fm s u->Y (g.tb u)=(u:Int):=by
  classical
  refine⟨λb=>if J:∃u,fm s u/\g.tb u=b then(J.choose:Int) else 0,λu G=>?_⟩;have J:∃u',fm s u'/\g.tb u'=g.tb u:=⟨u,G,rfl⟩;show(if J:∃u',fm s u'/\g.tb u'=g.tb u then(J.choose:Int) else 0)=(u:Int);rw[dif_pos J,h.mC J.choose_spec.1 G J.choose_spec.2]
 have hr:=h.row (x:=6) (y:=0) (by grind[fe]) (iV ag);have a2:eS s 6 0=s.lv.length:=rfl;obtain⟨o,W⟩:∃o,s.lv≠[]->(g.ro 6 0).1=some (ay o 0)/\o<w.heap.size/\∀j x,(s.lv.map g.tb)[j]? = some x->dS w o j=some (P0 x):=by
  by_cases e:s.lv=[]
  .simp_all
  obtain⟨o,lc,he⟩:=ee hr eR;rw[he,a2]at hr;have a3:w.ownsRow 0 155 1 (dA o s.lv.length lc) s.lv.length ((s.lv.map g.tb).map P0):=hr;unfold sl at he;injection he with a1 _ _;exact⟨o,λ_=>⟨a1,(dP a3 o rfl).2.1,λj x i=>(gZ a3).2.2.2.2.2 j (P0 x) eR⟩⟩
 have a0:∀{j:Nat} {x:Nat},(s.lv.map g.tb)[j]? = some x->s.lv≠[]:=λi e=>by grind
 refine(Kg p.eb o (g.ro 6 0).2 s.lv.length (g.ro 6 0).1 z Y (s.lv.map g.tb) w (h.E.cell 29 ag) h.E.lt eR a4 (λj x i=>⟨(W (a0 i)).1,(W (a0 i)).2.2 j x i⟩) (λe=>(W (λe'=>e eR)).2.1) (λx i=>?_)).mono ?_
 .obtain⟨u,G,rfl⟩:=eK.1 i;have hT:=h.tk (H u G);refine⟨?_,hT.lt⟩;rw[hT.cell 0 ag,Z u (H u G)];rfl
 grind[gW,find_congr,sD,py]
def vX(s:Pl)(z:Int):Bool:=decide (1<=z/\z<=(s.nt:Int))
def Bj(h:dZ p s g w)(i:s.out.length=s.nt)(z:Int):dD 169 #[P0 p.eb,aj z] w (.bool (vX s z)) λw'=>w.grownBy w' none:=by
 have:=G4 p.eb s.out.length (g.ro 7 0).2 (g.ro 7 0).1 z w (h.E.cell 30 ag);rw[i]at this;exact this
theorem EM(e:∀u,u∈s.lv->fm s u){z:Int}(h:gW s z=some u):vX s z=true:=by
 have i:=jM h;grind[vX,fm,decide_eq_true]
def iz(s:Pl)(t a:Nat):Int×Pl:=if((bw s t).R a).1=0 then(if vX s ((bw s t).R a).2=true then(0,match gW s ((bw s t).R a).2 with|some u=>s.leave u (0,-100) 4 0|none=>s) else(6,s)) else(1,s)
theorem i19{a b c:Nat}(h:dZ p s g w)(hP:PW p)(hI:In s t)(ha:a<p.rg (bw s t).f)(hW:LW s)(W:WW p s)(J:s.lv.Nodup)(y:∀u,u∈s.lv->fm s u)(ho:s.out.length=s.nt)(hk:s.kp.length<=1000000)(Y:s.ev.length<=100000): Calls prog 167 #[mD p s g t (op,a,b,c),P0 (p.ac+24),P0 (p.ac+25)] w λe w'=>∃why:Int,e=.returned (aj why)/\why=(iz s t a).1/\∃g',Tr p s g w (iz s t a).2 g' w':=by
 refine uc (u:=98) (H:=114) ag op a b c _ _ _ (p.ac+24) (p.ac+25) ((bw s t).R a) (λwhy w'=>why=(iz s t a).1/\∃g',Tr p s g w (iz s t a).2 g' w') w (hP.box h.fix (j:=24) ag rfl).1 (hP.box h.fix (j:=25) ag rfl).1 (In.a h hI op a b c _ _ ha) (λh0 w1 o=>?_) (λh0 w1 o=>?_)
 .generalize hz:((bw s t).R a).2=z;have hS:iz s t a=(if vX s z=true then(0,match gW s z with|some u=>s.leave u (0,-100) 4 0|none=>s) else(6,s)):=by unfold iz;rw[bf h0,hz]
  refine(Hv op a b c _ (g.tb t) p.eb z (vX s z) ((gW s z).map g.tb) (λw'=>∃g',Tr p s g w (iz s t a).2 g' w') w1 (λw2 i=>Bj (h.kept (ar o i)) ho z) ?_ ?_ ?_).mono ?_
  .exact λw2 i=>FG (h.kept (ar o i)) y (by have:=gK s.nt s.lv J y;have:=hW.d;omega) z
  .intro w2 x i H
   cases G:gW s z with
   | none=>grind
   | some u=>
    rw[G]at H;injection H with H;subst H;have hm:=jM G;have hn:=EM y G;refine du (Fg (h.kept (ar o i)) hW W (y u hm.1) hm.1 J y ho hk Y) ?_;rintro w' ⟨g',Z⟩;refine⟨rfl,g',?_⟩;rw[hS,bf hn,G];grind[ar,F.Tr.ahead]
  .intro w2 i a1;refine⟨g,?_⟩;rw[hS];by_cases hn:vX s z=true
   .rw[bf hn];have G:gW s z=none:=by
     rcases a1 with e|e
     .grind
     cases G:gW s z with
     | none=>rfl
     | some u=>grind
    rw[G];exact(Tr.refl h).kept (ar o i)
   rw[au hn];exact(Tr.refl h).kept (ar o i)
  grind
 unfold iz;rw[au h0];exact⟨rfl,g,(Tr.refl h).kept o⟩
def jb(s:Pl)(t:Nat)(k:Nat×Nat×Nat×Nat):Int×Pl:=
 if((bw s t).R k.2.2.1).1=0 then
  (if vX s ((bw s t).R k.2.2.1).2=true/\((bw s t).R k.2.2.1).2≠(t:Int) then(0,match gW s ((bw s t).R k.2.2.1).2 with|some u=>s.wait 5 u t k|none=>s.dJ t (de s t) ((bw s t).set k.2.1 (s.out.getD (((bw s t).R k.2.2.1).2.toNat-1) (0,0)))) else(6,s)) else(1,s)
theorem i18{a b c:Nat}(h:dZ p s g w)(hP:PW p)(hI:In s t)(ha:a<p.rg (bw s t).f)(hb:b<p.rg (bw s t).f)(hW:LW s)(a7:(s.T t).wh=none)(a8:s.lv.Nodup)(Z:∀u,u∈s.lv->fm s u)(ho:s.out.length=s.nt): Calls prog 167 #[mD p s g t (op,a,b,c),P0 (p.ac+22),P0 (p.ac+23)] w λe w'=>∃why:Int,e=.returned (aj why)/\why=(jb s t (op,a,b,c)).1/\∃g',Tr p s g w (jb s t (op,a,b,c)).2 g' w':=by
 have aC:=hW.d;have aB:=dU hI.ht.1 hI.ht.2;refine uc (u:=86) (H:=113) ag op a b c _ _ _ (p.ac+22) (p.ac+23) ((bw s t).R b) (λwhy w'=>why=(jb s t (op,a,b,c)).1/\∃g',Tr p s g w (jb s t (op,a,b,c)).2 g' w') w (hP.box h.fix (j:=22) ag rfl).1 (hP.box h.fix (j:=23) ag rfl).1 (In.b h hI op a b c _ _ hb) (λh0 w1 J=>?_) (λh0 w1 J=>?_)
 .generalize hz:((bw s t).R b).2=z;have hS:jb s t (op,a,b,c)=(if vX s z=true/\z≠(t:Int) then(0,match gW s z with|some u=>s.wait 5 u t (op,a,b,c)|none=>s.dJ t (de s t) ((bw s t).set a (s.out.getD (z.toNat-1) (0,0)))) else(6,s)):=by unfold jb;rw[bf h0,hz]
  have G:=h.kept J;have h7:=G.row (x:=7) (y:=0) (by grind[fe]) (iV ag);have a3:eS s 7 0=s.out.length:=rfl;obtain⟨ob,co,he⟩:=ee h7 ag;rw[he,a3]at h7;have a4:w1.ownsRow 0 149 2 (dA ob s.out.length co) s.out.length (gT s.out):=h7;have a0:vX s z=true->1<=z/\z<=(s.nt:Int):=λe=>eO e;have hN:¬(vX s z=true/\z≠(t:Int))->(jb s t (op,a,b,c)).2=s:=λhn=>by grind
  refine(Kc op a b c (g.fb t (de s t)) (g.tb t) p.eb t s.out.length co ob (z.toNat-1) z (vX s z) ((gW s z).map g.tb) (s.out.getD (z.toNat-1) (0,0)) (λw'=>∃g',Tr p s g w (jb s t (op,a,b,c)).2 g' w') w1 (λw2 o=>Bj (G.kept o) ho z) (λw2 o=>FG (G.kept o) Z (by have:=gK s.nt s.lv a8 Z;omega) z) ?_ ?_ ?_ ((G.tk hI.ht).cell 0 ag) (G.tk hI.ht).lt G.E.lt ?_ ?_ ag ?_ ((dP a4 ob rfl).2.1) ?_).mono ?_
  .intro w2 x o H W
   cases Y:gW s z with
   | none=>grind
   | some u=>
    rw[Y]at H;injection H with H;subst H;have hm:=jM Y;refine du (Im (x:=5) (y:=u) (t:=t) (op,a,b,c) (G.kept o) hW hI.ht (ah (ah (ah ⟨rfl,Z u hm.1⟩))) (λe=>(λe=>W.2 ag) e.2) a7) ?_;rintro w' ⟨g',h3⟩;refine⟨rfl,g',?_⟩;rw[hS,bf ⟨W.1,W.2⟩,Y];grind[ar,F.Tr.ahead]
  .intro w2 o H W;have Y:gW s z=none:=by
    cases Y:gW s z with
    | none=>rfl
    | some u=>grind
   refine du (se (t:=t) (i:=de s t) (a:=a) op b c (g.tb t) p.eb (s.out.getD (z.toNat-1) (0,0)) (G.kept o) hI.ht hI.hi ha) λw' h3=>?_;refine⟨rfl,g,?_⟩;rw[hS,bf ⟨W.1,W.2⟩,Y];grind[ar,F.Tr.ahead]
  .intro w2 o aA;refine⟨g,?_⟩;rw[hN (λe=>aA.elim (λh=>by grind) (λh=>e.2 h))];exact(Tr.refl h).kept (ar J o)
  .intro x H
   cases Y:gW s z with
   | none=>grind
   | some u=>
    rw[Y]at H;injection H with H;subst H;exact(G.tk (Z u (jM Y).1)).lt
  .intro e;have:=a0 e;exact⟨ag,kr ho⟩
  .rw[G.E.cell 30 ag,<-a3,<-he];rfl
  .intro e;have:=a0 e
   exact ((qW a4).2.2.2.2.2) (z.toNat-1) _ (by rw[cr,bz (kr ho)];rfl)
  rintro e w' ⟨rfl,h3⟩;refine⟨_,rfl,?_,h3⟩;rw[hS];unfold IK;by_cases hn:vX s z=true/\z≠(t:Int)
  .rw[bf hn,bf hn]
  rw[au hn,au hn]
 unfold jb;rw[au h0];exact⟨rfl,g,(Tr.refl h).kept J⟩
def Pl.fO(s:Pl)(k:Nat)(l:List Nat):Pl:={ s with ft:=λi=>if i=k then l else s.ft i }
theorem yq(k:Nat)(l:List Nat)(a b:Nat)(h:¬(a=10/\b=k)):eS (s.fO k l) a b=eS s a b/\gu (s.fO k l) g a b=gu s g a b:=by
 by_cases e:a=10
 .have eb:b≠k:=λeb=>h ⟨e,eb⟩;subst e;have i:(s.fO k l).ft b=s.ft b:=au eb;constructor
  .show((s.fO k l).ft b).length=_;rw[i];rfl
  show iI ((s.fO k l).ft b)=_;rw[i];rfl
 exact⟨by unfold eS Pl.fO;grind,by unfold gu Pl.fO;grind⟩
theorem Li{x:Nat}{bs:List Nat}(h:dZ p s g w)(hk:k<4)(hb:s.ft k=x :: bs)(hn:bs.length<=1000): dD 174 #[Pt p.eb (34+k*2)] w (.tuple #[dy x,.bool true]) λw'=>Tr p s g w (s.fO k bs) g w':=by
 have hv:gY s 10 k 0=true:=Dq ag hk;have Y:=h.row (x:=10) (y:=k) (by grind[fe]) hv;have Z:eS s 10 k=bs.length+1:=by show(s.ft k).length=_;rw[hb];rfl
 have hc:gu s g 10 k=iI (x :: bs):=by show iI (s.ft k)=_;rw[hb]
 obtain⟨gb,cc,he⟩:=ee Y ag;have o:g.ro 10 k=(some (ay gb 0),cc):=by
  unfold sl at he;injection he with a b c;exact fV a c
 have hI:lP (34+k*2)=(10,k)/\29<=34+k*2/\34+k*2<44/\34+k*2≠42:=by
  have:k=0\/k=1\/k=2\/k=3:=by omega
  rcases this with rfl|rfl|rfl|rfl<;>decide
 have hE:iH p s g (34+k*2)=dA gb (bs.length+1) cc:=by
  unfold iH;rw[eD,eD,eD,hI.1];show sl s g 10 k=_;rw[he,Z]
 rw[he,Z,hc]at Y;have u:w.ownsRow 0 5 1 (dA gb (bs.length+1) cc) (bs.length+1) (iI (x :: bs)):=Y;refine du (BX p.eb (34+k*2) gb cc 44 x 144 bs (iH p s g) w h.E ag hE u hn (eU u h.E ek gb rfl)) ?_;rintro w' ⟨k1,k2,k3⟩;have H:(s.fO k bs).ft k=bs:=bf rfl;have J:eS (s.fO k bs) 10 k=bs.length:=by show((s.fO k bs).ft k).length=_;rw[H]
 have W:gu (s.fO k bs) g 10 k=iI bs:=by show iI ((s.fO k bs).ft k)=_;rw[H]
 have G:=h.uS (s':=s.fO k bs) (r:=g.ro 10 k) (j0:=34+k*2) (w':=w') ag hv hI rfl rfl rfl rfl rfl rfl rfl (λa b _ _ e=>yq k bs a b e) eR (by rw[J,W,o];exact k2) (k3.mono (λi hi _=>hi.imp id (λe=>by rw[o,e];rfl))) (λi hi=>af hi);grind[BE]
def Cr{l:List Nat}{i:Nat}(h:eH p (s.fO k l) g i):eH p s g i:=by
 obtain⟨x,y,z,e⟩:=h;refine⟨x,y,z,?_⟩;by_cases o:gY s x y z=true
 .rw[hZ (show gY (s.fO k l) x y z=true from o)]at e;rw[hZ o];by_cases u:fe x
  .rw[g9 u]at e ⊢;exact e
  have H:=rJ o;have G:x=0\/x=1\/x=11\/x=13\/x=14\/x=15\/x=16\/x=17\/x=18:=by unfold fe at u;omega
  rcases G with rfl|rfl|rfl|rfl|rfl|rfl|rfl|rfl|rfl<;>exact e
 rw[vw (show ¬gY (s.fO k l) x y z=true from o)]at e;exact e.elim
def kJ(s:Pl)(t:Nat)(k:Nat×Nat×Nat×Nat):Int×Pl:=
 if((bw s t).R k.2.2.1).1=0 then
  (if 0<=((bw s t).R k.2.2.1).2/\((bw s t).R k.2.2.1).2<4 then(0,match s.ft ((bw s t).R k.2.2.1).2.toNat with|x :: bs=>(s.fO ((bw s t).R k.2.2.1).2.toNat bs).dJ t (de s t) ((bw s t).set k.2.1 (0,(x:Int)))|[]=>s.wait 4 ((bw s t).R k.2.2.1).2.toNat t k) else(8,s)) else(1,s)
theorem i21{a b c:Nat}(h:dZ p s g w)(hP:PW p)(hI:In s t)(ha:a<p.rg (bw s t).f)(hb:b<p.rg (bw s t).f)(hW:LW s)(a1:(s.T t).wh=none)(Y:∀k,(s.ft k).length<=1000/\∀x,x∈s.ft k->x<256): Calls prog 167 #[mD p s g t (op,a,b,c),P0 (p.ac+28),P0 (p.ac+29)] w λe w'=>∃why:Int,e=.returned (aj why)/\why=(kJ s t (op,a,b,c)).1/\∃g',Tr p s g w (kJ s t (op,a,b,c)).2 g' w':=by
 refine uc (u:=86) (H:=116) ag op a b c _ _ _ (p.ac+28) (p.ac+29) ((bw s t).R b) (λwhy w'=>why=(kJ s t (op,a,b,c)).1/\∃g',Tr p s g w (kJ s t (op,a,b,c)).2 g' w') w (hP.box h.fix (j:=28) ag rfl).1 (hP.box h.fix (j:=29) ag rfl).1 (In.b h hI op a b c _ _ hb) (λh0 w1 u=>?_) (λh0 w1 u=>?_)
 .generalize hz:((bw s t).R b).2=z;have hS:kJ s t (op,a,b,c)=(if 0<=z/\z<4 then(0,match s.ft z.toNat with|x :: bs=>(s.fO z.toNat bs).dJ t (de s t) ((bw s t).set a (0,(x:Int)))|[]=>s.wait 4 z.toNat t (op,a,b,c)) else(8,s)):=by unfold kJ;rw[bf h0,hz]
  by_cases hk:0<=z/\z<4
  .obtain⟨k,rfl⟩:∃k:Nat,z=(k:Int):=⟨z.toNat,ag⟩;have J:k<4:=ag
   rw[bf hk,js]at hS
   cases hbs:s.ft k with
   | cons x bs=>
    rw[hbs]at hS;have hl:=(Y k).1;rw[hbs]at hl;refine(Cl op a b c (g.fb t (de s t)) (g.tb t) p.eb (34+k*2) x (k:Int) ((Y k).2 x eR) (λw'=>Tr p s g w (s.fO k bs) g w') (λw'=>∃g',Tr p s g w (kJ s t (op,a,b,c)).2 g' w') w1 (λw2 _=>qm p.eb k w2 J) (λw2 G=>?_) (λw2 w3 hR W=>?_)).mono ?_
    .refine du (Li (h.kept (ar u G)) J hbs eR) λw' H=>?_;exact⟨rfl,H.ahead (ar u G),H.tR (h.kept u)⟩
    .refine du (se (s:=s.fO k bs) (t:=t) (i:=de s t) (a:=a) op b c (g.tb t) p.eb (0,(x:Int)) (hR.r.kept W) hI.ht hI.hi ha) λw' H=>?_;refine⟨rfl,⟨g,by rw[hS];exact(hR.kept W).trans H⟩,λi a3 a0=>H.o.same a0 (λhm=>?_)⟩;have:=(h.kept u).lt (Cr hm);omega
    grind
   | nil=>
    rw[hbs]at hS;have ho:Pt p.eb (34+k*2+1)=Pt (pL p g 4 k) (ri 4 k):=by show Pt p.eb (34+k*2+1)=Pt p.eb (35+2*k);rw[show 34+k*2+1=35+2*k by omega]
    refine(Ck op a b c (g.fb t (de s t)) (g.tb t) p.eb (34+k*2) (k:Int) (λw'=>∃g',Tr p s g w (kJ s t (op,a,b,c)).2 g' w') w1 (h.kept u).E.lt (λw2 _=>qm p.eb k w2 J) (λw2 G=>?_) (λw2 G=>?_)).mono ?_
    .have hE:=(h.kept (ar u G)).E.cell (34+k*2) ag;have a2:lP (34+k*2)=(10,k):=by
      have:k=0\/k=1\/k=2\/k=3:=by omega
      rcases this with rfl|rfl|rfl|rfl<;>decide
     have Z:iH p s g (34+k*2)=.slice (g.ro 10 k).1 0 (g.ro 10 k).2:=by
      unfold iH;rw[eD,eD,eD,a2];show Value.slice _ (s.ft k).length _=_;rw[hbs];rfl
     grind[BY]
    .rw[ho];refine du (Im (x:=4) (y:=k) (t:=t) (op,a,b,c) (h.kept (ar u G)) hW hI.ht (ah (ah (af ⟨rfl,J⟩))) ag a1) ?_;rintro w' ⟨g',H⟩;exact⟨rfl,g',by grind[ar,F.Tr.ahead]⟩
    grind
  rw[au hk]at hS;refine du (GF op a b c (g.fb t (de s t)) (g.tb t) p.eb z w1 (λw2 _=>vL p.eb z w2 ag)) λw' hg=>?_;exact⟨8,rfl,by rw[hS],g,by rw[hS];exact(Tr.refl h).kept (ar u hg)⟩
 unfold kJ;rw[au h0];exact⟨rfl,g,(Tr.refl h).kept u⟩
